import PyProof.Rows.All
import Wide.All
import OpenK.AllK
import Wide.FinOn
import Lean
import PyProof.EqAt
import PyProof.EqKinds
import PyProof.TupleCall
import PyProof.NeKinds
import KE.KEqDict
import KE.KRevIter
import PyProof.FactsAll.range_2
import PyProof.ZipIter
import PyProof.FitsReplace
import PyProof.MeetsStr
import PyProof.ListRange
import PyProof.CollectWalk
import PyProof.DictItems
import PyProof.DictItemsLoops
import PyProof.DictValues
import PyProof.DictWalks
import PyProof.StrCalls
import KE.KIsAll
import PyProof.Rows.Range3
import PyProof.Rows.MinMaxN
import PyProof.SumWalkG
import PyProof.MeetsStr2
import PyProof.StrBlockL
import PyProof.Rows.StrNews2
import PyProof.StrLawsOccR
import KE.KIntText
import PyProof.StrLawsIn
import PySem.Challenge.RW_quotatree_k83_amounts_written
set_option Elab.async false
set_option linter.all false
set_option maxRecDepth 100000
namespace L2
open PySem PySem.Spec PyProof.Rows
abbrev Key := Sum Int Str
def keyIs : Key → Value → Bool
  | .inl k, v => Value.isInt k v
  | .inr x, v => Value.isStrOf x v
def keyH (w : World) : Key → Int
  | .inl k => hashInt k
  | .inr x => hashStr w x
theorem keyIs_shape : ∀ {k : Key} {v : Value}, keyIs k v = true → (∃ i t, k = Sum.inl i ∧ v = Value.int i t) ∨ (∃ x t, k = Sum.inr x ∧ v = Value.str x t)
  | .inl i, v, h => by
    obtain ⟨t, e⟩ := Value.isInt_shape (k := i) (v := v) h
    exact .inl ⟨i, t, rfl, e⟩
  | .inr x, v, h => by
    obtain ⟨t, e⟩ := Value.isStrOf_shape (x := x) (v := v) h
    exact .inr ⟨x, t, rfl, e⟩
theorem keyIs_int (i : Int) (t : Tok) : keyIs (.inl i) (.int i t) = true := by simp [keyIs, Value.isInt]
theorem keyIs_str (x : Str) (t : Tok) : keyIs (.inr x) (.str x t) = true := by simp [keyIs, Value.isStrOf]
theorem key_ll (a b : Int) : decide ((Sum.inl a : Key) = Sum.inl b) = (a == b) := by
  by_cases e : a = b
  · subst e; simp
  · have h : ¬ (Sum.inl a : Key) = Sum.inl b := fun q => e (Sum.inl.inj q)
    rw [decide_eq_false h]
    exact (beq_eq_false_iff_ne.mpr e).symm
theorem key_rr (a b : Str) : decide ((Sum.inr a : Key) = Sum.inr b) = decide (a = b) := by
  by_cases e : a = b
  · subst e; simp
  · have h : ¬ (Sum.inr a : Key) = Sum.inr b := fun q => e (Sum.inr.inj q)
    rw [decide_eq_false h, decide_eq_false e]
theorem key_lr (a : Int) (b : Str) : decide ((Sum.inl a : Key) = Sum.inr b) = false := decide_eq_false (fun q => nomatch q)
theorem key_rl (a : Str) (b : Int) : decide ((Sum.inr a : Key) = Sum.inl b) = false := decide_eq_false (fun q => nomatch q)
def mixKind (prog : Program) (w : World) : PySem.KeyKind prog w Key where
  is := keyIs
  hash := keyH w
  inj := fun v a b ha hb => by
    rcases keyIs_shape ha with ⟨i, t, rfl, rfl⟩ | ⟨x, t, rfl, rfl⟩
    · rcases keyIs_shape hb with ⟨j, u, rfl, e⟩ | ⟨y, u, rfl, e⟩
      · injection e with e1 _; rw [e1]
      · exact nomatch e
    · rcases keyIs_shape hb with ⟨j, u, rfl, e⟩ | ⟨y, u, rfl, e⟩
      · exact nomatch e
      · injection e with e1 _; rw [e1]
  byValue := fun k v h => by
    rcases keyIs_shape h with ⟨i, t, rfl, rfl⟩ | ⟨x, t, rfl, rfl⟩ <;> rfl
  pyHash := fun hv h => by
    rcases keyIs_shape hv with ⟨i, t, rfl, rfl⟩ | ⟨x, t, rfl, rfl⟩
    · exact wpAny_pyHash_int h
    · exact wpAny_pyHash_str h
  eqBool := fun hu hv h => by
    rcases keyIs_shape hu with ⟨i, t, rfl, rfl⟩ | ⟨x, t, rfl, rfl⟩
    · rcases keyIs_shape hv with ⟨j, u, rfl, rfl⟩ | ⟨y, u, rfl, rfl⟩
      · rw [key_ll] at h; exact wpAny_eqBool_int h
      · rw [key_lr] at h; exact SeqAt.EqAt.int_str i t y u _ _ _ _ h
    · rcases keyIs_shape hv with ⟨j, u, rfl, rfl⟩ | ⟨y, u, rfl, rfl⟩
      · rw [key_rl] at h; exact SeqAt.EqAt.str_int x t j u _ _ _ _ h
      · rw [key_rr] at h; exact wpAny_eqBool_str h
  «strs» := fun k x t v h => by
    rcases keyIs_shape h with ⟨i, u, rfl, e⟩ | ⟨y, u, rfl, e⟩
    · exact nomatch e
    · injection e with e1 _
      subst e1
      cases v <;> rfl
theorem mixKind_int (prog : Program) (w : World) (i : Int) (t : Tok) : (mixKind prog w).is (.inl i) (.int i t) = true := keyIs_int i t
theorem mixKind_str (prog : Program) (w : World) (x : Str) (t : Tok) : (mixKind prog w).is (.inr x) (.str x t) = true := keyIs_str x t
end L2
namespace L2
open PySem PySem.Spec PyProof.Rows
inductive V where
  | non | bl (b : Bool) | int (i : Int) | str (x : Str) | byt (b : Array UInt8) | flt (b : UInt64) | ref (a : Addr) | ty (n : String)
  deriving DecidableEq
def RelV : V → Value → Prop
  | .non, u => u = Value.none
  | .bl b, u => u = Value.bool b
  | .int i, u => ∃ t, u = Value.int i t
  | .str x, u => ∃ t, u = Value.str x t
  | .byt b, u => ∃ t, u = Value.bytes b t
  | .flt b, u => ∃ t, u = Value.float b t
  | .ref a, u => u = Value.ref a
  | .ty n, u => u = Value.type n
abbrev Vals : List V → List Value → Prop := Paired RelV
theorem Vals.length {xs : List V} {us : List Value} (r : Vals xs us) : xs.length = us.length := Paired.length r
theorem Vals.get : ∀ {xs : List V} {us : List Value} {i : Nat} {x : V}, Vals xs us → xs[i]? = some x → ∃ u, us[i]? = some u ∧ RelV x u
  | _, _, _, _, .nil, e => by simp at e
  | _, _, 0, _, .cons r _, e => by simp at e; subst e; exact ⟨_, rfl, r⟩
  | _, _, i + 1, x, .cons _ t, e => by
    obtain ⟨u, h1, h2⟩ := Vals.get (i := i) (x := x) t (by simpa using e)
    exact ⟨u, by simpa using h1, h2⟩
theorem Vals.append : ∀ {xs ys : List V} {us ws : List Value}, Vals xs us → Vals ys ws → Vals (xs ++ ys) (us ++ ws)
  | _, _, _, _, .nil, s => s
  | _, _, _, _, .cons r t, s => .cons r (Vals.append t s)
theorem Vals.take : ∀ {xs : List V} {us : List Value} (n : Nat), Vals xs us → Vals (xs.take n) (us.take n)
  | _, _, 0, _ => .nil
  | _, _, _ + 1, .nil => .nil
  | _, _, n + 1, .cons r t => .cons r (Vals.take n t)
theorem Vals.drop : ∀ {xs : List V} {us : List Value} (n : Nat), Vals xs us → Vals (xs.drop n) (us.drop n)
  | _, _, 0, r => r
  | _, _, _ + 1, .nil => .nil
  | _, _, n + 1, .cons _ t => Vals.drop n t
def RelO : Option V → Option Value → Prop
  | some v, some u => RelV v u
  | none, none => True
  | _, _ => False
def KV {κ : Type} : List (κ × V) → List (κ × Value) → Prop := Paired fun (p : κ × V) (q : κ × Value) => p.1 = q.1 ∧ RelV p.2 q.2
def kV : Key → V
  | .inl i => .int i
  | .inr x => .str x
inductive HO where
  /-- a list -/
  | lst (xs : List V)
  /-- a tuple (never changes) -/
  | tup (xs : List V)
  /-- a dict whose keys are ints and texts; one whose keys are tuples of ints and texts (the empty one is both) -/
  | dK (kvs : List (Key × V)) | dT (kvs : List (List Key × V))
  /-- a set of ints: its members, its size -/
  | set (S : Int → Bool) (n : Nat)
  /-- an instance of the class at C, its dict at dx, its attributes -/
  | ins (C dx : Addr) (fs : List (Str × V))
  /-- the dict of the instance at x -/
  | own (x : Addr)
  /-- the dict of an exception -/
  | xd (fs : List (Str × V))
  /-- a bound method, f of x -/
  | met (f x : Addr)
  /-- a range object lo, lo + 1, .. below hi -/
  | rng (lo hi : Int)
  /-- a thing that is known to the object (the script; a dict while a loop walks it): read, never written while it is so -/
  | frz (o : Obj) (u : HO)
  /-- a code object's table -/
  | tbl (ps : Array Value)
  /-- any other thing, by what is true of its one object (a def of one's own: SetO a S n := HO.ext fun h => ..) -/
  | ext (φ : Heap → Prop)
abbrev Hp := Addr → Option HO
def upd (H : Hp) (a : Addr) (o : HO) : Hp := fun b => if b = a then some o else H b
theorem upd_same {H : Hp} {a : Addr} {o : HO} : upd H a o a = some o := by unfold upd; rw [if_pos rfl]
theorem upd_ne {H : Hp} {a b : Addr} {o : HO} (h : b ≠ a) : upd H a o b = H b := by unfold upd; rw [if_neg h]
theorem upd_upd {H : Hp} {a : Addr} {o u : HO} : upd (upd H a o) a u = upd H a u := by
  funext b; unfold upd; split <;> rfl
theorem ne_of {H : Hp} {a b : Addr} {o u : HO} (h : H a = some o) (h' : H b = some u) (d : o ≠ u) : a ≠ b := by
  intro e; subst e; rw [h] at h'; exact d (Option.some.inj h')
theorem ne_of_none {H : Hp} {a b : Addr} {o : HO} (h : H a = some o) (h' : H b = none) : a ≠ b := by
  intro e; subst e; rw [h] at h'; cases h'
section
variable (P : Program) (w : World)
def ObjOk (H : Hp) (h : Heap) (a : Addr) : HO → Prop
  | .lst xs => xs.length ≤ sizeLine ∧ ∃ (its : List Value) (n : Nat), Vals xs its ∧ h.get? a = some { cls := .type "list", data := .seq its.toArray n }
  | .tup xs => xs.length ≤ sizeLine ∧ ∃ its : List Value, Vals xs its ∧ IsTup h a its.toArray
  | .dK kvs => kvs.length ≤ sizeLine ∧ (a == sysModules) = false ∧ ∃ vs, KV kvs vs ∧ h.DictOf (mixKind P w) a vs
  | .dT kvs => kvs.length ≤ sizeLine ∧ (a == sysModules) = false ∧ ∃ xs : List (List Key × Addr × Value),
      Paired (fun (p : List Key × V) (q : List Key × Addr × Value) => p.1 = q.1 ∧ H q.2.1 = some (.tup (p.1.map kV)) ∧ RelV p.2 q.2.2) kvs xs ∧
      ∃ o es ep, h.get? a = some o ∧ o.ExactDict ∧ o.data = .dict es ep ∧ es.toList = xs.map (entryOfKey (tupleKind (mixKind P w))) ∧ (xs.map (·.1)).Nodup
  | .set S n => h.SetOf (intKind P w) a S n
  | .ins C dx fs => H dx = some (.own a) ∧ fs.length ≤ 1000 ∧ dx ≠ a ∧ h.get? a = some (PySem.W.instObj C dx) ∧
      ∃ mA, h.Ns1 dx mA ∧ (∀ f, RelO (fs.lookup f) (mA f)) ∧ PySem.Within mA (fs.map (·.1))
  | .own _ => ∃ o, h.get? a = some o
  | .xd fs => ∃ mA, h.Ns1 a mA ∧ ∀ f, RelO (fs.lookup f) (mA f)
  | .rng lo hi => ∃ t u v, h.get? a = some { cls := .type "range", data := .fields #[.int lo t, .int hi u, .int 1 v] }
  | .frz o u => h.get? a = some o ∧ ObjOk H h a u
  | .tbl ps => h.get? a = some { cls := .none, data := .fields ps }
  | .met f x => h.get? a = some (PySem.W.methodObj (.ref f) (.ref x))
  | .ext φ => φ h ∧ (∃ o, h.get? a = some o) ∧ ∀ h1 h2 : Heap, φ h1 → (∀ o, h1.get? a = some o → h2.get? a = some o) → φ h2
def HOk (H : Hp) (h : Heap) : Prop := ∀ a o, H a = some o → ObjOk P w H h a o
end
section
variable {P : Program} {w : World} {H H' : Hp} {h h' : Heap} {a : Addr} {o : HO}
theorem ObjOk.lt (x : ObjOk P w H h a o) : a < h.objs.size := by
  cases o with
  | lst xs => obtain ⟨_, _, _, _, e⟩ := x; exact Heap.lt_size e
  | tup xs => obtain ⟨_, _, _, p⟩ := x; exact p.lt
  | dK kvs => obtain ⟨_, _, _, _, o, _, _, e, _⟩ := x; exact Heap.lt_size e
  | dT kvs => obtain ⟨_, _, _, _, o, _, _, e, _⟩ := x; exact Heap.lt_size e
  | set S n => obtain ⟨o, _, _, _, e, _⟩ := x; exact Heap.lt_size e
  | ins C dx fs => obtain ⟨_, _, _, e, _⟩ := x; exact Heap.lt_size e
  | own y => obtain ⟨_, e⟩ := x; exact Heap.lt_size e
  | xd fs => obtain ⟨_, ⟨_, _, _, e, _⟩, _⟩ := x; exact Heap.lt_size e
  | rng lo hi => obtain ⟨_, _, _, e⟩ := x; exact Heap.lt_size e
  | frz ob u => obtain ⟨e, _⟩ := x; exact Heap.lt_size e
  | tbl ps => exact Heap.lt_size (show h.get? a = some _ from x)
  | met f y => exact Heap.lt_size (show h.get? a = some _ from x)
  | ext φ => obtain ⟨_, ⟨_, e⟩, _⟩ := x; exact Heap.lt_size e
theorem Paired.mapP {α β : Type} {F G : α → β → Prop} : ∀ {l₁ : List α} {l₂ : List β}, Paired F l₁ l₂ → (∀ a b, F a b → G a b) → Paired G l₁ l₂
  | _, _, .nil, _ => .nil
  | _, _, .cons r t, f => .cons (f _ _ r) (Paired.mapP t f)
theorem ObjOk.stay (x : ObjOk P w H h a o) (k : ∀ b u, (b = a ∨ H b = some (.own a)) → h.get? b = some u → h'.get? b = some u)
    (ho : ∀ b, H b = some (.own a) → H' b = some (.own a)) (ht : ∀ b xs, H b = some (.tup xs) → H' b = some (.tup xs)) : ObjOk P w H' h' a o := by
  induction o with
  | lst xs => obtain ⟨z, its, n, r, e⟩ := x; exact ⟨z, its, n, r, k _ _ (.inl rfl) e⟩
  | tup xs => obtain ⟨z, its, r, ob, e, c⟩ := x; exact ⟨z, its, r, ob, k _ _ (.inl rfl) e, c⟩
  | dK kvs => obtain ⟨z, y, vs, r, ob, es, ep, e, c⟩ := x; exact ⟨z, y, vs, r, ob, es, ep, k _ _ (.inl rfl) e, c⟩
  | dT kvs =>
    obtain ⟨z, y, xs, r, ob, es, ep, e, c⟩ := x
    exact ⟨z, y, xs, Paired.mapP r fun p q z => ⟨z.1, ht _ _ z.2.1, z.2.2⟩, ob, es, ep, k _ _ (.inl rfl) e, c⟩
  | set S n => obtain ⟨ob, es, ep, t, e, c⟩ := x; exact ⟨ob, es, ep, t, k _ _ (.inl rfl) e, c⟩
  | ins C dx fs =>
    obtain ⟨d, z, ne, e, mA, ⟨od, es, ep, e2, c⟩, r⟩ := x
    exact ⟨ho _ d, z, ne, k _ _ (.inl rfl) e, mA, ⟨od, es, ep, k _ _ (.inr d) e2, c⟩, r⟩
  | own y => obtain ⟨ob, e⟩ := x; exact ⟨ob, k _ _ (.inl rfl) e⟩
  | xd fs => obtain ⟨mA, ⟨od, es, ep, e, c⟩, r⟩ := x; exact ⟨mA, ⟨od, es, ep, k _ _ (.inl rfl) e, c⟩, r⟩
  | rng lo hi => obtain ⟨t, u, v, e⟩ := x; exact ⟨t, u, v, k _ _ (.inl rfl) e⟩
  | frz ob u ih => obtain ⟨e, q⟩ := x; exact ⟨k _ _ (.inl rfl) e, ih q⟩
  | tbl ps =>
    have e : h.get? a = some { cls := .none, data := .fields ps } := x
    show h'.get? a = some { cls := .none, data := .fields ps }
    exact k a _ (.inl rfl) e
  | met f y =>
    have e : h.get? a = some (PySem.W.methodObj (.ref f) (.ref y)) := x
    show h'.get? a = some (PySem.W.methodObj (.ref f) (.ref y))
    exact k a _ (.inl rfl) e
  | ext φ => obtain ⟨p, ⟨o, e⟩, st⟩ := x; exact ⟨st _ _ p fun o q => k _ _ (.inl rfl) q, ⟨o, k _ _ (.inl rfl) e⟩, st⟩
theorem HOk.lt (x : HOk P w H h) (e : H a = some o) : a < h.objs.size := (x a o e).lt
theorem HOk.fresh (x : HOk P w H h) (e : h.objs.size ≤ a) : H a = none := by
  cases q : H a with
  | none => rfl
  | some u => exact absurd (Nat.lt_of_lt_of_le (x.lt q) e) (Nat.lt_irrefl _)
theorem HOk.kept (x : HOk P w H h) (k : ∀ b u, h.get? b = some u → h'.get? b = some u) : HOk P w H h' := fun a o e =>
  (x a o e).stay (fun b u _ q => k b u q) (fun _ q => q) fun _ _ q => q
theorem HOk.laid (x : HOk P w H h) (k : ∀ b u, h.get? b = some u → h'.get? b = some u) (hp : h.objs.size ≤ a) (new : ObjOk P w (upd H a o) h' a o) : HOk P w (upd H a o) h' := fun b u e => by
  have hn := x.fresh hp
  by_cases hb : b = a
  · subst hb; rw [upd_same] at e; cases e; exact new
  · rw [upd_ne hb] at e
    exact (x b u e).stay (fun c v _ q => k c v q) (fun c q => by rw [upd_ne (ne_of_none q hn)]; exact q) fun c xs q => by rw [upd_ne (ne_of_none q hn)]; exact q
end
def Rd (H : Hp) (a : Addr) (u : HO) : Prop := H a = some u ∨ ∃ o, H a = some (.frz o u)
theorem Rd.of {H : Hp} {a : Addr} {u : HO} (h : H a = some u) : Rd H a u := .inl h
theorem Rd.ok {P : Program} {w : World} {H : Hp} {h : Heap} {a : Addr} {u : HO} (r : Rd H a u) (x : HOk P w H h) : ObjOk P w H h a u := by
  rcases r with r | ⟨o, r⟩
  · exact x a u r
  · obtain ⟨_, q⟩ := x a _ r
    exact q
def Mut : Option HO → Prop
  | some (.lst _) => True
  | some (.dK _) => True
  | some (.dT _) => True
  | some (.set _ _) => True
  | some (.ins _ _ _) => True
  | some (.ext _) => True
  | _ => False
section
variable {P : Program} {w : World} {H : Hp} {h h' : Heap} {x e : Addr} {o' : HO}
theorem HOk.write (ok : HOk P w H h) (mu : Mut (H x)) (he : e = x ∨ H e = some (.own x)) (k : ∀ b u, b ≠ e → h.get? b = some u → h'.get? b = some u) (heo : ∃ u, h'.get? e = some u)
    (new : ObjOk P w (upd H x o') h' x o') : HOk P w (upd H x o') h' := fun b u q => by
  have nown : ∀ c y, H c = some (.own y) → c ≠ x := fun c y r z => by subst z; rw [r] at mu; exact mu
  have ntup : ∀ c xs, H c = some (.tup xs) → c ≠ x := fun c xs r z => by subst z; rw [r] at mu; exact mu
  by_cases hb : b = x
  · subst hb; rw [upd_same] at q; cases q; exact new
  · rw [upd_ne hb] at q
    by_cases hbe : b = e
    · have q' : H b = some (.own x) := by
        rcases he with z | z
        · exact absurd (hbe.trans z) hb
        · rw [hbe]; exact z
      rw [q] at q'; cases q'
      obtain ⟨v, hv⟩ := heo
      exact ⟨v, by rw [hbe]; exact hv⟩
    · refine (ok b u q).stay (fun c v hc r => k c v ?_ r) (fun c r => by rw [upd_ne (nown c b r)]; exact r) fun c xs r => by rw [upd_ne (ntup c xs r)]; exact r
      rcases hc with rfl | hc
      · exact hbe
      · rintro rfl
        rcases he with z | z
        · exact nown c b hc z
        · rw [hc] at z; cases z; exact hb rfl
end
structure Un (fs ex : List Addr) (H H' : Hp) (h h' : Heap) : Prop where
  keep : ∀ b o, h.get? b = some o → H b = none → b ∉ fs → b ∉ ex → h'.get? b = some o
  slot : ∀ b o, h.get? b = some o → H b = none → b ∈ fs → b ∉ ex → ∃ sl, h'.get? b = some { o with slots := sl }
  free : ∀ b o, h.get? b = some o → H b = none → b ∉ ex → H' b = none
  there : ∀ b o, h.get? b = some o → b ∉ ex → ∃ o', h'.get? b = some o'
  tups : ∀ b xs, H b = some (.tup xs) → H' b = some (.tup xs)
  frzs : ∀ b o u, H b = some (.frz o u) → H' b = some (.frz o u)
  tbls : ∀ b ps, H b = some (.tbl ps) → ∃ more, H' b = some (.tbl (ps ++ more))
section
variable {fs fs' ex ex' : List Addr} {H H1 H2 : Hp} {h h1 h2 h' : Heap} {a x e : Addr} {o : HO}
theorem Un.any (u : Un fs ex H H1 h h1) {b : Addr} {ob : Obj} (q : h.get? b = some ob) (n : H b = none) (hx : b ∉ ex) : ∃ sl, h1.get? b = some { ob with slots := sl } := by
  by_cases hb : b ∈ fs
  · exact u.slot b ob q n hb hx
  · exact ⟨ob.slots, u.keep b ob q n hb hx⟩
theorem Un.kept (k : ∀ b u, h.get? b = some u → h'.get? b = some u) : Un fs ex H H h h' :=
  ⟨fun b ob q _ _ _ => k b ob q, fun b ob q _ _ _ => ⟨ob.slots, k b ob q⟩, fun _ _ _ n _ => n, fun b ob q _ => ⟨ob, k b ob q⟩, fun _ _ q => q, fun _ _ _ q => q, fun _ ps q => ⟨#[], by rw [q]; simp⟩⟩
theorem Un.refl : Un fs ex H H h h := Un.kept fun _ _ q => q
theorem Un.laid (k : ∀ b u, h.get? b = some u → h'.get? b = some u) (hp : h.objs.size ≤ a) (hn : H a = none) : Un fs ex H (upd H a o) h h' where
  keep := fun b u q _ _ _ => k b u q
  slot := fun b u q _ _ _ => ⟨u.slots, k b u q⟩
  free := fun b u q n _ => by rw [upd_ne (Nat.ne_of_lt (Nat.lt_of_lt_of_le (Heap.lt_size q) hp))]; exact n
  there := fun b u q _ => ⟨u, k b u q⟩
  tups := fun b xs q => by rw [upd_ne (ne_of_none q hn)]; exact q
  frzs := fun b u xs q => by rw [upd_ne (ne_of_none q hn)]; exact q
  tbls := fun b ps q => ⟨#[], by rw [upd_ne (ne_of_none q hn), q]; simp⟩
theorem Un.write (mu : Mut (H x)) (he : e = x ∨ H e = some (.own x)) (k : ∀ b u, b ≠ e → h.get? b = some u → h'.get? b = some u) (heo : ∃ u, h'.get? e = some u) : Un fs ex H (upd H x o) h h' := by
  have hx : ∀ b, H b = none → b ≠ x := fun b n z => by subst z; rw [n] at mu; exact mu
  have hb : ∀ b, H b = none → b ≠ e := fun b n z => by
    subst z
    rcases he with r | r
    · exact hx b n r
    · rw [n] at r; cases r
  have hm : ∀ b u, H b = some u → ¬ Mut (some u) → b ≠ x := fun b u q nm z => by subst z; rw [q] at mu; exact nm mu
  refine ⟨fun b u q n _ _ => k b u (hb b n) q, fun b u q n _ _ => ⟨u.slots, k b u (hb b n) q⟩, fun b u q n _ => by rw [upd_ne (hx b n)]; exact n, fun b u q _ => ?_,
    fun b xs q => by rw [upd_ne (hm b _ q fun z => z)]; exact q, fun b u xs q => by rw [upd_ne (hm b _ q fun z => z)]; exact q, fun b ps q => ⟨#[], by rw [upd_ne (hm b _ q fun z => z), q]; simp⟩⟩
  by_cases hbe : b = e
  · subst hbe; exact heo
  · exact ⟨u, k b u hbe q⟩
end
def trk (h : Heap) (H : Hp) : List Addr := (List.range h.objs.size).filter fun a => (H a).isSome
def hidT (h : Heap) (H : Hp) : Heap := PySem.W.hideAll h (trk h H)
theorem hidT_size (h : Heap) (H : Hp) : (hidT h H).objs.size = h.objs.size := PySem.W.hideAll_size _ _
theorem hidT_get {h : Heap} {H : Hp} {b : Addr} {o : Obj} (e : h.get? b = some o) (n : H b = none) : (hidT h H).get? b = some o :=
  PySem.W.hideAll_get _ e fun hm => by
    have q : (H b).isSome = true := (List.mem_filter.mp hm).2
    rw [n] at q; simp at q
theorem of_hidT {h : Heap} {H : Hp} {b : Addr} {o : Obj} (e : (hidT h H).get? b = some o) : h.get? b = some o ∧ H b = none := by
  have e' : h.get? b = some o := PySem.W.of_hideAll (trk h H) e
  refine ⟨e', ?_⟩
  cases q : H b with
  | none => rfl
  | some x =>
    have hm : b ∈ trk h H := List.mem_filter.mpr ⟨List.mem_range.mpr (Heap.lt_size e'), by simp [q]⟩
    have z : (hidT h H).get? b = none := PySem.W.hideAll_none (trk h H) hm
    rw [z] at e; cases e
def allNews (g h : Heap) (L : Addr) : List (Addr × Obj) := (List.range h.objs.size).filterMap fun a => if a = L ∨ (g.get? a).isSome = true then none else (h.get? a).map fun o => (a, o)
def rest (g h : Heap) (L d : Addr) : List (Addr × Obj) := (allNews g h L).filter fun p => decide (p.1 ≠ d)
end L2
namespace L2
open PySem PySem.Spec PyProof.Rows
structure Mod (K : PySem.W.Frag) (mg : Str → Option Value) (base : Heap) : Prop where
  kin : K.In base
  glob : base.Ns mainGlobals mg
  blt : ∃ mb, base.Ns builtinsNs mb ∧ ∀ x : Str, x ≠ "__name__" → mb x = bootBuiltins x
  nolimit : base.NoLimit
structure Cx where
  prog : Program
  w : World
  K : PySem.W.Frag
  mg : Str → Option Value
  base : Heap
  A : Around
  N : List Str
  s₀ : Shared
  H₀ : Hp
  env : Env
  outer : List Env
  stack : List Env
  ex : List Addr
  fn : Str → Bool
  calm : Bool
  pn : List (Addr × Obj)
  xe : Value → Shared → Prop
def frs (l : List Env) : List Addr := l.filterMap (·.frame)
abbrev Cx.fs (X : Cx) : List Addr := frs X.outer
def Vis (sc : Scope) (x : Str) : Prop := sc.names.lookup x = some .local ∨ sc.names.lookup x = some .cell ∨ sc.names.lookup x = some .free
def Loc (sc : Scope) (x : Str) : Prop := sc.names.lookup x = some .local ∨ sc.names.lookup x = some .cell
def Look (env : Env) (h : Heap) (m : Str → Option Value) (x : Str) (u : Value) : Prop :=
  (env.kindOf x = some .local ∧ m x = some u) ∨ ((env.kindOf x = some .cell ∨ env.kindOf x = some .free) ∧ ∃ c, env.cells.lookup x = some c ∧ h.IsCell c (some u))
structure Cx.Ok (X : Cx) : Prop where
  mod : Mod X.K X.mg X.base
  kind : X.env.scope.kind = .function
  glob : X.env.globals = mainGlobals
  blt : X.env.builtins = builtinsNs
  above : X.s₀.heap.objs.size ≤ X.env.locals
  inj : ∀ x y c, X.env.cells.lookup x = some c → X.env.cells.lookup y = some c → x = y
  has : ∀ x, (X.env.kindOf x = some .cell ∨ X.env.kindOf x = some .free) → ∃ c, X.env.cells.lookup x = some c
  cab : ∀ x c, X.fn x = true → X.env.cells.lookup x = some c → X.s₀.heap.objs.size ≤ c
  hd : X.calm = true → X.A.handled = none
  frames : X.A.frames = some X.stack
  stk : X.stack = X.outer ∨ (X.stack = X.env :: X.outer ∧ X.env.frame = some X.env.locals)
  exf : ∀ b ∈ X.ex, b ≠ X.env.locals ∧ ∀ x c, X.env.cells.lookup x = some c → c ≠ b
  bs : ∀ b o, X.base.get? b = some o → X.s₀.heap.get? b = some o ∧ X.H₀ b = none
  bsz : X.base.objs.size ≤ X.s₀.heap.objs.size
  noex : ∀ b o, X.base.get? b = some o → b ∉ X.ex
  exfs : ∀ b ∈ X.ex, b ∉ X.fs
  funs : X.s₀.heap.FunFrames X.base X.outer
  frf : ∀ b ∈ X.fs, X.H₀ b = none
structure Inv (X : Cx) (pins : List (Addr × Obj)) (σ : List (Option V)) (H : Hp) (s : Shared) : Prop where
  ok : X.Ok
  os : s.os = X.s₀.os
  bare : AllBare s.gens
  base : Un X.fs X.ex X.H₀ H X.s₀.heap s.heap
  loc : ∃ m, s.heap.Ns X.env.locals m ∧ ∀ (i : Nat) (x : Str) (v : V), X.N[i]? = some x → σ[i]? = some (some v) → Vis X.env.scope x → ∃ u, RelV v u ∧ Look X.env s.heap m x u
  cell : ∀ x c, X.env.cells.lookup x = some c → ∃ v, s.heap.IsCell c v
  free : H X.env.locals = none
  freeC : ∀ x c, X.env.cells.lookup x = some c → H c = none
  pin : ∀ p ∈ X.pn ++ pins, s.heap.get? p.1 = some p.2 ∧ H p.1 = none ∧ p.1 ≠ X.env.locals ∧ p.1 ∉ X.fs ∧ ∀ v, p.2.data ≠ .cell v
  hok : HOk X.prog X.w H s.heap
  len : σ.length = X.N.length
section
variable {X : Cx} {pins : List (Addr × Obj)} {σ : List (Option V)} {H H' : Hp} {s : Shared} {h' : Heap}
theorem Cx.Ok.nofr (ok : X.Ok) {b : Addr} {o : Obj} (e : X.base.get? b = some o) : b ∉ X.fs := fun hb => by
  have := (ok.funs.mem hb).1
  rw [e] at this; cases this
theorem Inv.bs (I : Inv X pins σ H s) : ∀ b o, X.base.get? b = some o → s.heap.get? b = some o ∧ H b = none := fun b o e =>
  ⟨I.base.keep b o (I.ok.bs b o e).1 (I.ok.bs b o e).2 (I.ok.nofr e) (I.ok.noex b o e), I.base.free b o (I.ok.bs b o e).1 (I.ok.bs b o e).2 (I.ok.noex b o e)⟩
theorem Inv.bk (I : Inv X pins σ H s) : ∀ b o, X.base.get? b = some o → s.heap.get? b = some o := fun b o e => (I.bs b o e).1
theorem Inv.mod (I : Inv X pins σ H s) : Mod X.K X.mg X.base := I.ok.mod
theorem Inv.kIn (I : Inv X pins σ H s) : X.K.In s.heap := I.ok.mod.kin.keeps I.bk
theorem Inv.lt (I : Inv X pins σ H s) : X.env.locals < s.heap.objs.size := let ⟨_, hn, _⟩ := I.loc; hn.lt
theorem Inv.sz (I : Inv X pins σ H s) : X.s₀.heap.objs.size ≤ s.heap.objs.size := Nat.le_trans I.ok.above (Nat.le_of_lt I.lt)
theorem Inv.nofs (I : Inv X pins σ H s) {a : Addr} (h : s.heap.objs.size ≤ a) : a ∉ X.fs := fun hb => by
  obtain ⟨_, o, ho, _⟩ := I.ok.funs.mem hb
  exact absurd (Nat.lt_of_lt_of_le (Heap.lt_size ho) (Nat.le_trans I.sz h)) (Nat.lt_irrefl _)
theorem Inv.cne (I : Inv X pins σ H s) : ∀ x c, X.env.cells.lookup x = some c → c ≠ X.env.locals := fun x c e z => by
  obtain ⟨v, o, ho, hd⟩ := I.cell x c e
  obtain ⟨m, ⟨o', es, ep, ho', hd', _⟩, _⟩ := I.loc
  rw [z, ho'] at ho; cases ho; rw [hd'] at hd; cases hd
theorem Inv.funs (I : Inv X pins σ H s) : s.heap.FunFrames X.base X.outer := by
  have all : ∀ (l : List Env), (∀ b ∈ frs l, b ∈ X.fs) → X.s₀.heap.FunFrames X.base l → s.heap.FunFrames X.base l := by
    intro l
    induction l with
    | nil => intro _ _; trivial
    | cons env r ih =>
      intro hs hl
      obtain ⟨hk, ⟨L, o, hf, hn, ho, hd⟩, hr⟩ := hl
      have hL : L ∈ X.fs := hs L (by unfold frs; rw [List.filterMap_cons, hf]; exact List.mem_cons_self)
      obtain ⟨sl, e⟩ := I.base.slot L o ho (I.ok.frf L hL) hL fun z => I.ok.exfs L z hL
      exact ⟨hk, ⟨L, _, hf, hn, e, hd⟩, ih (fun b hb => hs b (by unfold frs; rw [List.filterMap_cons, hf]; exact List.mem_cons_of_mem _ hb)) hr⟩
  exact all X.outer (fun _ hb => hb) I.ok.funs
theorem Inv.stack (I : Inv X pins σ H s) : s.heap.FunFrames X.base X.stack := by
  rcases I.ok.stk with e | ⟨e, hf⟩
  · rw [e]; exact I.funs
  · rw [e]
    obtain ⟨m, hn, _⟩ := I.loc
    refine .cons (by rw [I.ok.kind]; decide) hf hn ?_ I.funs
    exact Heap.get?_none_of_le (Nat.le_trans I.ok.bsz I.ok.above)
theorem Inv.stkSub (I : Inv X pins σ H s) : ∀ b ∈ frs X.stack, b ∈ X.env.locals :: X.fs := fun b hb => by
  rcases I.ok.stk with e | ⟨e, hf⟩
  · rw [e] at hb; exact List.mem_cons_of_mem _ hb
  · rw [e] at hb
    unfold frs at hb
    rw [List.filterMap_cons, hf] at hb
    exact hb
theorem Inv.stkFree (I : Inv X pins σ H s) : ∀ b ∈ frs X.stack, H b = none := fun b hb => by
  rcases List.mem_cons.mp (I.stkSub b hb) with e | hb
  · rw [e]; exact I.free
  · obtain ⟨_, o, ho, _⟩ := I.ok.funs.mem hb
    exact I.base.free b o ho (I.ok.frf b hb) fun z => I.ok.exfs b z hb
theorem Inv.step {g' : Array GenState} {t' : Nat} {d' : Drawn} {ch : List Addr} (I : Inv X pins σ H s)
    (hch : ∀ b ∈ ch, (b ∈ X.ex ∨ X.s₀.heap.objs.size ≤ b) ∧ b ≠ X.env.locals ∧ (∀ x c, X.env.cells.lookup x = some c → c ≠ b) ∧ ∀ p ∈ X.pn ++ pins, p.1 ≠ b)
    (keep : ∀ b o, b ≠ X.env.locals → b ∉ X.fs → b ∉ ch → s.heap.get? b = some o → H b = none → h'.get? b = some o)
    (slot : ∀ b o, b ≠ X.env.locals → b ∈ X.fs → b ∉ ch → s.heap.get? b = some o → H b = none → ∃ sl, h'.get? b = some { o with slots := sl }) (free : ∀ b o, b ∉ ch → s.heap.get? b = some o → H b = none → H' b = none)
    (there : ∀ b o, b ∉ ch → s.heap.get? b = some o → ∃ o', h'.get? b = some o')
    (tups : ∀ b xs, H b = some (.tup xs) → H' b = some (.tup xs)) (frzs : ∀ b o u, H b = some (.frz o u) → H' b = some (.frz o u)) (tbls : ∀ b ps, H b = some (.tbl ps) → ∃ more, H' b = some (.tbl (ps ++ more)))
    (ns : ∀ m, s.heap.Ns X.env.locals m → h'.Ns X.env.locals m) (hok : HOk X.prog X.w H' h') (hg : AllBare g') :
    Inv X pins σ H' { s with heap := h', gens := g', drawn := d', toks := t' } := by
  have neL : ∀ b o, X.s₀.heap.get? b = some o → b ≠ X.env.locals := fun b o e => Nat.ne_of_lt (Nat.lt_of_lt_of_le (Heap.lt_size e) I.ok.above)
  have neC : ∀ b o, X.s₀.heap.get? b = some o → b ∉ X.ex → b ∉ ch := fun b o e hx hb => by
    rcases (hch b hb).1 with z | z
    · exact hx z
    · exact absurd (Nat.lt_of_lt_of_le (Heap.lt_size e) z) (Nat.lt_irrefl _)
  have cellK : ∀ x c, X.env.cells.lookup x = some c → ∀ v, s.heap.IsCell c v → h'.IsCell c v := fun x c e v ⟨o, ho, hd⟩ => by
    have nch : c ∉ ch := fun z => (hch c z).2.2.1 x c e rfl
    by_cases hc : c ∈ X.fs
    · obtain ⟨sl, q⟩ := slot c o (I.cne x c e) hc nch ho (I.freeC x c e)
      exact ⟨_, q, hd⟩
    · exact ⟨o, keep c o (I.cne x c e) hc nch ho (I.freeC x c e), hd⟩
  refine ⟨I.ok, I.os, hg, ⟨fun b o e n hb hx => ?_, fun b o e n hb hx => ?_, fun b o e n hx => ?_, fun b o e hx => ?_, fun b xs e => tups b xs (I.base.tups b xs e), fun b o xs e => frzs b o xs (I.base.frzs b o xs e), fun b ps e => ?_⟩, ?_, fun x c e => ?_, ?_, fun x c e => ?_, fun p hp => ?_, hok, I.len⟩
  · exact keep b o (neL b o e) hb (neC b o e hx) (I.base.keep b o e n hb hx) (I.base.free b o e n hx)
  · obtain ⟨sl, e1⟩ := I.base.slot b o e n hb hx
    obtain ⟨sl', e2⟩ := slot b _ (neL b o e) hb (neC b o e hx) e1 (I.base.free b o e n hx)
    exact ⟨sl', e2⟩
  · obtain ⟨o', e1⟩ := I.base.there b o e hx
    exact free b o' (neC b o e hx) e1 (I.base.free b o e n hx)
  · obtain ⟨o', e1⟩ := I.base.there b o e hx
    exact there b o' (neC b o e hx) e1
  · obtain ⟨m1, e1⟩ := I.base.tbls b ps e
    obtain ⟨m2, e2⟩ := tbls b _ e1
    exact ⟨m1 ++ m2, by rw [e2, Array.append_assoc]⟩
  · obtain ⟨m, hn, hl⟩ := I.loc
    refine ⟨m, ns m hn, fun i x v e1 e2 e3 => ?_⟩
    obtain ⟨u, r, l⟩ := hl i x v e1 e2 e3
    refine ⟨u, r, ?_⟩
    rcases l with l | ⟨k, c, e, z⟩
    · exact .inl l
    · exact .inr ⟨k, c, e, cellK x c e _ z⟩
  · obtain ⟨v, z⟩ := I.cell x c e
    exact ⟨v, cellK x c e v z⟩
  · obtain ⟨m, ⟨o, _, _, ho, _⟩, _⟩ := I.loc
    exact free _ o (fun z => (hch _ z).2.1 rfl) ho I.free
  · obtain ⟨v, o, ho, hd⟩ := I.cell x c e
    exact free c o (fun z => (hch c z).2.2.1 x c e rfl) ho (I.freeC x c e)
  · obtain ⟨e, n, ne, nf, d⟩ := I.pin p hp
    have nch : p.1 ∉ ch := fun z => (hch p.1 z).2.2.2 p hp rfl
    exact ⟨keep p.1 p.2 ne nf nch e n, free p.1 p.2 nch e n, ne, nf, d⟩
theorem Inv.un {t' : Nat} (I : Inv X pins σ H s) (u : Un X.fs [] H H' s.heap h') (hok : HOk X.prog X.w H' h') : Inv X pins σ H' { s with heap := h', toks := t' } := by
  obtain ⟨m, ⟨o, es, ep, ho, r⟩, _⟩ := id I.loc
  obtain ⟨sl, hL⟩ := u.any ho I.free (by simp)
  exact I.step (g' := s.gens) (d' := s.drawn) (ch := []) (fun _ z => nomatch z) (fun b o _ hb _ e n => u.keep b o e n hb (by simp)) (fun b o _ hb _ e n => u.slot b o e n hb (by simp)) (fun b o _ e n => u.free b o e n (by simp)) (fun b o _ e => u.there b o e (by simp)) u.tups u.frzs u.tbls (fun m' hm => by
    obtain ⟨o', es', ep', ho', r'⟩ := hm
    rw [ho] at ho'; cases ho'
    exact ⟨_, es', ep', hL, r'⟩) hok I.bare
theorem Inv.call {g' : Array GenState} {t' : Nat} {d' : Drawn} {ch : List Addr} (I : Inv X pins σ H s) (u : Un (frs X.stack) ch H H' s.heap h') (hok : HOk X.prog X.w H' h') (hg : AllBare g')
    (hch : ∀ b ∈ ch, (b ∈ X.ex ∨ X.s₀.heap.objs.size ≤ b) ∧ b ≠ X.env.locals ∧ (∀ x c, X.env.cells.lookup x = some c → c ≠ b) ∧ ∀ p ∈ X.pn ++ pins, p.1 ≠ b) :
    Inv X pins σ H' { s with heap := h', gens := g', drawn := d', toks := t' } := by
  obtain ⟨m, ⟨o, es, ep, ho, r⟩, _⟩ := id I.loc
  obtain ⟨sl, hL⟩ := u.any ho I.free fun z => (hch _ z).2.1 rfl
  exact I.step (ch := ch) hch (fun b o hL hb hc e n => u.keep b o e n (fun z => (List.mem_cons.mp (I.stkSub b z)).elim hL hb) hc) (fun b o _ _ hc e n => u.any e n hc) (fun b o hc e n => u.free b o e n hc) (fun b o hc e => u.there b o e hc) u.tups u.frzs u.tbls (fun m' hm => by
    obtain ⟨o', es', ep', ho', r'⟩ := hm
    rw [ho] at ho'; cases ho'
    exact ⟨_, es', ep', hL, r'⟩) hok hg
theorem Inv.turned {t' : Nat} {it : Addr} (I : Inv X pins σ H s) (k : ∀ b o, b ≠ it → s.heap.get? b = some o → h'.get? b = some o) (hn : H it = none) (hL : it ≠ X.env.locals)
    (h1 : it ∈ X.ex ∨ X.s₀.heap.objs.size ≤ it) (h2 : ∀ x c, X.env.cells.lookup x = some c → c ≠ it) (h3 : ∀ p ∈ X.pn ++ pins, p.1 ≠ it) : Inv X pins σ H { s with heap := h', toks := t' } := by
  have nit : ∀ b u, H b = some u → b ≠ it := fun b u e z => by rw [z, hn] at e; cases e
  refine I.step (g' := s.gens) (d' := s.drawn) (ch := [it]) (fun b hb => ?_) (fun b o _ _ hc e _ => k b o (fun z => hc (by simp [z])) e) (fun b o _ _ hc e _ => ⟨o.slots, k b o (fun z => hc (by simp [z])) e⟩) (fun _ _ _ _ n => n)
    (fun b o hc e => ⟨o, k b o (fun z => hc (by simp [z])) e⟩) (fun _ _ e => e) (fun _ _ _ e => e) (fun b ps e => ⟨#[], by rw [e]; simp⟩) (fun m hm => ?_) (fun b u e => ?_) I.bare
  · have e : b = it := by simpa using hb
    subst e
    exact ⟨h1, hL, h2, h3⟩
  · obtain ⟨o, es, ep, ho, r⟩ := hm
    exact ⟨o, es, ep, k _ o (Ne.symm hL) ho, r⟩
  · refine (I.hok b u e).stay (fun c v hc q => k c v ?_ q) (fun _ q => q) fun _ _ q => q
    rcases hc with z | z
    · rw [z]; exact nit b u e
    · exact nit c _ z
theorem Inv.tok (I : Inv X pins σ H s) (t : Nat) : Inv X pins σ H { s with toks := t } := I.un (h' := s.heap) (t' := t) Un.refl I.hok
theorem Inv.kept {t' : Nat} (I : Inv X pins σ H s) (k : ∀ b u, s.heap.get? b = some u → h'.get? b = some u) : Inv X pins σ H { s with heap := h', toks := t' } := I.un (Un.kept k) (I.hok.kept k)
theorem Inv.laid {a : Addr} {o : HO} {t' : Nat} (I : Inv X pins σ H s) (k : ∀ b u, s.heap.get? b = some u → h'.get? b = some u) (hp : s.heap.objs.size ≤ a) (new : ObjOk X.prog X.w (upd H a o) h' a o) :
    Inv X pins σ (upd H a o) { s with heap := h', toks := t' } := I.un (Un.laid k hp (I.hok.fresh hp)) (I.hok.laid k hp new)
theorem Inv.write {x e : Addr} {o : HO} {t' : Nat} (I : Inv X pins σ H s) (mu : Mut (H x)) (he : e = x ∨ H e = some (.own x)) (k : ∀ b u, b ≠ e → s.heap.get? b = some u → h'.get? b = some u) (heo : ∃ u, h'.get? e = some u)
    (new : ObjOk X.prog X.w (upd H x o) h' x o) : Inv X pins σ (upd H x o) { s with heap := h', toks := t' } := I.un (Un.write mu he k heo) (I.hok.write mu he k heo new)
theorem Inv.pins_of {pins' : List (Addr × Obj)} (I : Inv X pins σ H s) (h : ∀ p ∈ pins', s.heap.get? p.1 = some p.2 ∧ H p.1 = none ∧ p.1 ≠ X.env.locals ∧ p.1 ∉ X.fs ∧ ∀ v, p.2.data ≠ .cell v) : Inv X pins' σ H s :=
  ⟨I.ok, I.os, I.bare, I.base, I.loc, I.cell, I.free, I.freeC, fun p hp => (List.mem_append.mp hp).elim (fun z => I.pin p (List.mem_append_left _ z)) (h p), I.hok, I.len⟩
theorem nodup_ix {N : List Str} (hN : N.Nodup) {i j : Nat} {x : Str} (a : N[i]? = some x) (b : N[j]? = some x) : i = j := by
  obtain ⟨h1, e1⟩ := List.getElem?_eq_some_iff.mp a
  obtain ⟨h2, e2⟩ := List.getElem?_eq_some_iff.mp b
  exact (List.getElem_inj hN).mp (e1.trans e2.symm)
theorem store_ok2 {M : Model} {A : Around} {E : Value → Shared → Prop} {i : Nat} {x : Str} {v : V} {u : Value} {Q : Unit → Shared → Prop} (I : Inv X pins σ H s) (hN : X.N.Nodup) (hi : X.N[i]? = some x) (hx : Loc X.env.scope x) (r : RelV v u)
    (h : ∀ s', Inv X pins (σ.set i (some v)) H s' → (∃ a, Heap.SameBut a s.heap s'.heap ∧ (a = X.env.locals ∨ X.env.cells.lookup x = some a)) → Q () s') (hf : X.fn x = true ∨ X.env.scope.names.lookup x = some .local := by first | exact .inl rfl | exact .inr rfl | assumption) : wpAny M A (storeName X.env x u) Q E s := by
  obtain ⟨m, hn, hl⟩ := id I.loc
  have hcls : (X.env.scope.kind == .class || (X.env.scope.kind == .module && X.env.locals != X.env.globals)) = false := by rw [I.ok.kind]; rfl
  have hiσ : i < σ.length := by rw [I.len]; exact (List.getElem?_eq_some_iff.mp hi).1
  have cne := I.cne
  have tracked : ∀ {a : Addr} {h' : Heap}, (∃ o, s.heap.get? a = some o ∧ H a = none) → Heap.SameBut a s.heap h' → HOk X.prog X.w H h' := fun {a h'} ha hs b ob e => by
    obtain ⟨_, _, hfree⟩ := ha
    refine (I.hok b ob e).stay (fun c w' hc q => (hs.2 c ?_).trans q) (fun _ q => q) fun _ _ q => q
    rintro rfl
    rcases hc with rfl | hc
    · rw [hfree] at e; cases e
    · rw [hfree] at hc; cases hc
  rcases hx with hk | hk
  · refine wpAny_storeName_local hk hn (fun h' hn' hs => ?_) hcls
    obtain ⟨oL, _, _, hoL, _⟩ := id hn
    refine h _ ⟨I.ok, I.os, I.bare, ⟨fun b o e n hb hx => ?_, fun b o e n hb hx => ?_, I.base.free, fun b o e hx => ?_, I.base.tups, I.base.frzs, I.base.tbls⟩, ⟨_, hn', fun j y v' e1 e2 e3 => ?_⟩, fun y c e => ?_, I.free, I.freeC, fun p hp => ?_, tracked ⟨oL, hoL, I.free⟩ hs, by simpa using I.len⟩ ⟨_, hs, .inl rfl⟩
    · exact (hs.2 b (Nat.ne_of_lt (Nat.lt_of_lt_of_le (Heap.lt_size e) I.ok.above))).trans (I.base.keep b o e n hb hx)
    · obtain ⟨sl, e1⟩ := I.base.slot b o e n hb hx
      exact ⟨sl, (hs.2 b (Nat.ne_of_lt (Nat.lt_of_lt_of_le (Heap.lt_size e) I.ok.above))).trans e1⟩
    · obtain ⟨o', e1⟩ := I.base.there b o e hx
      exact ⟨o', (hs.2 b (Nat.ne_of_lt (Nat.lt_of_lt_of_le (Heap.lt_size e) I.ok.above))).trans e1⟩
    · by_cases hj : j = i
      · subst hj
        rw [hi] at e1; cases e1
        rw [List.getElem?_set_self hiσ] at e2
        cases e2
        exact ⟨u, r, .inl ⟨hk, by simp⟩⟩
      · rw [List.getElem?_set_ne (Ne.symm hj)] at e2
        obtain ⟨u', r', q⟩ := hl j y v' e1 e2 e3
        refine ⟨u', r', ?_⟩
        rcases q with ⟨k, e⟩ | ⟨k, c, e, z⟩
        · refine .inl ⟨k, ?_⟩
          have : y ≠ x := fun e => hj (nodup_ix hN e1 (e ▸ hi))
          simp [this, e]
        · exact .inr ⟨k, c, e, z.sameBut hs (cne y c e)⟩
    · obtain ⟨w', z⟩ := I.cell y c e
      exact ⟨w', z.sameBut hs (cne y c e)⟩
    · obtain ⟨e, n, ne, nf, d⟩ := I.pin p hp
      exact ⟨(hs.2 p.1 ne).trans e, n, ne, nf, d⟩
  · have hfn : X.fn x = true := by
      rcases hf with z | z
      · exact z
      · rw [z] at hk; cases hk
    obtain ⟨c, hc⟩ := I.ok.has x (.inl hk)
    obtain ⟨w', z⟩ := I.cell x c hc
    refine wpAny_storeName_cell I.ok.kind hk hc z (fun h' hc' hs => ?_)
    obtain ⟨oc, hoc, hocd⟩ := id z
    refine h { s with heap := h' } ⟨I.ok, I.os, I.bare, ⟨fun b o e n hb hx => ?_, fun b o e n hb hx => ?_, I.base.free, fun b o e hx => ?_, I.base.tups, I.base.frzs, I.base.tbls⟩, ⟨m, hn.sameBut hs (Ne.symm (cne x c hc)), fun j y v' e1 e2 e3 => ?_⟩, fun y c' e => ?_, I.free, I.freeC, fun p hp => ?_, tracked ⟨oc, hoc, I.freeC x c hc⟩ hs, by simpa using I.len⟩ ⟨c, hs, .inr hc⟩
    · exact (hs.2 b (Nat.ne_of_lt (Nat.lt_of_lt_of_le (Heap.lt_size e) (I.ok.cab x c hfn hc)))).trans (I.base.keep b o e n hb hx)
    · obtain ⟨sl, e1⟩ := I.base.slot b o e n hb hx
      exact ⟨sl, (hs.2 b (Nat.ne_of_lt (Nat.lt_of_lt_of_le (Heap.lt_size e) (I.ok.cab x c hfn hc)))).trans e1⟩
    · obtain ⟨o', e1⟩ := I.base.there b o e hx
      exact ⟨o', (hs.2 b (Nat.ne_of_lt (Nat.lt_of_lt_of_le (Heap.lt_size e) (I.ok.cab x c hfn hc)))).trans e1⟩
    · by_cases hj : j = i
      · subst hj
        rw [hi] at e1; cases e1
        rw [List.getElem?_set_self hiσ] at e2
        cases e2
        exact ⟨u, r, .inr ⟨.inl hk, c, hc, hc'⟩⟩
      · rw [List.getElem?_set_ne (Ne.symm hj)] at e2
        obtain ⟨u', r', q⟩ := hl j y v' e1 e2 e3
        refine ⟨u', r', ?_⟩
        rcases q with q | ⟨k, c', e, z'⟩
        · exact .inl q
        · refine .inr ⟨k, c', e, z'.sameBut hs ?_⟩
          rintro rfl
          exact hj (nodup_ix hN e1 (I.ok.inj _ _ _ e hc ▸ hi))
    · by_cases hcc : c' = c
      · subst hcc; exact ⟨_, hc'⟩
      · obtain ⟨w2, z2⟩ := I.cell y c' e
        exact ⟨w2, z2.sameBut hs hcc⟩
    · obtain ⟨e, n, ne, nf, d⟩ := I.pin p hp
      refine ⟨(hs.2 p.1 ?_).trans e, n, ne, nf, d⟩
      intro q
      rw [q, hoc] at e
      have q' : oc = p.2 := Option.some.inj e
      exact d w' (by rw [← q']; exact hocd)
theorem store_ok {M : Model} {A : Around} {E : Value → Shared → Prop} {i : Nat} {x : Str} {v : V} {u : Value} {Q : Unit → Shared → Prop} (I : Inv X pins σ H s) (hN : X.N.Nodup) (hi : X.N[i]? = some x) (hx : Loc X.env.scope x) (r : RelV v u)
    (h : ∀ s', Inv X pins (σ.set i (some v)) H s' → Q () s') (hf : X.fn x = true ∨ X.env.scope.names.lookup x = some .local := by first | exact .inl rfl | exact .inr rfl | assumption) : wpAny M A (storeName X.env x u) Q E s :=
  store_ok2 I hN hi hx r (fun s' I' _ => h s' I') hf
theorem Inv.call' {s' : Shared} {ch : List Addr} (I : Inv X pins σ H s) (ho : s'.os = s.os) (u : Un (frs X.stack) ch H H' s.heap s'.heap) (hok : HOk X.prog X.w H' s'.heap) (hg : AllBare s'.gens)
    (hch : ∀ b ∈ ch, (b ∈ X.ex ∨ X.s₀.heap.objs.size ≤ b) ∧ b ≠ X.env.locals ∧ (∀ x c, X.env.cells.lookup x = some c → c ≠ b) ∧ ∀ p ∈ X.pn ++ pins, p.1 ≠ b) : Inv X pins σ H' s' := by
  obtain ⟨h', g', d', t', o'⟩ := s'
  have e : o' = s.os := ho
  subst e
  exact I.call (g' := g') (t' := t') (d' := d') u hok hg hch
end
abbrev XK := Value → Option Addr → Hp → Prop
abbrev St := List (Option V)
abbrev VK := V → Hp → Prop
abbrev TE := St → Hp → VK → Prop
abbrev TT := St → Hp → (Bool → Hp → Prop) → Prop
abbrev TA := St → Hp → (List V → Hp → Prop) → Prop
structure Ends where
  nx : St → Hp → Prop
  rt : VK
  bk : St → Hp → Prop := fun _ _ => False
  ct : St → Hp → Prop := fun _ _ => False
abbrev TS := Ends → St → Hp → Prop
def EP (X : Cx) (pins : List (Addr × Obj)) (σ : St) (Q : VK) (u : Value) (s' : Shared) : Prop := ∃ v H', Inv X pins σ H' s' ∧ RelV v u ∧ Q v H'
def TP (X : Cx) (pins : List (Addr × Obj)) (σ : St) (Q : Bool → Hp → Prop) (b : Bool) (s' : Shared) : Prop := ∃ H', Inv X pins σ H' s' ∧ Q b H'
def AP (X : Cx) (pins : List (Addr × Obj)) (σ : St) (Q : List V → Hp → Prop) (us : List Value) (s' : Shared) : Prop := ∃ vs H', Inv X pins σ H' s' ∧ Vals vs us ∧ Q vs H'
def SP (X : Cx) (pins : List (Addr × Obj)) (D : Ends) (f : Flow) (s' : Shared) : Prop :=
  match f with
  | .next => ∃ σ' H', Inv X pins σ' H' s' ∧ D.nx σ' H'
  | .brk => ∃ σ' H', Inv X pins σ' H' s' ∧ D.bk σ' H'
  | .cont => ∃ σ' H', Inv X pins σ' H' s' ∧ D.ct σ' H'
  | .ret u => ∃ v σ' H', Inv X pins σ' H' s' ∧ RelV v u ∧ D.rt v H'
def PE (X : Cx) (e : Expr) (t : TE) : Prop :=
  ∀ (pins : List (Addr × Obj)) (s : Shared) (σ : St) (H : Hp) (Q : VK), Inv X pins σ H s → t σ H Q → wpAny (model X.prog X.w) X.A (eval e X.env) (EP X pins σ Q) X.xe s
def PT (X : Cx) (e : Expr) (t : TT) : Prop :=
  ∀ (pins : List (Addr × Obj)) (s : Shared) (σ : St) (H : Hp) (Q : Bool → Hp → Prop), Inv X pins σ H s → t σ H Q → wpAny (model X.prog X.w) X.A (isTrue e X.env (eval e X.env)) (TP X pins σ Q) X.xe s
def PW (X : Cx) (e : Expr) (t : TT) : Prop :=
  ∀ (whole : Sem Value) (pins : List (Addr × Obj)) (s : Shared) (σ : St) (H : Hp) (Q : Bool → Hp → Prop), Inv X pins σ H s → t σ H Q → wpAny (model X.prog X.w) X.A (isTrue e X.env whole) (TP X pins σ Q) X.xe s
theorem PW.pt {X : Cx} {e : Expr} {t : TT} (h : PW X e t) : PT X e t := h _
def PA (X : Cx) (es : List Expr) (t : TA) : Prop :=
  ∀ (pos : Pos) (pins : List (Addr × Obj)) (s : Shared) (σ : St) (H : Hp) (Q : List V → Hp → Prop), Inv X pins σ H s → t σ H Q → wpAny (model X.prog X.w) X.A (spliced (backTo pos (starEach es X.env))) (AP X pins σ Q) X.xe s
def PS (X : Cx) (st : Stmt) (t : TS) : Prop :=
  ∀ (pins : List (Addr × Obj)) (s : Shared) (σ : St) (H : Hp) (D : Ends), Inv X pins σ H s → t D σ H → wpAny (model X.prog X.w) X.A (exec st X.env) (SP X pins D) X.xe s
def PSs (X : Cx) (st : List Stmt) (t : TS) : Prop :=
  ∀ (pins : List (Addr × Obj)) (s : Shared) (σ : St) (H : Hp) (D : Ends), Inv X pins σ H s → t D σ H → wpAny (model X.prog X.w) X.A (execs st X.env) (SP X pins D) X.xe s
theorem thn {α : Type} {t : Sem α} {Q Q' : α → Shared → Prop} {M : Model} {A : Around} {E : Value → Shared → Prop} {s : Shared} (h : wpAny M A t Q E s) (hQ : ∀ a s, Q a s → Q' a s) : wpAny M A t Q' E s := wpAny_mono h hQ fun _ _ x => x
end L2
namespace L2
open PySem PySem.Spec PyProof.Rows
section
variable {X : Cx}
theorem bin {a b : Expr} {ta tb : TE} (ha : PE X a ta) (hb : PE X b tb) {pins : List (Addr × Obj)} {s : Shared} {σ : St} {H : Hp} {R : V → V → Hp → Prop} (I : Inv X pins σ H s) (h : ta σ H fun x H1 => tb σ H1 fun y H2 => R x y H2)
    {α : Type} {Q : α → Shared → Prop} {f : Value → Value → Sem α}
    (hf : ∀ v u s2 x y H2, Inv X pins σ H2 s2 → RelV x v → RelV y u → R x y H2 → wpAny (model X.prog X.w) X.A (f v u) Q X.xe s2) :
    wpAny (model X.prog X.w) X.A (eval a X.env) (fun v s₁ => wpAny (model X.prog X.w) X.A (eval b X.env) (fun u s₂ => wpAny (model X.prog X.w) X.A (f v u) Q X.xe s₂) X.xe s₁) X.xe s := by
  refine thn (ha pins s σ H _ I h) fun v s1 ⟨x, H1, I1, r1, q1⟩ => ?_
  refine thn (hb pins s1 σ H1 _ I1 q1) fun u s2 ⟨y, H2, I2, r2, q2⟩ => ?_
  exact hf v u s2 x y H2 I2 r1 r2 q2
def tVar (i : Nat) : TE := fun σ H Q => ∃ v, σ[i]? = some (some v) ∧ Q v H
def tC (v : V) : TE := fun _ H Q => Q v H
theorem pe_var {i : Nat} {x : Str} {pos : Pos} (hN : X.N[i]? = some x) (hv : Vis X.env.scope x) (hd : (x == ("__debug__" : Str)) = false := by decide) (hcd : (x == ("__classdict__" : Str)) = false := by decide) : PE X (.Name x pos) (tVar i) := by
  intro pins s σ H Q I h
  obtain ⟨v, e, h⟩ := h
  obtain ⟨m, hn, hl⟩ := I.loc
  obtain ⟨u, r, l⟩ := hl i x v hN e hv
  have fin : EP X pins σ Q u s := ⟨v, H, I, r, h⟩
  rcases l with ⟨hk, hm⟩ | ⟨hk, c, hc, hcell⟩
  · exact wpAny_Name (wpAny_loadName_local I.ok.kind hk hn hm fin) hd
  · rcases hk with hk | hk
    · exact wpAny_Name (wpAny_loadName_cell I.ok.kind hk hc hcell fin) hd
    · exact wpAny_Name (wpAny_loadName_free I.ok.kind hk hc hcell fin hcd) hd
theorem pe_int {i j pos} : PE X (.Constant (.int i) j pos) (tC (.int i)) := fun _ _ _ H _ I h => wpAny_Constant_int ⟨.int i, H, I.tok _, ⟨_, rfl⟩, h⟩
theorem pe_bl {b j pos} : PE X (.Constant (.bool b) j pos) (tC (.bl b)) := fun _ _ _ H _ I h => Constant_bool ⟨.bl b, H, I, rfl, h⟩
theorem pe_non {j pos} : PE X (.Constant .none j pos) (tC .non) := fun _ _ _ H _ I h => Constant_none ⟨.non, H, I, rfl, h⟩
theorem pe_str {x j pos} : PE X (.Constant (.str x) j pos) (tC (.str x)) := fun _ _ _ H _ I h => Calls.Constant_str ⟨.str x, H, I.tok _, ⟨_, rfl⟩, h⟩
def Gl (X : Cx) (x : Str) : Prop := X.env.kindOf x = some .globalImplicit
theorem ld_glob {E : Value → Shared → Prop} {pins : List (Addr × Obj)} {s : Shared} {σ : St} {H : Hp} {x : Str} {u : Value} {pos : Pos} {Q : Value → Shared → Prop} (I : Inv X pins σ H s) (hg : Gl X x) (hm : X.mg x = some u) (h : Q u s)
    (hd : (x == ("__debug__" : Str)) = false := by decide) : wpAny (model X.prog X.w) X.A (eval (.Name x pos) X.env) Q E s :=
  Calls.Name_function_global I.ok.kind hg (Calls.loadGlobal_global (by rw [I.ok.glob]; exact I.mod.glob.keeps I.bk) hm h) hd
theorem ld_blt {E : Value → Shared → Prop} {pins : List (Addr × Obj)} {s : Shared} {σ : St} {H : Hp} {x : Str} {u : Value} {pos : Pos} {Q : Value → Shared → Prop} (I : Inv X pins σ H s) (hg : Gl X x) (hm : X.mg x = none) (hv : bootBuiltins x = some u) (h : Q u s)
    (hn : x ≠ "__name__" := by decide) (hd : (x == ("__debug__" : Str)) = false := by decide) : wpAny (model X.prog X.w) X.A (eval (.Name x pos) X.env) Q E s := by
  obtain ⟨mb, h1, h2⟩ := I.mod.blt
  exact Calls.Name_function_global I.ok.kind hg (Calls.loadGlobal_builtin (by rw [I.ok.glob]; exact I.mod.glob.keeps I.bk) hm (by rw [I.ok.blt]; exact h1.keeps I.bk) ((h2 x hn).trans hv) h) hd
theorem pe_glob {x : Str} {v : V} {u : Value} {pos : Pos} (hg : Gl X x) (hm : X.mg x = some u) (r : RelV v u) (hd : (x == ("__debug__" : Str)) = false := by decide) : PE X (.Name x pos) (tC v) :=
  fun _ _ _ H _ I h => ld_glob I hg hm ⟨v, H, I, r, h⟩ hd
theorem pe_bltn {x : Str} {v : V} {u : Value} {pos : Pos} (hg : Gl X x) (hm : X.mg x = none) (hv : bootBuiltins x = some u) (r : RelV v u) (hn : x ≠ "__name__" := by decide) (hd : (x == ("__debug__" : Str)) = false := by decide) : PE X (.Name x pos) (tC v) :=
  fun _ _ _ H _ I h => ld_blt I hg hm hv ⟨v, H, I, r, h⟩ hn hd
variable {a b : Expr} {ta tb : TE} {pos : Pos}
def PC (X : Cx) (op : CmpOp) (a b : Expr) (t : TE) : Prop :=
  ∀ (pins : List (Addr × Obj)) (s : Shared) (σ : St) (H : Hp) (Q : VK), Inv X pins σ H s → t σ H Q →
    wpAny (model X.prog X.w) X.A (eval a X.env) (fun v s₁ => wpAny (model X.prog X.w) X.A (eval b X.env) (fun u s₂ => wpAny (model X.prog X.w) X.A (compareOp op v u) (EP X pins σ Q) X.xe s₂) X.xe s₁) X.xe s
def tB (t : TE) : TT := fun σ H Q => t σ H fun x H1 => ∃ c, x = .bl c ∧ Q c H1
theorem pt_cmp {op : CmpOp} {t : TE} (h : PC X op a b t) (h1 : behindInMarks op b = false := by first | exact nobehind _ (by decide) (by decide) | rfl) : PT X (.Compare a [op] [b] pos) (tB t) := by
  intro pins s σ H Q I hw
  refine wpAny_isTrue_Compare1 (thn (h pins s σ H _ I hw) fun v s1 h1 => thn h1 fun u s2 h2 => thn h2 fun c s3 ⟨x, H1, I1, r1, q1⟩ => ?_) h1
  obtain ⟨d, rfl, q⟩ := q1
  cases r1
  exact wpAny_truthy_bool ⟨H1, I1, q⟩
theorem pt_val {e : Expr} {t : TE} (h : PE X e t) (he : ∀ whole, isTrue e X.env whole = (do let v ← whole; standAt e.pos; holding [v] (truthy v)) := by intro _; rfl) : PT X e (tB t) := by
  intro pins s σ H Q I hw
  refine isTrue_plain (thn (h pins s σ H _ I hw) fun v s1 ⟨x, H1, I1, r1, q1⟩ => ?_) (he _)
  obtain ⟨d, rfl, q⟩ := q1
  cases r1
  exact wpAny_truthy_bool ⟨H1, I1, q⟩
variable {tA tB' : TT} {rest : List Expr}
def tAnd (t u : TT) : TT := fun σ H Q => t σ H fun c H1 => if c = true then u σ H1 Q else Q false H1
def tOr (t u : TT) : TT := fun σ H Q => t σ H fun c H1 => if c = true then Q true H1 else u σ H1 Q
def tNot (t : TT) : TT := fun σ H Q => t σ H fun c H1 => Q (!c) H1
theorem pw_and1 (ha : PT X a tA) : PW X (.BoolOp .And [a] pos) tA := by
  intro wh pins s σ H Q I h
  refine isTrue_and (thn (ha pins s σ H Q I h) fun c s1 e => ?_)
  cases c with
  | true => exact isTrue_and_nil e
  | false => exact e
theorem pw_or1 (ha : PT X a tA) : PW X (.BoolOp .Or [a] pos) tA := by
  intro wh pins s σ H Q I h
  refine isTrue_or (thn (ha pins s σ H Q I h) fun c s1 e => ?_)
  cases c with
  | false => exact isTrue_or_nil e
  | true => exact e
theorem pw_and (ha : PT X a tA) (hb : PW X (.BoolOp .And (b :: rest) pos) tB') : PW X (.BoolOp .And (a :: b :: rest) pos) (tAnd tA tB') := by
  intro wh pins s σ H Q I h
  refine isTrue_and (thn (ha pins s σ H _ I h) fun c s1 ⟨H1, I1, q1⟩ => ?_)
  cases c with
  | true => exact hb wh pins s1 σ H1 Q I1 q1
  | false => exact ⟨H1, I1, q1⟩
theorem pw_or (ha : PT X a tA) (hb : PW X (.BoolOp .Or (b :: rest) pos) tB') : PW X (.BoolOp .Or (a :: b :: rest) pos) (tOr tA tB') := by
  intro wh pins s σ H Q I h
  refine isTrue_or (thn (ha pins s σ H _ I h) fun c s1 ⟨H1, I1, q1⟩ => ?_)
  cases c with
  | true => exact ⟨H1, I1, q1⟩
  | false => exact hb wh pins s1 σ H1 Q I1 q1
theorem pt_not (ha : PT X a tA) : PT X (.UnaryOp .Not a pos) (tNot tA) := by
  intro pins s σ H Q I h
  exact isTrue_not (ha pins s σ H (fun c H1 => Q (!c) H1) I h)
def tAndV (ta tb : TE) : TE := fun σ H Q => ta σ H fun x H1 => ∃ c, x = .bl c ∧ if c = true then tb σ H1 Q else Q (.bl false) H1
def tNotV (ta : TE) : TE := fun σ H Q => ta σ H fun x H1 => ∃ c, x = .bl c ∧ Q (.bl (!c)) H1
theorem pe_one {op} {t : TE} (h : PE X a t) : PE X (.BoolOp op [a] pos) t := fun pins s σ H Q I hw => BoolOp_one (h pins s σ H Q I hw)
theorem pe_and (ha : PE X a ta) (hb : PE X (.BoolOp .And (b :: rest) pos) tb) : PE X (.BoolOp .And (a :: b :: rest) pos) (tAndV ta tb) := by
  intro pins s σ H Q I h
  refine BoolOp_and (thn (ha pins s σ H _ I h) fun v s1 ⟨x, H1, I1, r1, q1⟩ => ?_)
  obtain ⟨c, rfl, q1⟩ := q1
  cases r1
  refine wpAny_truthy_bool ?_
  cases c with
  | true => exact hb pins s1 σ H1 Q I1 q1
  | false => exact ⟨.bl false, H1, I1, rfl, q1⟩
theorem pe_not (ha : PE X a ta) : PE X (.UnaryOp .Not a pos) (tNotV ta) := by
  intro pins s σ H Q I h
  refine UnaryOp_ (thn (ha pins s σ H _ I h) fun v s1 ⟨x, H1, I1, r1, q1⟩ => ?_)
  obtain ⟨c, rfl, q1⟩ := q1
  cases r1
  exact not_of (wpAny_truthy_bool ⟨.bl (!c), H1, I1, rfl, q1⟩)
end
end L2
namespace L2
open PySem PySem.Spec PyProof.Rows
def SqL (K : PySem.W.Frag) (H : Hp) (a : Addr) (xs : List V) : Prop :=
  Rd H a (.lst xs) ∨
    ∃ (o : Obj) (its : Array Value) (n : Nat), K.lookup a = some o ∧ o.cls = .type "list" ∧ o.dict = none ∧ o.data = .seq its n ∧ its.size ≤ sizeLine ∧ Vals xs its.toList
def SqT (K : PySem.W.Frag) (H : Hp) (a : Addr) (xs : List V) : Prop :=
  Rd H a (.tup xs) ∨
    ∃ (o : Obj) (its : Array Value) (n : Nat), K.lookup a = some o ∧ o.cls = .type "tuple" ∧ o.data = .seq its n ∧ its.size ≤ sizeLine ∧ Vals xs its.toList
def absV : Value → Option V
  | .none => some .non
  | .bool b => some (.bl b)
  | .int i _ => some (.int i)
  | .str x _ => some (.str x)
  | .bytes b _ => some (.byt b)
  | .float b _ => some (.flt b)
  | .ref a => some (.ref a)
  | .type n => some (.ty n)
  | _ => none
theorem RelV.abs {x : V} {u : Value} (r : RelV x u) : absV u = some x := by
  cases x with
  | non => cases r; rfl
  | bl _ => cases r; rfl
  | int _ => obtain ⟨t, rfl⟩ := r; rfl
  | str _ => obtain ⟨t, rfl⟩ := r; rfl
  | byt _ => obtain ⟨t, rfl⟩ := r; rfl
  | flt _ => obtain ⟨t, rfl⟩ := r; rfl
  | ref _ => cases r; rfl
  | ty _ => cases r; rfl
theorem RelV.inj {x y : V} {u : Value} (r : RelV x u) (q : RelV y u) : x = y := Option.some.inj (r.abs.symm.trans q.abs)
theorem Vals.inj : ∀ {xs ys : List V} {us : List Value}, Vals xs us → Vals ys us → xs = ys
  | _, _, _, .nil, .nil => rfl
  | _, _, _, .cons r t, .cons r' t' => by rw [r.inj r', Vals.inj t t']
section
variable {X : Cx} {pins : List (Addr × Obj)} {σ : St} {H : Hp} {s : Shared} {a : Addr} {xs ys : List V}
theorem SqL.of {K : PySem.W.Frag} (h : H a = some (.lst xs)) : SqL K H a xs := .inl (.inl h)
theorem SqT.of {K : PySem.W.Frag} (h : H a = some (.tup xs)) : SqT K H a xs := .inl (.inl h)
theorem Inv.list (I : Inv X pins σ H s) (h : SqL X.K H a xs) : ∃ its : List Value, Vals xs its ∧ PlainL s.heap a its.toArray ∧ xs.length ≤ sizeLine := by
  rcases h with h | ⟨o, its, n, hk, hc, hd, hs, hz, r⟩
  · obtain ⟨z, its, n, r, e⟩ := h.ok I.hok
    exact ⟨its, r, ⟨_, n, e, rfl, rfl, rfl⟩, z⟩
  · refine ⟨its.toList, r, ⟨o, n, I.kIn a o hk, hc, hd, by simpa using hs⟩, ?_⟩
    have e := r.length
    simp only [Array.length_toList] at e
    omega
theorem Inv.tuple (I : Inv X pins σ H s) (h : SqT X.K H a xs) : ∃ its : List Value, Vals xs its ∧ IsTup s.heap a its.toArray ∧ xs.length ≤ sizeLine := by
  rcases h with h | ⟨o, its, n, hk, hc, hs, hz, r⟩
  · obtain ⟨z, its, r, p⟩ := h.ok I.hok
    exact ⟨its, r, p, z⟩
  · refine ⟨its.toList, r, ⟨o, I.kIn a o hk, hc, n, by simpa using hs⟩, ?_⟩
    have e := r.length
    simp only [Array.length_toList] at e
    omega
theorem Inv.list_inj (I : Inv X pins σ H s) (h : SqL X.K H a xs) (h' : SqL X.K H a ys) : xs = ys := by
  obtain ⟨its, r, ⟨o, n, e, _, _, d⟩, _⟩ := I.list h
  obtain ⟨its', r', ⟨o', n', e', _, _, d'⟩, _⟩ := I.list h'
  rw [e] at e'; cases e'
  rw [d] at d'
  injection d' with d1 _
  have : its = its' := by simpa using congrArg Array.toList d1
  subst this
  exact r.inj r'
end
abbrev Cx.wish (X : Cx) (E : Value → Shared → Prop) : Cx := { X with xe := E }
abbrev Cx.nox (X : Cx) : Cx := X.wish fun _ _ => False
theorem Cx.Ok.wish {X : Cx} (ok : X.Ok) (E : Value → Shared → Prop) : (X.wish E).Ok :=
  ⟨ok.mod, ok.kind, ok.glob, ok.blt, ok.above, ok.inj, ok.has, ok.cab, ok.hd, ok.frames, ok.stk, ok.exf, ok.bs, ok.bsz, ok.noex, ok.exfs, ok.funs, ok.frf⟩
theorem Cx.Ok.unwish {X : Cx} {E : Value → Shared → Prop} (ok : (X.wish E).Ok) : X.Ok :=
  ⟨ok.mod, ok.kind, ok.glob, ok.blt, ok.above, ok.inj, ok.has, ok.cab, ok.hd, ok.frames, ok.stk, ok.exf, ok.bs, ok.bsz, ok.noex, ok.exfs, ok.funs, ok.frf⟩
section
variable {X : Cx} {pins : List (Addr × Obj)} {σ : St} {H : Hp} {s : Shared} {E : Value → Shared → Prop}
theorem Inv.wish (I : Inv X pins σ H s) (E : Value → Shared → Prop) : Inv (X.wish E) pins σ H s := ⟨I.ok.wish E, I.os, I.bare, I.base, I.loc, I.cell, I.free, I.freeC, I.pin, I.hok, I.len⟩
theorem Inv.unwish (I : Inv (X.wish E) pins σ H s) : Inv X pins σ H s := ⟨I.ok.unwish, I.os, I.bare, I.base, I.loc, I.cell, I.free, I.freeC, I.pin, I.hok, I.len⟩
theorem SP.unwish {D : Ends} {f : Flow} {s' : Shared} (h : SP (X.wish E) pins D f s') : SP X pins D f s' := by
  cases f with
  | next => obtain ⟨σ', H', I, q⟩ := h; exact ⟨σ', H', I.unwish, q⟩
  | brk => obtain ⟨σ', H', I, q⟩ := h; exact ⟨σ', H', I.unwish, q⟩
  | cont => obtain ⟨σ', H', I, q⟩ := h; exact ⟨σ', H', I.unwish, q⟩
  | ret u => obtain ⟨v, σ', H', I, r, q⟩ := h; exact ⟨v, σ', H', I.unwish, r, q⟩
theorem PSs.nox {st : List Stmt} {t : TS} (h : PSs X.nox st t) : PSs X st t := fun pins s σ H D I hw =>
  wpAny_mono (h pins s σ H D (I.wish _) hw) (fun _ _ q => q.unwish) fun _ _ z => False.elim z
end
section
variable {X : Cx} {st : Stmt} {rest : List Stmt} {t u : TS} {e : Expr} {te : TE} {pos : Pos}
def tNext : TS := fun D σ H => D.nx σ H
def tSeq (t u : TS) : TS := fun D σ H => t { D with nx := u D } σ H
theorem pss_nil : PSs X [] tNext := fun _ _ σ H _ I h => wpAny_execs_nil ⟨σ, H, I, h⟩
theorem pss_cons (h1 : PS X st t) (h2 : PSs X rest u) : PSs X (st :: rest) (tSeq t u) := by
  intro pins s σ H D I h
  refine wpAny_execs_cons (thn (h1 pins s σ H { D with nx := u D } I h) fun f s1 q => ?_)
  cases f with
  | next =>
    obtain ⟨σ', H', I', q⟩ := q
    exact h2 pins s1 σ' H' D I' q
  | ret v => exact q
  | brk => exact q
  | cont => exact q
theorem pss_one (h1 : PS X st t) : PSs X [st] t := by
  intro pins s σ H D I h
  refine wpAny_execs_cons (thn (h1 pins s σ H D I h) fun f s1 q => ?_)
  cases f with
  | next => exact wpAny_execs_nil q
  | ret v => exact q
  | brk => exact q
  | cont => exact q
theorem Inv.quiet {pins : List (Addr × Obj)} {σ : St} {H : Hp} {s : Shared} (I : Inv X pins σ H s) : interactive X.env = false := by simp [interactive, I.ok.kind]
def tDrop (te : TE) : TS := fun D σ H => te σ H fun _ H1 => D.nx σ H1
theorem ps_expr (he : PE X e te) (hs : swapsWith e none pos.line X.env = pure false := by rfl) : PS X (.Expr e pos) (tDrop te) := by
  intro pins s σ H D I h
  exact wpAny_Expr_any (thn (he pins s σ H _ I h) fun v s1 ⟨x, H1, I1, r1, q1⟩ => ⟨σ, H1, I1, q1⟩) I.quiet hs
def tRet (te : TE) : TS := fun D σ H => te σ H D.rt
theorem ps_ret (he : PE X e te) : PS X (.Return (some e) pos) (tRet te) := by
  intro pins s σ H D I h
  exact wpAny_Return_some (thn (he pins s σ H _ I h) fun v s1 ⟨x, H1, I1, r1, q1⟩ => ⟨x, σ, H1, I1, r1, q1⟩)
def tIfS (c : TT) (t u : TS) : TS := fun D σ H => c σ H fun b H1 => if b = true then t D σ H1 else u D σ H1
theorem ps_if {c : Expr} {a b : List Stmt} {tc : TT} (hc : PT X c tc) (ha : PSs X a t) (hb : PSs X b u) : PS X (.If c a b pos) (tIfS tc t u) := by
  intro pins s σ H D I h
  refine wpAny_If (thn (hc pins s σ H _ I h) fun d s1 ⟨H1, I1, q1⟩ => ?_)
  cases d with
  | true => exact ha pins s1 σ H1 D I1 q1
  | false => exact hb pins s1 σ H1 D I1 q1
end
abbrev TG := V → St → Hp → (St → Hp → Prop) → Prop
abbrev TGs := List V → St → Hp → (St → Hp → Prop) → Prop
def PG (X : Cx) (target : Expr) (t : TG) : Prop :=
  ∀ (pins : List (Addr × Obj)) (s : Shared) (σ : St) (H : Hp) (v : V) (u : Value) (Q : St → Hp → Prop), Inv X pins σ H s → RelV v u → t v σ H Q →
    wpAny (model X.prog X.w) X.A (assign target X.env u) (fun _ s' => ∃ σ' H', Inv X pins σ' H' s' ∧ Q σ' H') X.xe s
def PGs (X : Cx) (ts : List Expr) (t : TGs) : Prop :=
  ∀ (pins : List (Addr × Obj)) (s : Shared) (σ : St) (H : Hp) (vs : List V) (us : List Value) (Q : St → Hp → Prop), Inv X pins σ H s → Vals vs us → t vs σ H Q →
    wpAny (model X.prog X.w) X.A (assignInOrder ((assignEach ts X.env).map (·.2)) us) (fun _ s' => ∃ σ' H', Inv X pins σ' H' s' ∧ Q σ' H') X.xe s
section
variable {X : Cx} {pos : Pos}
def gName (i : Nat) : TG := fun v σ H Q => Q (σ.set i (some v)) H
theorem pg_name {i : Nat} {x : Str} (hN : X.N.Nodup) (hi : X.N[i]? = some x) (hx : Loc X.env.scope x) (hf : X.fn x = true ∨ X.env.scope.names.lookup x = some .local := by first | exact .inl rfl | exact .inr rfl | assumption) : PG X (.Name x pos) (gName i) := by
  intro pins s σ H v u Q I r h
  exact wpAny_assign_Name (store_ok I hN hi hx r (fun s' I' => ⟨_, H, I', h⟩) hf)
def gNil : TGs := fun vs σ H Q => vs = [] ∧ Q σ H
def gCons (t : TG) (u : TGs) : TGs := fun vs σ H Q => ∃ v r, vs = v :: r ∧ t v σ H fun σ' H' => u r σ' H' Q
theorem pgs_nil : PGs X [] gNil := by
  intro pins s σ H vs us Q I r h
  obtain ⟨e, h⟩ := h
  subst e
  cases r
  exact assignInOrder_nil ⟨σ, H, I, h⟩
theorem pgs_cons {e : Expr} {es : List Expr} {t : TG} {u : TGs} (h1 : PG X e t) (h2 : PGs X es u)
    (hs : (assignEach (e :: es) X.env).map (·.2) = assign e X.env :: (assignEach es X.env).map (·.2) := by rfl) : PGs X (e :: es) (gCons t u) := by
  intro pins s σ H vs us Q I r h
  obtain ⟨v, vr, e1, h⟩ := h
  subst e1
  cases r with
  | cons r rr =>
    rw [hs]
    refine assignInOrder_cons (thn (h1 pins s σ H _ _ _ I r h) fun _ s1 ⟨σ1, H1, I1, q1⟩ => ?_)
    exact h2 pins s1 σ1 H1 _ _ Q I1 rr q1
def gTup (K : PySem.W.Frag) (n : Nat) (t : TGs) : TG := fun v σ H Q => ∃ a xs, v = .ref a ∧ SqT K H a xs ∧ xs.length = n ∧ t xs σ H Q
theorem pg_tup {es : List Expr} {k : Nat} {t : TGs} {n : Nat} (hc : X.calm = true) (h : PGs X es t)
    (hn : (assignEach es X.env).length = n := by rfl) (hst : (assignEach es X.env).findIdx? (·.1) = none := by rfl) : PG X (.Tuple es k pos) (gTup X.K n t) := by
  intro pins s σ H v u Q I r hw
  obtain ⟨a, xs, e1, hq, hl, hw⟩ := hw
  subst e1
  cases r
  obtain ⟨its, rv, ht, hz⟩ := I.tuple hq
  refine assign_Tuple_tuple (I.ok.hd hc) ht (by simp [hn, ← hl, rv.length]) hst fun h' hx => ?_
  have I1 : Inv X pins σ H { s with heap := h' } := I.kept (t' := s.toks) fun b o e => hx b o (Nat.ne_of_lt (Heap.lt_size e)) e
  exact h pins _ σ H xs _ Q I1 (by simpa using rv) hw
def tAsg (te : TE) (g : TG) : TS := fun D σ H => te σ H fun x H1 => g x σ H1 D.nx
theorem ps_asg {tg e : Expr} {te : TE} {g : TG} (he : PE X e te) (hg : PG X tg g) (hs : swapsWithSole [tg] e pos.line X.env = pure false := by rfl) (hw : swappedStores [tg] e X.env = pure none := by rfl)
    (h1 : (assignEach [tg] X.env).map (·.2) = [assign tg X.env] := by rfl) : PS X (.Assign [tg] e pos) (tAsg te g) := by
  intro pins s σ H D I h
  refine wpAny_Assign_stores (thn (he pins s σ H _ I h) fun v s1 ⟨x, H1, I1, r1, q1⟩ => ?_) hs hw
  rw [h1]
  exact thn (hg pins s1 σ H1 x v _ I1 r1 q1) fun _ s2 q => q
theorem ps_set {i : Nat} {x : Str} {e : Expr} {te : TE} {pos' : Pos} (hN : X.N.Nodup) (hi : X.N[i]? = some x) (hx : Loc X.env.scope x) (he : PE X e te) (hs : swapsWith e (some (.Name x pos')) pos.line X.env = pure false := by rfl) (hf : X.fn x = true ∨ X.env.scope.names.lookup x = some .local := by first | exact .inl rfl | exact .inr rfl | assumption) :
    PS X (.Assign [.Name x pos'] e pos) (tAsg te (gName i)) := by
  intro pins s σ H D I h
  refine wpAny_Assign_Name (thn (he pins s σ H _ I h) fun v s1 ⟨y, H1, I1, r1, q1⟩ => ?_) hs
  exact store_ok I1 hN hi hx r1 (fun s2 I2 => ⟨_, H1, I2, q1⟩) hf
def tPar (i j : Nat) (ta : TA) : TS := fun D σ H => ta σ H fun vs H1 => ∃ v w, vs = [v, w] ∧ D.nx ((σ.set i (some v)).set j (some w)) H1
theorem ps_par {i j : Nat} {x y : Str} {a b : Expr} {ta : TA} {px py pt : Pos} {kt k2 pt2} (hc : X.calm = true) (hN : X.N.Nodup) (hi : X.N[i]? = some x) (hj : X.N[j]? = some y) (hij : i ≠ j)
    (hx : X.env.scope.names.lookup x = some .local) (hy : X.env.scope.names.lookup y = some .local) (ha : PA X [a, b] ta)
    (hw : swappedStores [.Tuple [.Name x px, .Name y py] kt pt] (.Tuple [a, b] k2 pt2) X.env = pure (some [x, y]))
    (hs : swapsWithSole [.Tuple [.Name x px, .Name y py] kt pt] (.Tuple [a, b] k2 pt2) pos.line X.env = pure false := by rfl) :
    PS X (.Assign [.Tuple [.Name x px, .Name y py] kt pt] (.Tuple [a, b] k2 pt2) pos) (tPar i j ta) := by
  intro pins s σ H D I h
  rw [exec_Assign_arm]
  refine wpAny_bind (wpAny_standAt ?_)
  rw [hs]
  refine wpAny_bind (wpAny_pure ?_)
  rw [if_neg (by decide)]
  refine wpAny_bind (Tuple_ (thn (ha _ pins s σ H _ I h) fun us s1 ⟨vs, H1, I1, r1, q1⟩ => ?_))
  obtain ⟨v, w, e1, q1⟩ := q1
  subst e1
  obtain ⟨u1, u2, rfl, rv, rw'⟩ : ∃ u1 u2, us = [u1, u2] ∧ RelV v u1 ∧ RelV w u2 := by
    cases r1 with
    | cons p q =>
      cases q with
      | cons p' q' =>
        cases q'
        exact ⟨_, _, rfl, p, p'⟩
  refine wpAny_newObj_type ?_ (by show 2 ≤ sizeLine; decide)
  have I2 : Inv X pins σ H1 { s1 with heap := s1.heap.push { cls := .type "tuple", data := .seq [u1, u2].toArray } } := I1.kept (t' := s1.toks) fun b o e => Heap.get?_push_of_some _ e
  rw [hw]
  refine wpAny_bind (wpAny_pure ?_)
  show wpAny (model X.prog X.w) X.A (do rule "assign.swapped-stores"; let items ← unpackItems (.ref s1.heap.objs.size) 2 none; assignInOrder [fun v => bindName X.env y v, fun v => bindName X.env x v] items.reverse; pure Flow.next) _ _ _
  refine wpAny_bind (wpAny_rule (wpAny_bind (unpackItems_tuple (items := #[u1, u2]) (I.ok.hd hc) (IsTup.new s1.heap _) fun h' hx' => ?_)))
  have I3 := I2.kept (h' := h') (t' := s1.toks) fun b o e => hx' b o (Nat.ne_of_lt (Heap.lt_size e)) e
  show wpAny _ _ (assignInOrder [fun v => bindName X.env y v, fun v => bindName X.env x v] [u2, u1] >>= fun _ => pure Flow.next) _ _ _
  refine wpAny_bind (assignInOrder_cons (wpAny_bindName (store_ok I3 hN hj (.inl hy) rw' (fun s2 I4 => ?_) (.inr hy))))
  refine assignInOrder_cons (wpAny_bindName (store_ok I4 hN hi (.inl hx) rv (fun s3 I5 => assignInOrder_nil (wpAny_pure ?_)) (.inr hx)))
  rw [List.set_comm _ _ (Ne.symm hij)] at I5
  exact ⟨_, H1, I5, q1⟩
end
section
variable {X : Cx} {pos : Pos}
def tWhile (c : TT) (tb : TS) : TS := fun D σ H => ∃ W : Nat → St → Hp → Prop, (∃ m, W m σ H) ∧ ∀ m σ H, W m σ H →
  c σ H fun b H1 => if b = true then ∃ N : St → Hp → Prop, (∀ σ' H', N σ' H' → ∃ m', m' < m ∧ W m' σ' H') ∧ tb { D with nx := N, ct := N, bk := D.nx } σ H1 else D.nx σ H1
theorem ps_while {c : Expr} {body : List Stmt} {tc : TT} {tb : TS} (hp : PassesOwn (model X.prog X.w) X.A X.env X.xe) (hc : PT X c tc) (hb : PSs X body tb) : PS X (.While c body [] pos) (tWhile tc tb) := by
  intro pins s σ H D I h
  obtain ⟨W, ⟨m0, w0⟩, turn⟩ := h
  refine wpAny_While (codeAny_whileLoop (fun n s' => ∃ σ' H', Inv X pins σ' H' s' ∧ W n σ' H') ?_ m0 ⟨σ, H, I, w0⟩)
  rintro n s1 ⟨σ1, H1, I1, w1⟩
  refine wpAny_passesOwn hp (thn (hc pins s1 σ1 H1 _ I1 (turn n σ1 H1 w1)) fun b s2 ⟨H2, I2, q2⟩ => ?_)
  cases b with
  | true =>
    obtain ⟨N, hN, q2⟩ := q2
    rw [if_pos rfl]
    refine wpAny_passesOwn hp (thn (hb pins s2 σ1 H2 _ I2 q2) fun f s3 q3 => ?_)
    cases f with
    | next =>
      obtain ⟨σ3, H3, I3, n3⟩ := q3
      obtain ⟨m', hm, w3⟩ := hN σ3 H3 n3
      exact ⟨m', hm, σ3, H3, I3, w3⟩
    | cont =>
      obtain ⟨σ3, H3, I3, n3⟩ := q3
      obtain ⟨m', hm, w3⟩ := hN σ3 H3 n3
      exact ⟨m', hm, σ3, H3, I3, w3⟩
    | brk => exact q3
    | ret v => exact q3
  | false =>
    rw [if_neg Bool.false_ne_true]
    exact wpAny_execs_nil ⟨σ1, H2, I2, q2⟩
end
structure It where
  go : Nat → Hp → Prop
  yld : Nat → Hp → V → Hp → Prop
  stop : Nat → Hp → Prop
def FpOk (X : Cx) (pins : List (Addr × Obj)) (H : Hp) (b : Addr) : Prop :=
  H b = none ∧ b ≠ X.env.locals ∧ b ∉ X.fs ∧ (b ∈ X.ex ∨ X.s₀.heap.objs.size ≤ b) ∧ (∀ x c, X.env.cells.lookup x = some c → c ≠ b) ∧ ∀ p ∈ X.pn ++ pins, p.1 ≠ b
theorem Inv.fpOk {X : Cx} {pins : List (Addr × Obj)} {σ : St} {H H' : Hp} {s : Shared} {b : Addr} (I : Inv X pins σ H s) (hb : s.heap.objs.size ≤ b) (hn : H' b = none) : FpOk X pins H' b := by
  refine ⟨hn, Nat.ne_of_gt (Nat.lt_of_lt_of_le I.lt hb), I.nofs hb, .inr (Nat.le_trans I.sz hb), fun x c e z => ?_, fun p hp z => ?_⟩
  · obtain ⟨v, q⟩ := I.cell x c e
    exact absurd (Nat.lt_of_lt_of_le q.lt (by rw [z]; exact hb)) (Nat.lt_irrefl _)
  · exact absurd (Nat.lt_of_lt_of_le (Heap.lt_size (I.pin p hp).1) (by rw [z]; exact hb)) (Nat.lt_irrefl _)
structure Turn (P : Program) (w : World) (K : PySem.W.Frag) (tg : Expr) (J : It) (fp : List Addr) (it : Addr) (tn : Nat → Heap → Prop) : Prop where
  mem : it ∈ fp
  obj : ∀ i h, tn i h → ∀ b ∈ fp, ∃ o, h.get? b = some o ∧ ∀ v, o.data ≠ .cell v
  keep : ∀ i h h', tn i h → (∀ b ∈ fp, ∀ o, h.get? b = some o → h'.get? b = some o) → tn i h'
  item : ∀ (X : Cx), X.prog = P → X.w = w → X.K = K → X.calm = true → ∀ (i : Nat) (pins : List (Addr × Obj)) (s : Shared) (σ : St) (H : Hp) (E : Value → Shared → Prop), Inv X pins σ H s → (∀ b ∈ fp, FpOk X pins H b) → tn i s.heap → J.go i H →
    wpAny (model P w) X.A (pyNext (.ref it)) (fun r s1 => ∃ u, r = some u ∧
      wpAny (model P w) X.A (letOwnedTupleGo tg (.ref it) u) (fun _ s2 => ∃ x H', Inv X pins σ H' s2 ∧ RelV x u ∧ J.yld i H x H' ∧ tn (i + 1) s2.heap ∧ ∀ b ∈ fp, H' b = none) E s1) E s
  done : ∀ (X : Cx), X.prog = P → X.w = w → X.K = K → X.calm = true → ∀ (i : Nat) (pins : List (Addr × Obj)) (s : Shared) (σ : St) (H : Hp) (E : Value → Shared → Prop), Inv X pins σ H s → (∀ b ∈ fp, FpOk X pins H b) → tn i s.heap → J.stop i H →
    wpAny (model P w) X.A (pyNext (.ref it)) (fun r s1 => r = none ∧ Inv X pins σ H s1) E s
  self : ∀ (A : Around) (i : Nat) (s : Shared) (Q : Value → Shared → Prop) (E : Value → Shared → Prop), tn i s.heap → Q (.ref it) s → wpAny (model P w) A (pyIter (.ref it)) Q E s
abbrev TI := St → Hp → (It → Hp → Prop) → Prop
def PIE (X : Cx) (pins : List (Addr × Obj)) (σ : St) (tg : Expr) (R : It → Hp → Prop) (itv : Value) (s2 : Shared) : Prop :=
  ∃ (it : Addr) (fp : List Addr) (tn : Nat → Heap → Prop) (J : It) (H' : Hp), itv = .ref it ∧ Inv X pins σ H' s2 ∧ Turn X.prog X.w X.K tg J fp it tn ∧ tn 0 s2.heap ∧ (∀ b ∈ fp, FpOk X pins H' b) ∧ R J H'
def PI (X : Cx) (tg iter : Expr) (wi : TI) : Prop :=
  ∀ (pins : List (Addr × Obj)) (s : Shared) (σ : St) (H : Hp) (R : It → Hp → Prop), Inv X pins σ H s → wi σ H R →
    wpAny (model X.prog X.w) X.A (eval iter X.env) (fun v s1 => wpAny (model X.prog X.w) X.A (pyIter v) (PIE X pins σ tg R) X.xe s1) X.xe s
theorem go_of {M : Model} {A : Around} {E : Value → Shared → Prop} {s : Shared} {tg : Expr} {it : Addr} {u : Value} {o : Obj} {n : String} {vs : Array Value} {Q : Unit → Shared → Prop} (ho : s.heap.get? it = some o) (hc : o.cls = .type n) (hd : o.data = .fields vs)
    (hn : ["enumerate", "zip", "dict_itemiterator", "dict_reverseitemiterator", "odict_iterator", "itertools.zip_longest", "itertools.pairwise"].contains n = false) (hQ : Q () s) : wpAny M A (letOwnedTupleGo tg (.ref it) u) Q E s := by
  unfold letOwnedTupleGo
  cases tg <;> first
    | exact wpAny_pure hQ
    | (cases u <;> first
        | exact wpAny_pure hQ
        | (refine wpAny_bind (wpAny_load ho ?_)
           rw [hc, hd]
           show wpAny M A (if (["enumerate", "zip", "dict_itemiterator", "dict_reverseitemiterator", "odict_iterator", "itertools.zip_longest", "itertools.pairwise"].contains n && vs[0]? == some (rawInt _)) = true then _ else _) Q E s
           rw [if_neg (by intro h; rw [hn, Bool.false_and] at h; cases h)]
           exact wpAny_pure hQ))
def Itl (K : PySem.W.Frag) (a : Addr) : It :=
  ⟨fun i H => ∃ xs x, SqL K H a xs ∧ xs[i]? = some x, fun i H x H' => H' = H ∧ ∀ xs, SqL K H a xs → xs[i]? = some x, fun i H => ∃ xs, SqL K H a xs ∧ xs.length ≤ i⟩
def Itr (lo : Int) (n : Nat) : It := ⟨fun i _ => i < n, fun i H x H' => H' = H ∧ x = .int (lo + i), fun i _ => n ≤ i⟩
theorem turn_list {P : Program} {w : World} {K : PySem.W.Frag} {tg : Expr} (a it : Addr) : Turn P w K tg (Itl K a) [it] it (fun i h => h.IsListIter it a i) where
  mem := by simp
  obj := fun i h st b hb => by
    have e : b = it := by simpa using hb
    subst e
    obtain ⟨o, e, c, d⟩ := st
    exact ⟨o, e, fun v z => by rw [d] at z; cases z⟩
  keep := fun i h h' st k => st.at fun o e => k it (by simp) o e
  item := by
    intro X hP hw hK hc i pins s σ H E I hf st hg
    subst hP hw hK
    obtain ⟨xs, x, hq, hx⟩ := hg
    obtain ⟨its, rv, p, hz⟩ := I.list hq
    obtain ⟨u, hu, ru⟩ := rv.get hx
    obtain ⟨f0, f1, f2, f3, f4, f5⟩ := hf it (by simp)
    refine wpAny_pyNext_list_item st p.isList (x := u) (by simpa using hu) fun h' st' sb => ?_
    have I1 : Inv X pins σ H { s with heap := h' } := I.turned (t' := s.toks) (fun b o hb e => (sb.2 b hb).trans e) f0 f1 f3 f4 f5
    obtain ⟨o, e, c, d⟩ := id st'
    exact ⟨u, rfl, go_of (s := { s with heap := h' }) e c d (by decide) ⟨x, H, I1, ru, ⟨rfl, fun ys hy => by rw [I.list_inj hy hq]; exact hx⟩, st', fun b hb => (hf b hb).1⟩⟩
  done := by
    intro X hP hw hK hc i pins s σ H E I hf st hg
    subst hP hw hK
    obtain ⟨xs, hq, hx⟩ := hg
    obtain ⟨its, rv, p, hz⟩ := I.list hq
    obtain ⟨f0, f1, f2, f3, f4, f5⟩ := hf it (by simp)
    have hl := rv.length
    exact wpAny_pyNext_list_end (I.ok.hd hc) st p.isList (by simp; omega) fun h' eb => ⟨rfl, I.turned (t' := s.toks) (fun b o hb e => eb b o hb e) f0 f1 f3 f4 f5⟩
  self := fun _ _ _ _ _ st h => wpAny_pyIter_listiter st h
theorem turn_range {P : Program} {w : World} {K : PySem.W.Frag} {tg : Expr} (it : Addr) (lo : Int) (n : Nat) : Turn P w K tg (Itr lo n) [it] it (fun i h => IsRangeIter h it (lo + (i : Nat) * 1) ((n : Int) - (i : Nat)) 1) where
  mem := by simp
  obj := fun i h st b hb => by
    have e : b = it := by simpa using hb
    subst e
    exact ⟨_, st, fun v z => by
      have z' : Data.fields _ = Data.cell v := z
      cases z'⟩
  keep := fun i h h' st k => k it (by simp) _ st
  item := by
    intro X hP hw hK hc i pins s σ H E I hf st hg
    subst hP hw hK
    obtain ⟨f0, f1, f2, f3, f4, f5⟩ := hf it (by simp)
    have W := Walks.range (prog := X.prog) (w := X.w) (I.ok.hd hc) it lo 1 n
    refine W.item i s _ _ hg st fun v h' tk hv st' kk => ?_
    obtain ⟨t, rfl⟩ := hv
    have I1 : Inv X pins σ H { s with heap := h', toks := tk } := I.turned (fun b o hb e => kk b o (by simpa using hb) e) f0 f1 f3 f4 f5
    refine ⟨_, rfl, go_of (s := { s with heap := h', toks := tk }) (n := "range_iterator") st' rfl rfl (by decide) ⟨.int (lo + i), H, I1, ⟨t, ?_⟩, ⟨rfl, rfl⟩, st', fun b hb => (hf b hb).1⟩⟩
    rw [Int.mul_one]
  done := by
    intro X hP hw hK hc i pins s σ H E I hf st hg
    subst hP hw hK
    obtain ⟨f0, f1, f2, f3, f4, f5⟩ := hf it (by simp)
    exact wpAny_pyNext_range_end (I.ok.hd hc) st (by have : n ≤ i := hg; omega) fun h' eb => ⟨rfl, I.turned (t' := s.toks) (fun b o hb e => eb b o hb e) f0 f1 f3 f4 f5⟩
  self := fun _ _ _ _ _ st h => wpAny_pyIter_rangeiter st h
end L2
namespace L2
open PySem PySem.Spec PyProof.Rows
section
variable {X : Cx} {tg : Expr}
def iList (K : PySem.W.Frag) (tl : TE) : TI := fun σ H R => tl σ H fun x H1 => ∃ a, x = .ref a ∧ (∃ xs, SqL K H1 a xs) ∧ R (Itl K a) H1
theorem pi_list {l : Expr} {tl : TE} (hl : PE X l tl) : PI X tg l (iList X.K tl) := by
  intro pins s σ H R I h
  refine thn (hl pins s σ H _ I h) fun v s1 ⟨x, H1, I1, r1, q1⟩ => ?_
  obtain ⟨a, e, ⟨xs, hq⟩, q⟩ := q1
  subst e
  cases r1
  obtain ⟨its, rv, p, hz⟩ := I1.list hq
  refine wpAny_pyIter_list p.isList ?_
  refine ⟨s1.heap.objs.size, [s1.heap.objs.size], _, _, H1, rfl, I1.kept (t' := s1.toks) fun b o e => Heap.get?_push_of_some _ e, turn_list a _, ⟨_, Heap.get?_push_size _ rfl, rfl, rfl⟩, fun b hb => ?_, q⟩
  have e : b = s1.heap.objs.size := by simpa using hb
  subst e
  exact I1.fpOk (Nat.le_refl _) (I1.hok.fresh (Nat.le_refl _))
theorem range_it {pins : List (Addr × Obj)} {σ : St} {H : Hp} {s : Shared} {R : It → Hp → Prop} {E : Value → Shared → Prop} {lo hi : Int} {t u v : Tok} {tk : Nat} (I : Inv X pins σ H s) (h1 : -(2 ^ 62) ≤ lo) (h2 : lo < 2 ^ 62) (h3 : -(2 ^ 62) ≤ hi) (h4 : hi < 2 ^ 62)
    (q : R (Itr lo (hi - lo).toNat) H) : wpAny (model X.prog X.w) X.A (pyIter (.ref s.heap.objs.size)) (PIE X pins σ tg R) E { s with heap := s.heap.push { cls := .type "range", data := .fields #[.int lo t, .int hi u, .int 1 v] }, toks := tk } := by
  refine wpAny_pyIter_range (IsRange.new ..) (small_one h1 h2 h3 h4) ?_
  have I1 : Inv X pins σ H { s with heap := s.heap.push { cls := .type "range", data := .fields #[.int lo t, .int hi u, .int 1 v] }, toks := tk } := I.kept fun b o e => Heap.get?_push_of_some _ e
  refine ⟨(s.heap.push { cls := .type "range", data := .fields #[.int lo t, .int hi u, .int 1 v] }).objs.size, [(s.heap.push { cls := .type "range", data := .fields #[.int lo t, .int hi u, .int 1 v] }).objs.size], _, _, H, rfl,
    I1.kept (t' := tk) fun b o e => Heap.get?_push_of_some _ e, turn_range _ lo (hi - lo).toNat, ?_, fun b hb => ?_, q⟩
  · have e1 : lo + ((0 : Nat) : Int) * 1 = lo := by simp
    have e2 : (((hi - lo).toNat : Nat) : Int) - ((0 : Nat) : Int) = Builtin.Range.rangeSize lo hi 1 := by rw [rangeSize_one]; split <;> omega
    show IsRangeIter _ _ (lo + ((0 : Nat) : Int) * 1) ((((hi - lo).toNat : Nat) : Int) - ((0 : Nat) : Int)) 1
    rw [e1, e2]
    exact Heap.get?_push_size _ rfl
  · have e : b = (s.heap.push { cls := .type "range", data := .fields #[.int lo t, .int hi u, .int 1 v] }).objs.size := by simpa using hb
    subst e
    exact I1.fpOk (Nat.le_refl _) (I1.hok.fresh (Nat.le_refl _))
def iRng1 (ta : TA) : TI := fun σ H R => ta σ H fun vs H1 => ∃ j : Int, vs = [.int j] ∧ -(2 ^ 62) ≤ j ∧ j < 2 ^ 62 ∧ R (Itr 0 j.toNat) H1
theorem pi_range1 {a : Expr} {ta : TA} {p pos : Pos} (hg : Gl X "range") (hm : X.mg "range" = none) (ha : PA X [a] ta) (hs : starEach [a] X.env = [(false, eval a X.env)] := by rfl) : PI X tg (.Call (.Name "range" p) [a] [] pos) (iRng1 ta) := by
  intro pins s σ H R I h
  refine Call_ (ld_blt I hg hm boot_range (PyProof.Rows.callWith_type1 (thn (ha pos pins s σ H _ I h) fun us s1 ⟨vs, H1, I1, r1, q1⟩ => ?_) hs rfl))
  obtain ⟨j, e, q1, q2, q⟩ := q1
  subst e
  cases r1 with
  | cons r rr =>
    cases rr
    obtain ⟨t, rfl⟩ := r
    exact call_range_1 (range_it I1 (by omega) (by omega) q1 q2 (by simpa using q))
def tFor (wi : TI) (g : TG) (tb : TS) : TS := fun D σ H => wi σ H fun J H1 => ∃ W : Nat → Nat → St → Hp → Prop, (∃ m, W 0 m σ H1) ∧ ∀ i m σ H, W i m σ H →
  (J.stop i H ∧ D.nx σ H) ∨ (J.go i H ∧ ∃ N : St → Hp → Prop, (∀ σ' H', N σ' H' → ∃ m', m' < m ∧ W (i + 1) m' σ' H') ∧ ∀ x H', J.yld i H x H' → g x σ H' fun σ2 H2 => tb { D with nx := N, ct := N, bk := D.nx } σ2 H2)
def pinsAt (fp : List Addr) (h : Heap) : List (Addr × Obj) := fp.filterMap fun b => (h.get? b).map fun o => (b, o)
theorem mem_pinsAt {fp : List Addr} {h : Heap} {b : Addr} {o : Obj} (hb : b ∈ fp) (e : h.get? b = some o) : (b, o) ∈ pinsAt fp h := List.mem_filterMap.mpr ⟨b, hb, by rw [e]; rfl⟩
theorem of_pinsAt {fp : List Addr} {h : Heap} {p : Addr × Obj} (hp : p ∈ pinsAt fp h) : p.1 ∈ fp ∧ h.get? p.1 = some p.2 := by
  obtain ⟨b, hb, e⟩ := List.mem_filterMap.mp hp
  cases q : h.get? b with
  | none => rw [q] at e; cases e
  | some o =>
    rw [q] at e
    have e' : (b, o) = p := Option.some.inj e
    subst e'
    exact ⟨hb, q⟩
theorem Inv.pinned {pins : List (Addr × Obj)} {σ : St} {H : Hp} {s : Shared} {fp : List Addr} (I : Inv X pins σ H s) (hf : ∀ b ∈ fp, FpOk X pins H b) (ho : ∀ b ∈ fp, ∃ o, s.heap.get? b = some o ∧ ∀ v, o.data ≠ .cell v) : Inv X (pins ++ pinsAt fp s.heap) σ H s :=
  I.pins_of fun p hp => (List.mem_append.mp hp).elim (fun z => I.pin p (List.mem_append_right _ z)) fun z => by
    obtain ⟨hb, e⟩ := of_pinsAt z
    obtain ⟨f0, f1, f2, _⟩ := hf p.1 hb
    obtain ⟨o, e', d⟩ := ho p.1 hb
    rw [e] at e'; cases e'
    exact ⟨e, f0, f1, f2, d⟩
theorem Inv.unpinned {pins pl : List (Addr × Obj)} {σ : St} {H : Hp} {s : Shared} (I : Inv X (pins ++ pl) σ H s) : Inv X pins σ H s := I.pins_of fun p hp => I.pin p (List.mem_append_right _ (List.mem_append_left _ hp))
theorem ps_for {iter : Expr} {body : List Stmt} {wi : TI} {g : TG} {tb : TS} {pos : Pos} (hp : PassesOwn (model X.prog X.w) X.A X.env X.xe) (hc : X.calm = true) (hi : PI X tg iter wi) (hg : PG X tg g) (hb : PSs X body tb)
    (hs : ∀ x, foldedSetIterable iter X.env x = pure x := by intro _; rfl) : PS X (.For tg iter body [] pos) (tFor wi g tb) := by
  intro pins s σ H D I h
  refine wpAny_For (thn (hi pins s σ H _ I h) fun v s1 h1 => thn h1 fun itv s2 h2 => ?_) hs
  obtain ⟨it, fp, tn, J, H2, e, I2, T, st2, f2, W, ⟨m0, w0⟩, turn⟩ := h2
  subst e
  -- what stays true of the iterator's objects through the loop
  have stat : ∀ {H' : Hp}, (∀ b ∈ fp, H' b = none) → ∀ b ∈ fp, FpOk X pins H' b := fun hn b hb => ⟨hn b hb, (f2 b hb).2⟩
  refine codeAny_forLoop_any (fun n s' => ∃ i σ' H', Inv X pins σ' H' s' ∧ tn i s'.heap ∧ (∀ b ∈ fp, H' b = none) ∧ W i n σ' H') ?_ m0 ⟨0, σ, H2, I2, st2, fun b hb => (f2 b hb).1, w0⟩
  rintro n s3 ⟨i, σ3, H3, I3, st3, fr3, w3⟩
  rcases turn i n σ3 H3 w3 with ⟨stop, qn⟩ | ⟨go, N, hN, step⟩
  · refine wpAny_passesOwn hp (thn (T.done X rfl rfl rfl hc i pins s3 σ3 H3 X.xe I3 (stat fr3) st3 stop) fun r s4 ⟨hr, I4⟩ => ?_)
    subst hr
    exact wpAny_execs_nil ⟨σ3, H3, I4, qn⟩
  · refine wpAny_passesOwn hp (thn (T.item X rfl rfl rfl hc i pins s3 σ3 H3 X.xe I3 (stat fr3) st3 go) fun r s4 ⟨u, hr, h4⟩ => ?_)
    subst hr
    refine wpAny_passesOwn hp (thn h4 fun _ s5 ⟨x, H5, I5, r5, y5, st5, fr5⟩ => ?_)
    have I5' := I5.pinned (stat fr5) (T.obj _ _ st5)
    refine wpAny_passesOwn hp (thn (hg _ s5 σ3 H5 x u _ I5' r5 (step x H5 y5)) fun _ s6 ⟨σ6, H6, I6, q6⟩ => ?_)
    refine wpAny_passesOwn hp (thn (hb _ s6 σ6 H6 _ I6 q6) fun f s7 q7 => ?_)
    have again : ∀ {σ7 : St} {H7 : Hp}, Inv X (pins ++ pinsAt fp s5.heap) σ7 H7 s7 → N σ7 H7 → ∃ m, m < n ∧ ∃ i σ' H', Inv X pins σ' H' s7 ∧ tn i s7.heap ∧ (∀ b ∈ fp, H' b = none) ∧ W i m σ' H' := fun {σ7 H7} I7 n7 => by
      obtain ⟨m', hm, w7⟩ := hN σ7 H7 n7
      refine ⟨m', hm, i + 1, σ7, H7, I7.unpinned, T.keep _ _ _ st5 fun b hb o e => (I7.pin (b, o) (List.mem_append_right _ (List.mem_append_right _ (mem_pinsAt hb e)))).1, fun b hb => ?_, w7⟩
      obtain ⟨o, e, d⟩ := T.obj _ _ st5 b hb
      exact (I7.pin (b, o) (List.mem_append_right _ (List.mem_append_right _ (mem_pinsAt hb e)))).2.1
    cases f with
    | next => obtain ⟨σ7, H7, I7, n7⟩ := q7; exact again I7 n7
    | cont => obtain ⟨σ7, H7, I7, n7⟩ := q7; exact again I7 n7
    | brk => obtain ⟨σ7, H7, I7, q7⟩ := q7; exact ⟨σ7, H7, I7.unpinned, q7⟩
    | ret v => obtain ⟨x7, σ7, H7, I7, r7, q7⟩ := q7; exact ⟨x7, σ7, H7, I7.unpinned, r7, q7⟩
end
theorem for_list {K : PySem.W.Frag} {a : Addr} {xs : List V} {g : TG} {tb : TS} {D : Ends} {σ : St} {H : Hp} (Pv : Nat → St → Hp → Prop) (h0 : Pv 0 σ H) (hl : ∀ i σ H, i ≤ xs.length → Pv i σ H → SqL K H a xs)
    (hs : ∀ i x σ H, xs[i]? = some x → Pv i σ H → g x σ H fun σ2 H2 => tb { D with nx := Pv (i + 1), ct := Pv (i + 1), bk := D.nx } σ2 H2) (hd : ∀ σ H, Pv xs.length σ H → D.nx σ H) :
    ∃ W : Nat → Nat → St → Hp → Prop, (∃ m, W 0 m σ H) ∧ ∀ i m σ H, W i m σ H →
      ((Itl K a).stop i H ∧ D.nx σ H) ∨ ((Itl K a).go i H ∧ ∃ N : St → Hp → Prop, (∀ σ' H', N σ' H' → ∃ m', m' < m ∧ W (i + 1) m' σ' H') ∧ ∀ x H', (Itl K a).yld i H x H' → g x σ H' fun σ2 H2 => tb { D with nx := N, ct := N, bk := D.nx } σ2 H2) := by
  refine ⟨fun i m σ H => m = xs.length - i ∧ i ≤ xs.length ∧ Pv i σ H, ⟨xs.length, by simp, Nat.zero_le _, h0⟩, ?_⟩
  rintro i m σ H ⟨rfl, hi, p⟩
  have q := hl i σ H hi p
  by_cases hlt : i < xs.length
  · refine .inr ⟨⟨xs, xs[i], q, by simp [hlt]⟩, Pv (i + 1), fun σ' H' p' => ⟨xs.length - (i + 1), by omega, rfl, hlt, p'⟩, fun x H' y => ?_⟩
    obtain ⟨e, y⟩ := y
    subst e
    exact hs i x σ _ (y xs q) p
  · have e : i = xs.length := by omega
    subst e
    exact .inl ⟨⟨xs, q, Nat.le_refl _⟩, hd σ H p⟩
theorem for_range {lo : Int} {n : Nat} {g : TG} {tb : TS} {D : Ends} {σ : St} {H : Hp} (Pv : Nat → St → Hp → Prop) (h0 : Pv 0 σ H)
    (hs : ∀ i σ H, i < n → Pv i σ H → g (.int (lo + i)) σ H fun σ2 H2 => tb { D with nx := Pv (i + 1), ct := Pv (i + 1), bk := D.nx } σ2 H2) (hd : ∀ σ H, Pv n σ H → D.nx σ H) :
    ∃ W : Nat → Nat → St → Hp → Prop, (∃ m, W 0 m σ H) ∧ ∀ i m σ H, W i m σ H →
      ((Itr lo n).stop i H ∧ D.nx σ H) ∨ ((Itr lo n).go i H ∧ ∃ N : St → Hp → Prop, (∀ σ' H', N σ' H' → ∃ m', m' < m ∧ W (i + 1) m' σ' H') ∧ ∀ x H', (Itr lo n).yld i H x H' → g x σ H' fun σ2 H2 => tb { D with nx := N, ct := N, bk := D.nx } σ2 H2) := by
  refine ⟨fun i m σ H => m = n - i ∧ i ≤ n ∧ Pv i σ H, ⟨n, by simp, Nat.zero_le _, h0⟩, ?_⟩
  rintro i m σ H ⟨rfl, hi, p⟩
  by_cases hlt : i < n
  · refine .inr ⟨hlt, Pv (i + 1), fun σ' H' p' => ⟨n - (i + 1), by omega, rfl, hlt, p'⟩, fun x H' y => ?_⟩
    obtain ⟨e, y⟩ := y
    subst e y
    exact hs i σ _ hlt p
  · have e : i = n := by omega
    subst e
    exact .inl ⟨Nat.le_refl _, hd σ H p⟩
theorem while_by {c : TT} {tb : TS} {D : Ends} {σ : St} {H : Hp} (Pv : St → Hp → Prop) (μ : St → Hp → Nat) (h0 : Pv σ H)
    (hs : ∀ σ H, Pv σ H → c σ H fun b H1 => if b = true then tb { D with nx := fun σ' H' => Pv σ' H' ∧ μ σ' H' < μ σ H, ct := fun σ' H' => Pv σ' H' ∧ μ σ' H' < μ σ H, bk := D.nx } σ H1 else D.nx σ H1)
    (mono : ∀ σ H Q Q', (∀ b H1, Q b H1 → Q' b H1) → c σ H Q → c σ H Q') : tWhile c tb D σ H := by
  refine ⟨fun m σ H => m = μ σ H ∧ Pv σ H, ⟨_, rfl, h0⟩, ?_⟩
  rintro m σ H ⟨rfl, p⟩
  refine mono σ H _ _ (fun b H1 q => ?_) (hs σ H p)
  cases b with
  | true => exact ⟨_, fun σ' H' ⟨p', l⟩ => ⟨_, l, rfl, p'⟩, q⟩
  | false => exact q
end L2
namespace L2
open PySem PySem.Spec PyProof.Rows
abbrev R2 := V → V → Hp → VK → Prop
def OpR (X : Cx) (f : Value → Value → Sem Value) (r : R2) : Prop :=
  ∀ (pins : List (Addr × Obj)) (s : Shared) (σ : St) (H : Hp) (x y : V) (v u : Value) (Q : VK), Inv X pins σ H s → RelV x v → RelV y u → r x y H Q →
    wpAny (model X.prog X.w) X.A (f v u) (EP X pins σ Q) X.xe s
def UnR (X : Cx) (f : Value → Sem Value) (r : V → Hp → VK → Prop) : Prop :=
  ∀ (pins : List (Addr × Obj)) (s : Shared) (σ : St) (H : Hp) (x : V) (v : Value) (Q : VK), Inv X pins σ H s → RelV x v → r x H Q →
    wpAny (model X.prog X.w) X.A (f v) (EP X pins σ Q) X.xe s
def CallR (X : Cx) (f : Value) (r : List V → Hp → VK → Prop) : Prop :=
  ∀ (pins : List (Addr × Obj)) (s : Shared) (σ : St) (H : Hp) (xs : List V) (us : List Value) (Q : VK), Inv X pins σ H s → Vals xs us → r xs H Q →
    wpAny (model X.prog X.w) X.A (call f us) (EP X pins σ Q) X.xe s
def tOp (r : R2) (ta tb : TE) : TE := fun σ H Q => ta σ H fun x H1 => tb σ H1 fun y H2 => r x y H2 Q
def tUn (r : V → Hp → VK → Prop) (ta : TE) : TE := fun σ H Q => ta σ H fun x H1 => r x H1 Q
def rI (C : Int → Int → Prop) (g : Int → Int → V) : R2 := fun x y H Q => ∃ i j, x = .int i ∧ y = .int j ∧ C i j ∧ Q (g i j) H
def rI0 (g : Int → Int → V) : R2 := fun x y H Q => ∃ i j, x = .int i ∧ y = .int j ∧ Q (g i j) H
def rU (g : Int → V) : V → Hp → VK → Prop := fun x H Q => ∃ i, x = .int i ∧ Q (g i) H
section
variable {X : Cx} {a b c : Expr} {ta tb tc : TE} {pos : Pos}
theorem binT (ha : PE X a ta) (hb : PE X b tb) {pins : List (Addr × Obj)} {s : Shared} {σ : St} {H : Hp} {R : V → V → Hp → Prop} (I : Inv X pins σ H s)
    (h : ta σ H fun x H1 => tb σ H1 fun y H2 => R x y H2) {Q : Value → Shared → Prop} {f : Value → Value → Sem Value}
    (hf : ∀ v u s2 x y H2, Inv X pins σ H2 s2 → RelV x v → RelV y u → R x y H2 → wpAny (model X.prog X.w) X.A (f v u) Q X.xe s2) :
    wpAny (model X.prog X.w) X.A (eval a X.env) (fun v s₁ => wpAny (model X.prog X.w) X.A (eval b X.env) (fun u s₂ => wpAny (model X.prog X.w) X.A (f v u) Q X.xe s₂) X.xe s₁) X.xe s := by
  refine thn (ha pins s σ H _ I h) fun v s1 ⟨x, H1, I1, r1, q1⟩ => ?_
  refine thn (hb pins s1 σ H1 _ I1 q1) fun u s2 ⟨y, H2, I2, r2, q2⟩ => ?_
  exact hf v u s2 x y H2 I2 r1 r2 q2
theorem pe_op {op : Operator} {r : R2} (ho : OpR X (binaryOp op) r) (ha : PE X a ta) (hb : PE X b tb) : PE X (.BinOp a op b pos) (tOp r ta tb) := by
  intro pins s σ H Q I h
  exact wpAny_BinOp (binT ha hb I h fun v u s2 x y H2 I2 rx ry q => ho pins s2 σ H2 x y v u Q I2 rx ry q)
theorem pe_un {op : UnaryOp} {r : V → Hp → VK → Prop} (ho : UnR X (unaryOp op) r) (ha : PE X a ta) : PE X (.UnaryOp op a pos) (tUn r ta) := by
  intro pins s σ H Q I h
  exact UnaryOp_ (thn (ha pins s σ H _ I h) fun v s1 ⟨x, H1, I1, r1, q1⟩ => ho pins s1 σ H1 x v Q I1 r1 q1)
theorem opI {f : Value → Value → Sem Value} {C : Int → Int → Prop} {g : Int → Int → Int}
    (rule : ∀ (i j : Int) (t u : Tok) (s : Shared) (Q : Value → Shared → Prop) (E : Value → Shared → Prop), C i j → Q (.int (g i j) s.toks) { s with toks := s.toks + 1 } → wpAny (model X.prog X.w) X.A (f (.int i t) (.int j u)) Q E s) :
    OpR X f (rI C fun i j => .int (g i j)) := by
  intro pins s σ H x y v u Q I rx ry h
  obtain ⟨i, j, rfl, rfl, hc, q⟩ := h
  obtain ⟨t, rfl⟩ := rx
  obtain ⟨t', rfl⟩ := ry
  exact rule i j t t' s _ _ hc ⟨.int (g i j), H, I.tok _, ⟨_, rfl⟩, q⟩
theorem opI0 {f : Value → Value → Sem Value} {g : Int → Int → Int}
    (rule : ∀ (i j : Int) (t u : Tok) (s : Shared) (Q : Value → Shared → Prop) (E : Value → Shared → Prop), Q (.int (g i j) s.toks) { s with toks := s.toks + 1 } → wpAny (model X.prog X.w) X.A (f (.int i t) (.int j u)) Q E s) :
    OpR X f (rI0 fun i j => .int (g i j)) := by
  intro pins s σ H x y v u Q I rx ry h
  obtain ⟨i, j, rfl, rfl, q⟩ := h
  obtain ⟨t, rfl⟩ := rx
  obtain ⟨t', rfl⟩ := ry
  exact rule i j t t' s _ _ ⟨.int (g i j), H, I.tok _, ⟨_, rfl⟩, q⟩
theorem opB0 {f : Value → Value → Sem Value} {g : Int → Int → Bool}
    (rule : ∀ (i j : Int) (t u : Tok) (s : Shared) (Q : Value → Shared → Prop) (E : Value → Shared → Prop), Q (.bool (g i j)) s → wpAny (model X.prog X.w) X.A (f (.int i t) (.int j u)) Q E s) :
    OpR X f (rI0 fun i j => .bl (g i j)) := by
  intro pins s σ H x y v u Q I rx ry h
  obtain ⟨i, j, rfl, rfl, q⟩ := h
  obtain ⟨t, rfl⟩ := rx
  obtain ⟨t', rfl⟩ := ry
  exact rule i j t t' s _ _ ⟨.bl (g i j), H, I, rfl, q⟩
def CPow (i j : Int) : Prop := 0 ≤ j ∧ j ≤ 1000000 ∧ i.natAbs < 2 ^ 64
theorem op_add : OpR X (binaryOp .Add) (rI0 fun i j => .int (i + j)) := opI0 fun _ _ _ _ _ _ _ q => add_int q
theorem op_sub : OpR X (binaryOp .Sub) (rI0 fun i j => .int (i - j)) := opI0 fun _ _ _ _ _ _ _ q => sub_int q
theorem op_mod : OpR X (binaryOp .Mod) (rI (fun _ j => 0 < j) fun i j => .int (i % j)) := opI fun i j _ _ _ _ _ hc q => by
  have h1 : (0 : Int) < j := hc
  exact mod_int' (by omega) (by rw [Int.fmod_eq_emod_of_nonneg i (by omega)]; exact q)
theorem op_pow : OpR X (binaryOp .Pow) (rI CPow fun i j => .int (i ^ j.toNat)) := opI fun _ _ _ _ _ _ _ hc q => pow_int_small hc.1 hc.2.1 hc.2.2 q
theorem unI {f : Value → Sem Value} {g : Int → Int}
    (rule : ∀ (i : Int) (t : Tok) (s : Shared) (Q : Value → Shared → Prop) (E : Value → Shared → Prop), Q (.int (g i) s.toks) { s with toks := s.toks + 1 } → wpAny (model X.prog X.w) X.A (f (.int i t)) Q E s) :
    UnR X f (rU fun i => .int (g i)) := by
  intro pins s σ H x v Q I rx h
  obtain ⟨i, rfl, q⟩ := h
  obtain ⟨t, rfl⟩ := rx
  exact rule i t s _ _ ⟨.int (g i), H, I.tok _, ⟨_, rfl⟩, q⟩
theorem un_neg : UnR X (unaryOp .USub) (rU fun i => .int (-i)) := unI fun _ _ _ _ _ q => neg_int q
end
def scal : V → V → Bool
  | .non, .non => true | .non, .int _ => true | .int _, .non => true | .non, .bl _ => true | .bl _, .non => true | .non, .str _ => true | .str _, .non => true
  | .int _, .int _ => true | .bl _, .bl _ => true | .str _, .str _ => true | .byt _, .byt _ => true
  | .int _, .str _ => true | .str _, .int _ => true | .bl _, .str _ => true | .str _, .bl _ => true
  | _, _ => false
def rEq : R2 := fun x y H Q => scal x y = true ∧ Q (.bl (decide (x = y))) H
def rNe : R2 := fun x y H Q => scal x y = true ∧ Q (.bl (!decide (x = y))) H
theorem dec_int {i j : Int} : decide (V.int i = V.int j) = (i == j) := by
  rw [Bool.eq_iff_iff]
  simp
theorem dec_bl {i j : Bool} : decide (V.bl i = V.bl j) = (i == j) := by
  rw [Bool.eq_iff_iff]
  simp
theorem dec_str {i j : Str} : decide (V.str i = V.str j) = (i == j) := by
  rw [Bool.eq_iff_iff]
  simp
theorem dec_byt {i j : Array UInt8} : decide (V.byt i = V.byt j) = (i.toList == j.toList) := by
  rw [Bool.eq_iff_iff]
  cases i
  cases j
  simp
section
variable {X : Cx} {a b c : Expr} {ta tb tc : TE} {pos : Pos}
theorem fin_bl {pins : List (Addr × Obj)} {σ : St} {H : Hp} {s : Shared} {Q : VK} {k k' : Bool} (I : Inv X pins σ H s) (q : Q (.bl k) H) (e : k = k') : EP X pins σ Q (.bool k') s := by
  subst e
  exact ⟨.bl k, H, I, rfl, q⟩
theorem op_eq : OpR X (compareOp .Eq) rEq := by
  intro pins s σ H x y v u Q I rx ry h
  obtain ⟨hs, q⟩ := h
  cases x with
  | non =>
    cases rx
    cases y with
    | non => cases ry; exact PySem.EqNone.eq_none_none (fin_bl I q (by simp))
    | bl j => cases ry; exact PySem.EqNone.eq_none_bool (fin_bl I q (by simp))
    | int j => obtain ⟨t', rfl⟩ := ry; exact PySem.EqNone.eq_none_int (fin_bl I q (by simp))
    | str j => obtain ⟨t', rfl⟩ := ry; exact PySem.EqNone.eq_none_str (fin_bl I q (by simp))
    | _ => exact absurd (show false = true from hs) Bool.false_ne_true
  | bl i =>
    cases rx
    cases y with
    | non => cases ry; exact PySem.EqNone.eq_bool_none (fin_bl I q (by simp))
    | bl j => cases ry; exact eq_bool (fin_bl I q dec_bl)
    | str j => obtain ⟨t', rfl⟩ := ry; exact PySem.EqMixed.eq_bool_str (fin_bl I q (by simp))
    | _ => exact absurd (show false = true from hs) Bool.false_ne_true
  | int i =>
    obtain ⟨t, rfl⟩ := rx
    cases y with
    | non => cases ry; exact PySem.EqNone.eq_int_none (fin_bl I q (by simp))
    | int j => obtain ⟨t', rfl⟩ := ry; exact eq_int (fin_bl I q dec_int)
    | str j => obtain ⟨t', rfl⟩ := ry; exact PySem.EqMixed.eq_int_str (fin_bl I q (by simp))
    | _ => exact absurd (show false = true from hs) Bool.false_ne_true
  | str i =>
    obtain ⟨t, rfl⟩ := rx
    cases y with
    | non => cases ry; exact PySem.EqNone.eq_str_none (fin_bl I q (by simp))
    | bl j => cases ry; exact PySem.EqMixed.eq_str_bool (fin_bl I q (by simp))
    | int j => obtain ⟨t', rfl⟩ := ry; exact PySem.EqMixed.eq_str_int (fin_bl I q (by simp))
    | str j => obtain ⟨t', rfl⟩ := ry; exact eq_str (fin_bl I q dec_str)
    | _ => exact absurd (show false = true from hs) Bool.false_ne_true
  | byt i =>
    obtain ⟨t, rfl⟩ := rx
    cases y with
    | byt j => obtain ⟨t', rfl⟩ := ry; exact PySem.W.eq_bytes (fin_bl I q dec_byt)
    | _ => exact absurd (show false = true from hs) Bool.false_ne_true
  | _ => cases y <;> exact absurd (show false = true from hs) Bool.false_ne_true
theorem op_ne : OpR X (compareOp .NotEq) rNe := by
  intro pins s σ H x y v u Q I rx ry h
  obtain ⟨hs, q⟩ := h
  cases x with
  | non =>
    cases rx
    cases y with
    | non => cases ry; exact PySem.EqNone.ne_none_none (fin_bl I q (by simp))
    | bl j => cases ry; exact PySem.EqNone.ne_none_bool (fin_bl I q (by simp))
    | int j => obtain ⟨t', rfl⟩ := ry; exact PySem.EqNone.ne_none_int (fin_bl I q (by simp))
    | str j => obtain ⟨t', rfl⟩ := ry; exact PySem.EqNone.ne_none_str (fin_bl I q (by simp))
    | _ => exact absurd (show false = true from hs) Bool.false_ne_true
  | bl i =>
    cases rx
    cases y with
    | non => cases ry; exact PySem.EqNone.ne_bool_none (fin_bl I q (by simp))
    | bl j => cases ry; exact ne_bool (fin_bl I q (congrArg not dec_bl))
    | str j => obtain ⟨t', rfl⟩ := ry; exact PySem.EqMixed.ne_bool_str (fin_bl I q (by simp))
    | _ => exact absurd (show false = true from hs) Bool.false_ne_true
  | int i =>
    obtain ⟨t, rfl⟩ := rx
    cases y with
    | non => cases ry; exact PySem.EqNone.ne_int_none (fin_bl I q (by simp))
    | int j => obtain ⟨t', rfl⟩ := ry; exact ne_int (fin_bl I q (congrArg not dec_int))
    | str j => obtain ⟨t', rfl⟩ := ry; exact PySem.EqMixed.ne_int_str (fin_bl I q (by simp))
    | _ => exact absurd (show false = true from hs) Bool.false_ne_true
  | str i =>
    obtain ⟨t, rfl⟩ := rx
    cases y with
    | non => cases ry; exact PySem.EqNone.ne_str_none (fin_bl I q (by simp))
    | bl j => cases ry; exact PySem.EqMixed.ne_str_bool (fin_bl I q (by simp))
    | int j => obtain ⟨t', rfl⟩ := ry; exact PySem.EqMixed.ne_str_int (fin_bl I q (by simp))
    | str j => obtain ⟨t', rfl⟩ := ry; exact ne_str (fin_bl I q (congrArg not dec_str))
    | _ => exact absurd (show false = true from hs) Bool.false_ne_true
  | byt i =>
    obtain ⟨t, rfl⟩ := rx
    cases y with
    | byt j => obtain ⟨t', rfl⟩ := ry; exact PySem.W.ne_bytes (fin_bl I q (congrArg not dec_byt))
    | _ => exact absurd (show false = true from hs) Bool.false_ne_true
  | _ => cases y <;> exact absurd (show false = true from hs) Bool.false_ne_true
theorem op_lt : OpR X (compareOp .Lt) (rI0 fun i j => .bl (decide (i < j))) := opB0 fun _ _ _ _ _ _ _ q => lt_int q
theorem op_le : OpR X (compareOp .LtE) (rI0 fun i j => .bl (decide (i ≤ j))) := opB0 fun _ _ _ _ _ _ _ q => le_int q
theorem op_gt : OpR X (compareOp .Gt) (rI0 fun i j => .bl (decide (j < i))) := opB0 fun _ _ _ _ _ _ _ q => gt_int q
theorem op_in_str : OpR X (compareOp .In) (fun x y H Q => ∃ i j, x = .str i ∧ y = .str j ∧ Q (.bl (!(Builtin.Str.occurrences j i 0 j.length 1).isEmpty)) H) := by
  intro pins s σ H x y v u Q I rx ry h
  obtain ⟨i, j, rfl, rfl, q⟩ := h
  obtain ⟨t, rfl⟩ := rx
  obtain ⟨t', rfl⟩ := ry
  exact in_str (fin_bl I q rfl)
theorem nomark (b : Expr) {op : CmpOp} (h : op ≠ .In := by decide) (h2 : op ≠ .NotIn := by decide) : behindInMarks op b = false := by
  have e1 : (op == CmpOp.In) = false := by cases op <;> first | rfl | exact absurd rfl h
  have e2 : (op == CmpOp.NotIn) = false := by cases op <;> first | rfl | exact absurd rfl h2
  cases b <;> simp [behindInMarks, e1, e2]
theorem pe_cmpR {op : CmpOp} {r : R2} (ho : OpR X (compareOp op) r) (ha : PE X a ta) (hb : PE X b tb) (hm : behindInMarks op b = false) : PE X (.Compare a [op] [b] pos) (tOp r ta tb) := by
  intro pins s σ H Q I h
  exact wpAny_Compare1 (binT ha hb I h fun v u s2 x y H2 I2 rx ry q => ho pins s2 σ H2 x y v u Q I2 rx ry q) hm
def tTest (t : TE) : TT := fun σ H Q => t σ H fun x H' => ∃ k, x = .bl k ∧ Q k H'
theorem pt_cmpR {op : CmpOp} {r : R2} (ho : OpR X (compareOp op) r) (ha : PE X a ta) (hb : PE X b tb) (hm : behindInMarks op b = false) : PT X (.Compare a [op] [b] pos) (tTest (tOp r ta tb)) := by
  intro pins s σ H Q I h
  refine wpAny_isTrue_Compare1 (thn (ha pins s σ H _ I h) fun v s1 ⟨x, H1, I1, r1, q1⟩ => thn (hb pins s1 σ H1 _ I1 q1) fun u s2 ⟨y, H2, I2, r2, q2⟩ =>
    thn (ho pins s2 σ H2 x y v u _ I2 r1 r2 q2) fun c s3 ⟨z, H3, I3, r3, k, e, q3⟩ => ?_) hm
  subst e
  cases r3
  exact wpAny_truthy_bool ⟨H3, I3, q3⟩
def tChain (r r' : R2) (ta tb tc : TE) : TE := fun σ H Q => ta σ H fun x H1 => tb σ H1 fun y H2 => r x y H2 fun z H3 => ∃ k, z = .bl k ∧
  (if k = true then tc σ H3 fun w' H4 => r' y w' H4 Q else Q (.bl false) H3)
theorem pe_chain {op op' : CmpOp} {r r' : R2} (ho : OpR X (compareOp op) r) (ho' : OpR X (compareOp op') r') (ha : PE X a ta) (hb : PE X b tb) (hc : PE X c tc)
    (hm : lastMarks [op, op'] [b, c] = false := by with_unfolding_all rfl) : PE X (.Compare a [op, op'] [b, c] pos) (tChain r r' ta tb tc) := by
  intro pins s σ H Q I h
  refine Compare_chain (thn (ha pins s σ H _ I h) fun v s1 ⟨x, H1, I1, r1, q1⟩ => chain_link (thn (hb pins s1 σ H1 _ I1 q1) fun u s2 ⟨y, H2, I2, r2, q2⟩ =>
    thn (ho pins s2 σ H2 x y v u _ I2 r1 r2 q2) fun d s3 ⟨z, H3, I3, r3, k, e, q3⟩ => ?_)) hm
  subst e
  cases r3
  refine wpAny_truthy_bool ?_
  cases k with
  | false => exact ite_ff ⟨.bl false, H3, I3, rfl, q3⟩
  | true => exact ite_tt (chain_last (thn (hc pins s3 σ H3 _ I3 q3) fun w' s4 ⟨z', H4, I4, r4, q4⟩ => ho' pins s4 σ H4 y z' u w' Q I4 r2 r4 q4))
theorem line63 : (sizeLine : Nat) < 2 ^ 63 := by rw [sizeLine_eq]; decide
theorem op_add_str : OpR X (binaryOp .Add) (fun x y H Q => ∃ i j, x = .str i ∧ y = .str j ∧ i.length + j.length ≤ sizeLine ∧ Q (.str (i ++ j)) H) := by
  intro pins s σ H x y v u Q I rx ry h
  obtain ⟨i, j, rfl, rfl, hz, q⟩ := h
  obtain ⟨t, rfl⟩ := rx
  obtain ⟨t', rfl⟩ := ry
  exact add_str (fun t' tk => ⟨.str (i ++ j), H, I.tok _, ⟨_, rfl⟩, q⟩) hz
theorem vals1 {x : V} {us : List Value} (r : Vals [x] us) : ∃ u, us = [u] ∧ RelV x u := by
  cases r with
  | cons r1 r2 => cases r2; exact ⟨_, rfl, r1⟩
theorem call_abs : CallR X (.builtin "abs") (fun xs H Q => ∃ i, xs = [.int i] ∧ Q (.int (if i < 0 then -i else i)) H) := by
  intro pins s σ H xs us Q I r h
  obtain ⟨i, rfl, q⟩ := h
  obtain ⟨u, rfl, t, rfl⟩ := vals1 r
  exact call_abs_int fun u tk => ⟨.int (if i < 0 then -i else i), H, I.tok _, ⟨_, rfl⟩, q⟩
theorem call_str_int : CallR X (.type "str") (fun xs H Q => ∃ i, xs = [.int i] ∧ i.natAbs.log2 < 1920 ∧ Q (.str (toString i)) H) := by
  intro pins s σ H xs us Q I r h
  obtain ⟨i, rfl, hz, q⟩ := h
  obtain ⟨u, rfl, t, rfl⟩ := vals1 r
  exact PySem.P.str_of_int hz ⟨.str _, H, I.tok _, ⟨_, rfl⟩, q⟩
end
end L2
namespace L2
open PySem PySem.Spec PyProof.Rows
structure ObjM (h : Heap) (x dx C : Addr) (mA : Str → Option Value) : Prop where
  obj : h.get? x = some (PySem.W.instObj C dx)
  ns : h.Ns1 dx mA
  ne : dx ≠ x
theorem lookIn_ns {h : Heap} {dx : Addr} {mA : Str → Option Value} (n : h.Ns1 dx mA) : ∃ od, h.get? dx = some od ∧ ∀ name, PySem.W.lookIn name od = some (mA name) := by
  obtain ⟨o, es, ep, ho, hd, hk, _, hm⟩ := n
  refine ⟨o, ho, fun name => ?_⟩
  have e := hm name
  unfold nsFind findBy at e
  rw [← Array.find?_toList] at e
  unfold PySem.W.lookIn
  rw [hd]
  dsimp only
  split
  · rename_i y q
    rw [q] at e
    exact congrArg some e
  · rename_i q
    rw [q] at e
    have a : es.toList.any (·.refKey) = false := by
      rw [List.any_eq_false]
      intro y hy
      obtain ⟨z, t, hkey⟩ := hk y (Array.mem_toList_iff.mp hy)
      simp [DictEntry.refKey, hkey]
    have a' : ¬ es.toList.any (·.refKey) = true := by rw [a]; exact Bool.false_ne_true
    rw [if_neg a']
    exact congrArg some e
theorem ObjM.look {h : Heap} {x dx C : Addr} {mA : Str → Option Value} (I : ObjM h x dx C mA) : ∃ od, PySem.W.InstAt h x (PySem.W.instObj C dx) C (some od) ∧ ∀ name, PySem.W.lookIn name od = some (mA name) :=
  let ⟨od, ho, hl⟩ := lookIn_ns I.ns
  ⟨od, ⟨I.obj, rfl, rfl, ho⟩, hl⟩
section
variable {prog : Program} {w : World} {A : Around} {E : Value → Shared → Prop} {s : Shared} {K : PySem.W.Frag} {x dx C f : Addr} {mA : Str → Option Value} {name : Str} {v : Value}
end
theorem RelO.some_of {v : V} {o : Option Value} (r : RelO (some v) o) : ∃ u, o = some u ∧ RelV v u := by
  cases o with
  | none => exact (show False from r).elim
  | some u => exact ⟨u, rfl, r⟩
theorem RelO.none_of {o : Option Value} (r : RelO none o) : o = none := by
  cases o with
  | none => rfl
  | some u => exact (show False from r).elim
section
variable {P : Program} {w : World} {H H' : Hp} {h h' : Heap} {a C dx : Addr} {fs fs' : List (Str × V)}
theorem ins_get (hok : HOk P w H h) (e : H a = some (.ins C dx fs)) : ∃ mA, ObjM h a dx C mA ∧ (∀ f, RelO (fs.lookup f) (mA f)) ∧ PySem.Within mA (fs.map (·.1)) ∧ fs.length ≤ 1000 ∧ H dx = some (.own a) := by
  obtain ⟨d, z, ne, ob, mA, n, r, q⟩ := (show ObjOk P w H h a (.ins C dx fs) from hok a _ e)
  exact ⟨mA, ⟨ob, n, ne⟩, r, q, z, d⟩
end
structure Cls (K : PySem.W.Frag) (C : Addr) : Prop where
  pg : PySem.W.plainGet K C Str.empty = true
  hd : PySem.W.hasDictIn K C = true
  po : PySem.W.plainOver K C = true
  sa : PySem.W.findIn K (.ref C) "__setattr__" = some (some (.builtin "object.__setattr__"))
theorem Cls.get {K : PySem.W.Frag} {C : Addr} (c : Cls K C) (f : Str) : PySem.W.plainGet K C f = true := c.pg
structure Con (K : PySem.W.Frag) (C : Addr) (f : Str) (v : V) (u : Value) : Prop where
  at_ : PySem.W.findIn K (.ref C) f = some (some u)
  rel : RelV v u
  get : PySem.W.specialIn K u "__get__" = some none
  cp : PySem.W.copiedNames.contains f = false
structure Meth (K : PySem.W.Frag) (C : Addr) (m : Str) (f : Addr) : Prop where
  at_ : PySem.W.findIn K (.ref C) m = some (some (.ref f))
  fn : PySem.W.isFn K (.ref f) = true
  kp : PySem.W.keepIn K (.ref f) = true
section
variable {X : Cx} {pins : List (Addr × Obj)} {σ : St} {H : Hp} {s : Shared} {a C dx : Addr} {fs : List (Str × V)} {f : Str} {v : V} {A : Around} {E : Value → Shared → Prop}
end
section
variable {X : Cx} {o e value : Expr} {f : Str} {pos pos' tpos : Pos} {ta tv : TE}
end
section
variable {X : Cx} {pins : List (Addr × Obj)} {σ : St} {H : Hp} {s : Shared} {A : Around} {E : Value → Shared → Prop} {Q : Value → Shared → Prop} {c : Value} {b : Bool}
inductive TyOf (K : PySem.W.Frag) (H : Hp) : V → Value → Prop where
  | non : TyOf K H .non (.type "NoneType")
  | bl (x : Bool) : TyOf K H (.bl x) (.type "bool")
  | int (i : Int) : TyOf K H (.int i) (.type "int")
  | str (x : Str) : TyOf K H (.str x) (.type "str")
  | flt (x : UInt64) : TyOf K H (.flt x) (.type "float")
  | lst {a : Addr} {xs : List V} (e : H a = some (.lst xs)) : TyOf K H (.ref a) (.type "list")
  | frz {a : Addr} {o : Obj} {xs : List V} (e : H a = some (.frz o (.lst xs))) : TyOf K H (.ref a) (.type "list")
  | tup {a : Addr} {xs : List V} (e : H a = some (.tup xs)) : TyOf K H (.ref a) (.type "tuple")
  | dK {a : Addr} {kvs : List (Key × V)} (e : H a = some (.dK kvs)) : TyOf K H (.ref a) (.type "dict")
  | dT {a : Addr} {kvs : List (List Key × V)} (e : H a = some (.dT kvs)) : TyOf K H (.ref a) (.type "dict")
  | ins {a C dx : Addr} {fs : List (Str × V)} (e : H a = some (.ins C dx fs)) (cl : Cls K C) (ha : PySem.W.findIn K (.ref C) "__class__" = some (some (.builtin "object.__class__")))
      (hn : PySem.W.specialIn K (.builtin "object.__class__") "__get__" = some (some (.builtin "getset_descriptor.__get__"))) (htk : PySem.W.takesIn K (.builtin "object.__class__") = some true)
      (hm : PySem.W.mroIn K C (.type "object") = some true) : TyOf K H (.ref a) (.ref C)
theorem isinst_ok {x : V} {u t : Value} (I : Inv X pins σ H s) (rx : RelV x u) (ty : TyOf X.K H x t) (e : PySem.W.kitOne X.K t c = some b) (h : ∀ tk, Q (.bool b) { s with toks := tk }) :
    wpAny (model X.prog X.w) A (call (.builtin "isinstance") [u, c]) Q E s := by
  cases ty with
  | non => cases (show u = Value.none from rx); exact PySem.W.kia_one PySem.W.kitx_none I.kIn True.intro e (fun z => nomatch z) h
  | bl y => cases (show u = Value.bool y from rx); exact PySem.W.kia_one PySem.W.kitx_bool I.kIn True.intro e (fun z => nomatch z) h
  | int i => obtain ⟨t, q⟩ := (show ∃ t, u = Value.int i t from rx); cases q; exact PySem.W.kia_one PySem.W.kitx_int I.kIn True.intro e (fun z => nomatch z) h
  | str y => obtain ⟨t, q⟩ := (show ∃ t, u = Value.str y t from rx); cases q; exact PySem.W.kia_one PySem.W.kitx_str I.kIn True.intro e (fun z => nomatch z) h
  | flt y => obtain ⟨t, q⟩ := (show ∃ t, u = Value.float y t from rx); cases q; exact PySem.W.kia_one PySem.W.kitx_float I.kIn True.intro e (fun z => nomatch z) h
  | @lst a xs ea =>
    cases (show u = Value.ref a from rx)
    obtain ⟨_, _, n, _, h1⟩ := (show ObjOk X.prog X.w H s.heap a (.lst xs) from I.hok a _ ea)
    exact PySem.W.kia_one PySem.W.kitx_list I.kIn ⟨_, h1, rfl⟩ e (fun z => nomatch z) h
  | @frz a ob xs ea =>
    cases (show u = Value.ref a from rx)
    obtain ⟨_, _, _, n, _, h1⟩ := (show ObjOk X.prog X.w H s.heap a (.frz ob (.lst xs)) from I.hok a _ ea)
    exact PySem.W.kia_one PySem.W.kitx_list I.kIn ⟨_, h1, rfl⟩ e (fun z => nomatch z) h
  | @tup a xs ea =>
    cases (show u = Value.ref a from rx)
    obtain ⟨_, _, _, p⟩ := (show ObjOk X.prog X.w H s.heap a (.tup xs) from I.hok a _ ea)
    obtain ⟨o, h1, h2, _⟩ := p
    exact PySem.W.kia_one PySem.W.kitx_tuple I.kIn ⟨o, h1, h2⟩ e (fun z => nomatch z) h
  | @dK a kvs ea =>
    cases (show u = Value.ref a from rx)
    obtain ⟨_, _, vs, _, p⟩ := (show ObjOk X.prog X.w H s.heap a (.dK kvs) from I.hok a _ ea)
    obtain ⟨o, es, ep, h1, h2, _⟩ := p
    exact PySem.W.kia_one PySem.W.kitx_dict I.kIn ⟨o, h1, h2.1⟩ e (fun z => nomatch z) h
  | @dT a kvs ea =>
    cases (show u = Value.ref a from rx)
    obtain ⟨_, _, xs, _, o, es, ep, h1, h2, _⟩ := (show ObjOk X.prog X.w H s.heap a (.dT kvs) from I.hok a _ ea)
    exact PySem.W.kia_one PySem.W.kitx_dict I.kIn ⟨o, h1, h2.1⟩ e (fun z => nomatch z) h
  | @ins a C dx fs ea cl ha hn htk hm =>
    cases (show u = Value.ref a from rx)
    obtain ⟨mA, O, _⟩ := ins_get I.hok ea
    obtain ⟨od, J, _⟩ := O.look
    exact PySem.W.kia_one (PySem.W.kitx_own (cl.get _) cl.hd ha hn htk hm) I.kIn J e (fun z => nomatch z) h
end
end L2
namespace L2
open PySem PySem.Spec PyProof.Rows
structure Room (k : Nat) (A : Around) : Prop where
  hd : A.handled = none
  dp : A.depth + 3 * k + 5 < recursionLimit
  un : A.units + 16 * k + 200 < cLine
theorem Room.mono {j k : Nat} {A : Around} (r : Room k A) (h : j ≤ k) : Room j A := ⟨r.hd, by have := r.dp; omega, by have := r.un; omega⟩
theorem Room.deeper {k : Nat} {A : Around} (r : Room (k + 1) A) (env : Env) : Room k (A.deeper env) :=
  ⟨r.hd, by have := r.dp; show A.depth + 1 + 3 * k + 5 < _; omega, by have := r.un; show A.units + 3 + 16 * k + 200 < _; omega⟩
theorem Room.depth {k : Nat} {A : Around} (r : Room k A) : A.depth < recursionLimit := by have := r.dp; omega
theorem Room.units {k : Nat} {A : Around} (r : Room k A) : A.units + 64 < cLine := by have := r.un; omega
def tNil : TA := fun _ H Q => Q [] H
def tCons (ta : TE) (tr : TA) : TA := fun σ H Q => ta σ H fun x H1 => tr σ H1 fun xs H2 => Q (x :: xs) H2
section
variable {X : Cx} {e : Expr} {es : List Expr} {te : TE} {t : TA} {pos : Pos}
theorem pa_nil : PA X [] tNil := fun _ _ _ _ H Q I h => Calls.spliced_nil ⟨[], H, I, .nil, h⟩
theorem pa_cons (ha : PE X e te) (hr : PA X es t) (hs : starEach (e :: es) X.env = (false, eval e X.env) :: starEach es X.env := by rfl) : PA X (e :: es) (tCons te t) := by
  intro pos pins s σ H Q I h
  rw [hs]
  show wpAny _ _ (spliced ((false, eval e X.env) :: backTo pos (starEach es X.env))) _ _ s
  refine Calls.spliced_cons (thn (ha pins s σ H _ I h) fun u s1 ⟨x, H1, I1, r1, q1⟩ => ?_)
  exact thn (hr pos pins s1 σ H1 _ I1 q1) fun us s2 ⟨xs, H2, I2, r2, q2⟩ => ⟨x :: xs, H2, I2, .cons r1 r2, q2⟩
def tTup (t : TA) : TE := fun σ H Q => t σ H fun xs H1 => xs.length ≤ sizeLine ∧ ∀ p, H1 p = none → Q (.ref p) (upd H1 p (.tup xs))
def tLst (t : TA) : TE := fun σ H Q => t σ H fun xs H1 => xs.length ≤ sizeLine ∧ ∀ p, H1 p = none → Q (.ref p) (upd H1 p (.lst xs))
theorem pe_tup {x1} (h : PA X es t) : PE X (.Tuple es x1 pos) (tTup t) := by
  intro pins s σ H Q I hq
  refine wpAny_Tuple_spliced (thn (h pos pins s σ H _ I hq) fun us s1 ⟨xs, H1, I1, r, z, q⟩ => ⟨by rw [← r.length]; exact z, ?_⟩)
  have hf : H1 s1.heap.objs.size = none := I1.hok.fresh (Nat.le_refl _)
  refine ⟨.ref s1.heap.objs.size, upd H1 s1.heap.objs.size (.tup xs), I1.laid (t' := s1.toks) (fun b u e => Heap.get?_push_of_some _ e) (Nat.le_refl _) ?_, rfl, q _ hf⟩
  exact ⟨z, us, r, ⟨_, Heap.get?_push_size _ rfl, rfl, _, rfl⟩⟩
theorem pe_lst (h : PA X es t) : PE X (.List es pos) (tLst t) := by
  intro pins s σ H Q I hq
  refine wpAny_List_spliced (thn (h pos pins s σ H _ I hq) fun us s1 ⟨xs, H1, I1, r, z, q⟩ => ⟨by rw [← r.length]; exact z, ?_⟩)
  have hf : H1 s1.heap.objs.size = none := I1.hok.fresh (Nat.le_refl _)
  refine ⟨.ref s1.heap.objs.size, upd H1 s1.heap.objs.size (.lst xs), I1.laid (t' := s1.toks) (fun b u e => Heap.get?_push_of_some _ e) (Nat.le_refl _) ?_, rfl, q _ hf⟩
  exact ⟨z, us, 0, r, Heap.get?_push_size _ rfl⟩
end
abbrev Sp := List V → Hp → VK → XK → Prop
abbrev CXT := List Env → Hp → Shared → XK → Value → Shared → Prop
structure Env0 (P : Program) (w : World) (K : PySem.W.Frag) (mg : Str → Option Value) (base : Heap) (A : Around) (outer : List Env) (s : Shared) (H : Hp) : Prop where
  frames : A.frames = some outer
  mod : Mod K mg base
  bs : ∀ b o, base.get? b = some o → s.heap.get? b = some o ∧ H b = none
  bsz : base.objs.size ≤ s.heap.objs.size
  funs : s.heap.FunFrames base outer
  frf : ∀ b ∈ frs outer, H b = none
  hok : HOk P w H s.heap
  bare : AllBare s.gens
def CE (outer : List Env) (P : Program) (w : World) (H : Hp) (s : Shared) (Q : VK) (u : Value) (s' : Shared) : Prop :=
  ∃ v H', s'.os = s.os ∧ AllBare s'.gens ∧ Un (frs outer) [] H H' s.heap s'.heap ∧ HOk P w H' s'.heap ∧ RelV v u ∧ Q v H'
def CR (CX : CXT) (outer : List Env) (P : Program) (w : World) (H : Hp) (s : Shared) (Q : VK) (E : XK) (r : Result) (s' : Shared) : Prop :=
  match r with
  | .ok (.ret u) => CE outer P w H s Q u s'
  | .ok _ => False
  | .error e => CX outer H s E e s'
structure FnOk (P : Program) (w : World) (K : PySem.W.Frag) (mg : Str → Option Value) (base : Heap) (CX : CXT) (k : Nat) (f : Addr) (fd : FuncData) (ps : List Str) (sp : Sp) : Prop where
  len : ∀ vs H Q E, sp vs H Q E → vs.length = ps.length
  run : ∀ (A : Around) (outer : List Env) (s : Shared) (H : Hp) (args : Args) (us : List Value) (vs : List V) (Q : VK) (E : XK), Room k A → Env0 P w K mg base A outer s H → BindsTo s fd args (ps.zip us) → Vals vs us → sp vs H Q E →
    codeAny (model P w) A (.call (.ref f) args) (CR CX outer P w H s Q E) s
theorem FnOk.mono {P : Program} {w : World} {K : PySem.W.Frag} {mg : Str → Option Value} {base : Heap} {CX : CXT} {j k : Nat} {f : Addr} {fd : FuncData} {ps : List Str} {sp : Sp} (F : FnOk P w K mg base CX j f fd ps sp) (h : j ≤ k) :
    FnOk P w K mg base CX k f fd ps sp := ⟨F.len, fun A outer s H args us vs Q E hr => F.run A outer s H args us vs Q E (hr.mono h)⟩
theorem FnOk.imp {P : Program} {w : World} {K : PySem.W.Frag} {mg : Str → Option Value} {base : Heap} {CX : CXT} {k : Nat} {f : Addr} {fd : FuncData} {ps : List Str} {sp sp' : Sp} (F : FnOk P w K mg base CX k f fd ps sp)
    (h : ∀ vs H Q E, sp' vs H Q E → sp vs H Q E) : FnOk P w K mg base CX k f fd ps sp' :=
  ⟨fun vs H Q E q => F.len vs H Q E (h _ _ _ _ q), fun A outer s H args us vs Q E hr he hb hv hs => F.run A outer s H args us vs Q E hr he hb hv (h _ _ _ _ hs)⟩
section
variable {X : Cx} {pins : List (Addr × Obj)} {σ : St} {H : Hp} {s s' : Shared}
theorem Inv.env0 (I : Inv X pins σ H s) : Env0 X.prog X.w X.K X.mg X.base X.A X.stack s H :=
  ⟨I.ok.frames, I.ok.mod, I.bs, Nat.le_trans I.ok.bsz I.sz, I.stack, I.stkFree, I.hok, I.bare⟩
theorem Inv.after {Q : VK} {u : Value} (I : Inv X pins σ H s) (h : CE X.stack X.prog X.w H s Q u s') : EP X pins σ Q u s' := by
  obtain ⟨v, H', os, bare, un, hok, r, q⟩ := h
  obtain ⟨hh, g, d, t, os'⟩ := s'
  obtain rfl : os' = s.os := os
  exact ⟨v, H', I.call (h' := hh) (g' := g) (d' := d) (t' := t) (ch := []) un hok bare (fun b z => absurd z (by simp)), r, q⟩
end
def tCall (sp : Sp) (dvs : List V) (E : XK) (t : TA) : TE := fun σ H Q => t σ H fun vs H1 => sp (vs ++ dvs) H1 Q E
def Binds (K : PySem.W.Frag) (fd : FuncData) (ps : List Str) (ds : List Value) : Prop :=
  ∀ (s : Shared) (us : List Value), K.In s.heap → (us ++ ds).length = ps.length → BindsTo s fd ⟨us, []⟩ (ps.zip (us ++ ds))
theorem Binds.all {K : PySem.W.Frag} {fd : FuncData} {ps : List Str} (h : ∀ us : List Value, us.length = ps.length → bindArgs fd ⟨us, []⟩ = pure (ps.zip us)) : Binds K fd ps [] := fun s us _ hl => by
  rw [List.append_nil] at hl ⊢
  exact .of_eq (h us hl)
def Passes (CX : CXT) (X : Cx) (E : XK) : Prop := ∀ (pins : List (Addr × Obj)) (σ : St) (H : Hp) (s : Shared) (e : Value) (s' : Shared), Inv X pins σ H s → CX X.stack H s E e s' → X.xe e s'
section
variable {X : Cx} {CX : CXT} {k : Nat} {f C : Addr} {fd : FuncData} {ps : List Str} {sp : Sp} {dvs : List V} {ds : List Value} {E : XK} {x m : Str} {p pos apos : Pos} {e o : Expr} {es : List Expr} {ta : TE} {t : TA}
theorem run_fn {pins : List (Addr × Obj)} {σ : St} {H : Hp} {s : Shared} {Q : VK} {us : List Value} {vs : List V} (F : FnOk X.prog X.w X.K X.mg X.base CX k f fd ps sp) (hr : Room k X.A) (hb : Binds X.K fd ps ds) (hd : Vals dvs ds) (hx : Passes CX X E)
    (I : Inv X pins σ H s) (r : Vals vs us) (h : sp (vs ++ dvs) H Q E) : wpAny (model X.prog X.w) X.A (call (.ref f) us) (EP X pins σ Q) X.xe s := by
  have r2 : Vals (vs ++ dvs) (us ++ ds) := r.append hd
  have hl : (us ++ ds).length = ps.length := by rw [← r2.length]; exact F.len _ _ _ _ h
  refine wpAny_call (codeAny_mono (F.run X.A X.stack s H ⟨us, []⟩ (us ++ ds) (vs ++ dvs) Q E hr I.env0 (hb s us I.kIn hl) r2 h) fun r s' hq => ?_)
  cases r with
  | error e => exact hx pins σ H s e s' I hq
  | ok fl =>
    cases fl with
    | ret u => exact I.after hq
    | next => exact False.elim hq
    | brk => exact False.elim hq
    | cont => exact False.elim hq
theorem pe_call (F : FnOk X.prog X.w X.K X.mg X.base CX k f fd ps sp) (hr : Room k X.A) (hg : Gl X x) (hm : X.mg x = some (.ref f)) (hk : PySem.W.keepIn X.K (.ref f) = true) (hb : Binds X.K fd ps ds) (hd : Vals dvs ds) (hx : Passes CX X E)
    (ha : PA X (e :: es) t) (hdb : (x == ("__debug__" : Str)) = false := by decide) (he : starEach (e :: es) X.env = (false, eval e X.env) :: starEach es X.env := by rfl) (hpl : (backTo pos (starEach es X.env)).any (·.1) = false := by rfl) :
    PE X (.Call (.Name x p) (e :: es) [] pos) (tCall sp dvs E t) := by
  intro pins s σ H Q I h
  refine wpAny_Call_Name_kw (ld_glob I hg hm ?_ hdb)
  refine PySem.W.callWith_K (h₀ := X.base) I.ok.mod.kin hk (thn (ha pos pins s σ H _ I h) fun us s1 ⟨vs, H1, I1, r, q⟩ => ⟨I1.kIn, ?_⟩) he hpl
  exact run_fn F hr hb hd hx I1 r q
structure Mk (K : PySem.W.Frag) (C f : Addr) : Prop where
  makes : PySem.W.makesIn K C = true
  init : PySem.W.findIn K (.ref C) "__init__" = some (some (.ref f))
  fn : PySem.W.isFn K (.ref f) = true
  kp : PySem.W.keepIn K (.ref C) = true
end
section
variable {X : Cx} {CX : CXT} {k : Nat} {f C : Addr} {fd : FuncData} {ps ks : List Str} {sp : Sp} {E : XK} {x m : Str} {p pos apos kpos : Pos} {e o : Expr} {es : List Expr} {kws : List Keyword} {te ta : TE} {t tk : TA} {nm : Option Str}
structure KBinds (K : PySem.W.Frag) (fd : FuncData) (ps ks : List Str) (g : List Value → List Value → List Value) (gV : List V → List V → List V) : Prop where
  to : ∀ (s : Shared) (us ws : List Value), K.In s.heap → (g us ws).length = ps.length → BindsTo s fd ⟨us, ks.zip ws⟩ (ps.zip (g us ws))
  rel : ∀ {vs : List V} {us : List Value} {zs : List V} {ws : List Value}, Vals vs us → Vals zs ws → Vals (gV vs zs) (g us ws)
variable {g : List Value → List Value → List Value} {gV : List V → List V → List V}
end
structure FnScope (N P : List Str) (sc : Scope) : Prop where
  kind : sc.kind = .function
  co : sc.isCoroutine = false
  gen : sc.isGenerator = false
  nd : N.Nodup
  pre : N.take P.length = P
  par : ∀ x ∈ P, sc.names.lookup x = some .local ∨ sc.names.lookup x = some .cell
  nofree : ∀ y ∈ sc.names, y.2 ≠ .free
theorem bindL_out {kindOf : Str → Option NameKind} {x : Str} : ∀ {binds : List (Str × Value)} {m : Str → Option Value}, (∀ v, (x, v) ∉ binds) → bindL kindOf binds m x = m x
  | [], _, _ => rfl
  | (n, v) :: r, m, h => by
    unfold bindL
    rw [bindL_out fun w hw => h w (List.mem_cons_of_mem _ hw)]
    split
    · have : x ≠ n := by rintro rfl; exact h v List.mem_cons_self
      simp [this]
    · rfl
theorem bindC_out {kindOf : Str → Option NameKind} {x : Str} : ∀ {binds : List (Str × Value)} {m : Str → Option Value}, (∀ v, (x, v) ∉ binds) → bindC kindOf binds m x = m x
  | [], _, _ => rfl
  | (n, v) :: r, m, h => by
    unfold bindC
    rw [bindC_out fun w hw => h w (List.mem_cons_of_mem _ hw)]
    split
    · rfl
    · have : x ≠ n := by rintro rfl; exact h v List.mem_cons_self
      simp [this]
theorem bindL_get {kindOf : Str → Option NameKind} {x : Str} {v : Value} : ∀ {P : List Str} {vs : List Value} {i : Nat} {m : Str → Option Value}, P.Nodup → P[i]? = some x → vs[i]? = some v → kindOf x = some .local →
    bindL kindOf (P.zip vs) m x = some v
  | [], _, _, _, _, h, _, _ => by simp at h
  | _ :: _, [], _, _, _, _, h, _ => by simp at h
  | p :: P, w :: vs, 0, m, nd, h1, h2, hk => by
    simp at h1 h2; subst h1; subst h2
    show bindL kindOf ((p, w) :: P.zip vs) m p = _
    unfold bindL
    rw [bindL_out fun v hv => (List.nodup_cons.mp nd).1 (List.of_mem_zip hv).1, if_pos hk]
    simp
  | p :: P, w :: vs, i + 1, m, nd, h1, h2, hk => by
    show bindL kindOf ((p, w) :: P.zip vs) m x = _
    unfold bindL
    exact bindL_get (i := i) (List.nodup_cons.mp nd).2 (by simpa using h1) (by simpa using h2) hk
theorem bindC_get {kindOf : Str → Option NameKind} {x : Str} {v : Value} : ∀ {P : List Str} {vs : List Value} {i : Nat} {m : Str → Option Value}, P.Nodup → P[i]? = some x → vs[i]? = some v → kindOf x ≠ some .local →
    bindC kindOf (P.zip vs) m x = some v
  | [], _, _, _, _, h, _, _ => by simp at h
  | _ :: _, [], _, _, _, _, h, _ => by simp at h
  | p :: P, w :: vs, 0, m, nd, h1, h2, hk => by
    simp at h1 h2; subst h1; subst h2
    show bindC kindOf ((p, w) :: P.zip vs) m p = _
    unfold bindC
    rw [bindC_out fun v hv => (List.nodup_cons.mp nd).1 (List.of_mem_zip hv).1, if_neg hk]
    simp
  | p :: P, w :: vs, i + 1, m, nd, h1, h2, hk => by
    show bindC kindOf ((p, w) :: P.zip vs) m x = _
    unfold bindC
    exact bindC_get (i := i) (List.nodup_cons.mp nd).2 (by simpa using h1) (by simpa using h2) hk
def start (N : List Str) (vs : List V) : St := vs.map some ++ List.replicate (N.length - vs.length) none
def cxOf (CX : CXT) (P : Program) (w : World) (K : PySem.W.Frag) (mg : Str → Option Value) (base : Heap) (N : List Str) (qual : Str) (scope : Scope) (f : Addr) (cd : Value) (A : Around) (outer : List Env) (s : Shared) (H : Hp) (E : XK) : Cx where
  prog := P
  w := w
  K := K
  mg := mg
  base := base
  A := A.deeper (envOfC qual scope s.heap.objs.size f cd)
  N := N
  s₀ := s
  H₀ := H
  env := envOfC qual scope s.heap.objs.size f cd
  outer := outer
  stack := envOfC qual scope s.heap.objs.size f cd :: outer
  ex := []
  calm := true
  fn := fun _ => true
  pn := []
  xe := fun e s' => wpAny (model P w) (A.deeper (envOfC qual scope s.heap.objs.size f cd)) (leaving (envOfC qual scope s.heap.objs.size f cd) e) (fun _ s'' => CX outer H s E e s'') (fun e' s'' => CX outer H s E e' s'') s'
theorem cell_has {sc : Scope} {n : Nat} {x : Str} (h : sc.names.lookup x = some .cell) : ∃ c, (cellsFrom n sc.names []).lookup x = some c := by
  have q := PySem.W.cellsFrom_some sc.names n [] (.inl h)
  exact Option.isSome_iff_exists.mp q
theorem inv_start {CX : CXT} {P : Program} {w : World} {K : PySem.W.Frag} {mg : Str → Option Value} {base : Heap} {N ps : List Str} {qual : Str} {scope : Scope} {f : Addr} {cd : Value} {A : Around} {outer : List Env} {s s1 : Shared} {H : Hp} {E : XK} {us : List Value} {vs : List V}
    (S : FnScope N ps scope) (hd : A.handled = none) (e0 : Env0 P w K mg base A outer s H) (hl : vs.length = ps.length) (r : Vals vs us)
    (x : InCallC s s.heap.objs.size (bindL (envOfC qual scope s.heap.objs.size f cd).kindOf (ps.zip us) fun _ => none) (cellsFrom (s.heap.objs.size + 1) scope.names []) (bindC (envOfC qual scope s.heap.objs.size f cd).kindOf (ps.zip us) fun _ => none) s1) :
    Inv (cxOf CX P w K mg base N qual scope f cd A outer s H E) [] (start N vs) H s1 := by
  have hpl : ps.length ≤ N.length := by have := congrArg List.length S.pre; rw [List.length_take] at this; omega
  obtain ⟨h1, tk, rfl, hk⟩ := x.done
  have noA : ∀ b : Addr, b ∉ (cxOf CX P w K mg base N qual scope f cd A outer s H E).ex := fun b z => absurd (show b ∈ ([] : List Addr) from z) (by simp)
  refine ⟨⟨e0.mod, S.kind, rfl, rfl, Nat.le_refl _, fun y z c h1 h2 => ?_, fun y hy => ?_, fun y c _ h => ?_, fun _ => hd, Around.frames_deeper e0.frames, .inr ⟨rfl, rfl⟩, fun b z => absurd z (noA b), e0.bs, e0.bsz, fun b _ _ => noA b, fun b z => absurd z (noA b), e0.funs, e0.frf⟩,
    rfl, e0.bare, Un.kept hk, ⟨_, x.toInCall.ns, fun i y v h1 h2 h3 => ?_⟩, fun y c h => ⟨_, x.cell y c h⟩, e0.hok.fresh (Nat.le_refl _), fun y c h => ?_, fun p hp => absurd (show p ∈ ([] : List (Addr × Obj)) from hp) (by simp), e0.hok.kept hk, ?_⟩
  · exact name_of_addr x.apart (PySem.mem_of_lookup h1) (PySem.mem_of_lookup h2)
  · have hy : scope.names.lookup y = some .cell ∨ scope.names.lookup y = some .free := hy
    rcases hy with hy | hy
    · exact cell_has hy
    · exact absurd rfl (S.nofree _ (PySem.mem_of_lookup hy))
  · exact Nat.le_of_lt (x.above y c (PySem.mem_of_lookup h))
  · have hi : i < vs.length := by
      unfold start at h2
      by_cases hi : i < vs.length
      · exact hi
      · rw [List.getElem?_append_right (by simpa using hi)] at h2
        rw [List.getElem?_replicate] at h2
        split at h2 <;> cases h2
    have ha : vs[i]? = some v := by
      unfold start at h2
      rw [List.getElem?_append_left (by simpa using hi), List.getElem?_map] at h2
      cases e : vs[i]? with
      | none => rw [e] at h2; cases h2
      | some a => rw [e] at h2; cases h2; rfl
    obtain ⟨u, hu, rv⟩ := r.get ha
    have hp : ps[i]? = some y := by
      rw [← S.pre, List.getElem?_take_of_lt (by omega)]; exact h1
    have ndP : ps.Nodup := by rw [← S.pre]; exact S.nd.sublist (List.take_sublist _ _)
    refine ⟨u, rv, ?_⟩
    rcases S.par y (List.mem_of_getElem? hp) with k | k
    · exact .inl ⟨k, bindL_get ndP hp hu k⟩
    · obtain ⟨c, e⟩ := cell_has (n := s.heap.objs.size + 1) k
      refine .inr ⟨.inl k, c, e, ?_⟩
      have q := x.cell y c e
      rw [bindC_get ndP hp hu (by show scope.names.lookup y ≠ _; rw [k]; decide)] at q
      exact q
  · exact e0.hok.fresh (Nat.le_of_lt (x.above y c (PySem.mem_of_lookup h)))
  · unfold start
    show _ = N.length
    rw [List.length_append, List.length_map, List.length_replicate]
    omega
theorem fn_of {CX : CXT} {P : Program} {w : World} {K : PySem.W.Frag} {mg : Str → Option Value} {base : Heap} {k : Nat} {f : Addr} {name qual : Str} {params : Arguments} {body : List Stmt} {scope : Scope} {dV kV doc pm cdv ct oc : Value} {an od : Option Addr}
    {osl : Array (Option Value)} {N ps : List Str} {sp : Sp} (lk : K.lookup f = some ⟨oc, od, .func (PySem.W.fnOf name qual params body scope dV kV doc pm an cdv ct), osl⟩) (hcd : PySem.W.codeIn K cdv qual = true) (S : FnScope N ps scope)
    (len : ∀ vs H Q E, sp vs H Q E → vs.length = ps.length)
    (hbody : ∀ (A : Around) (outer : List Env) (s : Shared) (H : Hp) (vs : List V) (Q : VK) (E : XK), Room k (A.deeper (envOfC qual scope s.heap.objs.size f cdv)) → sp vs H Q E →
      ∃ t, PSs (cxOf CX P w K mg base N qual scope f cdv A outer s H E) body t ∧ t { nx := fun _ H' => Q .non H', rt := Q } (start N vs) H) :
    FnOk P w K mg base CX (k + 1) f (PySem.W.fnOf name qual params body scope dV kV doc pm an cdv ct) ps sp := by
  refine ⟨len, fun A outer s H args us vs Q E hr e0 hb r hsp => ?_⟩
  have hl := len _ _ _ _ hsp
  have KX : K.In s.heap := e0.mod.kin.keeps fun b o e => (e0.bs b o e).1
  have lim : s.heap.NoLimit := e0.mod.nolimit.keeps fun b o e => (e0.bs b o e).1
  have hkind : ∀ y ∈ ps.zip us, scope.names.lookup y.1 = some .local ∨ (scope.names.lookup y.1 = some .cell ∧ ((cellsFrom (s.heap.objs.size + 1) scope.names []).lookup y.1).isSome = true) := fun ⟨n, v⟩ hy => by
    rcases S.par n (List.of_mem_zip hy).1 with q | q
    · exact .inl q
    · exact .inr ⟨q, PySem.W.cellsFrom_some _ _ _ (.inl q)⟩
  refine codeAny_call_function hr.depth (KX _ _ lk) rfl S.co S.gen rfl (PySem.W.codeRec_of KX hcd) (hb _ _ _ _ ?_)
  refine wpAny_newFunctionEnv_cells S.kind hkind fun env he s1 x => ?_
  subst he
  refine ⟨lim.keeps x.toInCall.keep, codeAny_func ?_⟩
  obtain ⟨t, ht, hq⟩ := hbody A outer s H vs Q E (hr.deeper _) hsp
  have I : Inv (cxOf CX P w K mg base N qual scope f cdv A outer s H E) [] (start N vs) H s1 := inv_start S hr.hd e0 hl r x
  refine wpAny_mono (ht [] s1 (start N vs) H _ I hq) (fun fl s' hs => ?_) fun e s' hs => hs
  have fin : ∀ {σ' : St} {H' : Hp} {v : V} {u : Value}, Inv (cxOf CX P w K mg base N qual scope f cdv A outer s H E) [] σ' H' s' → RelV v u → Q v H' → CE outer P w H s Q u s' :=
    fun {σ' H' v u} J rv q => ⟨v, H', J.os, J.bare, J.base, J.hok, rv, q⟩
  cases fl with
  | ret u =>
    obtain ⟨v, σ', H', J, rv, q⟩ := hs
    exact fin J rv q
  | next =>
    obtain ⟨σ', H', J, q⟩ := hs
    exact fin (v := V.non) (u := Value.none) J rfl q
  | brk =>
    obtain ⟨_, _, _, q⟩ := hs
    exact False.elim q
  | cont =>
    obtain ⟨_, _, _, q⟩ := hs
    exact False.elim q
end L2
namespace L2
open PySem PySem.Spec PyProof.Rows
section
variable {X : Cx} {x : Str} {p pos : Pos} {e : Expr} {es : List Expr} {t : TA} {id T : String} {r : List V → Hp → VK → Prop}
def tCB (r : List V → Hp → VK → Prop) (t : TA) : TE := fun σ H Q => t σ H fun vs H1 => r vs H1 Q
theorem pe_callB (hc : CallR X (.builtin id) r) (hg : Gl X x) (hm : X.mg x = none) (hv : bootBuiltins x = some (.builtin id)) (ha : PA X (e :: es) t) (hn : x ≠ "__name__" := by decide) (hdb : (x == ("__debug__" : Str)) = false := by decide)
    (he : starEach (e :: es) X.env = (false, eval e X.env) :: starEach es X.env := by rfl) (hpl : (backTo pos (starEach es X.env)).any (·.1) = false := by rfl) : PE X (.Call (.Name x p) (e :: es) [] pos) (tCB r t) := by
  intro pins s σ H Q I h
  refine wpAny_Call_Name_kw (ld_blt I hg hm hv ?_ hn hdb)
  exact PyProof.Rows.callWith_builtin1 (thn (ha pos pins s σ H _ I h) fun us s1 ⟨vs, H1, I1, r1, q1⟩ => hc pins s1 σ H1 vs us Q I1 r1 q1) he hpl
theorem pe_callTy (hc : CallR X (.type T) r) (hg : Gl X x) (hm : X.mg x = none) (hv : bootBuiltins x = some (.type T)) (ha : PA X (e :: es) t) (hn : x ≠ "__name__" := by decide) (hdb : (x == ("__debug__" : Str)) = false := by decide)
    (he : starEach (e :: es) X.env = (false, eval e X.env) :: starEach es X.env := by rfl) (hpl : (backTo pos (starEach es X.env)).any (·.1) = false := by rfl) : PE X (.Call (.Name x p) (e :: es) [] pos) (tCB r t) := by
  intro pins s σ H Q I h
  refine wpAny_Call_Name_kw (ld_blt I hg hm hv ?_ hn hdb)
  exact PyProof.Rows.callWith_type1 (thn (ha pos pins s σ H _ I h) fun us s1 ⟨vs, H1, I1, r1, q1⟩ => hc pins s1 σ H1 vs us Q I1 r1 q1) he hpl
end
end L2
namespace HT
open PySem PyProof.Rows
section
open PySem.SeqAt
open PySem.AutoSeq1 (wpAny_loadPart')
open PySem.MeetsSeq PySem.MeetsSeq2 PySem.MeetsSeq3
end
section
variable {prog : Program} {w : World} {A : Around} {E : Value → Shared → Prop} {s : Shared}
def sIx (n d : Nat) : Option Int → Nat
  | none => d
  | some v => if v < 0 then (v + (n : Int)).toNat else min v.toNat n
theorem sIx_none (n d : Nat) : sIx n d none = d := rfl
theorem sIx_nat (n d k : Nat) : sIx n d (some (k : Int)) = min k n := by
  show (if (k : Int) < 0 then ((k : Int) + (n : Int)).toNat else min (k : Int).toNat n) = min k n
  rw [if_neg (by omega), Int.toNat_natCast]
end
end HT
namespace L2
open PySem PySem.Spec PyProof.Rows
abbrev TO := St → Hp → (Option Int → Hp → Prop) → Prop
def PO (X : Cx) (e : Option Expr) (t : TO) : Prop :=
  ∀ (pins : List (Addr × Obj)) (s : Shared) (σ : St) (H : Hp) (Q : Option Int → Hp → Prop), Inv X pins σ H s → t σ H Q →
    wpAny (model X.prog X.w) X.A (evalPart e X.env) (fun u s' => ∃ o H', Inv X pins σ H' s' ∧ IsPart u o ∧ Q o H') X.xe s
def tNoPart : TO := fun _ H Q => Q none H
def tPart (t : TE) : TO := fun σ H Q => t σ H fun x H1 => ∃ i, x = .int i ∧ Q (some i) H1
section
variable {X : Cx} {e : Expr} {te : TE} {lo hi : Option Expr} {tl th : TO} {pos p2 : Pos}
theorem po_none : PO X none tNoPart := by
  intro pins s σ H Q I h
  rw [evalPart_none]
  exact wpAny_pure ⟨none, H, I, .none, h⟩
theorem po_some (h : PE X e te) : PO X (some e) (tPart te) := by
  intro pins s σ H Q I hw
  rw [evalPart_some]
  refine thn (h pins s σ H _ I hw) fun u s1 ⟨x, H1, I1, r1, q1⟩ => ?_
  obtain ⟨i, rfl, q⟩ := q1
  obtain ⟨t, rfl⟩ := r1
  exact ⟨some i, H1, I1, .int i t, q⟩
def SlR (X : Cx) (r : V → Option Int → Option Int → Hp → VK → Prop) : Prop :=
  ∀ (pins : List (Addr × Obj)) (s : Shared) (σ : St) (H : Hp) (x : V) (v vl vu : Value) (lo hi : Option Int) (sl : Addr) (Q : VK), Inv X pins σ H s → RelV x v → s.heap.IsSliceOf sl vl vu .none → IsPart vl lo → IsPart vu hi → r x lo hi H Q →
    ∃ T id, typeLookup (.type T) "__getitem__" = pure (some (.builtin id)) ∧ s.TypeIs v T ∧ wpAny (model X.prog X.w) X.A (getItem v (.ref sl)) (EP X pins σ Q) X.xe s
def tSl (r : V → Option Int → Option Int → Hp → VK → Prop) (te : TE) (tl th : TO) : TE := fun σ H Q => te σ H fun x H1 => tl σ H1 fun l H2 => th σ H2 fun u H3 => r x l u H3 Q
theorem pe_slice {r : V → Option Int → Option Int → Hp → VK → Prop} (hr : SlR X r) (he : PE X e te) (hl : PO X lo tl) (hu : PO X hi th) : PE X (.Subscript e (.Slice lo hi none p2) pos) (tSl r te tl th) := by
  intro pins s σ H Q I h
  refine Subscript_ (thn (he pins s σ H _ I h) fun v s1 ⟨x, H1, I1, r1, q1⟩ => ?_)
  refine wpAny_Slice (thn (hl pins s1 σ H1 _ I1 q1) fun vl s2 ⟨l, H2, I2, pl, q2⟩ => thn (hu pins s2 σ H2 _ I2 q2) fun vu s3 ⟨u, H3, I3, pu, q3⟩ => ?_)
  rw [evalPart_none]
  refine wpAny_pure ?_
  have I4 : Inv X pins σ H3 { s3 with heap := s3.heap.push { cls := .type "slice", data := .fields #[vl, vu, .none] } } := I3.kept (t' := s3.toks) fun b ob q => Heap.get?_push_of_some _ q
  obtain ⟨T, id, hT, ht, hg⟩ := hr pins { s3 with heap := s3.heap.push { cls := .type "slice", data := .fields #[vl, vu, .none] } } σ H3 x v vl vu l u s3.heap.objs.size Q I4 r1 (Heap.IsSliceOf.new ..) pl pu q3
  show wpAny (model X.prog X.w) X.A (subscriptTail e (.Slice lo hi none p2) v (.ref s3.heap.objs.size)) (EP X pins σ Q) X.xe { s3 with heap := s3.heap.push { cls := .type "slice", data := .fields #[vl, vu, .none] } }
  exact tail_any (ops := [.ref s3.heap.objs.size, v]) ht hT hg (by with_unfolding_all rfl)
def cutV (xs : List V) (lo hi : Option Int) : List V := (xs.drop (HT.sIx xs.length 0 lo)).take (HT.sIx xs.length xs.length hi - HT.sIx xs.length 0 lo)
theorem cutV_length (xs : List V) (lo hi : Option Int) : (cutV xs lo hi).length ≤ xs.length := by
  unfold cutV
  rw [List.length_take, List.length_drop]
  omega
end
end L2
namespace L2
open PySem PySem.Spec PyProof.Rows
def ixN (n : Nat) (i : Int) : Option Nat := if 0 ≤ i then (if i < n then some i.toNat else none) else if -(n : Int) ≤ i then some (i + n).toNat else none
def atI {α : Type} (xs : List α) (i : Int) : Option α := (ixN xs.length i).bind fun j => xs[j]?
theorem ixN_seq {n : Nat} {i : Int} {j : Nat} (h : ixN n i = some j) : seqIndex? i n = some j ∧ j < n ∧ -(n : Int) ≤ i ∧ i < n := by
  unfold ixN at h
  by_cases h0 : 0 ≤ i
  · rw [if_pos h0] at h
    by_cases h1 : i < n
    · rw [if_pos h1] at h
      have e : i.toNat = j := Option.some.inj h
      exact ⟨by rw [seqIndex_of h0 h1, e], by omega, by omega, h1⟩
    · rw [if_neg h1] at h; cases h
  · rw [if_neg h0] at h
    by_cases h1 : -(n : Int) ≤ i
    · rw [if_pos h1] at h
      have e : (i + n).toNat = j := Option.some.inj h
      exact ⟨by rw [seqIndex_neg (by omega) h1, e], by omega, h1, by omega⟩
    · rw [if_neg h1] at h; cases h
theorem atI_get {α : Type} {xs : List α} {i : Int} {v : α} (h : atI xs i = some v) : ∃ j, seqIndex? i xs.length = some j ∧ xs[j]? = some v ∧ j < xs.length ∧ -(xs.length : Int) ≤ i ∧ i < xs.length := by
  unfold atI at h
  cases e : ixN xs.length i with
  | none => rw [e] at h; cases h
  | some j =>
    rw [e] at h
    obtain ⟨h1, h2, h3, h4⟩ := ixN_seq e
    exact ⟨j, h1, h, h2, h3, h4⟩
theorem atI_nat {α : Type} {xs : List α} {j : Nat} {v : α} (h : xs[j]? = some v) : atI xs (j : Int) = some v := by
  have hj : j < xs.length := (List.getElem?_eq_some_iff.mp h).1
  have e : ixN xs.length (j : Int) = some j := by
    unfold ixN
    rw [if_pos (by omega), if_pos (by omega)]; simp
  unfold atI; rw [e]; exact h
def PlainIx (b : Expr) : Prop := ∀ o i, subscripted b false o i = operate [o, i] (getItem o i)
def IxR (X : Cx) (r : R2) : Prop :=
  ∀ (value slice : Expr) (pins : List (Addr × Obj)) (s : Shared) (σ : St) (H : Hp) (x y : V) (v u : Value) (Q : VK), Inv X pins σ H s → RelV x v → RelV y u → r x y H Q →
    subscripted slice false v u = operate [v, u] (getItem v u) → wpAny (model X.prog X.w) X.A (subscriptTail value slice v u) (EP X pins σ Q) X.xe s
def MtR (X : Cx) (id : String) (r : V → List V → Hp → VK → Prop) : Prop :=
  ∀ (pins : List (Addr × Obj)) (s : Shared) (σ : St) (H : Hp) (x : V) (xs : List V) (v : Value) (us : List Value) (Q : VK), Inv X pins σ H s → RelV x v → Vals xs us → r x xs H Q →
    wpAny (model X.prog X.w) X.A (call (.builtin id) (v :: us)) (EP X pins σ Q) X.xe s
section
variable {X : Cx} {a b : Expr} {ta tb : TE} {pos : Pos}
theorem pe_ix {r : R2} (hr : IxR X r) (ha : PE X a ta) (hb : PE X b tb) (hs : PlainIx b) : PE X (.Subscript a b pos) (tOp r ta tb) := by
  intro pins s σ H Q I h
  exact Subscript_ (binT ha hb I h fun v u s2 x y H2 I2 rx ry q => hr a b pins s2 σ H2 x y v u Q I2 rx ry q (hs _ _))
def rIxL (K : PySem.W.Frag) : R2 := fun x y H Q => ∃ p xs i v, x = .ref p ∧ y = .int i ∧ SqL K H p xs ∧ atI xs i = some v ∧ Q v H
def rIxT (K : PySem.W.Frag) : R2 := fun x y H Q => ∃ p xs i v, x = .ref p ∧ y = .int i ∧ SqT K H p xs ∧ atI xs i = some v ∧ Q v H
def rIxS : R2 := fun x y H Q => ∃ z i c, x = .str z ∧ y = .int i ∧ z.length ≤ sizeLine ∧ atI z.cps.toList i = some c ∧ Q (.str ⟨#[c]⟩) H
theorem ix_list : IxR X (rIxL X.K) := by
  intro value slice pins s σ H x y v u Q I rx ry h hs
  obtain ⟨p, xs, i, z, rfl, rfl, hq, he, q⟩ := h
  cases rx
  obtain ⟨t, rfl⟩ := ry
  obtain ⟨its, r, pl, hz⟩ := I.list hq
  obtain ⟨j, h1, h2, h3, h4, h5⟩ := atI_get he
  obtain ⟨w, ew, rw'⟩ := r.get h2
  have hl := r.length
  have hn := line63
  have fin : EP X pins σ Q w s := ⟨z, H, I, rw', q⟩
  by_cases h0 : 0 ≤ i
  · have hj : i.toNat = j := by
      rw [seqIndex_of h0 h5] at h1
      exact Option.some.inj h1
    exact item_listR pl.isList h0 (by omega) (by rw [hj]; simpa using ew) fin hs
  · have hj : (i + (its.toArray.size : Int)).toNat = j := by
      rw [seqIndex_neg (by omega) h4] at h1
      rw [List.size_toArray, ← hl]
      exact Option.some.inj h1
    exact subscriptTail_builtinR (x := w) pl.isList.typeIs slot_list_getitem.lookup
      (wpAny_getItem_list_neg (Q := fun r s' => r = w ∧ EP X pins σ Q r s') pl.isList (by omega) (by rw [List.size_toArray] <;> omega) (by omega) (by rw [hj]; simpa using ew) ⟨rfl, fin⟩) hs
theorem ix_tup : IxR X (rIxT X.K) := by
  intro value slice pins s σ H x y v u Q I rx ry h hs
  obtain ⟨p, xs, i, z, rfl, rfl, hq, he, q⟩ := h
  cases rx
  obtain ⟨t, rfl⟩ := ry
  obtain ⟨its, r, pl, hz⟩ := I.tuple hq
  obtain ⟨j, h1, h2, h3, h4, h5⟩ := atI_get he
  obtain ⟨w, ew, rw'⟩ := r.get h2
  have hl := r.length
  have hn := line63
  have fin : EP X pins σ Q w s := ⟨z, H, I, rw', q⟩
  exact subscriptTail_builtinR (x := w) pl.typeIs slot_tuple_getitem.lookup
    (getItem_tuple (j := j) (Q := fun r s' => r = w ∧ EP X pins σ Q r s') pl (by omega) (by omega) (by rw [List.size_toArray, ← hl]; exact h1) (by simpa using ew) ⟨rfl, fin⟩) hs
theorem ix_str : IxR X rIxS := by
  intro value slice pins s σ H x y v u Q I rx ry h hs
  obtain ⟨z, i, c, rfl, rfl, hz, he, q⟩ := h
  obtain ⟨t, rfl⟩ := rx
  obtain ⟨t', rfl⟩ := ry
  obtain ⟨j, h1, h2, h3, h4, h5⟩ := atI_get he
  have hl : z.cps.toList.length = z.length := by simp [Str.length]
  rw [hl] at h1 h4 h5
  have hn := line63
  exact tail_any (typeIs_str s z t) slot_str_getitem.lookup (getItem_str (c := c) (by
    have e1 : decide (i < -(2 ^ 63 : Int)) = false := decide_eq_false (by omega)
    have e2 : decide (i ≥ 2 ^ 63) = false := decide_eq_false (by omega)
    rw [e1, e2, Bool.or_false]) (by rw [h1]; simpa using h2) ⟨.str ⟨#[c]⟩, H, I.tok _, ⟨_, rfl⟩, q⟩) hs
theorem slice_bounds (lo hi : Option Int) (n : Nat) : (sliceBounds lo hi none n).1 = ((HT.sIx n 0 lo : Nat) : Int) ∧ (sliceBounds lo hi none n).2.1 = ((HT.sIx n n hi : Nat) : Int) ∧ (sliceBounds lo hi none n).2.2 = 1 := by
  refine ⟨?_, ?_, rfl⟩
  · cases lo with
    | none => simp [sliceBounds, HT.sIx]
    | some i =>
      simp only [sliceBounds, HT.sIx, Option.getD_none, show (1 : Int) > 0 by decide, if_true]
      by_cases h : i < 0
      · simp only [h, if_true] <;> omega
      · simp only [h, if_false] <;> omega
  · cases hi with
    | none => simp [sliceBounds, HT.sIx]
    | some i =>
      simp only [sliceBounds, HT.sIx, Option.getD_none, show (1 : Int) > 0 by decide, if_true]
      by_cases h : i < 0
      · simp only [h, if_true] <;> omega
      · simp only [h, if_false] <;> omega
theorem slicePick_cut (its : List Value) (lo hi : Option Int) : slicePick its.toArray lo hi none = ((its.drop (HT.sIx its.length 0 lo)).take (HT.sIx its.length its.length hi - HT.sIx its.length 0 lo)).toArray := by
  obtain ⟨h1, h2, h3⟩ := slice_bounds lo hi its.toArray.size
  unfold slicePick
  rw [h1, h2, h3]
  simp only [sliceRange_one, pick_run, List.size_toArray] <;> rfl
def rSlL (K : PySem.W.Frag) : V → Option Int → Option Int → Hp → VK → Prop := fun x lo hi H Q => ∃ a xs, x = .ref a ∧ SqL K H a xs ∧ ∀ p, H p = none → Q (.ref p) (upd H p (.lst (cutV xs lo hi)))
theorem sl_list : SlR X (rSlL X.K) := by
  intro pins s σ H x v vl vu lo hi sl Q I rx hs pl pu h
  obtain ⟨a, xs, rfl, hx, q⟩ := h
  cases rx
  obtain ⟨its, r, ht, hz⟩ := I.list hx
  have hlen := r.length
  refine ⟨"list", _, slot_list_getitem.lookup, ht.isList.typeIs, ?_⟩
  refine wpAny_getItem_list_slice ht.isList hs pl pu .none (by simp) ?_ (by rw [List.size_toArray] <;> omega)
  rw [slicePick_cut, ← hlen]
  refine ⟨.ref s.heap.objs.size, _, I.laid (t' := s.toks) (o := .lst (cutV xs lo hi)) (fun b ob q => Heap.get?_push_of_some _ q) (Nat.le_refl _) ?_, rfl, q _ (I.hok.fresh (Nat.le_refl _))⟩
  exact ⟨Nat.le_trans (cutV_length xs lo hi) hz, _, 0, (r.drop (HT.sIx xs.length 0 lo)).take (HT.sIx xs.length xs.length hi - HT.sIx xs.length 0 lo), Heap.get?_push_size _ rfl⟩
def flatV : V → Bool
  | .non => true
  | .bl _ => true
  | .int _ => true
  | .str _ => true
  | _ => false
def eqV : V → V → Bool
  | .non, .non => true
  | .bl a, .bl b => a == b
  | .bl a, .int b => (if a then 1 else 0) == b
  | .int a, .bl b => a == (if b then 1 else 0)
  | .int a, .int b => a == b
  | .str a, .str b => a == b
  | _, _ => false
theorem eqAt_V {A : Around} {s : Shared} {y x : V} {u v : Value} (ry : RelV y u) (rx : RelV x v) (fy : flatV y = true) (fx : flatV x = true) : SeqAt.EqAt A s u v (eqV y x) := by
  cases y with
  | non =>
    cases ry
    cases x with
    | non => cases rx; exact SeqAt.EqAt.same _
    | bl b => cases rx; exact SeqAt.EqAt.none_bool b
    | int b => obtain ⟨t, rfl⟩ := rx; exact SeqAt.EqAt.none_int b t
    | str b => obtain ⟨t, rfl⟩ := rx; exact SeqAt.EqAt.none_str b t
    | _ => exact absurd (show false = true from fx) Bool.false_ne_true
  | bl a =>
    cases ry
    cases x with
    | non => cases rx; exact SeqAt.EqAt.bool_none a
    | bl b => cases rx; exact SeqAt.EqAt.bool_bool a b
    | int b => obtain ⟨t, rfl⟩ := rx; exact SeqAt.EqAt.bool_int a b t
    | str b => obtain ⟨t, rfl⟩ := rx; exact SeqAt.EqAt.bool_str a b t
    | _ => exact absurd (show false = true from fx) Bool.false_ne_true
  | int a =>
    obtain ⟨t', rfl⟩ := ry
    cases x with
    | non => cases rx; exact SeqAt.EqAt.int_none a t'
    | bl b => cases rx; exact SeqAt.EqAt.int_bool a t' b
    | int b => obtain ⟨t, rfl⟩ := rx; exact SeqAt.EqAt.int_int a t' b t
    | str b => obtain ⟨t, rfl⟩ := rx; exact SeqAt.EqAt.int_str a t' b t
    | _ => exact absurd (show false = true from fx) Bool.false_ne_true
  | str a =>
    obtain ⟨t', rfl⟩ := ry
    cases x with
    | non => cases rx; exact SeqAt.EqAt.str_none a t'
    | bl b => cases rx; exact SeqAt.EqAt.str_bool a t' b
    | int b => obtain ⟨t, rfl⟩ := rx; exact SeqAt.EqAt.str_int a t' b t
    | str b => obtain ⟨t, rfl⟩ := rx; exact SeqAt.EqAt.str_str a t' b t
    | _ => exact absurd (show false = true from fx) Bool.false_ne_true
  | _ => exact absurd (show false = true from fy) Bool.false_ne_true
def eqU (x : V) (u : Value) : Bool := match u with
  | .none => eqV .non x
  | .bool b => eqV (.bl b) x
  | .int i _ => eqV (.int i) x
  | .str z _ => eqV (.str z) x
  | _ => false
theorem eqU_of {x y : V} {u : Value} (r : RelV y u) (f : flatV y = true) : eqU x u = eqV y x := by
  cases y with
  | non => cases r; rfl
  | bl b => cases r; rfl
  | int i => obtain ⟨t, rfl⟩ := r; rfl
  | str z => obtain ⟨t, rfl⟩ := r; rfl
  | _ => exact absurd (show false = true from f) Bool.false_ne_true
theorem any_eqU {x : V} : ∀ {xs : List V} {us : List Value}, Vals xs us → xs.all flatV = true → us.any (eqU x) = xs.any fun y => eqV y x
  | _, _, .nil, _ => rfl
  | y :: xs, u :: us, .cons r t, f => by
    rw [List.all_cons, Bool.and_eq_true] at f
    rw [List.any_cons, List.any_cons, eqU_of r f.1, any_eqU t f.2]
theorem mem_eqAt {A : Around} {s : Shared} {x : V} {v : Value} (rx : RelV x v) (fx : flatV x = true) : ∀ {xs : List V} {us : List Value}, Vals xs us → xs.all flatV = true → ∀ u ∈ us, SeqAt.EqAt A s u v (eqU x u)
  | _, _, .nil, _ => fun u hu => by cases hu
  | y :: xs, u :: us, .cons r t, f => fun u' hu => by
    rw [List.all_cons, Bool.and_eq_true] at f
    rcases List.mem_cons.mp hu with rfl | hu
    · rw [eqU_of r f.1]; exact eqAt_V r rx f.1 fx
    · exact mem_eqAt rx fx t f.2 u' hu
def inV (x : V) (xs : List V) : Bool := xs.any fun y => eqV y x
def rIn (K : PySem.W.Frag) (neg : Bool) : R2 := fun x y H Q => ∃ p xs, y = .ref p ∧ (SqL K H p xs ∨ SqT K H p xs) ∧ flatV x = true ∧ xs.all flatV = true ∧ Q (.bl (if neg then !inV x xs else inV x xs)) H
theorem op_in_seq : OpR X (compareOp .In) (rIn X.K false) := by
  intro pins s σ H x y v u Q I rx ry h
  obtain ⟨p, xs, rfl, hq, fx, fs, q⟩ := h
  cases ry
  rcases hq with hq | hq
  · obtain ⟨its, r, pl, hz⟩ := I.list hq
    refine SeqAt.in_listAt (eqU x) pl.isList (fun w hw => mem_eqAt rx fx r fs w (by simpa using hw)) ⟨.bl _, H, I, rfl, ?_⟩
    rw [show its.toArray.any (eqU x) = its.any (eqU x) by simp, any_eqU r fs]
    exact q
  · obtain ⟨its, r, pl, hz⟩ := I.tuple hq
    refine SeqAt.in_tupleAt (eqU x) pl (fun w hw => mem_eqAt rx fx r fs w (by simpa using hw)) ⟨.bl _, H, I, rfl, ?_⟩
    rw [show its.toArray.any (eqU x) = its.any (eqU x) by simp, any_eqU r fs]
    exact q
theorem op_notIn_str : OpR X (compareOp .NotIn) (fun x y H Q => ∃ i j, x = .str i ∧ y = .str j ∧ Q (.bl (!(!(Builtin.Str.occurrences j i 0 j.length 1).isEmpty))) H) := by
  intro pins s σ H x y v u Q I rx ry h
  obtain ⟨i, j, rfl, rfl, q⟩ := h
  obtain ⟨t, rfl⟩ := rx
  obtain ⟨t', rfl⟩ := ry
  exact notIn_str ⟨.bl _, H, I, rfl, q⟩
theorem call_len_seq : CallR X (.builtin "len") (fun xs H Q => ∃ p ys, xs = [.ref p] ∧ (SqL X.K H p ys ∨ SqT X.K H p ys) ∧ Q (.int ys.length) H) := by
  intro pins s σ H xs us Q I r h
  obtain ⟨p, ys, rfl, hq, q⟩ := h
  obtain ⟨u, rfl, rx⟩ := vals1 r
  cases rx
  have hn := line63
  rcases hq with hq | hq
  · obtain ⟨its, r', pl, hz⟩ := I.list hq
    have hlen := r'.length
    exact Calls.call_len_list pl.isList (by simp only [List.size_toArray] <;> omega) ⟨.int ys.length, H, I.tok _, ⟨s.toks + 1, by rw [List.size_toArray, hlen]⟩, q⟩
  · obtain ⟨its, r', pl, hz⟩ := I.tuple hq
    have hlen := r'.length
    exact len_tuple pl (by simp only [List.size_toArray] <;> omega) ⟨.int ys.length, H, I.tok _, ⟨s.toks + 1, by rw [List.size_toArray, hlen]⟩, q⟩
theorem call_len_str : CallR X (.builtin "len") (fun xs H Q => ∃ z, xs = [.str z] ∧ z.length ≤ sizeLine ∧ Q (.int z.length) H) := by
  intro pins s σ H xs us Q I r h
  obtain ⟨z, rfl, hz, q⟩ := h
  obtain ⟨u, rfl, t, rfl⟩ := vals1 r
  have hn := line63
  exact len_str (by omega) ⟨.int z.length, H, I.tok _, ⟨_, rfl⟩, q⟩
def tyV (K : PySem.W.Frag) (T : String) (x : V) (H : Hp) : Prop := match x with
  | .str _ => T = "str"
  | .int _ => T = "int"
  | .ref p => (T = "list" ∧ ∃ xs, SqL K H p xs) ∨ (T = "tuple" ∧ ∃ o, K.lookup p = some o ∧ o.cls = .type "tuple" ∧ o.dict = none) ∨
      (T = "dict" ∧ ((∃ kvs, H p = some (.dK kvs)) ∨ ∃ kvs, H p = some (.dT kvs))) ∨ (T = "set" ∧ ∃ S n, H p = some (.set S n))
  | _ => False
theorem tyV_is {pins : List (Addr × Obj)} {σ : St} {H : Hp} {s : Shared} {T : String} {x : V} {v : Value} (I : Inv X pins σ H s) (r : RelV x v) (ty : tyV X.K T x H) :
    s.TypeIs v T ∧ ∀ a, v = .ref a → ∃ ob, s.heap.get? a = some ob ∧ ob.dict = none := by
  cases x with
  | str z =>
    obtain ⟨t, rfl⟩ := r
    cases (show T = "str" from ty)
    exact ⟨typeIs_str s z t, fun _ e => nomatch e⟩
  | int i =>
    obtain ⟨t, rfl⟩ := r
    cases (show T = "int" from ty)
    exact ⟨typeIs_int s i t, fun _ e => nomatch e⟩
  | ref p =>
    cases r
    rcases ty with ⟨rfl, xs, hq⟩ | ⟨rfl, o, hk, hc, hd⟩ | ⟨rfl, hk⟩ | ⟨rfl, S, n, hk⟩
    · obtain ⟨its, _, pl, _⟩ := I.list hq
      refine ⟨pl.isList.typeIs, fun a e => ?_⟩
      cases e
      obtain ⟨o, n, e, c, hd, _⟩ := pl
      exact ⟨o, e, hd⟩
    · refine ⟨⟨o, I.kIn p o hk, hc⟩, fun a e => ?_⟩
      cases e
      exact ⟨o, I.kIn _ o hk, hd⟩
    · have z : ∃ o, s.heap.get? p = some o ∧ o.ExactDict := by
        rcases hk with ⟨kvs, hk⟩ | ⟨kvs, hk⟩
        · obtain ⟨_, _, _, _, o, _, _, e, ex, _⟩ := I.hok p _ hk
          exact ⟨o, e, ex⟩
        · obtain ⟨_, _, _, _, o, _, _, e, ex, _⟩ := I.hok p _ hk
          exact ⟨o, e, ex⟩
      obtain ⟨o, e, ex⟩ := z
      refine ⟨⟨o, e, ex.1⟩, fun a e2 => ?_⟩
      cases e2
      exact ⟨o, e, ex.2.1⟩
    · obtain ⟨o, _, _, _, e, ex, _⟩ := I.hok p _ hk
      refine ⟨⟨o, e, ex.1⟩, fun a e2 => ?_⟩
      cases e2
      exact ⟨o, e, ex.2.1⟩
  | _ => exact False.elim ty
def tBM (K : PySem.W.Frag) (T : String) (r : V → List V → Hp → VK → Prop) (to : TE) (t : TA) : TE := fun σ H Q => to σ H fun x H1 => tyV K T x H1 ∧ t σ H1 fun xs H2 => r x xs H2 Q
variable {o e : Expr} {es : List Expr} {to : TE} {t : TA} {name : Str} {apos cpos : Pos} {T id : String} {r : V → List V → Hp → VK → Prop}
theorem pe_bm (pa : PlainAttrs T) (slot : Slot T name id) (hty : typeOf (.builtin id) = pure (.type "method_descriptor")) (hm : MtR X id r) (ho : PE X o to) (ha : PA X (e :: es) t)
    (hbase : attributeBase o name X.env (eval o X.env) = eval o X.env := by rfl)
    (hfew : ((backTo cpos (starEach (e :: es) X.env)).all (fun x => !x.1) && (backToKw cpos (keywordEach [] X.env)).all (fun x => x.1.isSome)
      && decide ((e :: es).length + ([] : List Keyword).length + (if ([] : List Keyword).isEmpty then 0 else 1) < 30)) = true := by rfl)
    (hline : (apos.endLine == cpos.line) = true := by rfl) (hs : starEach (e :: es) X.env = (false, eval e X.env) :: starEach es X.env := by rfl) (hplain : (backTo cpos (starEach es X.env)).any (·.1) = false := by rfl) :
    PE X (.Call (.Attribute o name apos) (e :: es) [] cpos) (tBM X.K T r to t) := by
  intro pins s σ H Q I h
  refine wpAny_Call_method_late hbase hfew hline rfl (thn (ho pins s σ H _ I h) fun v s1 ⟨x, H1, I1, r1, ty, q1⟩ => ?_)
  obtain ⟨h1, h2⟩ := tyV_is I1 r1 ty
  refine ⟨T, id, pa, slot, hty, h1, h2, ?_⟩
  have hA := ha cpos pins s1 σ H1 _ I1 q1
  rw [hs] at hA ⊢
  refine Calls.callWith_builtin (by show (false || (backTo cpos (starEach es X.env)).any (·.1)) = false; rw [hplain] <;> rfl) (Calls.evalArgs_plain ?_)
  exact thn hA fun us s2 ⟨vs, H2, I2, r2, q2⟩ => hm pins s2 σ H2 x vs v us Q I2 r1 r2 q2
end
end L2
namespace L2
open PySem PySem.Spec PyProof.Rows
def MtM (X : Cx) (id : String) (r : V → List V → Hp → VK → Prop) : Prop :=
  ∀ (pins : List (Addr × Obj)) (s : Shared) (σ : St) (H : Hp) (x : V) (xs : List V) (v : Value) (us : List Value) (Q : VK), Inv X pins σ H s → RelV x v → Vals xs us → r x xs H Q →
    wpAny (model X.prog X.w) X.A (call (.builtin id) (v :: us)) (EP X pins σ Q) X.xe s
theorem Vals.one : ∀ {x : V} {us : List Value}, Vals [x] us → ∃ u, us = [u] ∧ RelV x u
  | _, _, .cons r .nil => ⟨_, rfl, r⟩
section
variable {X : Cx} {pins : List (Addr × Obj)} {σ : St} {H : Hp} {s : Shared} {l b : Addr} {xs ys zs : List V}
theorem Inv.lset {its its' : List Value} {n : Nat} {f : Array Value → Array Value} {t' : Nat} (I : Inv X pins σ H s) (hH : H l = some (.lst xs))
    (e : s.heap.get? l = some { cls := .type "list", data := .seq its.toArray n }) (hf : f its.toArray = its'.toArray) (hv : Vals ys its') (hz : ys.length ≤ sizeLine) :
    Inv X pins σ (upd H l (.lst ys)) { s with heap := s.heap.update l (Obj.mapSeq f), toks := t' } := by
  have q := PySem.IsL.update e f
  rw [hf] at q
  refine I.write (x := l) (e := l) (by rw [hH]; exact trivial) (.inl rfl) (fun b' u hb hu => (Heap.get?_update_other s.heap (Obj.mapSeq f) (Ne.symm hb)).trans hu) ⟨_, q⟩ ?_
  exact ⟨hz, its', _, hv, q⟩
theorem Inv.lnew {its : List Value} {t' : Nat} (I : Inv X pins σ H s) (hv : Vals ys its) (hz : ys.length ≤ sizeLine) :
    Inv X pins σ (upd H s.heap.objs.size (.lst ys)) { s with heap := s.heap.push { cls := .type "list", data := .seq its.toArray }, toks := t' } :=
  I.laid (fun _ _ q => Heap.get?_push_of_some _ q) (Nat.le_refl _) ⟨hz, its, 0, hv, Heap.get?_push_size _ rfl⟩
theorem Inv.fresh (I : Inv X pins σ H s) : H s.heap.objs.size = none := I.hok.fresh (Nat.le_refl _)
theorem Inv.lstM (I : Inv X pins σ H s) (hH : H l = some (.lst xs)) : xs.length ≤ sizeLine ∧ ∃ (its : List Value) (n : Nat), Vals xs its ∧ xs.length = its.length ∧ s.heap.get? l = some { cls := .type "list", data := .seq its.toArray n } := by
  obtain ⟨z, its, n, r, e⟩ := I.hok l _ hH
  exact ⟨z, its, n, r, r.length, e⟩
end
section
variable {X : Cx}
def rAppend : V → List V → Hp → VK → Prop := fun x vs H Q => ∃ l xs y, x = .ref l ∧ vs = [y] ∧ H l = some (.lst xs) ∧ xs.length < sizeLine ∧ Q .non (upd H l (.lst (xs ++ [y])))
theorem mt_append : MtM X "list.append" rAppend := by
  intro pins s σ H x vs v us Q I rx rv h
  obtain ⟨l, xs, y, rfl, rfl, hH, hz, q⟩ := h
  cases rx
  obtain ⟨u, rfl, ru⟩ := rv.one
  obtain ⟨z, its, n, r, hl, e⟩ := I.lstM hH
  refine call_meets F.slot_list_append ⟨_, e, rfl⟩ F.entry_list_append (F.args_list_append_2 _ _) (PySem.list_append l its.toArray n u (by rw [List.size_toArray]; omega)) ⟨e, ?_⟩
  refine ⟨.non, _, I.lset (its' := its ++ [u]) hH e (by simp) (r.append (.cons ru .nil)) ?_, rfl, q⟩
  rw [List.length_append, List.length_singleton]
  omega
def rCat : R2 := fun x y H Q => ∃ l b xs zs, x = .ref l ∧ y = .ref b ∧ H l = some (.lst xs) ∧ H b = some (.lst zs) ∧ xs.length + zs.length ≤ sizeLine ∧ ∀ p, H p = none → Q (.ref p) (upd H p (.lst (xs ++ zs)))
theorem op_cat : OpR X (binaryOp .Add) rCat := by
  intro pins s σ H x y v u Q I rx ry h
  obtain ⟨l, b, xs, zs, rfl, rfl, hH, hB, hz, q⟩ := h
  cases rx
  cases ry
  obtain ⟨z, its, n, r, hl, e⟩ := I.lstM hH
  obtain ⟨z2, its2, n2, r2, hl2, e2⟩ := I.lstM hB
  refine PySem.P.add_list e e2 ?_ (by rw [List.size_toArray, List.size_toArray]; omega)
  have ea : its.toArray ++ its2.toArray = (its ++ its2).toArray := by simp
  rw [ea]
  exact ⟨.ref _, _, I.lnew (t' := s.toks) (r.append r2) (by rw [List.length_append]; omega), rfl, q _ I.fresh⟩
def rRep : R2 := fun x y H Q => ∃ l k xs, x = .ref l ∧ y = .int k ∧ H l = some (.lst xs) ∧ -(2 ^ 63) ≤ k ∧ k < 2 ^ 63 ∧ xs.length * k.toNat ≤ sizeLine ∧
  ∀ p, H p = none → Q (.ref p) (upd H p (.lst (List.replicate k.toNat xs).flatten))
end
section
variable {prog : Program} {w : World} {A : Around} {E : Value → Shared → Prop} {s : Shared}
set_option maxRecDepth 100000 in
end
section
variable {X : Cx}
end
end L2
namespace Att
open PySem PySem.W PySem.Calls PyProof.Rows
theorem ints_of_wellAll {P : Params} {h : Heap} : ∀ (ns : List Int) (vs : List Value), WellAll P h vs (ns.map WData.int) → IntsAre vs ns := by
  intro ns
  induction ns with
  | nil =>
    intro vs w
    rw [List.map_nil] at w
    cases w
    exact .nil
  | cons n ns ih =>
    intro vs w
    rw [List.map_cons] at w
    cases w with
    | cons a b =>
      cases a
      exact .cons _ _ (ih _ b)
theorem script_of {l : OpenLaw} {n : Nat} (hn : l.most = some n) {P : Params} {h : Heap} {args : List WData} {vals : List Value}
    (hpre : l.row.toRowW.claim.pre args = true) (hwl : WellAll P h vals args) :
    ∃ a vs ns, vals = [Value.ref a] ∧ args = [WData.list (ns.map WData.int)] ∧ h.get? a = some { cls := .type "list", data := .seq vs.toArray } ∧ IntsAre vs ns ∧ ns.length ≤ n := by
  have hsh : WShape.hasAll [] args [.list .int] = true := (pre_splitW hpre).1
  have hc : l.pre.holds [] { args := args } = true := (pre_splitW hpre).2
  obtain ⟨d, r, rfl, h1, h2⟩ := hasAllW_cons hsh
  obtain rfl := hasAllW_nil h2
  obtain ⟨xs, rfl, h3⟩ := hasW_list h1
  obtain ⟨ns, rfl⟩ := items_int h3
  have hlen : ns.length ≤ n := by
    unfold OpenLaw.pre at hc
    have h4 : (WTm.not (.lt (.lit (.int (n : Int))) (.len (.arg 0)))).holds [] { args := [.list (ns.map .int)] } = true := by
      have h4 := (holds_andW hc).1
      rw [hn] at h4
      exact h4
    have h5 := condW_of h4 (w_not (w_lt w_lit (w_len_list (w_arg rfl))))
    rw [List.length_map] at h5
    refine Nat.le_of_not_lt fun q => ?_
    have q' : (n : Int) < ((ns.length : Nat) : Int) := by omega
    first
      | (rw [decide_eq_true q'] at h5; exact absurd h5 (by decide))
      | (simp at h5; omega)
  cases hwl with
  | cons w1 w2 =>
    cases w2
    cases w1 with
    | list ho hall => exact ⟨_, _, ns, rfl, rfl, ho, ints_of_wellAll ns _ hall, hlen⟩
theorem post_true (l : OpenLaw) (args : List WData) : l.row.toRowW.claim.post args (.bool true) args = true :=
  postW_of (r := l.row.toRowW) (X := (true == true))
    (show WShape.has [] (.bool true) .bool = true by first | rfl | decide | simp [WShape.has, WShape.arms, WShape.armsAll])
    (show (WTm.eq .res (.lit (.bool true))).value [] { args := args, res := some (.bool true), after := args } = some (.bool (true == true)) from w_eq_bool (w_res rfl) w_lit) rfl
theorem attach_call {l : OpenLaw} {n : Nat} {q : Program} {loose : List Str} {XP : (Str → Option Value) → Heap → Prop} {YP : World → Heap → Prop} {d : DefRec}
    (hn : l.most = some n) (hdf : d.params.defaults = [])
    (call : ∀ (w : World) (s₀ s₁ : Shared) (mg mb : Str → Option Value) (fa : Addr) (o : Obj) (pm cd doc : Value) (a : Addr) (vs : List Value) (ns : List Int),
      Ground q loose [] XP w s₀ mg mb s₁.heap → YP w s₁.heap →
      s₁.heap.get? fa = some o → o.data = .func (docDef d.name d.params d.body d.scope pm cd doc) → s₁.heap.CodeRec cd d.name → mg d.name = some (.ref fa) →
      s₁.heap.get? a = some { cls := .type "list", data := .seq vs.toArray } → IntsAre vs ns → ns.length ≤ n → s₁.gens = #[] →
      codeAny (model l.prog w) callerA (.call (.ref fa) ⟨[.ref a], []⟩) (fun r s' => r = .ok (.ret (.bool true)) ∧ OldK s₁.heap s'.heap ∧ s'.os = s₁.os ∧ AllBare s'.gens) s₁) :
    WalkO q loose XP YP l.row.toRowW d [] (fun f vs => PySem.call f vs) := by
  intro w s₀ s₁ mg mb G Y fa o pm cd doc dV kV ho hd hcd hD hmg hg args vals as hpre hlay hrd hwl hlo
  obtain rfl : dV = .none := Dflts.none hD hdf
  obtain rfl : kV = .none := Dflts.noKw hD
  obtain ⟨a, vs, ns, rfl, rfl, hobj, hints, hlen⟩ := script_of hn hpre hwl
  refine enter_call (codeAny_mono (call w s₀ s₁ mg mb fa o pm cd doc a vs ns G Y ho (fd_plain hd) hcd hmg hobj hints hlen hg) fun r s' hq => ?_)
  obtain ⟨rfl, h2, h3, h4⟩ := hq
  exact ⟨.inl ⟨.bool true, .bool true, [], rfl, fun _ => rfl, .bool true, post_true l _, fun _ => ⟨List.Pairwise.nil, fun _ hm => (nomatch hm)⟩⟩, h2, h3, h4⟩
section
variable {prog : Program} {w : World} {A : Around} {E : Value → Shared → Prop} {s : Shared} {K : Frag}
end
end Att
namespace L2
open PySem PySem.Spec PyProof.Rows
theorem vals_ints : ∀ {vs : List Value} {ns : List Int}, IntsAre vs ns → Vals (ns.map V.int) vs
  | _, _, .nil => .nil
  | _, _, .cons n t h => .cons ⟨t, rfl⟩ (vals_ints h)
def Only (H : Hp) : Prop := ∀ b, H b = none ∨ ∃ o xs, H b = some (.frz o (.lst xs))
theorem law_call {P : Program} {w : World} {K : PySem.W.Frag} {mg mb : Str → Option Value} {CX : CXT} {k : Nat} {fa a : Addr} {fd : FuncData} {x : Str} {sp : Sp} {s₁ : Shared} {vs : List Value} {ns : List Int}
    (KX : K.In s₁.heap) (hns : s₁.heap.Ns mainGlobals mg) (hb : s₁.heap.Ns builtinsNs mb) (hbb : ∀ x : Str, x ≠ "__name__" → mb x = bootBuiltins x) (hlim : s₁.heap.NoLimit) (hg : s₁.gens = #[])
    (ha : s₁.heap.get? a = some { cls := .type "list", data := .seq vs.toArray }) (hi : IntsAre vs ns) (hl : ns.length ≤ sizeLine) (hr : Room k callerA)
    (F : ∀ base : Heap, K.In base → base.Ns mainGlobals mg → FnOk P w K mg base CX k fa fd [x] sp) (hbind : ∀ (s : Shared) (u : Value), BindsTo s fd ⟨[u], []⟩ [(x, u)])
    (hsp : ∀ H : Hp, Only H → SqL K H a (ns.map V.int) → sp [.ref a] H (fun v _ => v = .bl true) fun _ _ _ => False)
    (hCX : ∀ H e s', CX [] H s₁ (fun _ _ _ => False) e s' → False) :
    codeAny (model P w) callerA (.call (.ref fa) ⟨[.ref a], []⟩) (fun r s' => r = .ok (.ret (.bool true)) ∧ OldK s₁.heap s'.heap ∧ s'.os = s₁.os ∧ AllBare s'.gens) s₁ := by
  have rv := vals_ints hi
  have lenV := hi.length
  -- from an abstract heap in which nothing but the script may be tracked
  have core : ∀ H : Hp, Only H → SqL K H a (ns.map V.int) → HOk P w H s₁.heap → (∀ b, H b ≠ none → b = a) → (H a ≠ none → K.lookup a = none) →
      codeAny (model P w) callerA (.call (.ref fa) ⟨[.ref a], []⟩) (fun r s' => r = .ok (.ret (.bool true)) ∧ OldK s₁.heap s'.heap ∧ s'.os = s₁.os ∧ AllBare s'.gens) s₁ := by
    intro H hO hS hok hA hK
    have base_of : ∀ {b : Addr} {o : Obj}, s₁.heap.get? b = some o → H b = none → (hidT s₁.heap H).get? b = some o := fun e n => hidT_get e n
    have noA : ∀ {b : Addr} {o : Obj} {es : Array DictEntry} {ep : Nat}, s₁.heap.get? b = some o → o.data = .dict es ep → H b = none := fun {b o es ep} e d => by
      cases q : H b with
      | none => rfl
      | some u =>
        have e' : b = a := hA b (by rw [q]; simp)
        subst e'
        rw [ha] at e; cases e
        have d' : Data.seq vs.toArray _ = Data.dict es ep := d
        cases d'
    have nsK : ∀ {b : Addr} {m : Str → Option Value}, s₁.heap.Ns b m → (hidT s₁.heap H).Ns b m := fun {b m} ⟨o, es, ep, e, d, r⟩ => ⟨o, es, ep, base_of e (noA e d), d, r⟩
    have hKb : K.In (hidT s₁.heap H) := fun b o e => base_of (KX b o e) (by
      cases q : H b with
      | none => rfl
      | some u =>
        have e' : b = a := hA b (by rw [q]; simp)
        subst e'
        rw [hK (by rw [q]; simp)] at e; cases e)
    have hM : Mod K mg (hidT s₁.heap H) := ⟨hKb, nsK hns, ⟨mb, nsK hb, hbb⟩, let ⟨mc, h1, h2⟩ := hlim; ⟨mc, nsK h1, h2⟩⟩
    have e0 : Env0 P w K mg (hidT s₁.heap H) callerA [] s₁ H := ⟨rfl, hM, fun b o e => of_hidT e, Nat.le_of_eq (hidT_size _ _), trivial, fun b hb => absurd (show b ∈ ([] : List Addr) from hb) (by simp), hok, .of_eq hg⟩
    refine codeAny_mono ((F _ hKb (nsK hns)).run callerA [] s₁ H ⟨[.ref a], []⟩ [.ref a] [.ref a] _ _ hr e0 (hbind s₁ (.ref a)) (.cons rfl .nil) (hsp H hO hS)) fun r s' h => ?_
    cases r with
    | error e => exact (hCX H e s' h).elim
    | ok fl =>
      cases fl with
      | next => exact False.elim h
      | brk => exact False.elim h
      | cont => exact False.elim h
      | ret u =>
        obtain ⟨v, H', os, bare, un, hok', r', q⟩ := h
        have q' : v = .bl true := q
        subst q'
        obtain rfl : u = Value.bool true := r'
        refine ⟨rfl, OldK.of_keep fun b o e => ?_, os, bare⟩
        cases q : H b with
        | none => exact un.keep b o e q (by intro z; exact absurd (show b ∈ ([] : List Addr) from z) (by simp)) (by simp)
        | some u =>
          rcases hO b with z | ⟨ob, xs, z⟩
          · rw [q] at z; cases z
          · have z2 := un.frzs b ob _ z
            obtain ⟨e1, _⟩ := hok b _ z
            obtain ⟨e2, _⟩ := hok' b _ z2
            rw [e] at e1; cases e1
            exact e2
  cases hk : K.lookup a with
  | some o =>
    -- the script is one of the module's own objects
    have e := KX a o hk
    rw [ha] at e
    cases e
    refine core (fun _ => none) (fun _ => .inl rfl) (.inr ⟨_, vs.toArray, _, hk, rfl, rfl, rfl, by rw [List.size_toArray, lenV]; exact hl, by simpa using rv⟩) (fun b u z => by have z' : (none : Option HO) = some u := z; cases z') (fun b z => absurd rfl z) fun z => absurd rfl z
  | none =>
    refine core (fun b => if b = a then some (.frz { cls := .type "list", data := .seq vs.toArray } (.lst (ns.map V.int))) else none) (fun b => ?_) (.inl (.inr ⟨{ cls := .type "list", data := .seq vs.toArray }, if_pos rfl⟩)) (fun b u z => ?_) (fun b z => ?_) fun _ => hk
    · by_cases hb : b = a
      · exact .inr ⟨_, _, if_pos hb⟩
      · exact .inl (if_neg hb)
    · by_cases hb : b = a
      · have z' := (if_pos hb).symm.trans z
        cases z'
        subst hb
        exact ⟨ha, by rw [List.length_map]; exact hl, vs, _, rv, ha⟩
      · have z' := (if_neg hb).symm.trans z
        cases z'
    · by_cases hb : b = a
      · exact hb
      · exact absurd (if_neg hb) z
end L2
namespace L2
open PySem PySem.Spec PyProof.Rows
theorem walk_of {l : PySem.W.OpenLaw} {n k : Nat} {q : Program} {loose : List Str} {XP : (Str → Option Value) → Heap → Prop} {YP : World → Heap → Prop} {d : DefRec} {K : Params → PySem.W.Frag} {CX : World → CXT} {sp : World → Sp} {x : Str}
    (hn : l.most = some n) (hn2 : n ≤ sizeLine) (hdf : d.params.defaults = []) (hr : Room k callerA)
    (hY : ∀ (w : World) (h : Heap), YP w h → (K w.params).In h)
    (F : ∀ (w : World) (mg : Str → Option Value) (fa : Addr) (h : Heap), (K w.params).In h → h.Ns mainGlobals mg → mg d.name = some (.ref fa) →
      ∃ fd : FuncData, (∀ (s : Shared) (u : Value), BindsTo s fd ⟨[u], []⟩ [(x, u)]) ∧
        ∀ base : Heap, (K w.params).In base → base.Ns mainGlobals mg → FnOk l.prog w (K w.params) mg base (CX w) k fa fd [x] (sp w))
    (hsp : ∀ (w : World) (H : Hp) (a : Addr) (ns : List Int), ns.length ≤ n → Only H → SqL (K w.params) H a (ns.map V.int) → sp w [.ref a] H (fun v _ => v = .bl true) fun _ _ _ => False)
    (hCX : ∀ (w : World) (H : Hp) (s : Shared) (e : Value) (s' : Shared), CX w [] H s (fun _ _ _ => False) e s' → False) :
    PySem.W.WalkO q loose XP YP l.row.toRowW d [] (fun f vs => PySem.call f vs) := by
  refine Att.attach_call hn hdf fun w s₀ s₁ mg mb fa o pm cd doc a vs ns G Y ho hd hcd hmg hobj hints hlen hg => ?_
  have KX := hY w _ Y
  obtain ⟨fd, hb, hF⟩ := F w mg fa _ KX G.T.g hmg
  exact law_call KX G.T.g G.T.b G.T.builtins G.T.nolimit hg hobj hints (Nat.le_trans hlen hn2) hr hF hb (fun H hO hS => hsp w H a ns hlen hO hS) fun H e s' => hCX w H s₁ e s'
end L2
namespace L2
open PySem PySem.Spec PyProof.Rows
def defArgs (s : Stmt) : Arguments := match s with
  | .FunctionDef _ a _ _ _ _ _ _ _ _ => a
  | _ => { posonlyargs := [], args := [], vararg := none, kwonlyargs := [], kw_defaults := [], kwarg := none, defaults := [] }
def defBody (s : Stmt) : List Stmt := match s with
  | .FunctionDef _ _ b _ _ _ _ _ _ _ => b
  | _ => []
def defScope (s : Stmt) : Scope := match s with
  | .FunctionDef _ _ _ _ _ _ sc _ _ _ => sc
  | _ => { kind := .function, names := [], isGenerator := false, isCoroutine := false }
abbrev CX0 : CXT := fun _ _ _ _ _ _ => False
abbrev E0 : XK := fun _ _ _ => False
theorem pass0 {X : Cx} : Passes CX0 X E0 := fun _ _ _ _ _ _ _ h => h.elim
structure Fun (K : PySem.W.Frag) (x qual : Str) (st : Stmt) (f : Addr) (fd : FuncData) : Prop where
  ex : ∃ (oc : Value) (od : Option Addr) (kV doc pm : Value) (an : Option Addr) (cdv ct : Value) (osl : Array (Option Value)),
    fd = PySem.W.fnOf x qual (defArgs st) (defBody st) (defScope st) .none kV doc pm an cdv ct ∧ K.lookup f = some ⟨oc, od, .func fd, osl⟩ ∧ PySem.W.codeIn K cdv qual = true
  kp : PySem.W.keepIn K (.ref f) = true
section
variable {P : Program} {w : World} {K : PySem.W.Frag} {mg : Str → Option Value} {base : Heap}
theorem Fun.ok {x qual : Str} {st : Stmt} {f : Addr} {fd : FuncData} {N ps : List Str} {k : Nat} {sp : Sp} (F : Fun K x qual st f fd) (S : FnScope N ps (defScope st)) (len : ∀ vs H Q E, sp vs H Q E → vs.length = ps.length)
    (hbody : ∀ (cdv : Value) (A : Around) (outer : List Env) (s : Shared) (H : Hp) (vs : List V) (Q : VK) (E : XK), Room k (A.deeper (envOfC qual (defScope st) s.heap.objs.size f cdv)) → sp vs H Q E →
      ∃ t, PSs (cxOf CX0 P w K mg base N qual (defScope st) f cdv A outer s H E).nox (defBody st) t ∧ t { nx := fun _ H' => Q .non H', rt := Q } (start N vs) H) : FnOk P w K mg base CX0 (k + 1) f fd ps sp := by
  obtain ⟨oc, od, kV, doc, pm, an, cdv, ct, osl, rfl, lk, hcd⟩ := F.ex
  refine fn_of lk hcd S len fun A outer s H vs Q E hr hsp => ?_
  obtain ⟨t, h, q⟩ := hbody cdv A outer s H vs Q E hr hsp
  exact ⟨t, h.nox, q⟩
theorem Fun.binds {x qual : Str} {st : Stmt} {f : Addr} {fd : FuncData} {ps : List Str} (F : Fun K x qual st f fd)
    (h : ∀ (kV doc pm : Value) (an : Option Addr) (cdv ct : Value) (us : List Value), us.length = ps.length → bindArgs (PySem.W.fnOf x qual (defArgs st) (defBody st) (defScope st) .none kV doc pm an cdv ct) ⟨us, []⟩ = pure (ps.zip us)) : Binds K fd ps [] := by
  obtain ⟨oc, od, kV, doc, pm, an, cdv, ct, osl, rfl, lk, hcd⟩ := F.ex
  exact .all (h kV doc pm an cdv ct)
theorem fun_mk {x qual : Str} {st : Stmt} {f : Addr} {oc : Value} {od an : Option Addr} {osl : Array (Option Value)} {kV doc pm cdv ct : Value} (l : K.lookup f = some ⟨oc, od, .func (PySem.W.fnOf x qual (defArgs st) (defBody st) (defScope st) .none kV doc pm an cdv ct), osl⟩)
    (c : PySem.W.codeIn K cdv qual = true) (k : PySem.W.keepIn K (.ref f) = true) : Fun K x qual st f (PySem.W.fnOf x qual (defArgs st) (defBody st) (defScope st) .none kV doc pm an cdv ct) := ⟨⟨oc, od, kV, doc, pm, an, cdv, ct, osl, rfl, l, c⟩, k⟩
end
theorem hu_of {A : Around} {k : Nat} (hr : Room k A) : A.units + 1 < cLine := Nat.lt_of_le_of_lt (Nat.add_le_add_left (by decide : 1 ≤ 64) _) hr.units
section
variable {X : Cx}
theorem pv (i : Nat) {x : Str} {pos : Pos} (hN : X.N[i]? = some x := by rfl) (hv : Vis X.env.scope x := by first | exact Or.inl rfl | exact Or.inr (Or.inl rfl) | exact Or.inr (Or.inr rfl)) (hd : (x == ("__debug__" : Str)) = false := by decide)
    (hcd : (x == ("__classdict__" : Str)) = false := by decide) : PE X (.Name x pos) (tVar i) := pe_var hN hv hd hcd
end
theorem iteF {A B : Prop} (h : B) : if false = true then A else B := by
  rw [if_neg Bool.false_ne_true]
  exact h
theorem iteT {A B : Prop} (h : A) : if true = true then A else B := by
  rw [if_pos rfl]
  exact h
def Same (H H' : Hp) : Prop := ∀ b o, H b = some o → H' b = some o
theorem Same.refl (H : Hp) : Same H H := fun _ _ h => h
theorem Same.trans {H H1 H2 : Hp} (a : Same H H1) (b : Same H1 H2) : Same H H2 := fun c o h => b c o (a c o h)
theorem Same.free {H H' : Hp} (e : Same H H') {l : Addr} (h : H' l = Option.none) : H l = Option.none := by
  cases q : H l with
  | none => rfl
  | some o =>
    rw [e l o q] at h
    cases h
theorem Same.seq {K : PySem.W.Frag} {H H' : Hp} {a : Addr} {xs : List V} (e : Same H H') (h : SqL K H a xs) : SqL K H' a xs := by
  rcases h with (h | ⟨o, h⟩) | h
  · exact .inl (.inl (e _ _ h))
  · exact .inl (.inr ⟨o, e _ _ h⟩)
  · exact .inr h
end L2
set_option Elab.async false
set_option linter.all false
set_option maxRecDepth 100000
namespace My
open PySem PySem.Spec PyProof.Rows L2
section
variable {X : Cx}
theorem bits600 {k : Int} (h : k.natAbs < 2 ^ 600) : Builtin.Int.intBits k ≤ 2 ^ 20 :=
  Nat.le_trans (PyProof.Rows.intBits_le (k := 600) h) (by decide)
def CBig (i j : Int) : Prop := i.natAbs < 2 ^ 600 ∧ j.natAbs < 2 ^ 600
theorem op_mulB : OpR X (binaryOp .Mult) (rI CBig fun i j => .int (i * j)) := opI fun _ _ _ _ _ _ _ hc q => mul_int q (IntMulOk.of_bits (bits600 hc.1) (bits600 hc.2))
def CDivB (i j : Int) : Prop := j ≠ 0 ∧ j.natAbs < 2 ^ 600
theorem noPy {x y : Int} (h : y.natAbs < 2 ^ 600) : Builtin.divisionGoesByPylong x y = false := by
  refine PyProof.noPylong_of_log2 ?_
  by_cases h0 : y.natAbs = 0
  · rw [h0]; decide +kernel
  · have h30 : y.natAbs.log2 < 600 := (Nat.log2_lt h0).mpr h
    omega
theorem op_fdivB : OpR X (binaryOp .FloorDiv) (rI CDivB fun i j => .int (i.fdiv j)) := opI fun _ _ _ _ _ _ _ hc q => floordiv_int hc.1 q (.inl (noPy hc.2))
end
theorem same_new {H : Hp} {p : Addr} (h : H p = none) (o : HO) : Same H (upd H p o) := fun b u q => by rw [upd_ne (ne_of_none q h)]; exact q
theorem same_tup {K : PySem.W.Frag} {H H' : Hp} {a : Addr} {xs : List V} (e : Same H H') (h : SqT K H a xs) : SqT K H' a xs := by
  rcases h with (h | ⟨o, h⟩) | h
  · exact .inl (.inl (e _ _ h))
  · exact .inl (.inr ⟨o, e _ _ h⟩)
  · exact .inr h
def cell (ns : List Int) (k : Int) : Int := (ns[k.toNat]?).getD 0
theorem cell_at {ns : List Int} {k : Int} (h0 : 0 ≤ k) (h : k < (ns.length : Int)) : atI (ns.map V.int) k = some (.int (cell ns k)) := by
  have hk : k.toNat < ns.length := by omega
  have ek : k = ((k.toNat : Nat) : Int) := by omega
  have q : atI (ns.map V.int) ((k.toNat : Nat) : Int) = some (.int ns[k.toNat]) := atI_nat (by rw [List.getElem?_map, List.getElem?_eq_getElem hk] <;> rfl)
  rw [← ek] at q
  rw [q]
  unfold cell
  rw [List.getElem?_eq_getElem hk]
  rfl
end My
set_option Elab.async false
set_option linter.all false
set_option maxRecDepth 100000
namespace My
open PySem PySem.Spec PyProof.Rows L2
section
variable {X : Cx}
end
end My
set_option Elab.async false
set_option linter.all false
set_option maxRecDepth 100000
set_option maxHeartbeats 1000000
namespace My
open PySem PySem.Spec PyProof.Rows L2
section
variable {X : Cx} {pins : List (Addr × Obj)} {σ : L2.St} {H : Hp} {s : Shared} {h' : Heap}
structure Rec (X : Cx) (pins : List (Addr × Obj)) (H : Hp) (h : Heap) (b : Addr) : Prop where
  nw : X.s₀.heap.get? b = none
  un : H b = none
  pin : ∀ p ∈ X.pn ++ pins, p.1 ≠ b
  ob : ∃ o vs, h.get? b = some o ∧ o.data = .fields vs
theorem Rec.loc (I : Inv X pins σ H s) {b : Addr} (r : Rec X pins H s.heap b) : b ≠ X.env.locals := fun z => by
  obtain ⟨o, vs, e, d⟩ := r.ob
  obtain ⟨m, ⟨o', es, ep, e', d', _⟩, _⟩ := I.loc
  rw [z, e'] at e; cases e; rw [d'] at d; cases d
theorem Rec.cel (I : Inv X pins σ H s) {b : Addr} (r : Rec X pins H s.heap b) : ∀ x c, X.env.cells.lookup x = some c → c ≠ b := fun x c hc z => by
  obtain ⟨o, vs, e, d⟩ := r.ob
  obtain ⟨v, o', e', d'⟩ := I.cell x c hc
  rw [z, e] at e'; cases e'; rw [d] at d'; cases d'
theorem Rec.frs (I : Inv X pins σ H s) {b : Addr} (r : Rec X pins H s.heap b) : b ∉ frs X.stack := fun z => by
  obtain ⟨o, vs, e, d⟩ := r.ob
  obtain ⟨_, o', e', d'⟩ := I.stack.mem z
  rw [e] at e'; cases e'; exact d' vs d
theorem Inv.marks {ch : List Addr} {t' : Nat} (I : Inv X pins σ H s) (hch : ∀ b ∈ ch, Rec X pins H s.heap b)
    (k1 : ∀ b o, b ∉ frs X.stack → b ∉ ch → s.heap.get? b = some o → h'.get? b = some o)
    (k2 : ∀ b o, b ∉ ch → s.heap.get? b = some o → ∃ sl, h'.get? b = some { o with slots := sl }) : Inv X pins σ H { s with heap := h', toks := t' } := by
  have sub : ∀ b, b ≠ X.env.locals → b ∉ X.fs → b ∉ frs X.stack := fun b h1 h2 z => (List.mem_cons.mp (I.stkSub b z)).elim h1 h2
  have neL : ∀ b o, X.s₀.heap.get? b = some o → b ≠ X.env.locals := fun b o e => Nat.ne_of_lt (Nat.lt_of_lt_of_le (Heap.lt_size e) I.ok.above)
  have neC : ∀ b o, X.s₀.heap.get? b = some o → b ∉ ch := fun b o e z => by rw [(hch b z).nw] at e; cases e
  have cel : ∀ x c, X.env.cells.lookup x = some c → ∀ v, s.heap.IsCell c v → h'.IsCell c v := fun x c e v ⟨o, ho, hd⟩ => by
    obtain ⟨sl, q⟩ := k2 c o (fun z => (hch c z).cel I x c e rfl) ho
    exact ⟨_, q, hd⟩
  refine ⟨I.ok, I.os, I.bare, ⟨fun b o e n hb hx => k1 b o (sub b (neL b o e) hb) (neC b o e) (I.base.keep b o e n hb hx), fun b o e n hb hx => ?_, I.base.free, fun b o e hx => ?_, I.base.tups, I.base.frzs, I.base.tbls⟩,
    ?_, fun x c e => ?_, I.free, I.freeC, fun p hp => ?_, fun a o e => ?_, I.len⟩
  · obtain ⟨sl, e1⟩ := I.base.slot b o e n hb hx
    obtain ⟨sl', e2⟩ := k2 b _ (neC b o e) e1
    exact ⟨sl', e2⟩
  · obtain ⟨o', e1⟩ := I.base.there b o e hx
    obtain ⟨sl', e2⟩ := k2 b _ (neC b o e) e1
    exact ⟨_, e2⟩
  · obtain ⟨m, hm, hl⟩ := I.loc
    have hm' : h'.Ns X.env.locals m := by
      obtain ⟨o, es, ep, e, r⟩ := hm
      obtain ⟨sl, q⟩ := k2 _ o (fun z => (hch _ z).loc I rfl) e
      exact ⟨_, es, ep, q, r⟩
    refine ⟨m, hm', fun i x v e1 e2 e3 => ?_⟩
    obtain ⟨u, r, l⟩ := hl i x v e1 e2 e3
    refine ⟨u, r, ?_⟩
    rcases l with l | ⟨k, c, e, z⟩
    · exact .inl l
    · exact .inr ⟨k, c, e, cel x c e _ z⟩
  · obtain ⟨v, z⟩ := I.cell x c e
    exact ⟨v, cel x c e v z⟩
  · obtain ⟨e, n, ne, nf, d⟩ := I.pin p hp
    exact ⟨k1 p.1 p.2 (sub p.1 ne nf) (fun z => (hch p.1 z).pin p hp rfl) e, n, ne, nf, d⟩
  · refine (I.hok a o e).stay (fun b u hb q => k1 b u ?_ ?_ q) (fun _ q => q) fun _ _ q => q
    · intro z
      have n := I.stkFree b z
      rcases hb with rfl | hb
      · rw [n] at e; cases e
      · rw [n] at hb; cases hb
    · intro z
      have n := (hch b z).un
      rcases hb with rfl | hb
      · rw [n] at e; cases e
      · rw [n] at hb; cases hb
theorem obj_there {P : Program} {w : World} {H : Hp} {h : Heap} {a : Addr} {o : HO} (x : ObjOk P w H h a o) : ∃ ob, h.get? a = some ob := by
  cases o with
  | lst xs => obtain ⟨_, _, _, _, e⟩ := x; exact ⟨_, e⟩
  | tup xs => obtain ⟨_, _, _, ob, e, _⟩ := x; exact ⟨_, e⟩
  | dK kvs => obtain ⟨_, _, _, _, o, _, _, e, _⟩ := x; exact ⟨_, e⟩
  | dT kvs => obtain ⟨_, _, _, _, o, _, _, e, _⟩ := x; exact ⟨_, e⟩
  | set S n => obtain ⟨o, _, _, _, e, _⟩ := x; exact ⟨_, e⟩
  | ins C dx fs => obtain ⟨_, _, _, e, _⟩ := x; exact ⟨_, e⟩
  | own y => exact x
  | xd fs => obtain ⟨_, ⟨_, _, _, e, _⟩, _⟩ := x; exact ⟨_, e⟩
  | rng lo hi => obtain ⟨_, _, _, e⟩ := x; exact ⟨_, e⟩
  | frz ob u => obtain ⟨e, _⟩ := x; exact ⟨_, e⟩
  | tbl ps => exact ⟨_, (show h.get? a = some _ from x)⟩
  | met f y => exact ⟨_, (show h.get? a = some _ from x)⟩
  | ext φ => obtain ⟨_, e, _⟩ := x; exact e
theorem un_of {P : Program} {w : World} {H : Hp} {h : Heap} {a : Addr} (x : HOk P w H h) (e : h.get? a = none) : H a = none := by
  cases q : H a with
  | none => rfl
  | some o => obtain ⟨ob, z⟩ := obj_there (x a o q); rw [e] at z; cases z
theorem new_of (I : Inv X pins σ H s) (hex : X.ex = []) {b : Addr} (e : s.heap.get? b = none) : X.s₀.heap.get? b = none := by
  cases q : X.s₀.heap.get? b with
  | none => rfl
  | some o => obtain ⟨o', z⟩ := I.base.there b o q (by rw [hex]; simp); rw [e] at z; cases z
def XNew (h : Heap) (e : Addr) (C : Value) (d : Option Addr) : Prop :=
  ∃ oe vs, h.get? e = some oe ∧ oe.cls = C ∧ oe.dict = d ∧ oe.data = .fields vs ∧ vs[1]? = some .none
def XTr (h : Heap) (e : Addr) (C : Value) (d : Option Addr) (fl : Value) (T : Addr) : Prop :=
  ∃ oe vs oT ts, h.get? e = some oe ∧ oe.cls = C ∧ oe.dict = d ∧ oe.data = .fields vs ∧ vs[1]? = some (.ref T) ∧ T ≠ e ∧ h.get? T = some oT ∧ oT.data = .fields ts ∧ ts[3]? = some fl
def XIn (X : Cx) (pins : List (Addr × Obj)) (H : Hp) (h : Heap) (e : Addr) (C : Value) (d : Option Addr) : Prop :=
  Rec X pins H h e ∧ (XNew h e C d ∨ ∃ T, Rec X pins H h T ∧ ∃ fl, XTr h e C d fl T)
def XHeld (X : Cx) (pins : List (Addr × Obj)) (H : Hp) (h : Heap) (e : Addr) (C : Value) (d : Option Addr) (fl : Value) : Prop :=
  Rec X pins H h e ∧ ∃ T, Rec X pins H h T ∧ XTr h e C d fl T
theorem dict_mapF (f : Array Value → Array Value) (o : Obj) : (o.mapFields f).dict = o.dict := by
  obtain ⟨c, d, dt, sl⟩ := o
  cases dt <;> rfl
theorem entry_x {M : Model} {A : Around} {E : Value → Shared → Prop} {e : Addr} {C : Value} {d : Option Addr} {head : Value} {hadNext : Bool} {Q : Unit → Shared → Prop}
    (I : Inv X pins σ H s) (hA : A.frames = some X.stack) (hst : X.stack = X.env :: X.outer) (hf : X.env.frame = some X.env.locals) (r : Rec X pins H s.heap e)
    (ho : ∃ oe vs, s.heap.get? e = some oe ∧ oe.cls = C ∧ oe.dict = d ∧ oe.data = .fields vs ∧ 1 < vs.size)
    (h : ∀ s', Inv X pins σ H s' → XHeld X pins H s'.heap e C d (rawInt X.env.locals) → Q () s') :
    wpAny M A (do let a ← frameOf X.env; let pl ← entryPlaceOf X.env.locals hadNext; let b ← EntryCells.newEntry head a .none (rawInt X.env.locals) .none pl; setField (.ref e) 1 b) Q E s := by
  obtain ⟨oe, vs, he, hc, hdd, hd, hsz⟩ := ho
  have hl := I.stack
  rw [hst] at hl hA
  have ne : e ∉ L2.frs X.stack := r.frs I
  refine wpAny_bind (wpAny_frameOf_fun hA hl hf fun h₁ hs₁ => wpAny_bind (wpAny_entryPlaceOf fun pl hpl => ?_))
  unfold EntryCells.newEntry newFields
  refine wpAny_bind (wpAny_newObj_type ?_ (hpl.sizeOk5 _ _ _ _ _))
  rw [← hst] at hs₁
  have he1 : h₁.get? e = some oe := (hs₁.2.1 e ne).trans he
  generalize hN : ({ cls := .type "traceback", dict := none, data := .fields ([head, .ref X.env.locals, .none, rawInt X.env.locals, .none] ++ (if pl.isEmpty then List.replicate 6 Value.none else pl)).toArray } : Obj) = N
  have he2 : (h₁.push N).get? e = some oe := Heap.get?_push_of_some _ he1
  refine wpAny_setField he2 hd hsz (h _ ?_ ?_)
  · refine Inv.marks (s := s) (ch := [e]) (t' := s.toks) I (fun b hb => by rw [List.mem_singleton.mp hb]; exact r) (fun b o h1 h2 q => ?_) fun b o h2 q => ?_
    · have hb : b ≠ e := fun z => h2 (by simp [z])
      rw [Heap.get?_update_other _ _ (Ne.symm hb)]
      exact Heap.get?_push_of_some _ ((hs₁.2.1 b h1).trans q)
    · have hb : b ≠ e := fun z => h2 (by simp [z])
      obtain ⟨sl, q1⟩ := hs₁.2.2 b o q
      exact ⟨sl, by rw [Heap.get?_update_other _ _ (Ne.symm hb)]; exact Heap.get?_push_of_some _ q1⟩
  · have sz1 : h₁.objs.size = s.heap.objs.size := hs₁.1
    have hTe : h₁.objs.size ≠ e := Nat.ne_of_gt (Heap.lt_size he1)
    have d3 := Obj.data_mapFields hd (·.setIfInBounds 1 (Value.ref h₁.objs.size))
    have e3 := Heap.get?_update_self (Obj.mapFields (·.setIfInBounds 1 (Value.ref h₁.objs.size))) he2 (Obj.isFreed_of_fields d3)
    have nf : N.isFreed = false := by rw [← hN]; rfl
    have t3 := (Heap.get?_update_other (h₁.push N) (Obj.mapFields (·.setIfInBounds 1 (Value.ref h₁.objs.size))) (Ne.symm hTe)).trans (Heap.get?_push_size h₁ nf)
    have rT : Rec X pins H ((h₁.push N).update e (Obj.mapFields (·.setIfInBounds 1 (Value.ref h₁.objs.size)))) h₁.objs.size := by
      refine ⟨Heap.get?_none_of_le (by rw [sz1]; exact I.sz), I.hok.fresh (by rw [sz1]; exact Nat.le_refl _), fun p hp z => ?_, ⟨N, _, t3, by rw [← hN]⟩⟩
      obtain ⟨q, _⟩ := I.pin p hp
      have w := Heap.lt_size q
      rw [z, sz1] at w
      exact absurd w (Nat.lt_irrefl _)
    refine ⟨⟨r.nw, r.un, r.pin, ⟨_, _, e3, d3⟩⟩, h₁.objs.size, rT, _, _, N, _, e3, (Obj.cls_mapFields _ _).trans hc, ?_, d3, by simp [hsz], hTe, t3, by rw [← hN], ?_⟩
    · rw [← hdd]; exact dict_mapF _ _
    · first | (simp; done) | (rcases hpl with rfl | ⟨_, _, _, _, _, _, _, rfl⟩ <;> simp)
theorem note_x {M : Model} {A : Around} {E : Value → Shared → Prop} {e : Addr} {C : Value} {d : Option Addr} {Q : Unit → Shared → Prop}
    (I : Inv X pins σ H s) (hA : A.frames = some X.stack) (hst : X.stack = X.env :: X.outer) (hf : X.env.frame = some X.env.locals) (x : XIn X pins H s.heap e C d)
    (h : ∀ s', Inv X pins σ H s' → XHeld X pins H s'.heap e C d (rawInt X.env.locals) → Q () s') : wpAny M A (noteFrame (.ref e) X.env) Q E s := by
  obtain ⟨r, x⟩ := x
  unfold noteFrame
  simp only [hf]
  rcases x with ⟨oe, vs, he, hc, hdd, hd, h1⟩ | ⟨T, rT, fl, oe, vs, oT, ts, he, hc, hdd, hd, h1, hTe, hT, hdT, h3⟩
  · refine wpAny_bind (wpAny_field he hd h1 ?_)
    rw [if_neg (by decide)]
    exact entry_x I hA hst hf r ⟨oe, vs, he, hc, hdd, hd, (Array.getElem?_eq_some_iff.mp h1).1⟩ h
  · refine wpAny_bind (wpAny_field he hd h1 ?_)
    rw [if_pos (show (Value.ref T != Value.none) = true from by simp)]
    refine wpAny_bind (wpAny_field hT hdT h3 ?_)
    by_cases qf : (fl == rawInt X.env.locals) = true
    · rw [if_pos qf]
      have ef : fl = rawInt X.env.locals := eq_of_beq qf
      rw [ef] at h3
      exact wpAny_pure (h s I ⟨r, T, rT, oe, vs, oT, ts, he, hc, hdd, hd, h1, hTe, hT, hdT, h3⟩)
    · rw [if_neg qf]
      refine wpAny_bind (wpAny_setField hT hdT (Array.getElem?_eq_some_iff.mp h3).1 ?_)
      have oth : ∀ b, b ≠ T → (s.heap.update T (Obj.mapFields (·.setIfInBounds 3 Value.none))).get? b = s.heap.get? b := fun b hb => Heap.get?_update_other _ _ (Ne.symm hb)
      have J : Inv X pins σ H { s with heap := s.heap.update T (Obj.mapFields (·.setIfInBounds 3 Value.none)) } :=
        Inv.marks (s := s) (ch := [T]) (t' := s.toks) I (fun b hb => by rw [List.mem_singleton.mp hb]; exact rT) (fun b o _ h2 q => (oth b fun z => h2 (by simp [z])).trans q) fun b o h2 q => ⟨o.slots, (oth b fun z => h2 (by simp [z])).trans q⟩
      have he' := (oth e (Ne.symm hTe)).trans he
      exact entry_x J hA hst hf ⟨r.nw, r.un, r.pin, ⟨oe, vs, he', hd⟩⟩ ⟨oe, vs, he', hc, hdd, hd, (Array.getElem?_eq_some_iff.mp h1).1⟩ h
theorem flight_g (fr : Option Addr) {M : Model} {A : Around} {E : Value → Shared → Prop} {e : Addr} {C fl : Value} {d : Option Addr} {Q : Unit → Shared → Prop}
    (I : Inv X pins σ H s) (x : XHeld X pins H s.heap e C d fl)
    (h : ∀ s', Inv X pins σ H s' → XHeld X pins H s'.heap e C d (fr.elim Value.none fun f => rawInt f) → Q () s') : wpAny M A (setFlight (.ref e) fr) Q E s := by
  obtain ⟨r, T, rT, oe, vs, oT, ts, he, hc, hdd, hd, h1, hTe, hT, hdT, h3⟩ := x
  have hsz := (Array.getElem?_eq_some_iff.mp h3).1
  unfold setFlight
  refine wpAny_bind (wpAny_field he hd h1 ?_)
  rw [if_pos (show (Value.ref T != Value.none) = true from by simp)]
  refine wpAny_setField hT hdT hsz (h _ ?_ ?_)
  all_goals have oth : ∀ b, b ≠ T → (s.heap.update T (Obj.mapFields (·.setIfInBounds 3 (fr.elim Value.none fun f => rawInt f)))).get? b = s.heap.get? b := fun b hb => Heap.get?_update_other _ _ (Ne.symm hb)
  · exact Inv.marks (s := s) (ch := [T]) (t' := s.toks) I (fun b hb => by rw [List.mem_singleton.mp hb]; exact rT) (fun b o _ h2 q => (oth b fun z => h2 (by simp [z])).trans q) fun b o h2 q => ⟨o.slots, (oth b fun z => h2 (by simp [z])).trans q⟩
  · have he' := (oth e (Ne.symm hTe)).trans he
    have d3 := Obj.data_mapFields hdT (·.setIfInBounds 3 (fr.elim Value.none fun f => rawInt f))
    have hT' := Heap.get?_update_self (Obj.mapFields (·.setIfInBounds 3 (fr.elim Value.none fun f => rawInt f))) hT (Obj.isFreed_of_fields d3)
    exact ⟨⟨r.nw, r.un, r.pin, ⟨oe, vs, he', hd⟩⟩, T, ⟨rT.nw, rT.un, rT.pin, ⟨_, _, hT', d3⟩⟩, oe, vs, _, _, he', hc, hdd, hd, h1, hTe, hT', d3, by simp [hsz]⟩
theorem flight_x {M : Model} {A : Around} {E : Value → Shared → Prop} {e : Addr} {C fl : Value} {d : Option Addr} {Q : Unit → Shared → Prop}
    (I : Inv X pins σ H s) (x : XHeld X pins H s.heap e C d fl)
    (h : ∀ s', Inv X pins σ H s' → XHeld X pins H s'.heap e C d .none → Q () s') : wpAny M A (setFlight (.ref e) none) Q E s := flight_g none I x h
theorem XHeld.xin {h : Heap} {e : Addr} {C fl : Value} {d : Option Addr} (x : XHeld X pins H h e C d fl) : XIn X pins H h e C d :=
  let ⟨r, T, rT, q⟩ := x
  ⟨r, .inr ⟨T, rT, _, q⟩⟩
theorem XHeld.xinL {h : Heap} {e : Addr} {C : Value} {d : Option Addr} (x : XHeld X pins H h e C d (rawInt X.env.locals)) : XIn X pins H h e C d := x.xin
def CX1 (P : Program) (w : World) : CXT := fun outer H s E e s' => ∃ (a : Addr) (C : Value) (d : Option Addr) (H' : Hp), e = .ref a ∧ s'.os = s.os ∧ AllBare s'.gens ∧ Un (L2.frs outer) [] H H' s.heap s'.heap ∧ HOk P w H' s'.heap ∧
  s.heap.get? a = none ∧ H' a = none ∧ (∃ T, s.heap.get? T = none ∧ H' T = none ∧ XTr s'.heap a C d .none T) ∧ E C d H'
def Xes (X : Cx) (W : L2.St → XK) : Prop := ∀ (pins : List (Addr × Obj)) (σ : L2.St) (H : Hp) (s : Shared) (a : Addr) (C : Value) (d : Option Addr), Inv X pins σ H s → XIn X pins H s.heap a C d → W σ C d H → X.xe (.ref a) s
theorem xes_call {W : L2.St → XK} (h : Xes X W) (hex : X.ex = []) {e : Value} {s' : Shared} (I : Inv X pins σ H s) (q : CX1 X.prog X.w X.stack H s (W σ) e s') : X.xe e s' := by
  obtain ⟨a, C, d, H', rfl, os, bare, un, hok, la, na, ⟨T, lT, nT, x⟩, w⟩ := q
  have J : Inv X pins σ H' s' := I.call' (ch := []) os un hok bare (fun b z => absurd z (by simp))
  have pn : ∀ b, s.heap.get? b = none → ∀ p ∈ X.pn ++ pins, p.1 ≠ b := fun b lb p hp z => by
    have w := (I.pin p hp).1
    rw [z, lb] at w
    cases w
  obtain ⟨oe, vs, oT, ts, he, hc, hdd, hd, h1, hTe, hT, hdT, h3⟩ := id x
  exact h pins σ H' s' a C d J ⟨⟨new_of I hex la, na, pn a la, ⟨oe, vs, he, hd⟩⟩, .inr ⟨T, ⟨new_of I hex lT, nT, pn T lT, ⟨oT, ts, hT, hdT⟩⟩, _, x⟩⟩ w
end
end My
set_option Elab.async false
set_option linter.all false
set_option maxRecDepth 100000
set_option maxHeartbeats 1000000
namespace My
open PySem PySem.Spec PyProof.Rows L2
section
variable {X : Cx} {pins : List (Addr × Obj)} {σ : L2.St} {H : Hp} {s : Shared} {W : L2.St → XK}
def XSt (X : Cx) (W : L2.St → XK) (e : Value) (s : Shared) : Prop := ∃ (a : Addr) (C : Value) (d : Option Addr) (σ : L2.St) (H : Hp), e = .ref a ∧ Inv X [] σ H s ∧ XIn X [] H s.heap a C d ∧ W σ C d H
abbrev xw (X : Cx) (W : L2.St → XK) : Cx := X.wish (XSt X W)
theorem Rec.less {h : Heap} {b : Addr} (r : Rec X pins H h b) : Rec X [] H h b := ⟨r.nw, r.un, fun p hp => r.pin p (by rw [List.append_nil] at hp; exact List.mem_append_left _ hp), r.ob⟩
theorem XIn.less {h : Heap} {a : Addr} {C : Value} {d : Option Addr} (x : XIn X pins H h a C d) : XIn X [] H h a C d := by
  obtain ⟨r, x⟩ := x
  rcases x with x | ⟨T, rT, x⟩
  · exact ⟨r.less, .inl x⟩
  · exact ⟨r.less, .inr ⟨T, rT.less, x⟩⟩
theorem Rec.unwish {E : Value → Shared → Prop} {h : Heap} {b : Addr} (r : Rec (X.wish E) pins H h b) : Rec X pins H h b := ⟨r.nw, r.un, r.pin, r.ob⟩
theorem XIn.unwish {E : Value → Shared → Prop} {h : Heap} {a : Addr} {C : Value} {d : Option Addr} (x : XIn (X.wish E) pins H h a C d) : XIn X pins H h a C d := by
  obtain ⟨r, x⟩ := x
  rcases x with x | ⟨T, rT, x⟩
  · exact ⟨r.unwish, .inl x⟩
  · exact ⟨r.unwish, .inr ⟨T, rT.unwish, x⟩⟩
theorem xes_xw : Xes (xw X W) W := fun pins σ H s a C d I x w => ⟨a, C, d, σ, H, rfl, I.unwish.pins_of (fun _ z => nomatch z), x.unwish.less, w⟩
theorem pass_xw (hst : X.stack = X.env :: X.outer) (hf : X.env.frame = some X.env.locals) : PassesOwn (model X.prog X.w) X.A X.env (XSt X W) := by
  rintro e s' ⟨a, C, d, σ, H, rfl, I, x, w⟩
  show wpAny _ _ (noteFrame (.ref a) X.env) _ _ s'
  refine note_x I I.ok.frames hst hf x fun s2 I2 x2 => ?_
  obtain ⟨r, T, rT, oe, vs, oT, ts, he, hc, hdd, hd, h1, r2⟩ := id x2
  unfold cameBackBy
  refine wpAny_bind (wpAny_field he hd h1 ?_)
  have fin : wpAny (model X.prog X.w) X.A (setFlight (.ref a) X.env.frame) (fun _ s'' => XSt X W (.ref a) s'') (XSt X W) s2 := by
    rw [hf]
    exact flight_g (some X.env.locals) I2 x2 fun s3 I3 x3 => ⟨a, C, d, σ, H, rfl, I3, XHeld.xinL x3, w⟩
  first
    | (rw [if_neg (show ¬ ((Value.ref T == Value.none) = true) from by simp)]; exact fin)
    | (rw [if_neg (show ¬ ((Value.ref T == Value.none) = true) from by simp)]; exact wpAny_bind (wpAny_pure fin))
    | (refine wpAny_bind ?_; rw [if_neg (show ¬ ((Value.ref T == Value.none) = true) from by simp)]; exact wpAny_pure fin)
theorem PSs.xes {st : List Stmt} {t : TS} (hx : Xes X W) (h : PSs (xw X W) st t) : PSs X st t := fun pins s σ H D I hw =>
  wpAny_mono (h pins s σ H D (I.wish _) hw) (fun _ _ q => q.unwish) fun _ _ ⟨a, C, d, σ', H', e, I', x, w⟩ => by subst e; exact hx [] σ' H' _ a C d I' x w
end
section
variable {P : Program} {w : World} {K : PySem.W.Frag} {mg : Str → Option Value} {base : Heap}
theorem xes_fn {N : List Str} {qual : Str} {scope : Scope} {f : Addr} {cd : Value} {A : Around} {outer : List Env} {s : Shared} {H : Hp} {E : XK} :
    Xes (cxOf (CX1 P w) P w K mg base N qual scope f cd A outer s H E) (fun _ => E) := by
  intro pins σ H1 s1 a C d I x wE
  show wpAny _ _ (leaving _ _) _ _ s1
  unfold leaving
  refine wpAny_bind (note_x I I.ok.frames rfl rfl x fun s2 I2 x2 => flight_x I2 x2 fun s3 I3 x3 => ?_)
  obtain ⟨r, T, rT, xt⟩ := x3
  exact ⟨a, C, d, H1, rfl, I3.os, I3.bare, I3.base, I3.hok, r.nw, r.un, ⟨T, rT.nw, rT.un, xt⟩, wE⟩
theorem okX {x qual : Str} {st : Stmt} {f : Addr} {fd : FuncData} {N ps : List Str} {k : Nat} {sp : Sp} (F : Fun K x qual st f fd) (S : FnScope N ps (defScope st)) (len : ∀ vs H Q E, sp vs H Q E → vs.length = ps.length)
    (hbody : ∀ (cdv : Value) (A : Around) (outer : List Env) (s : Shared) (H : Hp) (vs : List V) (Q : VK) (E : XK), Room k (A.deeper (envOfC qual (defScope st) s.heap.objs.size f cdv)) → sp vs H Q E →
      ∃ t, PSs (xw (cxOf (CX1 P w) P w K mg base N qual (defScope st) f cdv A outer s H E) (fun _ => E)) (defBody st) t ∧ t { nx := fun _ H' => Q .non H', rt := Q } (start N vs) H) : FnOk P w K mg base (CX1 P w) (k + 1) f fd ps sp := by
  obtain ⟨oc, od, kV, doc, pm, an, cdv, ct, osl, rfl, lk, hcd⟩ := F.ex
  refine fn_of lk hcd S len fun A outer s H vs Q E hr hsp => ?_
  obtain ⟨t, ht, q⟩ := hbody cdv A outer s H vs Q E hr hsp
  exact ⟨t, PSs.xes xes_fn ht, q⟩
end
section
variable {X : Cx} {k : Nat} {f : Addr} {fd : FuncData} {ps : List Str} {sp : Sp} {dvs : List V} {ds : List Value} {W : L2.St → XK} {x : Str} {p pos : Pos} {e : Expr} {es : List Expr} {t : TA}
def tCallX (sp : Sp) (dvs : List V) (W : L2.St → XK) (t : TA) : TE := fun σ H Q => t σ H fun vs H1 => sp (vs ++ dvs) H1 Q (W σ)
theorem run_fnX {pins : List (Addr × Obj)} {σ : L2.St} {H : Hp} {s : Shared} {Q : VK} {us : List Value} {vs : List V} (F : FnOk X.prog X.w X.K X.mg X.base (CX1 X.prog X.w) k f fd ps sp) (hr : Room k X.A) (hb : Binds X.K fd ps ds) (hd : Vals dvs ds) (hx : Xes X W) (hex : X.ex = [])
    (I : Inv X pins σ H s) (r : Vals vs us) (h : sp (vs ++ dvs) H Q (W σ)) : wpAny (model X.prog X.w) X.A (call (.ref f) us) (EP X pins σ Q) X.xe s := by
  have r2 : Vals (vs ++ dvs) (us ++ ds) := r.append hd
  have hl : (us ++ ds).length = ps.length := by rw [← r2.length]; exact F.len _ _ _ _ h
  refine wpAny_call (codeAny_mono (F.run X.A X.stack s H ⟨us, []⟩ (us ++ ds) (vs ++ dvs) Q (W σ) hr I.env0 (hb s us I.kIn hl) r2 h) fun r s' hq => ?_)
  match r, hq with
  | .error e, hq => exact xes_call hx hex I hq
  | .ok (.ret u), hq => exact I.after hq
  | .ok .next, hq => exact False.elim hq
  | .ok .brk, hq => exact False.elim hq
  | .ok .cont, hq => exact False.elim hq
theorem pe_callX (F : FnOk X.prog X.w X.K X.mg X.base (CX1 X.prog X.w) k f fd ps sp) (hr : Room k X.A) (hg : Gl X x) (hm : X.mg x = some (.ref f)) (hk : PySem.W.keepIn X.K (.ref f) = true) (hb : Binds X.K fd ps ds) (hd : Vals dvs ds) (hx : Xes X W)
    (ha : PA X (e :: es) t) (hex : X.ex = [] := by rfl) (hdb : (x == ("__debug__" : Str)) = false := by decide) (he : starEach (e :: es) X.env = (false, eval e X.env) :: starEach es X.env := by rfl) (hpl : (backTo pos (starEach es X.env)).any (·.1) = false := by rfl) :
    PE X (.Call (.Name x p) (e :: es) [] pos) (tCallX sp dvs W t) := by
  intro pins s σ H Q I h
  refine wpAny_Call_Name_kw (ld_glob I hg hm ?_ hdb)
  refine PySem.W.callWith_K (h₀ := X.base) I.ok.mod.kin hk (thn (ha pos pins s σ H _ I h) fun us s1 ⟨vs, H1, I1, r, q⟩ => ⟨I1.kIn, ?_⟩) he hpl
  exact run_fnX F hr hb hd hx hex I1 r q
end
structure XCls (K : PySem.W.Frag) (C : Addr) : Prop where
  ob : ∃ (nm q : Str) (N : Addr) (bs bm : List Value) (hdct : Bool) (sn : List Str) (sub : List Value) (ab : Bool) (col : Option Bool) (dd : Option Addr) (k0 k1 k2 k3 k5 : Option Value) (mN : Str → Option Value),
    K.lookup C = some (excClassObj nm q C N bs bm hdct sn sub ab col dd k0 k1 k2 k3 k5 "ValueError.__new__") ∧ (∀ h : Heap, K.In h → h.Ns N mN) ∧ mN "__init__" = none ∧
    ∀ h : Heap, K.In h → OwnTail h [.type "ValueError", .type "Exception", .type "BaseException", .type "object"] bm
section
variable {X : Cx} {x : Str} {C : Addr} {W : L2.St → XK} {np cpos pos : Pos} {e : Expr} {es : List Expr} {t : TA}
def tRaise (t : TA) (C : Addr) (W : L2.St → XK) : TS := fun _ σ H => t σ H fun xs H1 => xs.length ≤ sizeLine ∧ W σ (.ref C) none H1
theorem ps_raise (hc : X.calm = true) (M : XCls X.K C) (hg : Gl X x) (hm : X.mg x = some (.ref C)) (hx : Xes X W) (ha : PA X (e :: es) t) (hex : X.ex = [] := by rfl) (hdb : (x == ("__debug__" : Str)) = false := by decide)
    (he : starEach (e :: es) X.env = (false, eval e X.env) :: starEach es X.env := by rfl) (hpl : (backTo cpos (starEach es X.env)).any (·.1) = false := by rfl) :
    PS X (.Raise (some (.Call (.Name x np) (e :: es) [] cpos)) none pos) (tRaise t C W) := by
  intro pins s σ H D I h
  obtain ⟨nm, q, N, bs, bm, hdct, sn, sub, ab, col, dd, k0, k1, k2, k3, k5, mN, hC, hN, hni, T⟩ := M.ob
  refine wpAny_Raise_call_subU (C := C) (nm := nm) (q := q) (N := N) (bs := bs) (bm := bm) (hdct := hdct) (sn := sn) (sub := sub) (ab := ab) (col := col) (dd := dd) (k0 := k0) (k1 := k1) (k2 := k2) (k3 := k3) (k5 := k5)
    PySem.F.excBase_ValueError (by decide) PySem.F.excBase_ValueError (mN := mN) ((T _ I.kIn).hasType PySem.F.excBase_ValueError.hasBase) (I.ok.hd hc) ?_ hni ?_
  · rw [he]; show (false || (backTo cpos (starEach es X.env)).any (·.1)) = false; rw [hpl]; rfl
  · refine ld_glob I hg hm ⟨rfl, ?_⟩ hdb
    have z := ha cpos pins s σ H _ I h
    rw [he] at z ⊢
    refine Calls.evalArgs_plain (wpAny_mono z (fun us s2 ⟨vs, H2, I2, r, hl, q⟩ => ⟨rfl, by rw [← r.length]; exact hl, I2.kIn _ _ hC, hN _ I2.kIn, T _ I2.kIn, fun h' a m => ?_⟩) fun _ _ y => y)
    obtain ⟨tp, ea, _, _⟩ := m.there
    have J : Inv X pins σ H2 { s2 with heap := h' } := I2.kept (t' := s2.toks) m.keeps
    refine hx pins σ H2 _ a (.ref C) none J ⟨⟨new_of I2 hex m.new, un_of I2.hok m.new, fun p hp y => ?_, ⟨_, _, ea, rfl⟩⟩, .inl ⟨_, _, ea, rfl, rfl, rfl, rfl⟩⟩ q
    have w := (I2.pin p hp).1
    rw [y, m.new] at w
    cases w
end
end My
set_option Elab.async false
set_option linter.all false
set_option maxRecDepth 100000
set_option maxHeartbeats 1000000
namespace My
open PySem PySem.Spec PyProof.Rows L2
section
variable {X : Cx} {pins : List (Addr × Obj)} {σ : L2.St} {H : Hp} {s : Shared}
abbrev pnd (X : Cx) (pins : List (Addr × Obj)) : Cx := { X with pn := X.pn ++ pins }
theorem Inv.pnd (I : Inv X pins σ H s) : Inv (pnd X pins) [] σ H s :=
  ⟨⟨I.ok.mod, I.ok.kind, I.ok.glob, I.ok.blt, I.ok.above, I.ok.inj, I.ok.has, I.ok.cab, I.ok.hd, I.ok.frames, I.ok.stk, I.ok.exf, I.ok.bs, I.ok.bsz, I.ok.noex, I.ok.exfs, I.ok.funs, I.ok.frf⟩, I.os, I.bare, I.base, I.loc, I.cell, I.free, I.freeC, fun p hp => I.pin p (by rw [List.append_nil] at hp; exact hp), I.hok, I.len⟩
theorem Inv.unpnd {pins' : List (Addr × Obj)} (I : Inv (My.pnd X pins) pins' σ H s) : Inv X pins σ H s :=
  ⟨⟨I.ok.mod, I.ok.kind, I.ok.glob, I.ok.blt, I.ok.above, I.ok.inj, I.ok.has, I.ok.cab, I.ok.hd, I.ok.frames, I.ok.stk, I.ok.exf, I.ok.bs, I.ok.bsz, I.ok.noex, I.ok.exfs, I.ok.funs, I.ok.frf⟩, I.os, I.bare, I.base, I.loc, I.cell, I.free, I.freeC, fun p hp => I.pin p (List.mem_append_left _ hp), I.hok, I.len⟩
theorem Rec.unpnd {h : Heap} {b : Addr} (r : Rec (My.pnd X pins) [] H h b) : Rec X pins H h b := ⟨r.nw, r.un, fun p hp => r.pin p (by rw [List.append_nil]; exact hp), r.ob⟩
theorem XIn.unpnd {h : Heap} {a : Addr} {C : Value} {d : Option Addr} (x : XIn (My.pnd X pins) [] H h a C d) : XIn X pins H h a C d := by
  obtain ⟨r, x⟩ := x
  rcases x with x | ⟨T, rT, x⟩
  · exact ⟨r.unpnd, .inl x⟩
  · exact ⟨r.unpnd, .inr ⟨T, rT.unpnd, x⟩⟩
abbrev suite (X : Cx) (a : Addr) : Cx := { X with A := X.A.mark (some (.ref a)), calm := false, xe := fun _ _ => False }
theorem Inv.suite (I : Inv X pins σ H s) (a : Addr) : Inv (suite X a) pins σ H s :=
  ⟨⟨I.ok.mod, I.ok.kind, I.ok.glob, I.ok.blt, I.ok.above, I.ok.inj, I.ok.has, I.ok.cab, fun z => (Bool.false_ne_true z).elim, I.ok.frames, I.ok.stk, I.ok.exf, I.ok.bs, I.ok.bsz, I.ok.noex, I.ok.exfs, I.ok.funs, I.ok.frf⟩, I.os, I.bare, I.base, I.loc, I.cell, I.free, I.freeC, I.pin, I.hok, I.len⟩
theorem Inv.unsuite {a : Addr} (I : Inv (My.suite X a) pins σ H s) (ok : X.Ok) : Inv X pins σ H s :=
  ⟨ok, I.os, I.bare, I.base, I.loc, I.cell, I.free, I.freeC, I.pin, I.hok, I.len⟩
theorem SP.unsuite {a : Addr} {D : Ends} {f : Flow} {s' : Shared} (ok : X.Ok) (h : SP (My.suite X a) pins D f s') : SP X pins D f s' := by
  cases f with
  | next => obtain ⟨σ', H', I, q⟩ := h; exact ⟨σ', H', Inv.unsuite I ok, q⟩
  | brk => obtain ⟨σ', H', I, q⟩ := h; exact ⟨σ', H', Inv.unsuite I ok, q⟩
  | cont => obtain ⟨σ', H', I, q⟩ := h; exact ⟨σ', H', Inv.unsuite I ok, q⟩
  | ret u => obtain ⟨v, σ', H', I, r, q⟩ := h; exact ⟨v, σ', H', Inv.unsuite I ok, r, q⟩
def XO (a : Addr) (C : Value) (d : Option Addr) : HO := .ext fun h => ∃ (oe : Obj) (vs : Array Value), h.get? a = some oe ∧ oe.cls = C ∧ oe.dict = d ∧ oe.data = .fields vs
end
section
variable {X : Cx}
def tCut (t : TS) : TS := fun D σ H => ∃ J : L2.St → Hp → Prop, t { D with nx := J } σ H ∧ ∀ σ' H', J σ' H' → D.nx σ' H'
theorem ps_cut {st : Stmt} {t : TS} (h : PS X st t) : PS X st (tCut t) := by
  intro pins s σ H D I ⟨J, hw, k⟩
  refine wpAny_mono (h pins s σ H _ I hw) (fun f s' q => ?_) fun _ _ z => z
  cases f with
  | next => obtain ⟨σ', H', I', z⟩ := q; exact ⟨σ', H', I', k _ _ z⟩
  | brk => exact q
  | cont => exact q
  | ret u => exact q
end
section
variable {X : Cx}
def PH (X : Cx) (hs : List ExceptHandler) (th : Ends → L2.St → XK) : Prop :=
  ∀ (pins : List (Addr × Obj)) (s : Shared) (σ : L2.St) (H : Hp) (D : Ends) (a : Addr) (C : Value) (d : Option Addr), Inv X pins σ H s → XHeld X pins H s.heap a C d .none → th D σ C d H →
    wpAny (model X.prog X.w) X.A (handleBy (.ref a) X.env hs) (SP X pins D) X.xe s
def tTry (tb : List (Addr × Obj) → Ends → TS) (to : TS) : TS := fun D σ H => ∀ pins, tb pins D { D with nx := to D } σ H
theorem ps_try {body orelse : List Stmt} {h₀ : ExceptHandler} {hs : List ExceptHandler} {pos : Pos} {tb : List (Addr × Obj) → Ends → TS} {th : Ends → L2.St → XK} {to : TS} (hst : X.stack = X.env :: X.outer) (hf : X.env.frame = some X.env.locals)
    (hb : ∀ (pins : List (Addr × Obj)) (D : Ends), PSs (xw (pnd X pins) (th D)) body (tb pins D)) (hh : PH X (h₀ :: hs) th) (ho : PSs X orelse to) : PS X (.Try body (h₀ :: hs) orelse [] pos) (tTry tb to) := by
  intro pins s σ H D I h
  refine wpAny_Try_except (wpAny_mono (hb pins D [] s σ H { D with nx := to D } ((Inv.pnd I).wish _) (h pins)) (fun f s1 q => ?_) fun e s1 q => ?_)
  · cases f with
    | next => obtain ⟨σ', H', J, z⟩ := q; exact ho pins s1 σ' H' D (Inv.unpnd J.unwish) z
    | brk => obtain ⟨σ', H', J, z⟩ := q; exact ⟨σ', H', Inv.unpnd J.unwish, z⟩
    | cont => obtain ⟨σ', H', J, z⟩ := q; exact ⟨σ', H', Inv.unpnd J.unwish, z⟩
    | ret u => obtain ⟨v, σ', H', J, r, z⟩ := q; exact ⟨v, σ', H', Inv.unpnd J.unwish, r, z⟩
  · obtain ⟨a, C, d, σ', H', rfl, J, x, w⟩ := q
    have J' : Inv X pins σ' H' s1 := Inv.unpnd J
    exact note_x J' J'.ok.frames hst hf (XIn.unpnd x) fun s2 I2 x2 => flight_x I2 x2 fun s3 I3 x3 => hh pins s3 σ' H' D a C d I3 x3 w
theorem ph_none : PH X [] (fun _ _ _ _ _ => False) := fun _ _ _ _ _ _ _ _ _ _ w => False.elim w
theorem matches_own {M : Model} {A : Around} {E : Value → Shared → Prop} {K : PySem.W.Frag} {s : Shared} {e : Addr} {oe : Obj} {C c : Addr} {b : Bool} {Q : Bool → Shared → Prop} (KX : K.In s.heap) (he : s.heap.get? e = some oe) (hcls : oe.cls = .ref C)
    (hC : PySem.W.kitCls K (.ref C) (.ref c) = some b) (hc : PySem.W.kitCls K (.ref c) (.type "BaseException") = some true) (hq : Q b s) : wpAny M A (excMatches (.ref e) (.ref c)) Q E s := by
  obtain ⟨h, g, d, t, os⟩ := s
  obtain ⟨L1, L2', L3⟩ := PySem.W.kit_cls (M := M) KX hC
  obtain ⟨_, _, L4⟩ := PySem.W.kit_cls (M := M) KX hc
  have f := tc_notTuple
  have LT : PySem.W.Looks M h (typeOf (.ref e)) (.ref C) := hcls ▸ (PySem.W.Looks.ld he).andThen .now
  have LI : PySem.W.Looks M h (isInstance (.ref c) (.type "tuple")) false := L1.andThen (PySem.W.Looks.of_pure f)
  have LE : PySem.W.Looks M h (isExcClass (.ref c)) true := L2'.andThen L4
  unfold excMatches
  refine wpAny_bind (LI.at ?_)
  simp only [Bool.false_eq_true, if_false]
  refine wpAny_bind (wpAny_pure ?_)
  refine wpAny_bind ?_
  rw [List.forIn_cons]
  refine wpAny_bind (wpAny_bind (LE.at ?_))
  simp only [Bool.not_true, Bool.false_eq_true, if_false]
  refine wpAny_pure ?_
  dsimp only
  rw [List.forIn_nil]
  refine wpAny_pure (wpAny_bind (LT.at (wpAny_bind ?_)))
  rw [List.forIn_cons]
  refine wpAny_bind (wpAny_bind (L3.at ?_))
  cases b with
  | true => exact wpAny_pure (wpAny_pure (wpAny_pure hq))
  | false => exact wpAny_pure (wpAny_pure (wpAny_pure hq))
def tCl (K : PySem.W.Frag) (c : Addr) (hit miss : Ends → L2.St → XK) : Ends → L2.St → XK := fun D σ C d H => ∃ (C' : Addr) (b : Bool), C = .ref C' ∧ PySem.W.kitCls K (.ref C') (.ref c) = some b ∧ if b = true then hit D σ C d H else miss D σ C d H
theorem ph_own {x : Str} {c : Addr} {np hpos : Pos} {b₀ : Stmt} {body : List Stmt} {rest : List ExceptHandler} {ts : Addr → TS} {tr : Ends → L2.St → XK} (hc : PySem.W.kitCls X.K (.ref c) (.type "BaseException") = some true) (hg : Gl X x) (hm : X.mg x = some (.ref c))
    (hs : ∀ a, PSs (suite X a) (b₀ :: body) (ts a)) (hr : PH X rest tr) (hdb : (x == ("__debug__" : Str)) = false := by decide) :
    PH X (.ExceptHandler (some (.Name x np)) none (b₀ :: body) hpos :: rest) (tCl X.K c (fun D σ _ _ H => ∀ a, H a = none → ts a D σ H) tr) := by
  intro pins s σ H D a C d I x h
  obtain ⟨C', b, rfl, hb, h⟩ := h
  obtain ⟨r, T, rT, oe, vs, oT, ts', he, hcl, r2⟩ := id x
  refine wpAny_handleBy_cons (codeAny_handlers_test ?_) (by intro q; cases q)
  refine ld_glob (X := suite X a) (Inv.suite I a) hg hm ?_ hdb
  refine matches_own I.kIn he hcl hb hc ?_
  cases b with
  | false => exact hr pins s σ H D a _ d I x h
  | true =>
    refine codeAny_handlers_suite (flight_x I x fun s2 I2 x2 => ?_)
    exact wpAny_mono (hs a pins s2 σ H D (Inv.suite I2 a) (h a r.un)) (fun f s3 q => SP.unsuite I.ok q) (fun _ _ z => z.elim)
end
theorem xcls_of {K : PySem.W.Frag} {C : Addr} (q : PySem.W.excIn K C [.type "ValueError", .type "Exception", .type "BaseException", .type "object"] "ValueError.__new__" = true) : XCls K C := by
  unfold PySem.W.excIn at q
  split at q
  · rename_i dd cd sl ho
    split at q
    · rename_i C' bm k0 k1 k2 k3 n k5 hm hs
      simp only [Bool.and_eq_true, beq_iff_eq, Bool.not_eq_true'] at q
      obtain ⟨⟨⟨⟨⟨rfl, rfl⟩, hdel⟩, ht⟩, hok⟩, hni⟩ := q
      obtain ⟨nm, bs, mro, ns, qn, hd, sn, sub, ab, col, del⟩ := cd
      dsimp only at hm hdel hok hni
      subst hm hdel
      have hsl : sl = #[k0, k1, k2, k3, some (.builtin "ValueError.__new__"), k5] := by
        obtain ⟨l⟩ := sl
        simp only at hs
        rw [hs]
      subst hsl
      unfold PySem.W.nsOkIn at hok
      split at hok
      · rename_i c1 d1 es ep sl1 hN
        have hSK : StrKeys es := fun e he => by
          have z := Array.all_eq_true_iff_forall_mem.mp hok e he
          split at z
          · rename_i n t q; exact ⟨n, t, q⟩
          · cases z
        have hNs : ∀ h : Heap, K.In h → h.Ns ns (fun x => nsFind es x) := fun h X => ⟨_, es, ep, X _ _ hN, rfl, hSK, fun _ => rfl⟩
        refine ⟨nm, qn, ns, bs, bm, hd, sn, sub, ab, col, dd, k0, k1, k2, k3, k5, fun x => nsFind es x, ho, hNs, ?_, fun h X => PySem.W.tail_of_in X ht⟩
        unfold PySem.W.nsIn at hni
        rw [hN] at hni
        dsimp only at hni
        split at hni
        · cases hni
        · rename_i hf
          show nsFind es "__init__" = none
          unfold nsFind findBy
          rw [← Array.find?_toList, hf]
          rfl
      · cases hok
    · cases q
  · cases q
def TyX (K : PySem.W.Frag) (H : Hp) (x : V) (t : Value) (b : Bool) : Prop := TyOf K H x t ∨ ∃ (a : Addr) (d : Option Addr), x = .ref a ∧ H a = some (XO a t d) ∧ b = true
def rIsi (K : PySem.W.Frag) : List V → Hp → VK → Prop := fun xs H Q => ∃ (x c : V) (u t : Value) (b : Bool), xs = [x, c] ∧ RelV c u ∧ (∀ u', RelV c u' → u' = u) ∧ TyX K H x t b ∧ PySem.W.kitOne K t u = some b ∧ Q (.bl b) H
end My
set_option Elab.async false
set_option linter.all false
set_option maxRecDepth 100000
set_option maxHeartbeats 1000000
namespace My
open PySem PySem.Spec PyProof.Rows L2
theorem isi_yes {prog : Program} {w : World} {A : Around} {E : Value → Shared → Prop} {s : Shared} {Q : Value → Shared → Prop} {K : PySem.W.Frag} {a : Addr} {t c : Value} (KX : K.In s.heap) (hp : ∃ o, s.heap.get? a = some o ∧ o.cls = t) (e : PySem.W.kitOne K t c = some true)
    (h : Q (.bool true) s) : wpAny (model prog w) A (call (.builtin "isinstance") [.ref a, c]) Q E s := by
  refine call_isinstance_of ?_ (by intro q; cases q)
  obtain ⟨h0, g, d, tt, os⟩ := s
  obtain ⟨o, ho, hc⟩ := hp
  have LT : PySem.W.Looks (model prog w) h0 (typeOf (.ref a)) t := hc ▸ (PySem.W.Looks.ld ho).andThen .now
  unfold PySem.W.kitOne at e
  unfold Builtin.«isinstance.nested»
  refine wpAny_bind (LT.at ?_)
  by_cases q : (t == c) = true
  · rw [if_pos q]
    first
      | exact wpAny_bind (wpAny_rule (wpAny_pure h))
      | exact wpAny_bind (wpAny_rule h)
  · rw [if_neg q] at e
    rw [if_neg q]
    obtain ⟨hty, his, hsub⟩ := PySem.W.kit_cls (M := model prog w) KX e
    have LI : PySem.W.Looks (model prog w) h0 (isInstance (.ref a) c) true := LT.andThen hsub
    refine wpAny_bind (hty.at ?_)
    rw [if_pos (by decide)]
    k_delta "plainIsInstance"
    refine wpAny_bind (wpAny_bind (his.at ?_))
    simp only [Bool.not_true, Bool.false_eq_true, if_false]
    refine wpAny_bind (LI.at ?_)
    first
      | exact wpAny_pure (wpAny_pure h)
      | (simp only [if_true]; first | exact wpAny_pure (wpAny_pure h) | exact wpAny_pure h | exact wpAny_bind (wpAny_pure (wpAny_pure h)))
theorem xes_no {X : Cx} : Xes X (fun _ _ _ _ => False) := fun _ _ _ _ _ _ _ _ _ w => w.elim
section
variable {X : Cx}
theorem call_isi2 : CallR X (.builtin "isinstance") (rIsi X.K) := by
  intro pins s σ H xs us Q I hv h
  obtain ⟨x, c, u, t, b, rfl, hu, hu', ty, e, q⟩ := h
  cases hv with
  | cons r1 hv =>
    cases hv with
    | cons r2 hv =>
      cases hv
      rename_i v1 v2
      rw [hu' v2 r2]
      rcases ty with ty | ⟨a, d, rfl, ea, rfl⟩
      · exact isinst_ok I r1 ty e fun tk => ⟨.bl b, H, I.tok tk, rfl, q⟩
      · cases r1
        obtain ⟨⟨oe, vs, h1, h2, _⟩, _⟩ := (show ObjOk X.prog X.w H s.heap a (XO a t d) from I.hok a _ ea)
        exact isi_yes I.kIn ⟨oe, h1, h2⟩ e ⟨.bl true, H, I, rfl, q⟩
def rAbs : List V → Hp → VK → Prop := fun xs H Q => ∃ i, xs = [.int i] ∧ Q (.int (if i < 0 then -i else i)) H
def rLen (K : PySem.W.Frag) : List V → Hp → VK → Prop := fun xs H Q => ∃ p ys, xs = [.ref p] ∧ (SqL K H p ys ∨ SqT K H p ys) ∧ Q (.int ys.length) H
theorem call_absN : CallR X (.builtin "abs") rAbs := call_abs
theorem call_lenN : CallR X (.builtin "len") (rLen X.K) := call_len_seq
end
section
variable {K : PySem.W.Frag} {H : Hp} {Q : VK}
theorem r_isi {x : V} {T : String} {t : Value} {b : Bool} (ty : TyOf K H x t) (e : PySem.W.kitOne K t (.type T) = some b) (h : Q (.bl b) H) : rIsi K [x, .ty T] H Q := ⟨x, _, _, t, b, rfl, rfl, fun _ z => z, .inl ty, e, h⟩
end
section
variable {K : PySem.W.Frag}
theorem kit_int_int : PySem.W.kitOne K (.type "int") (.type "int") = some true := by rfl
theorem kit_int_bool : PySem.W.kitOne K (.type "int") (.type "bool") = some false := by rfl
theorem kit_int_str : PySem.W.kitOne K (.type "int") (.type "str") = some false := by rfl
theorem kit_bool_str : PySem.W.kitOne K (.type "bool") (.type "str") = some false := by rfl
theorem kit_str_str : PySem.W.kitOne K (.type "str") (.type "str") = some true := by rfl
theorem kit_non_str : PySem.W.kitOne K (.type "NoneType") (.type "str") = some false := by rfl
theorem kit_lst_str : PySem.W.kitOne K (.type "list") (.type "str") = some false := by rfl
theorem kit_tup_str : PySem.W.kitOne K (.type "tuple") (.type "str") = some false := by rfl
theorem kit_dct_str : PySem.W.kitOne K (.type "dict") (.type "str") = some false := by rfl
theorem kit_dct_dct : PySem.W.kitOne K (.type "dict") (.type "dict") = some true := by rfl
end
end My
set_option Elab.async false
set_option linter.all false
set_option maxRecDepth 100000
namespace My
open PySem PySem.Spec PyProof.Rows L2
section
variable {K : PySem.W.Frag} {σ σ' : L2.St} {H H1 : Hp} {Q : VK} {D : Ends} {ta tb te : TE} {t u : TS} {c c' : TT} {ar : TA} {v x y : V} {i j : Nat}
theorem r_start {N : List Str} {vs : List V} (e : start N vs = σ) (h : t D σ H) : t D (start N vs) H := e ▸ h
theorem r_var (e : σ[i]? = some (some v)) (h : Q v H) : tVar i σ H Q := ⟨v, e, h⟩
theorem r_c (h : Q v H) : tC v σ H Q := h
theorem r_op {r : R2} (h : ta σ H fun x H1 => tb σ H1 fun y H2 => r x y H2 Q) : tOp r ta tb σ H Q := h
theorem r_un {r : V → Hp → VK → Prop} (h : ta σ H fun x H1 => r x H1 Q) : tUn r ta σ H Q := h
theorem r_I0 {g : Int → Int → V} {i j : Int} (h : Q (g i j) H) : rI0 g (.int i) (.int j) H Q := ⟨i, j, rfl, rfl, h⟩
theorem r_I {C : Int → Int → Prop} {g : Int → Int → V} {i j : Int} (hc : C i j) (h : Q (g i j) H) : rI C g (.int i) (.int j) H Q := ⟨i, j, rfl, rfl, hc, h⟩
theorem r_U {g : Int → V} {i : Int} (h : Q (g i) H) : rU g (.int i) H Q := ⟨i, rfl, h⟩
theorem r_eqI {i j : Int} (h : Q (.bl (decide (i = j))) H) : rEq (.int i) (.int j) H Q := ⟨rfl, by
  have e : decide (V.int i = V.int j) = decide (i = j) := by by_cases z : i = j <;> simp [z]
  rw [e]; exact h⟩
theorem r_eqS {i j : Str} (h : Q (.bl (decide (i = j))) H) : rEq (.str i) (.str j) H Q := ⟨rfl, by
  have e : decide (V.str i = V.str j) = decide (i = j) := by by_cases z : i = j <;> simp [z]
  rw [e]; exact h⟩
theorem r_neS {i j : Str} (h : Q (.bl (!decide (i = j))) H) : rNe (.str i) (.str j) H Q := ⟨rfl, by
  have e : decide (V.str i = V.str j) = decide (i = j) := by by_cases z : i = j <;> simp [z]
  rw [e]; exact h⟩
theorem r_exb {b : Bool} {Q : Bool → Prop} (h : Q b) : ∃ k, V.bl b = .bl k ∧ Q k := ⟨b, rfl, h⟩
theorem r_test {Q : Bool → Hp → Prop} (h : te σ H fun x H' => ∃ k, x = .bl k ∧ Q k H') : tTest te σ H Q := h
theorem r_tB {Q : Bool → Hp → Prop} (h : te σ H fun x H' => ∃ k, x = .bl k ∧ Q k H') : tB te σ H Q := h
theorem r_and {Q : Bool → Hp → Prop} (h : c σ H fun b H1 => if b = true then c' σ H1 Q else Q false H1) : tAnd c c' σ H Q := h
theorem r_or {Q : Bool → Hp → Prop} (h : c σ H fun b H1 => if b = true then Q true H1 else c' σ H1 Q) : tOr c c' σ H Q := h
theorem r_not {Q : Bool → Hp → Prop} (h : c σ H fun b H1 => Q (!b) H1) : tNot c σ H Q := h
theorem r_andV (h : ta σ H fun x H1 => ∃ k, x = .bl k ∧ if k = true then tb σ H1 Q else Q (.bl false) H1) : tAndV ta tb σ H Q := h
theorem r_notV (h : ta σ H fun x H1 => ∃ k, x = .bl k ∧ Q (.bl (!k)) H1) : tNotV ta σ H Q := h
theorem r_next (h : D.nx σ H) : tNext D σ H := h
theorem r_seq (h : t { nx := u D, rt := D.rt, bk := D.bk, ct := D.ct } σ H) : tSeq t u D σ H := h
theorem r_drop (h : te σ H fun _ H1 => D.nx σ H1) : tDrop te D σ H := h
theorem r_ret (h : te σ H D.rt) : tRet te D σ H := h
theorem r_if (h : c σ H fun b H1 => if b = true then t D σ H1 else u D σ H1) : tIfS c t u D σ H := h
theorem r_asg {g : TG} (h : te σ H fun x H1 => g x σ H1 D.nx) : tAsg te g D σ H := h
theorem r_name {Q : L2.St → Hp → Prop} (e : σ.set i (some v) = σ') (h : Q σ' H) : gName i v σ H Q := by subst e; exact h
theorem r_gnil {Q : L2.St → Hp → Prop} (h : Q σ H) : gNil [] σ H Q := ⟨rfl, h⟩
theorem r_gcons {g : TG} {gs : TGs} {vs : List V} {Q : L2.St → Hp → Prop} (h : g v σ H fun σ' H' => gs vs σ' H' Q) : gCons g gs (v :: vs) σ H Q := ⟨v, vs, rfl, h⟩
theorem r_gtup {n : Nat} {gs : TGs} {a : Addr} {xs : List V} {Q : L2.St → Hp → Prop} (hS : SqT K H a xs) (hn : xs.length = n) (h : gs xs σ H Q) : gTup K n gs (.ref a) σ H Q := ⟨a, xs, rfl, hS, hn, h⟩
theorem r_par (h : ar σ H fun vs H1 => ∃ v w, vs = [v, w] ∧ D.nx ((σ.set i (some v)).set j (some w)) H1) : tPar i j ar D σ H := h
theorem r_two {v w : V} {Q : V → V → Prop} (h : Q v w) : ∃ a b, [v, w] = [a, b] ∧ Q a b := ⟨v, w, rfl, h⟩
theorem r_nx {f b c : L2.St → Hp → Prop} {r : VK} (h : f σ H) : Ends.nx { nx := f, rt := r, bk := b, ct := c } σ H := h
theorem r_rt {f b c : L2.St → Hp → Prop} {r : VK} (h : r v H) : Ends.rt { nx := f, rt := r, bk := b, ct := c } v H := h
theorem r_nil {Q : List V → Hp → Prop} (h : Q [] H) : tNil σ H Q := h
theorem r_cons {Q : List V → Hp → Prop} (h : te σ H fun x H1 => ar σ H1 fun xs H2 => Q (x :: xs) H2) : tCons te ar σ H Q := h
theorem r_tup (h : ar σ H fun xs H1 => xs.length ≤ sizeLine ∧ ∀ p, H1 p = none → Q (.ref p) (upd H1 p (.tup xs))) : tTup ar σ H Q := h
theorem r_lst (h : ar σ H fun xs H1 => xs.length ≤ sizeLine ∧ ∀ p, H1 p = none → Q (.ref p) (upd H1 p (.lst xs))) : tLst ar σ H Q := h
theorem r_new {xs : List V} {A : Prop} (hn : xs.length ≤ sizeLine) (h : A) : xs.length ≤ sizeLine ∧ A := ⟨hn, h⟩
theorem r_call {sp : Sp} {E : XK} (h : ar σ H fun vs H1 => sp vs H1 Q E) : tCall sp [] E ar σ H Q := by
  have e : (fun vs H1 => sp (vs ++ []) H1 Q E) = fun vs H1 => sp vs H1 Q E := by funext vs H1; rw [List.append_nil]
  show ar σ H fun vs H1 => sp (vs ++ []) H1 Q E
  rw [e]; exact h
theorem r_callX {sp : Sp} {W : L2.St → XK} (h : ar σ H fun vs H1 => sp vs H1 Q (W σ)) : tCallX sp [] W ar σ H Q := by
  have e : (fun vs H1 => sp (vs ++ []) H1 Q (W σ)) = fun vs H1 => sp vs H1 Q (W σ) := by funext vs H1; rw [List.append_nil]
  show ar σ H fun vs H1 => sp (vs ++ []) H1 Q (W σ)
  rw [e]; exact h
theorem r_cb {r : List V → Hp → VK → Prop} (h : ar σ H fun vs H1 => r vs H1 Q) : tCB r ar σ H Q := h
theorem r_try {tb : List (Addr × Obj) → Ends → TS} {to : TS} (h : ∀ pins, tb pins D { nx := to D, rt := D.rt, bk := D.bk, ct := D.ct } σ H) : tTry tb to D σ H := h
theorem r_raise {C : Addr} {W : L2.St → XK} (h : ar σ H fun xs H1 => xs.length ≤ sizeLine ∧ W σ (.ref C) none H1) : tRaise ar C W D σ H := h
theorem r_ixL {p : Addr} {xs : List V} {k : Int} (hS : SqL K H p xs) (e : atI xs k = some v) (h : Q v H) : rIxL K (.ref p) (.int k) H Q := ⟨p, xs, k, v, rfl, rfl, hS, e, h⟩
theorem r_ixT {p : Addr} {xs : List V} {k : Int} (hS : SqT K H p xs) (e : atI xs k = some v) (h : Q v H) : rIxT K (.ref p) (.int k) H Q := ⟨p, xs, k, v, rfl, rfl, hS, e, h⟩
theorem r_fresh {R : Addr → Prop} (h : ∀ p, H p = none → R p) : ∀ p, H p = none → R p := h
theorem r_cl {c C' : Addr} {b : Bool} {d : Option Addr} {hit miss : Ends → L2.St → XK} (k : PySem.W.kitCls K (.ref C') (.ref c) = some b) (h : if b = true then hit D σ (.ref C') d H else miss D σ (.ref C') d H) : tCl K c hit miss D σ (.ref C') d H := ⟨C', b, rfl, k, h⟩
theorem r_menu {p : Addr} {xs : List Int} {r : Int} (hS : SqL K H p (xs.map V.int)) (h0 : 0 ≤ r) (h1 : r < xs.length) (h : ∀ m, m ∈ xs → Q (.int m) H) : rIxL K (.ref p) (.int r) H Q := by
  have hk : r.toNat < xs.length := by omega
  have ek : r = ((r.toNat : Nat) : Int) := by omega
  have q : atI (xs.map V.int) ((r.toNat : Nat) : Int) = some (.int xs[r.toNat]) := atI_nat (by rw [List.getElem?_map, List.getElem?_eq_getElem hk] <;> rfl)
  rw [← ek] at q
  exact ⟨p, _, r, _, rfl, rfl, hS, q, h _ (List.getElem_mem hk)⟩
theorem r_cut0 (h : t { nx := D.nx, rt := D.rt, bk := D.bk, ct := D.ct } σ H) : tCut t D σ H := ⟨D.nx, h, fun _ _ z => z⟩
theorem r_cut (J : L2.St → Hp → Prop) (h : t { nx := J, rt := D.rt, bk := D.bk, ct := D.ct } σ H) (k : ∀ σ' H', J σ' H' → D.nx σ' H') : tCut t D σ H := ⟨J, h, k⟩
theorem r_lenL {p : Addr} {ys : List V} (hS : SqL K H p ys) (h : Q (.int ys.length) H) : rLen K [.ref p] H Q := ⟨p, ys, rfl, .inl hS, h⟩
theorem r_abs {i : Int} (h : Q (.int (if i < 0 then -i else i)) H) : rAbs [.int i] H Q := ⟨i, rfl, h⟩
end
section
variable {K : PySem.W.Frag} {σ : L2.St} {H : Hp} {D : Ends} {wi : TI} {g : TG} {tb : TS} {tl : TE} {ta : TA}
def FOR (J : It) (g : TG) (tb : TS) (D : Ends) (σ : L2.St) (H : Hp) : Prop := ∃ W : Nat → Nat → L2.St → Hp → Prop, (∃ m, W 0 m σ H) ∧ ∀ i m σ H, W i m σ H →
  (J.stop i H ∧ D.nx σ H) ∨ (J.go i H ∧ ∃ N : L2.St → Hp → Prop, (∀ σ' H', N σ' H' → ∃ m', m' < m ∧ W (i + 1) m' σ' H') ∧ ∀ x H', J.yld i H x H' → g x σ H' fun σ2 H2 => tb { D with nx := N, ct := N, bk := D.nx } σ2 H2)
def rItL (K : PySem.W.Frag) (x : V) (H : Hp) (R : It → Hp → Prop) : Prop := ∃ a, x = .ref a ∧ (∃ xs, SqL K H a xs) ∧ R (Itl K a) H
def rItR (vs : List V) (H : Hp) (R : It → Hp → Prop) : Prop := ∃ j : Int, vs = [.int j] ∧ -(2 ^ 62) ≤ j ∧ j < 2 ^ 62 ∧ R (Itr 0 j.toNat) H
theorem r_for (h : wi σ H fun J H1 => FOR J g tb D σ H1) : tFor wi g tb D σ H := h
theorem r_iL {R : It → Hp → Prop} (h : tl σ H fun x H1 => rItL K x H1 R) : iList K tl σ H R := h
theorem r_iR {R : It → Hp → Prop} (h : ta σ H fun vs H1 => rItR vs H1 R) : iRng1 ta σ H R := h
theorem r_itL {a : Addr} {xs : List V} {R : It → Hp → Prop} (hS : SqL K H a xs) (h : R (Itl K a) H) : rItL K (.ref a) H R := ⟨a, rfl, ⟨xs, hS⟩, h⟩
theorem r_itR {j : Int} {R : It → Hp → Prop} (h0 : -(2 ^ 62) ≤ j) (h1 : j < 2 ^ 62) (h : R (Itr 0 j.toNat) H) : rItR [.int j] H R := ⟨j, rfl, h0, h1, h⟩
theorem f_list {a : Addr} {xs : List V} (Pv : Nat → L2.St → Hp → Prop) (h0 : Pv 0 σ H) (hl : ∀ i σ H, i ≤ xs.length → Pv i σ H → SqL K H a xs)
    (hs : ∀ i x σ H, xs[i]? = some x → Pv i σ H → g x σ H fun σ2 H2 => tb { nx := Pv (i + 1), rt := D.rt, bk := D.nx, ct := Pv (i + 1) } σ2 H2) (hd : ∀ σ H, Pv xs.length σ H → D.nx σ H) : FOR (Itl K a) g tb D σ H := for_list Pv h0 hl hs hd
theorem f_range {lo : Int} {n : Nat} (Pv : Nat → L2.St → Hp → Prop) (h0 : Pv 0 σ H)
    (hs : ∀ (i : Nat) σ H, i < n → Pv i σ H → g (.int (lo + i)) σ H fun σ2 H2 => tb { nx := Pv (i + 1), rt := D.rt, bk := D.nx, ct := Pv (i + 1) } σ2 H2) (hd : ∀ σ H, Pv n σ H → D.nx σ H) : FOR (Itr lo n) g tb D σ H := for_range Pv h0 hs hd
end
theorem look_new {H : Hp} {a p : Addr} {o o' : HO} (h : H a = some o) (n : H p = none) : upd H p o' a = some o := by rw [upd_ne (ne_of_none h n)]; exact h
theorem sqL_new {K : PySem.W.Frag} {H : Hp} {a p : Addr} {o : HO} {xs : List V} (h : SqL K H a xs) (n : H p = none) : SqL K (upd H p o) a xs := (same_new n o).seq h
theorem sqT_new {K : PySem.W.Frag} {H : Hp} {a p : Addr} {o : HO} {xs : List V} (h : SqT K H a xs) (n : H p = none) : SqT K (upd H p o) a xs := same_tup (same_new n o) h
theorem same_upd {H0 H : Hp} {p : Addr} {o : HO} (h : Same H0 H) (n : H p = none) : Same H0 (upd H p o) := h.trans (same_new n o)
theorem i_t {c A B : Prop} [Decidable c] (h : c) (hA : A) : if decide c = true then A else B := by rw [decide_eq_true h]; exact iteT hA
theorem i_f {c A B : Prop} [Decidable c] (h : ¬ c) (hB : B) : if decide c = true then A else B := by rw [decide_eq_false h]; exact iteF hB
theorem i_2 {c A B : Prop} [Decidable c] (h1 : c → A) (h2 : ¬ c → B) : if decide c = true then A else B := by
  by_cases h : c
  · exact i_t h (h1 h)
  · exact i_f h (h2 h)
theorem i_nt {c A B : Prop} [Decidable c] (h : ¬ c) (hA : A) : if (!decide c) = true then A else B := by rw [decide_eq_false h]; exact iteT hA
theorem i_nf {c A B : Prop} [Decidable c] (h : c) (hB : B) : if (!decide c) = true then A else B := by rw [decide_eq_true h]; exact iteF hB
theorem i_n2 {c A B : Prop} [Decidable c] (h1 : ¬ c → A) (h2 : c → B) : if (!decide c) = true then A else B := by
  by_cases h : c
  · exact i_nf h (h2 h)
  · exact i_nt h (h1 h)
theorem i_nT {A B : Prop} (h : B) : if (!true) = true then A else B := h
theorem i_nF {A B : Prop} (h : A) : if (!false) = true then A else B := iteT h
theorem i_b2 {b : Bool} {A B : Prop} (h1 : b = true → A) (h2 : b = false → B) : if b = true then A else B := by
  cases b
  · exact iteF (h2 rfl)
  · exact iteT (h1 rfl)
end My
set_option Elab.async false
set_option linter.all false
set_option maxRecDepth 100000
set_option maxHeartbeats 1000000
namespace My
open PySem PySem.Spec PyProof.Rows L2
def AllC {α : Type} (f : α → Prop) : List α → Prop
  | [] => True
  | a :: l => f a ∧ AllC f l
theorem AllC.mem {α : Type} {f : α → Prop} : ∀ {l : List α}, AllC f l → ∀ a ∈ l, f a
  | [], _, _, h => absurd h (by simp)
  | b :: l, h, a, m => by
    rcases List.mem_cons.mp m with rfl | m
    · exact h.1
    · exact AllC.mem h.2 a m
def capsOf (caps : List Nat) (σ : L2.St) : L2.St := caps.map fun j => (σ[j]?).getD none
def rApp (acc : Addr) (N : Hp → Prop) (y : V) (H : Hp) : Prop := ∃ ys, H acc = some (.lst ys) ∧ ys.length < sizeLine ∧ N (upd H acc (.lst (ys ++ [y])))
def COMP (J : It) (caps : List Nat) (tt : TT) (te : TE) (acc : Addr) (σ : L2.St) (H : Hp) (Q : VK) : Prop := ∃ W : Nat → Nat → Hp → Prop, (∃ m, W 0 m H) ∧ ∀ i m H, W i m H →
  (J.stop i H ∧ Q (.ref acc) H) ∨ (J.go i H ∧ ∃ N : Hp → Prop, (∀ H', N H' → ∃ m', m' < m ∧ W (i + 1) m' H') ∧ ∀ v H', J.yld i H v H' → tt (some v :: capsOf caps σ) H' fun b H2 =>
    if b = true then te (some v :: capsOf caps σ) H2 fun y H3 => rApp acc N y H3 else N H2)
abbrev CT (α : Type) := Addr → Shared → Hp → List Addr → α
def tComp (wi : TI) (caps : List Nat) (tt : CT TT) (te : CT TE) : TE := fun σ H Q => wi σ H fun J H1 => ∀ (C : Addr) (s : Shared) (H0 : Hp) (fp : List Addr) (acc : Addr), H1 acc = none → COMP J caps (tt C s H0 fp) (te C s H0 fp) acc σ (upd H1 acc (.lst [])) Q
def tTrue : TT := fun _ H Q => Q true H
def PIfs (X : Cx) (ifs : List Expr) (t : TT) : Prop :=
  ∀ (pins : List (Addr × Obj)) (s : Shared) (σ : L2.St) (H : Hp) (Q : Bool → Hp → Prop), Inv X pins σ H s → t σ H Q →
    wpAny (model X.prog X.w) X.A (forIn ifs true fun c r => if r = true then do let ok ← isTrue c X.env (eval c X.env); pure (ForInStep.yield ok) else pure (ForInStep.yield r)) (TP X pins σ Q) X.xe s
theorem pf_nil {X : Cx} : PIfs X [] tTrue := fun pins s σ H Q I h => wpAny_tests_nil ⟨H, I, h⟩
theorem pf_one {X : Cx} {c : Expr} {t : TT} (h : PT X c t) : PIfs X [c] t := fun pins s σ H Q I hw => wpAny_tests_one (h pins s σ H Q I hw)
def cxC (X : Cx) (N : List Str) (scope : Scope) (cl : List (Str × Addr)) (C : Addr) (s : Shared) (H : Hp) (fp : List Addr) : Cx where
  prog := X.prog
  w := X.w
  K := X.K
  mg := X.mg
  base := X.base
  A := X.A
  N := N
  s₀ := s
  H₀ := H
  env := compEnvC scope cl C X.env
  outer := X.stack
  stack := X.stack
  ex := fp
  fn := fun _ => false
  calm := X.calm
  pn := []
  xe := fun _ _ => False
structure Caps (X : Cx) (x : Str) (scope : Scope) (cl : List (Str × Addr)) (caps : List Nat) (cn : List Str) : Prop where
  clos : closureFor scope X.env = pure cl
  kind : scope.kind = .function
  cell : ∀ y ∈ scope.names, y.2 ≠ .cell
  names : ∀ y ∈ scope.names, y.2 = .local → scope.names.lookup y.1 = some .local
  tg : scope.names.lookup x = some .local
  sub : ∀ y c, cl.lookup y = some c → X.env.cells.lookup y = some c
  has : ∀ y, ((relabel scope X.env).names.lookup y = some .cell ∨ (relabel scope X.env).names.lookup y = some .free) → ∃ c, cl.lookup y = some c
  len : caps.length = cn.length
  cap : ∀ (k : Nat) (y : Str) (j : Nat), cn[k]? = some y → caps[k]? = some j → X.N[j]? = some y ∧ X.env.kindOf y = some .cell ∧ (relabel scope X.env).names.lookup y = some .cell ∧ X.env.scope.names.lookup y = some .cell ∧ ∃ c, cl.lookup y = some c
  nd : (x :: cn).Nodup
section
variable {X : Cx} {pins : List (Addr × Obj)} {σ : L2.St} {H : Hp} {s : Shared}
theorem Inv.comp {x : Str} {scope : Scope} {cl : List (Str × Addr)} {caps : List Nat} {cn : List Str} (Cp : Caps X x scope cl caps cn) (I : Inv X pins σ H s) {fp : List Addr} (hf : ∀ b ∈ fp, FpOk X pins H b) (hlt : ∀ b ∈ fp, b < s.heap.objs.size) {h₁ : Heap} {t' : Nat}
    (hns : h₁.Ns s.heap.objs.size (fun _ => none)) (k : ∀ b o, s.heap.get? b = some o → h₁.get? b = some o) :
    Inv (cxC X (x :: cn) scope cl s.heap.objs.size s H fp) [] (none :: capsOf caps σ) H { s with heap := h₁, toks := t' } := by
  have cne : ∀ y c, cl.lookup y = some c → ∃ v, s.heap.IsCell c v := fun y c e => I.cell y c (Cp.sub y c e)
  have ltC : ∀ y c, cl.lookup y = some c → c < s.heap.objs.size := fun y c e => let ⟨v, q⟩ := cne y c e; q.lt
  have isC : ∀ c v, s.heap.IsCell c v → h₁.IsCell c v := fun c v ⟨o, e, d⟩ => ⟨o, k c o e, d⟩
  refine ⟨⟨I.ok.mod, Cp.kind, I.ok.glob, I.ok.blt, Nat.le_refl _, fun y z c e1 e2 => I.ok.inj y z c (Cp.sub y c e1) (Cp.sub z c e2), fun y hy => Cp.has y hy, fun y c z => (Bool.false_ne_true z).elim, I.ok.hd, I.ok.frames, .inl rfl,
    fun b hb => ⟨Nat.ne_of_lt (hlt b hb), fun y c e z => ?_⟩, I.bs, Nat.le_trans I.ok.bsz I.sz, fun b o e hb => ?_, fun b hb z => ?_, I.stack, I.stkFree⟩,
    rfl, I.bare, Un.kept k, ⟨_, hns, fun i y v e1 e2 e3 => ?_⟩, fun y c e => ?_, I.hok.fresh (Nat.le_refl _), fun y c e => I.freeC y c (Cp.sub y c e), fun p hp => absurd (show p ∈ ([] : List (Addr × Obj)) from hp) (by simp), I.hok.kept k, ?_⟩
  · exact (hf b hb).2.2.2.2.1 y c (Cp.sub y c e) z
  · rcases (hf b hb).2.2.2.1 with z | z
    · exact I.ok.noex b o e z
    · exact absurd (Nat.lt_of_lt_of_le (Heap.lt_size e) (Nat.le_trans I.ok.bsz z)) (Nat.lt_irrefl _)
  · rcases List.mem_cons.mp (I.stkSub b z) with z | z
    · exact (hf b hb).2.1 z
    · exact (hf b hb).2.2.1 z
  · cases i with
    | zero => cases e2
    | succ i =>
      have e1' : cn[i]? = some y := by simpa [cxC] using e1
      have e2' : (capsOf caps σ)[i]? = some (some v) := by simpa using e2
      unfold capsOf at e2'
      rw [List.getElem?_map] at e2'
      obtain ⟨j, hj, ej⟩ := Option.map_eq_some_iff.mp e2'
      obtain ⟨c1, c2, c3, c5, c, c4⟩ := Cp.cap i y j e1' hj
      cases hs : σ[j]? with
      | none => rw [hs] at ej; cases ej
      | some w =>
        rw [hs] at ej
        have ej' : w = some v := ej
        subst ej'
        obtain ⟨m, hn, hl⟩ := I.loc
        obtain ⟨u, r, l⟩ := hl j y v c1 hs (.inr (.inl c5))
        refine ⟨u, r, .inr ⟨.inl c3, c, c4, ?_⟩⟩
        rcases l with ⟨l, _⟩ | ⟨_, c', e', q⟩
        · rw [c2] at l; cases l
        · rw [Cp.sub y c c4] at e'
          cases e'
          exact isC _ _ q
  · obtain ⟨v, q⟩ := cne y c e
    exact ⟨v, isC c v q⟩
  · show (none :: capsOf caps σ).length = (x :: cn).length
    rw [List.length_cons, List.length_cons]
    unfold capsOf
    rw [List.length_map, Cp.len]
theorem Inv.uncomp {N : List Str} {scope : Scope} {cl : List (Str × Addr)} {C : Addr} {σ' : L2.St} {H' : Hp} {s' : Shared} {fp : List Addr} (I : Inv X pins σ H s) (hf : ∀ b ∈ fp, FpOk X pins H b) (hC : C = s.heap.objs.size)
    (J : Inv (cxC X N scope cl C s H fp) [] σ' H' s') {h' : Heap} (sb : Heap.SameBut C s'.heap h') : Inv X pins σ H' { s' with heap := h' } := by
  have ne : ∀ b o, s.heap.get? b = some o → b ≠ C := fun b o e => by rw [hC]; exact Nat.ne_of_lt (Heap.lt_size e)
  have u : Un (frs X.stack) fp H H' s.heap s'.heap := J.base
  have hok : HOk X.prog X.w H' h' := fun b o e => by
    refine (J.hok b o e).stay (fun c u' hc q => (sb.2 c ?_).trans q) (fun _ q => q) fun _ _ q => q
    intro z
    have n : H' C = none := J.free
    rcases hc with hc | hc
    · rw [← hc, z, n] at e; cases e
    · rw [z, n] at hc; cases hc
  refine I.call' (s' := { s' with heap := h' }) (ch := fp) J.os ⟨fun b o e n hb hx => (sb.2 b (ne b o e)).trans (u.keep b o e n hb hx), fun b o e n hb hx => ?_, u.free, fun b o e hx => ?_, u.tups, u.frzs, u.tbls⟩ hok J.bare fun b hb => ?_
  · obtain ⟨sl, q⟩ := u.slot b o e n hb hx
    exact ⟨sl, (sb.2 b (ne b o e)).trans q⟩
  · obtain ⟨o', q⟩ := u.there b o e hx
    exact ⟨o', (sb.2 b (ne b o e)).trans q⟩
  · obtain ⟨f0, f1, f2, f3, f4, f5⟩ := hf b hb
    exact ⟨f3, f1, f4, f5⟩
end
section
variable {X : Cx}
theorem pe_comp {elt iter : Expr} {x : Str} {px : Pos} {ifs : List Expr} {scope : Scope} {cl : List (Str × Addr)} {pos : Pos} {caps : List Nat} {cn : List Str} {wi : TI} {tt : CT TT} {te : CT TE} (Cp : Caps X x scope cl caps cn) (hc : X.calm = true)
    (hi : PI X (.Name x px) iter wi) (ht : ∀ C s H fp, PIfs (cxC X (x :: cn) scope cl C s H fp) ifs (tt C s H fp)) (he : ∀ C s H fp, PE (cxC X (x :: cn) scope cl C s H fp) elt (te C s H fp))
    (hs : ∀ x, foldedSetIterable iter X.env x = pure x := by intro _; rfl) :
    PE X (.ListComp elt [⟨.Name x px, iter, ifs, 0⟩] scope pos) (tComp wi caps tt te) := by
  intro pins s σ H Q I h
  rw [eval_ListComp]
  refine wpAny_comprehension_free (use := none) rfl hs Cp.clos Cp.kind Cp.names (thn (hi pins s σ H _ I h) fun v s1 h1 => thn h1 fun itv s2 h2 => ?_)
  obtain ⟨it, fp, tn, J, H2, e, I2, T, st2, f2, R⟩ := h2
  subst e
  have hacc : H2 s2.heap.objs.size = none := I2.hok.fresh (Nat.le_refl _)
  refine wpAny_newObj_type ?_
  have I3 : Inv X pins σ (upd H2 s2.heap.objs.size (.lst [])) { s2 with heap := s2.heap.push { cls := .type "list", dict := none, data := .seq ([] : List Value).toArray } } := Inv.lnew (its := []) (t' := s2.toks) I2 .nil (Nat.zero_le _)
  have lt2 : ∀ b ∈ fp, b < s2.heap.objs.size := fun b hb => let ⟨o, e, _⟩ := T.obj _ _ st2 b hb; Heap.lt_size e
  have f3 : ∀ b ∈ fp, FpOk X pins (upd H2 s2.heap.objs.size (.lst [])) b := fun b hb => ⟨by rw [upd_ne (Nat.ne_of_lt (lt2 b hb))]; exact (f2 b hb).1, (f2 b hb).2⟩
  have st3 : tn 0 (s2.heap.push { cls := .type "list", dict := none, data := .seq ([] : List Value).toArray }) := T.keep _ _ _ st2 fun b _ o e => Heap.get?_push_of_some _ e
  generalize hs3 : ({ s2 with heap := s2.heap.push { cls := .type "list", dict := none, data := .seq ([] : List Value).toArray } } : Shared) = s3 at I3 ⊢
  have st3' : tn 0 s3.heap := by rw [← hs3]; exact st3
  generalize s2.heap.objs.size = acc at hacc I3 f3 ⊢
  obtain ⟨W, ⟨m0, w0⟩, turn⟩ := R s3.heap.objs.size s3 (upd H2 acc (.lst [])) fp acc hacc
  have lt3 : ∀ b ∈ fp, b < s3.heap.objs.size := fun b hb => let ⟨o, e, _⟩ := T.obj _ _ st3' b hb; Heap.lt_size e
  clear st3 hs3
  refine wpAny_newFunctionEnv Cp.cell (by intro y hy; simp at hy) (fun h₁ hns hsb => ?_) Cp.kind
  have k1 : ∀ b o, s3.heap.get? b = some o → h₁.get? b = some o := fun b o e => hsb.extBut b o (Nat.ne_of_lt (Heap.lt_size e)) (Heap.get?_push_of_some _ e)
  have I4 : Inv (cxC X (x :: cn) scope cl s3.heap.objs.size s3 (upd H2 acc (.lst [])) fp) [] (none :: capsOf caps σ) (upd H2 acc (.lst [])) { s3 with heap := h₁, toks := s3.toks + ([] : List (Str × Value)).length } :=
    Inv.comp Cp I3 f3 lt3 hns k1
  have st4 : tn 0 h₁ := T.keep _ _ _ st3' fun b _ o e => k1 b o e
  generalize hX : cxC X (x :: cn) scope cl s3.heap.objs.size s3 (upd H2 acc (.lst [])) fp = X' at I4
  have stat : ∀ {H' : Hp}, (∀ b ∈ fp, H' b = none) → ∀ b ∈ fp, FpOk X' [] H' b := fun hn b hb => by
    subst hX
    obtain ⟨g0, g1, g2, g3, g4, g5⟩ := f3 b hb
    refine ⟨hn b hb, Nat.ne_of_lt (lt3 b hb), fun z => ?_, .inl hb, fun y c e => g4 y c (Cp.sub y c e), fun p hp => absurd (show p ∈ ([] : List (Addr × Obj)) from hp) (by simp)⟩
    rcases List.mem_cons.mp (I3.stkSub b z) with z | z
    · exact g1 z
    · exact g2 z
  have core : codeAny (model X.prog X.w) X.A (.compLoop (.ListComp elt [⟨.Name x px, iter, ifs, 0⟩] scope pos) 0 (.ref it) (.ref acc) (compEnvC scope cl s3.heap.objs.size X.env))
      (compPost (model X.prog X.w) X.A X.xe none (EP X pins σ Q) (.ref acc) s3.heap.objs.size) { s3 with heap := h₁, toks := s3.toks + ([] : List (Str × Value)).length } := by
    refine codeAny_loop rfl (fun n s' => ∃ i a H', Inv X' [] (a :: capsOf caps σ) H' s' ∧ tn i s'.heap ∧ (∀ b ∈ fp, H' b = none) ∧ W i n H') (fun n s5 hI => ?_) m0 ⟨0, none, _, I4, st4, fun b hb => (f3 b hb).1, w0⟩
    obtain ⟨i, a0, H5, I5, st5, fr5, w5⟩ := hI
    show wpAny _ _ ((compTurn _ 0 _ _ _).onRaise _) _ _ s5
    refine wpAny_noted ?_
    rw [compTurn_list]
    refine wpAny_bind (wpAny_standAt (wpAny_bind ?_))
    have aX : X'.A = X.A := by subst hX; rfl
    have pX : X'.prog = X.prog := by subst hX; rfl
    have wX : X'.w = X.w := by subst hX; rfl
    have kX : X'.K = X.K := by subst hX; rfl
    have cX : X'.calm = true := by subst hX; exact hc
    have eX : X'.env = compEnvC scope cl s3.heap.objs.size X.env := by subst hX; rfl
    rcases turn i n H5 w5 with ⟨stop, qn⟩ | ⟨go, N, hN, step⟩
    · have z := T.done X' pX wX kX cX i [] s5 _ H5 (fun _ _ => False) I5 (stat fr5) st5 stop
      rw [aX] at z
      refine wpAny_mono z (fun r s6 ⟨hr, I6⟩ => ?_) fun _ _ q => q.elim
      subst hr
      subst hX
      obtain ⟨m, hm, _⟩ := id I6.loc
      exact wpAny_pure ⟨m, hm, fun h' sb => ⟨.ref acc, H5, Inv.uncomp I3 f3 rfl I6 sb, rfl, qn⟩⟩
    · have z := T.item X' pX wX kX cX i [] s5 _ H5 (fun _ _ => False) I5 (stat fr5) st5 go
      rw [aX] at z
      refine wpAny_mono z (fun r s6 ⟨u, hr, h6⟩ => ?_) fun _ _ q => q.elim
      subst hr
      refine wpAny_bind (wpAny_mono h6 (fun _ s7 ⟨v, H7, I7, r7, y7, st7, fr7⟩ => ?_) fun _ _ q => q.elim)
      have I7' := I7.pinned (stat fr7) (T.obj _ _ st7)
      have asg : wpAny (model X.prog X.w) X.A (assign (.Name x px) (compEnvC scope cl s3.heap.objs.size X.env) u) (fun _ s8 => Inv X' ([] ++ pinsAt fp s7.heap) (some v :: capsOf caps σ) H7 s8) (fun _ _ => False) s7 := by
        subst hX
        exact wpAny_assign_Name (store_ok (X := cxC X (x :: cn) scope cl s3.heap.objs.size s3 (upd H2 acc (.lst [])) fp) (i := 0) I7' Cp.nd rfl (.inl (lookup_relabel_local Cp.tg)) r7 (fun s' I' => I') (.inr (lookup_relabel_local Cp.tg)))
      refine wpAny_bind (wpAny_mono asg (fun _ s8 I8 => ?_) fun _ _ q => q.elim)
      have tst : wpAny (model X.prog X.w) X.A (forIn ifs true fun c r => if r = true then do let ok ← isTrue c (compEnvC scope cl s3.heap.objs.size X.env) (eval c (compEnvC scope cl s3.heap.objs.size X.env)); pure (ForInStep.yield ok) else pure (ForInStep.yield r))
          (TP X' ([] ++ pinsAt fp s7.heap) (some v :: capsOf caps σ) (fun b H9 => if b = true then te s3.heap.objs.size s3 (upd H2 acc (.lst [])) fp (some v :: capsOf caps σ) H9 (fun y H3 => rApp acc N y H3) else N H9)) (fun _ _ => False) s8 := by
        subst hX
        exact ht _ _ _ _ _ s8 _ H7 _ I8 (step v H7 y7)
      refine wpAny_bind (wpAny_mono tst (fun b s9 ⟨H9, I9, q9⟩ => ?_) fun _ _ q => q.elim)
      have fin : ∀ {a : Option V} {H10 : Hp} {s10 : Shared}, Inv X' ([] ++ pinsAt fp s7.heap) (a :: capsOf caps σ) H10 s10 → N H10 → ∃ m', m' < n ∧ ∃ i a H', Inv X' [] (a :: capsOf caps σ) H' s10 ∧ tn i s10.heap ∧ (∀ b ∈ fp, H' b = none) ∧ W i m' H' := fun {a H10 s10} I10 n10 =>
        let ⟨m', hm, w10⟩ := hN _ n10
        ⟨m', hm, i + 1, a, H10, I10.unpinned, T.keep _ _ _ st7 fun b hb o e => (I10.pin (b, o) (List.mem_append_right _ (List.mem_append_right _ (mem_pinsAt hb e)))).1, fun b hb => by
          obtain ⟨o, e, d⟩ := T.obj _ _ st7 b hb
          exact (I10.pin (b, o) (List.mem_append_right _ (List.mem_append_right _ (mem_pinsAt hb e)))).2.1, w10⟩
      cases b with
      | false => exact wpAny_pure ⟨rfl, fin I9 q9⟩
      | true =>
        have elt' : wpAny (model X.prog X.w) X.A (eval elt (compEnvC scope cl s3.heap.objs.size X.env)) (EP X' ([] ++ pinsAt fp s7.heap) (some v :: capsOf caps σ) (fun y H3 => rApp acc N y H3)) (fun _ _ => False) s9 := by
          subst hX
          exact he _ _ _ _ _ s9 _ H9 _ I9 q9
        refine wpAny_bind (wpAny_bind (wpAny_mono elt' (fun y s10 ⟨w, H10, I10, r10, ys, ha, hz, q10⟩ => ?_) fun _ _ q => q.elim))
        have app : wpAny (model X.prog X.w) X.A (call (.builtin "list.append") [.ref acc, y]) (EP X' ([] ++ pinsAt fp s7.heap) (some v :: capsOf caps σ) fun _ H11 => H11 = upd H10 acc (.lst (ys ++ [w]))) (fun _ _ => False) s10 := by
          subst hX
          exact mt_append (X := cxC X (x :: cn) scope cl s3.heap.objs.size s3 (upd H2 acc (.lst [])) fp) _ s10 _ H10 (.ref acc) [w] (.ref acc) [y] _ I10 rfl (.cons r10 .nil) ⟨acc, ys, w, rfl, rfl, ha, hz, rfl⟩
        refine wpAny_bind (wpAny_mono app (fun _ s11 ⟨_, H11, I11, _, e11⟩ => ?_) fun _ _ q => q.elim)
        subst e11
        exact wpAny_pure (wpAny_pure ⟨rfl, fin I11 q10⟩)
  exact codeAny_compStart_list core (T.self _ 0 _ _ _ st4 core)
def Its (x : Str) : It := ⟨fun i _ => i < x.cps.size, fun i H v H' => H' = H ∧ ∃ c, x.cps[i]? = some c ∧ v = .str ⟨#[c]⟩, fun i _ => i = x.cps.size⟩
theorem turn_str {P : Program} {w : World} {K : PySem.W.Frag} {y : Str} {py : Pos} (x : Str) (t : Tok) (it : Addr) (ty : String) (W : ∀ A : Around, A.handled = none → Walks P w A it [it] [it] x.cps.size (SignAt x) (fun i h => h.IsStrIter it ty x t i))
    (hself : ∀ (A : Around) (i : Nat) (s : Shared) (Q : Value → Shared → Prop) (E : Value → Shared → Prop), s.heap.IsStrIter it ty x t i → Q (.ref it) s → wpAny (model P w) A (pyIter (.ref it)) Q E s) :
    Turn P w K (.Name y py) (Its x) [it] it (fun i h => h.IsStrIter it ty x t i) where
  mem := by simp
  obj := fun i h st b hb => by
    have e : b = it := by simpa using hb
    subst e
    obtain ⟨o, e, c, d⟩ := st
    exact ⟨o, e, fun v z => by rw [d] at z; cases z⟩
  keep := fun i h h' ⟨o, e, r⟩ k => ⟨o, k it (by simp) o e, r⟩
  item := by
    intro X hP hw hK hc i pins s σ H E I hf st hg
    subst hP hw hK
    obtain ⟨f0, f1, f2, f3, f4, f5⟩ := hf it (by simp)
    refine (W X.A (I.ok.hd hc)).item i s _ _ hg st fun v h' tk hv st' k => ?_
    have I1 : Inv X pins σ H { s with heap := h', toks := tk } := I.turned (t' := tk) (fun b o hb e => k b o (fun z => hb (by simpa using z)) e) f0 f1 f3 f4 f5
    obtain ⟨c, u, hx, rfl⟩ := hv
    exact ⟨_, rfl, wpAny_pure ⟨.str ⟨#[c]⟩, H, I1, ⟨_, rfl⟩, ⟨rfl, c, hx, rfl⟩, st', fun b hb => (hf b hb).1⟩⟩
  done := by
    intro X hP hw hK hc i pins s σ H E I hf st hg
    subst hP hw hK
    have hg' : i = x.cps.size := hg
    subst hg'
    obtain ⟨f0, f1, f2, f3, f4, f5⟩ := hf it (by simp)
    exact (W X.A (I.ok.hd hc)).done s _ _ st fun h' tk k => ⟨rfl, I.turned (t' := tk) (fun b o hb e => k b o (fun z => hb (by simpa using z)) e) f0 f1 f3 f4 f5⟩
  self := hself
def rItS (v : V) (H : Hp) (R : It → Hp → Prop) : Prop := ∃ x, v = .str x ∧ R (Its x) H
def iStr (tl : TE) : TI := fun σ H R => tl σ H fun v H1 => rItS v H1 R
end
end My
set_option Elab.async false
set_option linter.all false
set_option maxRecDepth 100000
namespace L2
open PySem PySem.Spec PyProof.Rows
section
variable {κ : Type} [DecidableEq κ]
def valV (kvs : List (κ × V)) (k : κ) : Option V := (kvs.find? fun kv => decide (kv.1 = k)).map (·.2)
def putK (kvs : List (κ × V)) (k : κ) (v : V) : List (κ × V) :=
  if (kvs.any fun kv => decide (kv.1 = k)) = true then kvs.map (fun kv => if kv.1 = k then (kv.1, v) else kv) else kvs ++ [(k, v)]
theorem valV_pos {p : κ × V} {r : List (κ × V)} {k : κ} (e : p.1 = k) : valV (p :: r) k = some p.2 := by simp [valV, List.find?_cons, e]
theorem valV_neg {p : κ × V} {r : List (κ × V)} {k : κ} (e : ¬ p.1 = k) : valV (p :: r) k = valV r k := by simp [valV, List.find?_cons, e]
theorem valV_any (k : κ) : ∀ kvs : List (κ × V), (kvs.any fun kv => decide (kv.1 = k)) = (valV kvs k).isSome
  | [] => rfl
  | p :: r => by
    rw [List.any_cons]
    by_cases e : p.1 = k
    · simp only [valV_pos e, decide_eq_true e, Bool.true_or, Option.isSome_some]
    · rw [valV_neg e, decide_eq_false e, Bool.false_or]; exact valV_any k r
theorem valV_map (k j : κ) (y : V) : ∀ kvs : List (κ × V), valV (kvs.map fun kv => if kv.1 = k then (kv.1, y) else kv) j = (valV kvs j).map fun x => if j = k then y else x
  | [] => rfl
  | p :: r => by
    have ih := valV_map k j y r
    rw [List.map_cons]
    by_cases h : p.1 = k
    · rw [if_pos h]
      by_cases e : p.1 = j
      · rw [valV_pos (p := (p.1, y)) e, valV_pos e, Option.map_some, if_pos (e.symm.trans h)]
      · rw [valV_neg (p := (p.1, y)) e, valV_neg e, ih]
    · rw [if_neg h]
      by_cases e : p.1 = j
      · rw [valV_pos (p := p) e, valV_pos e, Option.map_some, if_neg (fun z => h (e.trans z))]
      · rw [valV_neg (p := p) e, valV_neg e, ih]
theorem valV_snoc (k j : κ) (y : V) : ∀ kvs : List (κ × V), valV kvs k = none → valV (kvs ++ [(k, y)]) j = if j = k then some y else valV kvs j
  | [], _ => by
    by_cases e : k = j
    · rw [if_pos e.symm]; exact valV_pos (p := (k, y)) e
    · rw [if_neg (fun z => e z.symm)]; exact valV_neg (p := (k, y)) e
  | p :: r, hn => by
    rw [List.cons_append]
    have hk : ¬ p.1 = k := fun z => by rw [valV_pos z] at hn; cases hn
    rw [valV_neg hk] at hn
    have ih := valV_snoc k j y r hn
    by_cases e : p.1 = j
    · rw [valV_pos e, valV_pos e, if_neg (fun z => hk (e.trans z))]
    · rw [valV_neg e, valV_neg e, ih]
theorem valV_put (kvs : List (κ × V)) (k j : κ) (y : V) : valV (putK kvs k y) j = if j = k then some y else valV kvs j := by
  unfold putK
  by_cases a : (kvs.any fun kv => decide (kv.1 = k)) = true
  · rw [if_pos a, valV_map]
    rw [valV_any] at a
    by_cases e : j = k
    · obtain ⟨x, hx⟩ := Option.isSome_iff_exists.mp a
      rw [if_pos e, e, hx, Option.map_some, if_pos rfl]
    · rw [if_neg e]
      cases valV kvs j with
      | none => rfl
      | some x => rw [Option.map_some, if_neg e]
  · rw [if_neg a]
    refine valV_snoc k j y kvs ?_
    rw [valV_any] at a
    cases q : valV kvs k with
    | none => rfl
    | some x => rw [q] at a; exact (a rfl).elim
theorem length_putK (kvs : List (κ × V)) (k : κ) (v : V) : (putK kvs k v).length ≤ kvs.length + 1 := by
  unfold putK
  split
  · rw [List.length_map]; omega
  · rw [List.length_append, List.length_cons, List.length_nil]; omega
theorem putK_new {kvs : List (κ × V)} {k : κ} (v : V) (h : valV kvs k = none) : putK kvs k v = kvs ++ [(k, v)] := by
  unfold putK
  rw [valV_any, h]
  exact if_neg (by decide)
theorem RelO.isSome_eq {o : Option V} {u : Option Value} (r : RelO o u) : o.isSome = u.isSome := by
  cases o with
  | none => cases u with
    | none => rfl
    | some _ => exact (show False from r).elim
  | some _ => cases u with
    | none => exact (show False from r).elim
    | some _ => rfl
theorem KV.val {kvs : List (κ × V)} {vs : List (κ × Value)} (r : KV kvs vs) (k : κ) : RelO (valV kvs k) (valueAt vs k) := by
  unfold KV at r
  induction r with
  | nil => exact True.intro
  | @cons p q ps qs h t ih =>
    obtain ⟨h1, h2⟩ := h
    by_cases e : p.1 = k
    · have e' : q.1 = k := h1.symm.trans e
      have b : valueAt (q :: qs) k = some q.2 := by simp [valueAt, List.find?_cons, e']
      rw [valV_pos e, b]; exact h2
    · have e' : ¬ q.1 = k := fun z => e (h1.trans z)
      have b : valueAt (q :: qs) k = valueAt qs k := by simp [valueAt, List.find?_cons, e']
      rw [valV_neg e, b]; exact ih
theorem KV.any {kvs : List (κ × V)} {vs : List (κ × Value)} (r : KV kvs vs) (k : κ) : (kvs.any fun kv => decide (kv.1 = k)) = vs.any fun kv => decide (kv.1 = k) := by
  unfold KV at r
  induction r with
  | nil => rfl
  | cons h t ih => rw [List.any_cons, List.any_cons, ih, h.1]
theorem KV.repl {kvs : List (κ × V)} {vs : List (κ × Value)} (r : KV kvs vs) (k : κ) {y : V} {u : Value} (ry : RelV y u) :
    KV (kvs.map fun kv => if kv.1 = k then (kv.1, y) else kv) (vs.map fun kv => if kv.1 = k then (kv.1, u) else kv) := by
  unfold KV at r ⊢
  induction r with
  | nil => exact .nil
  | @cons p q ps qs h t ih =>
    rw [List.map_cons, List.map_cons]
    refine .cons ?_ ih
    obtain ⟨h1, h2⟩ := h
    by_cases e : p.1 = k
    · rw [if_pos e, if_pos (h1.symm.trans e)]; exact ⟨h1, ry⟩
    · rw [if_neg e, if_neg (fun z => e (h1.trans z))]; exact ⟨h1, h2⟩
theorem KV.put {kvs : List (κ × V)} {vs : List (κ × Value)} (r : KV kvs vs) (k : κ) {y : V} {u : Value} (ry : RelV y u) : KV (putK kvs k y) (stored vs k u) := by
  unfold putK stored
  rw [r.any k]
  by_cases e : (vs.any fun kv => decide (kv.1 = k)) = true
  · rw [if_pos e, if_pos e]; exact r.repl k ry
  · rw [if_neg e, if_neg e]; exact Paired.snoc r ⟨rfl, ry⟩
theorem KV.keys {kvs : List (κ × V)} {vs : List (κ × Value)} (r : KV kvs vs) : kvs.map (·.1) = vs.map (·.1) := by
  unfold KV at r
  induction r with
  | nil => rfl
  | cons h t ih => rw [List.map_cons, List.map_cons, ih, h.1]
theorem KV.length {kvs : List (κ × V)} {vs : List (κ × Value)} (r : KV kvs vs) : kvs.length = vs.length := Paired.length r
end
theorem kV_is {P : Program} {w : World} {k : Key} {u : Value} (r : RelV (kV k) u) : (mixKind P w).is k u = true := by
  cases k with
  | inl i => obtain ⟨t, e⟩ := (show ∃ t, u = Value.int i t from r); subst e; exact mixKind_int P w i t
  | inr x => obtain ⟨t, e⟩ := (show ∃ t, u = Value.str x t from r); subst e; exact mixKind_str P w x t
theorem items_are {P : Program} {w : World} : ∀ {ks : List Key} {us : List Value}, Vals (ks.map kV) us → ItemsAre (mixKind P w) ks us
  | [], _, r => by rw [List.map_nil] at r; cases r; exact .nil
  | k :: ks, _, r => by
    rw [List.map_cons] at r
    cases r with
    | cons h t => exact .cons (kV_is h) (items_are t)
abbrev KT (H : Hp) : List (List Key × V) → List (List Key × Addr × Value) → Prop := Paired fun p q => p.1 = q.1 ∧ H q.2.1 = some (.tup (p.1.map kV)) ∧ RelV p.2 q.2.2
theorem KT.val {H : Hp} {kvs : List (List Key × V)} {xs : List (List Key × Addr × Value)} (r : KT H kvs xs) (k : List Key) : RelO (valV kvs k) ((atKey xs k).map (·.2)) := by
  induction r with
  | nil => exact True.intro
  | @cons p q ps qs h t ih =>
    obtain ⟨h1, _, h2⟩ := h
    by_cases e : p.1 = k
    · have e' : q.1 = k := h1.symm.trans e
      have b : atKey (q :: qs) k = some q.2 := by simp [atKey, List.find?_cons, e']
      rw [valV_pos e, b]; exact h2
    · have e' : ¬ q.1 = k := fun z => e (h1.trans z)
      have b : atKey (q :: qs) k = atKey qs k := by simp [atKey, List.find?_cons, e']
      rw [valV_neg e, b]; exact ih
theorem KT.repl {H : Hp} {kvs : List (List Key × V)} {xs : List (List Key × Addr × Value)} (r : KT H kvs xs) (k : List Key) {y : V} {u : Value} (ry : RelV y u) :
    KT H (kvs.map fun kv => if kv.1 = k then (kv.1, y) else kv) (xs.map (putAt k u)) := by
  induction r with
  | nil => exact .nil
  | @cons p q ps qs h t ih =>
    rw [List.map_cons, List.map_cons]
    refine .cons ?_ ih
    obtain ⟨h1, h2, h3⟩ := h
    unfold putAt
    by_cases e : p.1 = k
    · rw [if_pos e, if_pos (h1.symm.trans e)]; exact ⟨h1, h2, ry⟩
    · rw [if_neg e, if_neg (fun z => e (h1.trans z))]; exact ⟨h1, h2, h3⟩
theorem KT.put {H : Hp} {kvs : List (List Key × V)} {xs : List (List Key × Addr × Value)} (r : KT H kvs xs) (k : List Key) {b : Addr} {y : V} {u : Value} (hb : H b = some (.tup (k.map kV))) (ry : RelV y u) :
    KT H (putK kvs k y) (storedH xs k b u) := by
  have e : (kvs.any fun kv => decide (kv.1 = k)) = (atKey xs k).isSome := by
    rw [valV_any, (r.val k).isSome_eq, Option.isSome_map]
  unfold putK storedH
  rw [e]
  by_cases q : (atKey xs k).isSome = true
  · rw [if_pos q, if_pos q]; exact r.repl k ry
  · rw [if_neg q, if_neg q]; exact Paired.snoc r ⟨rfl, hb, ry⟩
theorem KT.keeps {H H' : Hp} {kvs : List (List Key × V)} {xs : List (List Key × Addr × Value)} (r : KT H kvs xs) (ht : ∀ b ys, H b = some (.tup ys) → H' b = some (.tup ys)) : KT H' kvs xs :=
  Paired.mapP r fun _ _ z => ⟨z.1, ht _ _ z.2.1, z.2.2⟩
section
variable {P : Program} {w : World} {H : Hp} {h : Heap} {a : Addr}
theorem rd_of {u : HO} (ok : HOk P w H h) (e : Rd H a u) : ObjOk P w H h a u := e.ok ok
theorem dk_rd {kvs : List (Key × V)} (ok : HOk P w H h) (e : Rd H a (.dK kvs)) : kvs.length ≤ sizeLine ∧ (a == sysModules) = false ∧ ∃ vs, KV kvs vs ∧ h.DictOf (mixKind P w) a vs :=
  show ObjOk P w H h a (.dK kvs) from rd_of ok e
theorem dk_of {kvs : List (Key × V)} (ok : HOk P w H h) (e : H a = some (.dK kvs)) : kvs.length ≤ sizeLine ∧ (a == sysModules) = false ∧ ∃ vs, KV kvs vs ∧ h.DictOf (mixKind P w) a vs := dk_rd ok (.inl e)
theorem key_of {ks : List Key} (ok : HOk P w H h) (e : H a = some (.tup (ks.map kV))) : (tupleKind (mixKind P w)).is h ks a := by
  obtain ⟨_, its, r, o, h1, h2, n, h3⟩ := (show ObjOk P w H h a (.tup (ks.map kV)) from ok a _ e)
  exact ⟨o, its.toArray, n, h1, h2, h3, by simpa using items_are r⟩
theorem dt_rd {kvs : List (List Key × V)} (ok : HOk P w H h) (e : Rd H a (.dT kvs)) : kvs.length ≤ sizeLine ∧ (a == sysModules) = false ∧
    ∃ xs, KT H kvs xs ∧ h.DictOfH (tupleKind (mixKind P w)) a xs := by
  obtain ⟨z, y, xs, r, o, es, ep, h1, h2, h3, h4, h5⟩ := (show ObjOk P w H h a (.dT kvs) from rd_of ok e)
  refine ⟨z, y, xs, r, o, es, ep, h1, h2, h3, h4, fun x hx => ?_, h5⟩
  have all : ∀ {l : List (List Key × V)} {m : List (List Key × Addr × Value)}, KT H l m → ∀ x ∈ m, (tupleKind (mixKind P w)).is h x.1 x.2.1 := by
    intro l m q
    induction q with
    | nil => intro x hx; exact nomatch hx
    | @cons p q ps qs hq t ih =>
      intro x hx
      rcases List.mem_cons.mp hx with e | hx
      · subst e
        exact key_of ok (by rw [← hq.1]; exact hq.2.1)
      · exact ih x hx
  exact all r x hx
theorem dt_of {kvs : List (List Key × V)} (ok : HOk P w H h) (e : H a = some (.dT kvs)) : kvs.length ≤ sizeLine ∧ (a == sysModules) = false ∧
    ∃ xs, KT H kvs xs ∧ h.DictOfH (tupleKind (mixKind P w)) a xs := dt_rd ok (.inl e)
end
def DGet (H : Hp) (a : Addr) (y : V) (r : Option V) : Prop :=
  (∃ kvs k, Rd H a (.dK kvs) ∧ y = kV k ∧ r = valV kvs k) ∨ ∃ kvs k b, Rd H a (.dT kvs) ∧ y = .ref b ∧ H b = some (.tup (k.map kV)) ∧ r = valV kvs k
def DPut (H : Hp) (a : Addr) (y v : V) (H' : Hp) : Prop :=
  (∃ kvs k, H a = some (.dK kvs) ∧ y = kV k ∧ kvs.length < sizeLine ∧ H' = upd H a (.dK (putK kvs k v))) ∨
  ∃ kvs k b, H a = some (.dT kvs) ∧ y = .ref b ∧ H b = some (.tup (k.map kV)) ∧ kvs.length < sizeLine ∧ H' = upd H a (.dT (putK kvs k v))
theorem DPut.k {H : Hp} {a : Addr} {kvs : List (Key × V)} {k : Key} {v : V} (e : H a = some (.dK kvs)) (hl : kvs.length < sizeLine) : DPut H a (kV k) v (upd H a (.dK (putK kvs k v))) := .inl ⟨kvs, k, e, rfl, hl, rfl⟩
section
variable {X : Cx} {pins : List (Addr × Obj)} {σ : St} {H : Hp} {s : Shared} {a : Addr} {y v : V} {u r : Value} {o : Option V} {A : Around} {E : Value → Shared → Prop}
theorem Inv.big (I : Inv X pins σ H s) : sysModules < s.heap.objs.size := by
  have h : mainGlobals < s.heap.objs.size := (I.mod.glob.keeps I.bk).lt
  exact Nat.lt_trans (by decide) h
theorem d_getItem {Q : Value → Shared → Prop} (hu : A.units + 1 < cLine) (I : Inv X pins σ H s) (g : DGet H a y (some v)) (ry : RelV y u) (h : ∀ w' s', Inv X pins σ H s' → RelV v w' → Q w' s') :
    wpAny (model X.prog X.w) A (getItem (.ref a) u) Q E s := by
  rcases g with ⟨kvs, k, e, ey, l⟩ | ⟨kvs, k, b, e, ey, eb, l⟩
  · subst ey
    obtain ⟨z, hd, vs, rel, dd⟩ := dk_rd I.hok e
    obtain ⟨w', hw, rw'⟩ := RelO.some_of (v := v) (o := valueAt vs k) (by rw [l]; exact rel.val k)
    exact wpAny_getItem_of (kV_is ry) dd.mapOf hw (h w' _ (I.tok _) rw')
  · subst ey
    cases (show u = Value.ref b from ry)
    obtain ⟨z, hd, xs, rel, dd⟩ := dt_rd I.hok e
    obtain ⟨w', hw, rw'⟩ := RelO.some_of (v := v) (o := (atKey xs k).map (·.2)) (by rw [l]; exact rel.val k)
    obtain ⟨p, hp, hp2⟩ := Option.map_eq_some_iff.mp hw
    refine wpAny_getItem_heap (tupleKind_room_in1 hu) (key_of I.hok eb) dd hp ?_
    rw [hp2]
    exact h w' _ (I.tok _) rw'
theorem d_in {Q : Value → Shared → Prop} (hu : A.units + 1 < cLine) (I : Inv X pins σ H s) (g : DGet H a y o) (ry : RelV y u) (h : ∀ s', Inv X pins σ H s' → Q (.bool o.isSome) s') :
    wpAny (model X.prog X.w) A (compareOp .In u (.ref a)) Q E s := by
  rcases g with ⟨kvs, k, e, ey, l⟩ | ⟨kvs, k, b, e, ey, eb, l⟩
  · subst ey
    obtain ⟨z, hd, vs, rel, dd⟩ := dk_rd I.hok e
    refine wpAny_in_of (kV_is ry) hd dd.mapOf ?_
    rw [← (rel.val k).isSome_eq, ← l]
    exact h _ (I.tok _)
  · subst ey
    cases (show u = Value.ref b from ry)
    obtain ⟨z, hd, xs, rel, dd⟩ := dt_rd I.hok e
    refine wpAny_in_heap (tupleKind_room_in1 hu) (key_of I.hok eb) hd dd ?_
    have q := (rel.val k).isSome_eq
    rw [Option.isSome_map] at q
    rw [← q, ← l]
    exact h _ (I.tok _)
theorem d_notIn {Q : Value → Shared → Prop} (hu : A.units + 1 < cLine) (I : Inv X pins σ H s) (g : DGet H a y o) (ry : RelV y u) (h : ∀ s', Inv X pins σ H s' → Q (.bool (!o.isSome)) s') :
    wpAny (model X.prog X.w) A (compareOp .NotIn u (.ref a)) Q E s := by
  rcases g with ⟨kvs, k, e, ey, l⟩ | ⟨kvs, k, b, e, ey, eb, l⟩
  · subst ey
    obtain ⟨z, hd, vs, rel, dd⟩ := dk_rd I.hok e
    refine wpAny_notIn_of (kV_is ry) hd dd.mapOf ?_
    rw [← (rel.val k).isSome_eq, ← l]
    exact h _ (I.tok _)
  · subst ey
    cases (show u = Value.ref b from ry)
    obtain ⟨z, hd, xs, rel, dd⟩ := dt_rd I.hok e
    refine wpAny_notIn_heap (tupleKind_room_in1 hu) (key_of I.hok eb) hd dd ?_
    have q := (rel.val k).isSome_eq
    rw [Option.isSome_map] at q
    rw [← q, ← l]
    exact h _ (I.tok _)
theorem d_write {h' : Heap} {t' : Nat} {ob : HO} (I : Inv X pins σ H s) (mu : Mut (H a)) (hs : Heap.SameBut a s.heap h') (he : ∃ q, h'.get? a = some q) (new : ObjOk X.prog X.w (upd H a ob) h' a ob) :
    Inv X pins σ (upd H a ob) { s with heap := h', toks := t' } :=
  I.write (x := a) (e := a) mu (.inl rfl) (fun b q hb z => (hs.2 b hb).trans z) he new
theorem dk_new {P : Program} {w : World} {H' : Hp} {h' : Heap} {kvs : List (Key × V)} {vs : List (Key × Value)} (z : kvs.length ≤ sizeLine) (hd : (a == sysModules) = false) (rel : KV kvs vs) (dd : h'.DictOf (mixKind P w) a vs) :
    ObjOk P w H' h' a (.dK kvs) := ⟨z, hd, vs, rel, dd⟩
theorem d_setItem {H' : Hp} {Q : Unit → Shared → Prop} (hu : A.units + 1 < cLine) (I : Inv X pins σ H s) (g : DPut H a y v H') (ry : RelV y u) (rv : RelV v r) (h : ∀ s', Inv X pins σ H' s' → Q () s') :
    wpAny (model X.prog X.w) A (setItem (.ref a) u r) Q E s := by
  rcases g with ⟨kvs, k, e, ey, l, eH⟩ | ⟨kvs, k, b, e, ey, eb, l, eH⟩
  · subst ey eH
    obtain ⟨z, hd, vs, rel, dd⟩ := dk_of I.hok e
    have hz : vs.length ≤ sizeLine := by rw [← rel.length]; exact z
    have hl : (putK kvs k v).length ≤ sizeLine := by have := length_putK kvs k v; omega
    refine wpAny_setItem_pairs (hsz := hz) (kV_is ry) dd fun h' dd' hs => h _ ?_
    have he : ∃ q, h'.get? a = some q := let ⟨q, _, _, hq, _⟩ := dd'; ⟨q, hq⟩
    exact d_write I (by rw [e]; exact True.intro) hs he (dk_new hl hd (rel.put k rv) dd')
  · subst ey eH
    cases (show u = Value.ref b from ry)
    obtain ⟨z, hd, xs, rel, dd⟩ := dt_of I.hok e
    have hz : xs.length ≤ sizeLine := by rw [← Paired.length rel]; exact z
    have hl : (putK kvs k v).length ≤ sizeLine := by have := length_putK kvs k v; omega
    refine wpAny_setItem_heap (hsz := hz) (tupleKind_room_in1 hu) (key_of I.hok eb) dd fun h' dd' hs => h _ ?_
    obtain ⟨q, es, ep, hq, h2, h3, h4, _, h5⟩ := dd'
    refine d_write I (by rw [e]; exact True.intro) hs ⟨q, hq⟩ ⟨hl, hd, _, (rel.put k eb rv).keeps fun c ys ec => ?_, q, es, ep, hq, h2, h3, h4, h5⟩
    rw [upd_ne (ne_of ec e (fun z => nomatch z))]
    exact ec
end
section
variable {X : Cx} {pins : List (Addr × Obj)} {σ : St} {H : Hp} {s : Shared} {a : Addr} {kvs : List (Key × V)} {k : Key} {u : Value} {A : Around} {E : Value → Shared → Prop}
end
def NoSl (i : Expr) : Prop := ∀ ov iv, subscripted i false ov iv = operate [ov, iv] (getItem ov iv)
theorem subD_of {prog : Program} {w : World} {A : Around} {E : Value → Shared → Prop} {s : Shared} {env : Env} {value slice : Expr} {pos : Pos} {T id : String} {Q : Value → Shared → Prop}
    (hl : typeLookup (.type T) "__getitem__" = pure (some (.builtin id))) (hs : NoSl slice)
    (h : wpAny (model prog w) A (eval value env) (fun o s₁ => wpAny (model prog w) A (eval slice env) (fun i s₂ => s₂.TypeIs o T ∧ wpAny (model prog w) A (getItem o i) Q E s₂) E s₁) E s) :
    wpAny (model prog w) A (eval (.Subscript value slice pos) env) Q E s := by
  refine Subscript_ (wpAny_mono h (fun o s₁ h₁ => wpAny_mono h₁ (fun i s₂ h₂ => ?_) fun _ _ x => x) fun _ _ x => x)
  obtain ⟨hT, h₂⟩ := h₂
  unfold subscriptTail
  refine wpAny_bind ?_
  rw [getitemInPython_of_ne hT.not_modules]
  refine wpAny_bind (wpAny_specialOf hT hl ?_)
  have fin : wpAny (model prog w) A (subscripted slice false o i) (fun r s₃ => wpAny (model prog w) A (letTemporaryGo value o r >>= fun _ => pure r) Q E s₃) E s₂ := by
    rw [hs o i]
    exact wpAny_operating (wpAny_mono h₂ (fun r s₃ h₃ => wpAny_bind (wpAny_letTemporaryGo (wpAny_pure h₃))) fun _ _ x => x)
  first
    | exact wpAny_pure (wpAny_bind fin)
    | exact wpAny_bind (wpAny_pure (wpAny_bind fin))
    | exact wpAny_bind fin
theorem dict_typeIs {X : Cx} {pins : List (Addr × Obj)} {σ : St} {H : Hp} {s : Shared} {a : Addr} {y : V} {o : Option V} (I : Inv X pins σ H s) (g : DGet H a y o) : s.TypeIs (.ref a) "dict" := by
  rcases g with ⟨kvs, k, e, _, _⟩ | ⟨kvs, k, b, e, _, _, _⟩
  · obtain ⟨_, _, vs, _, dd⟩ := dk_rd I.hok e
    exact dd.typeIs
  · obtain ⟨_, _, xs, _, dd⟩ := dt_rd I.hok e
    exact dd.typeIs
def tDGet (td ty : TE) : TE := fun σ H Q => td σ H fun x H1 => ty σ H1 fun y H2 => ∃ a v, x = .ref a ∧ DGet H2 a y (some v) ∧ Q v H2
def tDIn (ty td : TE) : TE := fun σ H Q => ty σ H fun y H1 => td σ H1 fun x H2 => ∃ a o, x = .ref a ∧ DGet H2 a y o ∧ Q (.bl o.isSome) H2
def tDNotIn (ty td : TE) : TE := fun σ H Q => ty σ H fun y H1 => td σ H1 fun x H2 => ∃ a o, x = .ref a ∧ DGet H2 a y o ∧ Q (.bl (!o.isSome)) H2
def sDPut (td ty tv : TE) : TS := fun D σ H => tv σ H fun v H1 => td σ H1 fun x H2 => ty σ H2 fun y H3 => ∃ a H4, x = .ref a ∧ DPut H3 a y v H4 ∧ D.nx σ H4
section
variable {X : Cx} {o i e value : Expr} {pos pos' tpos : Pos} {td ty tv : TE}
theorem pe_dget (hu : X.A.units + 1 < cLine) (ho : PE X o td) (hi : PE X i ty) (hs : NoSl i) : PE X (.Subscript o i pos) (tDGet td ty) := by
  intro pins s σ H Q I h
  refine subD_of PySem.F.slot_dict_getitem.lookup hs (thn (ho pins s σ H _ I h) fun u s1 ⟨x, H1, I1, rx, q1⟩ => thn (hi pins s1 σ H1 _ I1 q1) fun iv s2 ⟨y, H2, I2, ry, a, v, ex, g, q2⟩ => ?_)
  subst ex
  obtain rfl : u = Value.ref a := rx
  exact ⟨dict_typeIs I2 g, d_getItem hu I2 g ry fun w' s3 I3 rw' => ⟨v, H2, I3, rw', q2⟩⟩
theorem pc_din (hu : X.A.units + 1 < cLine) (hi : PE X i ty) (ho : PE X o td) : PC X .In i o (tDIn ty td) := by
  intro pins s σ H Q I h
  refine thn (hi pins s σ H _ I h) fun iv s1 ⟨y, H1, I1, ry, q1⟩ => thn (ho pins s1 σ H1 _ I1 q1) fun u s2 ⟨x, H2, I2, rx, a, ov, ex, g, q2⟩ => ?_
  subst ex
  obtain rfl : u = Value.ref a := rx
  exact d_in hu I2 g ry fun s3 I3 => ⟨.bl ov.isSome, H2, I3, rfl, q2⟩
theorem pc_dnotin (hu : X.A.units + 1 < cLine) (hi : PE X i ty) (ho : PE X o td) : PC X .NotIn i o (tDNotIn ty td) := by
  intro pins s σ H Q I h
  refine thn (hi pins s σ H _ I h) fun iv s1 ⟨y, H1, I1, ry, q1⟩ => thn (ho pins s1 σ H1 _ I1 q1) fun u s2 ⟨x, H2, I2, rx, a, ov, ex, g, q2⟩ => ?_
  subst ex
  obtain rfl : u = Value.ref a := rx
  exact d_notIn hu I2 g ry fun s3 I3 => ⟨.bl (!ov.isSome), H2, I3, rfl, q2⟩
theorem ps_dput (hu : X.A.units + 1 < cLine) (ho : PE X o td) (hi : PE X i ty) (hv : PE X value tv) (hs : swapsWith value (some (.Subscript o i pos')) pos.line X.env = pure false) :
    PS X (.Assign [.Subscript o i pos'] value pos) (sDPut td ty tv) := by
  intro pins s σ H D I h
  refine wpAny_Assign_Subscript (thn (hv pins s σ H _ I h) fun r s1 ⟨v, H1, I1, rv, q1⟩ => thn (ho pins s1 σ H1 _ I1 q1) fun u s2 ⟨x, H2, I2, rx, q2⟩ => thn (hi pins s2 σ H2 _ I2 q2) fun iv s3 ⟨y, H3, I3, ry, a, H4, ex, g, q3⟩ => ?_) hs
  subst ex
  obtain rfl : u = Value.ref a := rx
  exact d_setItem hu I3 g ry rv fun s4 I4 => ⟨σ, H4, I4, q3⟩
end
theorem dk_empty {P : Program} {w : World} {H : Hp} (h : Heap) (hb : sysModules < h.objs.size) : ObjOk P w H (h.push { cls := .type "dict", data := .dict #[] }) h.objs.size (.dK []) :=
  ⟨Nat.zero_le _, beq_eq_false_iff_ne.mpr (Ne.symm (Nat.ne_of_lt hb)), [], .nil, Heap.DictOf.new h⟩
def tDNewK : TE := fun _ H Q => ∀ p, H p = none → Q (.ref p) (upd H p (.dK []))
section
variable {X : Cx} {pos : Pos}
theorem pe_dnewK : PE X (.Dict [] [] pos) tDNewK := fun pins s σ H Q I h =>
  wpAny_Dict_empty ⟨.ref s.heap.objs.size, _, I.laid (a := s.heap.objs.size) (o := .dK []) (t' := s.toks) (fun _ _ q => Heap.get?_push_of_some _ q) (Nat.le_refl _) (dk_empty s.heap I.big), rfl, h _ (I.hok.fresh (Nat.le_refl _))⟩
end
structure M1 (X : Cx) (o : Expr) (m : Str) (apos : Pos) (e : Expr) (cpos : Pos) : Prop where
  base : attributeBase o m X.env (eval o X.env) = eval o X.env
  few : ((backTo cpos (starEach [e] X.env)).all (fun x => !x.1) && (backToKw cpos (keywordEach [] X.env)).all (fun x => x.1.isSome)
    && decide (([e] : List Expr).length + ([] : List Keyword).length + (if ([] : List Keyword).isEmpty then 0 else 1) < 30)) = true
  line : (apos.endLine == cpos.line) = true
  trees : backTo cpos (starEach [e] X.env) = [(false, eval e X.env)]
structure M2 (X : Cx) (o : Expr) (m : Str) (apos : Pos) (e f : Expr) (cpos : Pos) : Prop where
  base : attributeBase o m X.env (eval o X.env) = eval o X.env
  few : ((backTo cpos (starEach [e, f] X.env)).all (fun x => !x.1) && (backToKw cpos (keywordEach [] X.env)).all (fun x => x.1.isSome)
    && decide (([e, f] : List Expr).length + ([] : List Keyword).length + (if ([] : List Keyword).isEmpty then 0 else 1) < 30)) = true
  line : (apos.endLine == cpos.line) = true
  trees : backTo cpos (starEach [e, f] X.env) = [(false, eval e X.env), (false, eval f X.env)]
section
variable {X : Cx} {pins : List (Addr × Obj)} {σ : St} {H : Hp} {s : Shared} {a : Addr} {y d : V} {u r : Value} {o : Option V} {A : Around} {E : Value → Shared → Prop}
end
section
variable {X : Cx} {o e f : Expr} {apos cpos : Pos} {td ty tx : TE}
end
section
variable {X : Cx} {pins : List (Addr × Obj)} {σ : St} {H : Hp} {s : Shared} {a : Addr} {kvs : List (Key × V)} {A : Around} {E : Value → Shared → Prop}
theorem d_copyOf {Q : Value → Shared → Prop} (I : Inv X pins σ H s) (e : Rd H a (.dK kvs)) (h : ∀ p s', H p = none → Inv X pins σ (upd H p (.dK kvs)) s' → Q (.ref p) s') : wpAny (model X.prog X.w) A (call (.type "dict") [.ref a]) Q E s := by
  obtain ⟨z, hd, vs, rel, dd⟩ := dk_rd I.hok e
  refine kt_call_dict hd dd (by rw [← rel.length]; exact z) fun h' dd' hs => ?_
  refine h _ _ (I.hok.fresh (Nat.le_refl _)) (I.laid (a := s.heap.objs.size) (o := .dK kvs) (t' := s.toks) (fun b q hq => ?_) (Nat.le_refl _) (dk_new z (beq_eq_false_iff_ne.mpr (Ne.symm (Nat.ne_of_lt I.big))) rel dd'))
  exact (hs.2 b (Nat.ne_of_lt (Heap.lt_size hq))).trans (Heap.get?_push_of_some _ hq)
end
section
variable {X : Cx} {pins : List (Addr × Obj)} {σ : St} {H : Hp} {s : Shared} {a : Addr} {y : V} {u : Value} {A : Around} {E : Value → Shared → Prop}
end
section
variable {X : Cx}
end
section
variable {κ : Type} [DecidableEq κ]
theorem valV_not {kvs : List (κ × V)} {k : κ} (h : valV kvs k = none) : ¬ k ∈ kvs.map (·.1) := by
  intro m
  obtain ⟨p, hp, e⟩ := List.mem_map.mp m
  have q : (kvs.any fun kv => decide (kv.1 = k)) = true := List.any_eq_true.mpr ⟨p, hp, decide_eq_true e⟩
  rw [valV_any, h] at q
  exact absurd q (by simp)
theorem valV_in {kvs : List (κ × V)} {k : κ} {v : V} (h : valV kvs k = some v) : k ∈ kvs.map (·.1) := by
  have q : (kvs.any fun kv => decide (kv.1 = k)) = true := by
    rw [valV_any, h]
    all_goals rfl
  obtain ⟨p, hp, e⟩ := List.any_eq_true.mp q
  exact List.mem_map.mpr ⟨p, hp, of_decide_eq_true e⟩
theorem nd_snoc : ∀ {l : List κ} {k : κ}, l.Nodup → ¬ k ∈ l → (l ++ [k]).Nodup
  | [], k, _, _ => by simp
  | a :: r, k, h, hk => by
    obtain ⟨h1, h2⟩ := List.nodup_cons.mp h
    show (a :: (r ++ [k])).Nodup
    refine List.nodup_cons.mpr ⟨fun m => ?_, nd_snoc h2 fun m => hk (List.mem_cons.mpr (Or.inr m))⟩
    rcases List.mem_append.mp m with q | q
    · exact h1 q
    · exact hk (List.mem_cons.mpr (Or.inl (List.mem_singleton.mp q).symm))
theorem nd_putK {kvs : List (κ × V)} {k : κ} (v : V) (hn : (kvs.map (·.1)).Nodup) (h : valV kvs k = none) : ((putK kvs k v).map (·.1)).Nodup := by
  rw [putK_new v h, List.map_append]
  exact nd_snoc hn (valV_not h)
end
end L2
set_option Elab.async false
set_option linter.all false
set_option maxRecDepth 100000
set_option maxHeartbeats 1000000
namespace My
open PySem PySem.Spec PyProof.Rows L2
theorem lookup_mem {α : Type} {β : Type} [BEq α] [LawfulBEq α] : ∀ {l : List (α × β)} {x : α} {v : β}, l.lookup x = some v → (x, v) ∈ l
  | (a, b) :: l, x, v, h => by
    rw [List.lookup_cons] at h
    cases e : x == a with
    | true => rw [e] at h; have e' := eq_of_beq e; have h' : b = v := Option.some.inj h; subst e' h'; exact List.mem_cons_self
    | false => rw [e] at h; exact List.mem_cons_of_mem _ (lookup_mem h)
theorem caps_of {X : Cx} {x : Str} {scope : Scope} {cl : List (Str × Addr)} {caps : List Nat} {cn : List Str} (h1 : closureFor scope X.env = pure cl) (h2 : scope.kind = .function) (h3 : scope.names.all (fun p => p.2 != .cell) = true)
    (h4 : scope.names.all (fun p => p.2 != .local || scope.names.lookup p.1 == some .local) = true) (h5 : scope.names.lookup x = some .local) (h6 : AllC (fun p => X.env.cells.lookup p.1 = some p.2) cl)
    (h7 : (relabel scope X.env).names.all (fun p => !(p.2 == .cell || p.2 == .free) || (cl.lookup p.1).isSome) = true) (h8 : caps.length = cn.length)
    (h9 : AllC (fun p => X.N[p.1]? = some p.2 ∧ X.env.kindOf p.2 = some .cell ∧ (relabel scope X.env).names.lookup p.2 = some .cell ∧ X.env.scope.names.lookup p.2 = some .cell ∧ ∃ c, cl.lookup p.2 = some c) (caps.zip cn)) (h10 : (x :: cn).Nodup) : Caps X x scope cl caps cn := by
  refine ⟨h1, h2, fun y hy z => ?_, fun y hy z => ?_, h5, fun y c e => AllC.mem h6 _ (lookup_mem e), fun y hy => ?_, h8, fun k y j e1 e2 => ?_, h10⟩
  · have q := List.all_eq_true.mp h3 y hy
    rw [z] at q
    cases q
  · have q := List.all_eq_true.mp h4 y hy
    rw [z] at q
    simpa using q
  · have m : ∃ k, (y, k) ∈ (relabel scope X.env).names ∧ (k = .cell ∨ k = .free) := by
      rcases hy with hy | hy
      · exact ⟨_, lookup_mem hy, .inl rfl⟩
      · exact ⟨_, lookup_mem hy, .inr rfl⟩
    obtain ⟨k, hm, hk⟩ := m
    have q := List.all_eq_true.mp h7 _ hm
    have hk' : (k == NameKind.cell || k == NameKind.free) = true := by rcases hk with rfl | rfl <;> decide
    rw [hk'] at q
    exact Option.isSome_iff_exists.mp (by simpa using q)
  · refine AllC.mem h9 (j, y) ?_
    have hz : (caps.zip cn)[k]? = some (j, y) := by rw [List.getElem?_zip_eq_some]; exact ⟨e2, e1⟩
    exact List.mem_of_getElem? hz
section
variable {X : Cx}
theorem pi_str {l : Expr} {tl : TE} {y : Str} {py : Pos} (hl : PE X l tl) : PI X (.Name y py) l (iStr tl) := by
  intro pins s σ H R I h
  refine thn (hl pins s σ H _ I h) fun u s1 ⟨v, H1, I1, r, x, ev, q⟩ => ?_
  subst ev
  obtain ⟨t, rfl⟩ := r
  have hn : H1 s1.heap.objs.size = none := I1.hok.fresh (Nat.le_refl _)
  have fp : ∀ b ∈ [s1.heap.objs.size], FpOk X pins H1 b := fun b hb => by
    have e : b = s1.heap.objs.size := by simpa using hb
    subst e
    exact I1.fpOk (Nat.le_refl _) hn
  cases ha : x.cps.all (· < 128)
  · exact wpAny_pyIter_wide ha ⟨_, [s1.heap.objs.size], fun i h => h.IsStrIter s1.heap.objs.size "str_iterator" x t i, Its x, H1, rfl, I1.kept (t' := s1.toks) (fun _ _ e => Heap.get?_push_of_some _ e),
      turn_str x t _ _ (fun A hA => Walks.strWide hA _ x t) fun A i s' Q' E' st hq => wpAny_pyIter_striter_wide st hq, ⟨_, Heap.get?_push_size _ rfl, rfl, rfl⟩, fp, q⟩
  · exact wpAny_pyIter_ascii ha ⟨_, [s1.heap.objs.size], fun i h => h.IsStrIter s1.heap.objs.size "str_ascii_iterator" x t i, Its x, H1, rfl, I1.kept (t' := s1.toks) (fun _ _ e => Heap.get?_push_of_some _ e),
      turn_str x t _ _ (fun A hA => Walks.strAscii hA _ x t) fun A i s' Q' E' st hq => wpAny_pyIter_striter_ascii st hq, ⟨_, Heap.get?_push_size _ rfl, rfl, rfl⟩, fp, q⟩
def rAll (K : PySem.W.Frag) : List V → Hp → VK → Prop := fun xs H Q => ∃ (p : Addr) (bs : List Bool), xs = [.ref p] ∧ SqL K H p (bs.map V.bl) ∧ Q (.bl (bs.all id)) H
theorem all_range (bs : List Bool) : ((List.range bs.length).all fun i => (bs[i]?).getD true) = bs.all id := by
  rw [Bool.eq_iff_iff, List.all_eq_true, List.all_eq_true]
  constructor
  · intro h b hb
    obtain ⟨i, hi, e⟩ := List.mem_iff_getElem.mp hb
    have q := h i (List.mem_range.mpr hi)
    rw [List.getElem?_eq_getElem hi, e] at q
    exact q
  · intro h i hi
    have hi' := List.mem_range.mp hi
    rw [List.getElem?_eq_getElem hi']
    exact h _ (List.getElem_mem hi')
theorem call_allB (hc : X.calm = true) : CallR X (.builtin "all") (rAll X.K) := by
  intro pins s σ H xs us Q I hv h
  obtain ⟨p, bs, rfl, hS, q⟩ := h
  obtain ⟨u, rfl, ru⟩ := hv.one
  cases ru
  obtain ⟨its, rv, pl, hz⟩ := I.list hS
  have hl := pl.isList
  have hlt : p < s.heap.objs.size := by obtain ⟨_, e, _⟩ := hl; exact Heap.lt_size e
  have hlen := rv.length
  rw [List.length_map] at hlen
  refine call_all_walk (wpAny_pyIter_list hl ?_)
  refine ⟨s.heap.objs.size, [s.heap.objs.size, p], [s.heap.objs.size], its.toArray.size, _, _, fun i => (bs[i]?).getD true, rfl, Walks.list (A := X.A.in1) (I.ok.hd hc) _ p (Nat.ne_of_lt hlt) its.toArray, ⟨⟨_, Heap.get?_push_size _ rfl, rfl, rfl⟩, hl.push _⟩, fun i v s' Q' E' hP hQ => ?_, fun h' tk hk => ?_⟩
  · have hi : its[i]? = some v := by simpa using hP
    have hb : i < bs.length := by rw [hlen]; exact (List.getElem?_eq_some_iff.mp hi).1
    have hx : (bs.map V.bl)[i]? = some (.bl bs[i]) := by rw [List.getElem?_map, List.getElem?_eq_getElem hb]; rfl
    obtain ⟨u, e, r⟩ := rv.get hx
    rw [hi] at e
    cases e
    cases r
    dsimp only at hQ
    rw [List.getElem?_eq_getElem hb] at hQ
    exact wpAny_truthy_bool hQ
  · have e : ((List.range its.toArray.size).all fun i => (bs[i]?).getD true) = bs.all id := by
      rw [List.size_toArray, ← hlen]; exact all_range bs
    rw [e]
    exact ⟨.bl _, H, I.kept (t' := tk) (fun b o eb => hk b o (fun hm => by have z := Heap.lt_size eb; rw [List.mem_singleton.mp hm] at z; exact Nat.lt_irrefl _ z) (Heap.get?_push_of_some _ eb)), rfl, q⟩
def rCatS : R2 := fun x y H Q => ∃ i j, x = .str i ∧ y = .str j ∧ i.length + j.length ≤ sizeLine ∧ Q (.str (i ++ j)) H
theorem op_catS : OpR X (binaryOp .Add) rCatS := op_add_str
def rInS : R2 := fun x y H Q => ∃ i j, x = .str i ∧ y = .str j ∧ Q (.bl (!(Builtin.Str.occurrences j i 0 j.length 1).isEmpty)) H
theorem op_inS : OpR X (compareOp .In) rInS := op_in_str
def rLenS : List V → Hp → VK → Prop := fun xs H Q => ∃ z, xs = [.str z] ∧ z.length ≤ sizeLine ∧ Q (.int z.length) H
theorem call_lenS : CallR X (.builtin "len") rLenS := call_len_str
end
section
variable {K : PySem.W.Frag} {H : Hp} {Q : VK} {σ : L2.St}
theorem r_sl {r : V → Option Int → Option Int → Hp → VK → Prop} {te : TE} {tl th : TO} (h : te σ H fun x H1 => tl σ H1 fun l H2 => th σ H2 fun u H3 => r x l u H3 Q) : tSl r te tl th σ H Q := h
theorem r_noPart {Q : Option Int → Hp → Prop} (h : Q none H) : tNoPart σ H Q := h
theorem r_part {te : TE} {Q : Option Int → Hp → Prop} (h : te σ H fun x H1 => ∃ i, x = .int i ∧ Q (some i) H1) : tPart te σ H Q := h
theorem r_exi {i : Int} {Q : Int → Prop} (h : Q i) : ∃ j, V.int i = .int j ∧ Q j := ⟨i, rfl, h⟩
theorem r_chain {r r' : R2} {ta tb tc : TE} (h : ta σ H fun x H1 => tb σ H1 fun y H2 => r x y H2 fun z H3 => ∃ k, z = .bl k ∧ (if k = true then tc σ H3 fun w' H4 => r' y w' H4 Q else Q (.bl false) H3)) : tChain r r' ta tb tc σ H Q := h
theorem r_all {p : Addr} {bs : List Bool} (hS : SqL K H p (bs.map V.bl)) (h : Q (.bl (bs.all id)) H) : rAll K [.ref p] H Q := ⟨p, bs, rfl, hS, h⟩
theorem r_catS {i j : Str} (hn : i.length + j.length ≤ sizeLine) (h : Q (.str (i ++ j)) H) : rCatS (.str i) (.str j) H Q := ⟨i, j, rfl, rfl, hn, h⟩
theorem r_inS {i j : Str} (h : Q (.bl (!(Builtin.Str.occurrences j i 0 j.length 1).isEmpty)) H) : rInS (.str i) (.str j) H Q := ⟨i, j, rfl, rfl, h⟩
theorem r_lenS {z : Str} (hn : z.length ≤ sizeLine) (h : Q (.int z.length) H) : rLenS [.str z] H Q := ⟨z, rfl, hn, h⟩
theorem r_ixS {z : Str} {i : Int} {c : Nat} (hn : z.length ≤ sizeLine) (e : atI z.cps.toList i = some c) (h : Q (.str ⟨#[c]⟩) H) : rIxS (.str z) (.int i) H Q := ⟨z, i, c, rfl, rfl, hn, e, h⟩
theorem r_iS {tl : TE} {R : It → Hp → Prop} (h : tl σ H fun v H1 => rItS v H1 R) : iStr tl σ H R := h
theorem r_itS {x : Str} {R : It → Hp → Prop} (h : R (Its x) H) : rItS (.str x) H R := ⟨x, rfl, h⟩
theorem r_comp {wi : TI} {caps : List Nat} {tt : CT TT} {te : CT TE} (h : wi σ H fun J H1 => ∀ (C : Addr) (s : Shared) (H0 : Hp) (fp : List Addr) (acc : Addr), H1 acc = none → COMP J caps (tt C s H0 fp) (te C s H0 fp) acc σ (upd H1 acc (.lst [])) Q) : tComp wi caps tt te σ H Q := h
theorem r_true {Q : Bool → Hp → Prop} (h : Q true H) : tTrue σ H Q := h
theorem r_app {acc : Addr} {N : Hp → Prop} {y : V} {ys : List V} (ha : H acc = some (.lst ys)) (hz : ys.length < sizeLine) (h : N (upd H acc (.lst (ys ++ [y])))) : rApp acc N y H := ⟨ys, ha, hz, h⟩
theorem c_by {J : It} {caps : List Nat} {tt : TT} {te : TE} {acc : Addr} (n : Nat) (Pv : Nat → Hp → Prop) (h0 : Pv 0 H) (hgo : ∀ i H, i < n → Pv i H → J.go i H) (hst : ∀ H, Pv n H → J.stop n H)
    (hs : ∀ i H v H', i < n → Pv i H → J.yld i H v H' → tt (some v :: capsOf caps σ) H' fun b H2 => if b = true then te (some v :: capsOf caps σ) H2 fun y H3 => rApp acc (Pv (i + 1)) y H3 else Pv (i + 1) H2)
    (hd : ∀ H, Pv n H → Q (.ref acc) H) : COMP J caps tt te acc σ H Q := by
  refine ⟨fun i m H => m = n - i ∧ i ≤ n ∧ Pv i H, ⟨n, rfl, Nat.zero_le _, h0⟩, ?_⟩
  rintro i m H ⟨rfl, hi, p⟩
  by_cases hlt : i < n
  · exact .inr ⟨hgo i H hlt p, Pv (i + 1), fun H' p' => ⟨n - (i + 1), by omega, rfl, hlt, p'⟩, fun v H' y => hs i H v H' hlt p y⟩
  · have e : i = n := by omega
    subst e
    exact .inl ⟨hst H p, hd H p⟩
end
end My
set_option Elab.async false
set_option linter.all false
set_option maxRecDepth 100000
set_option maxHeartbeats 1000000
namespace My
open PySem PySem.Spec PyProof.Rows L2
section
variable {X : Cx}
def rRep : R2 := fun x y H Q => ∃ z n, x = .str z ∧ y = .int n ∧ 0 ≤ n ∧ n ≤ 1 ∧ Q (.str (if n < 1 then Str.empty else z)) H
theorem op_rep : OpR X (binaryOp .Mult) rRep := by
  intro pins s σ H x y v u Q I rx ry h
  obtain ⟨z, n, rfl, rfl, h0, h1, q⟩ := h
  obtain ⟨t, rfl⟩ := rx
  obtain ⟨k, rfl⟩ := ry
  refine P.mul_str (by rw [decide_eq_false (by omega), decide_eq_false (by omega)]; rfl) (fun h2 h3 => ?_) (fun h2 h3 => ?_) ?_
  · have e : n = 1 := by omega
    subst e
    rw [show ((1 : Int) == 1) = true from rfl, Bool.true_or] at h3; cases h3
  · have e : n = 1 := by omega
    subst e
    rw [show ((1 : Int) == 1) = true from rfl, Bool.true_or] at h3; cases h3
  · by_cases c : n < 1
    · rw [if_pos c] at q ⊢
      exact ⟨by decide, .str Str.empty, H, I.tok _, ⟨_, rfl⟩, q⟩
    · have e : n = 1 := by omega
      subst e
      rw [if_neg c] at q ⊢
      rw [if_pos (by rw [show ((1 : Int) == 1) = true from rfl, Bool.true_or])]
      exact ⟨.str z, H, I, ⟨_, rfl⟩, q⟩
def rIntB : List V → Hp → VK → Prop := fun xs H Q => ∃ b : Bool, xs = [.bl b] ∧ Q (.int (if b then 1 else 0)) H
theorem call_intB : CallR X (.type "int") rIntB := by
  intro pins s σ H xs us Q I r h
  obtain ⟨b, rfl, q⟩ := h
  cases r with
  | cons r1 r2 =>
    cases r2
    cases r1
    exact call_int_bool ⟨.int _, H, I.tok _, ⟨_, rfl⟩, q⟩
end
section
variable {H : Hp} {Q : VK}
theorem r_rep {z : Str} {n : Int} (h0 : 0 ≤ n) (h1 : n ≤ 1) (h : Q (.str (if n < 1 then Str.empty else z)) H) : rRep (.str z) (.int n) H Q := ⟨z, n, rfl, rfl, h0, h1, h⟩
theorem r_intB {b : Bool} (h : Q (.int (if b then 1 else 0)) H) : rIntB [.bl b] H Q := ⟨b, rfl, h⟩
end
end My
set_option Elab.async false
set_option linter.all false
set_option maxRecDepth 100000
set_option maxHeartbeats 1000000
namespace My
open PySem PySem.Spec PyProof.Rows L2
section
variable {prog : Program} {w : World} {A : Around} {E : Value → Shared → Prop} {h : Heap} {g : Array GenState} {d : Drawn} {t : Nat} {os : OsState}
variable {nm q : Str} {C N fI : Addr} {bs bm bmB : List Value} {hdct : Bool} {sn : List Str} {sub : List Value} {ab : Bool} {col : Option Bool} {dd : Option Addr} {k0 k1 k2 k3 k5 : Option Value} {B Bn newId nid initId inN : String} {bmN : List Value}
end
end My
set_option Elab.async false
set_option linter.all false
set_option maxRecDepth 100000
set_option maxHeartbeats 1000000
namespace My
open PySem PySem.Spec PyProof.Rows L2
def onlyVE : List Value → Bool
  | .ref _ :: r => onlyVE r
  | [.type a, .type b, .type c, .type e] => a == "ValueError" && b == "Exception" && c == "BaseException" && e == "object"
  | _ => false
def overVE (K : PySem.W.Frag) (C : Addr) : Bool := (PySem.W.clsIn K C).any fun cd => onlyVE cd.mro
section
variable {prog : Program} {w : World} {A : Around} {E : Value → Shared → Prop} {s : Shared} {K : PySem.W.Frag} {x C : Addr} {o : Obj} {name : Str} {v : Value} {R : Result → Shared → Prop}
open PySem.W in
end
end My
set_option Elab.async false
set_option linter.all false
set_option maxRecDepth 100000
set_option maxHeartbeats 1000000
namespace My
open PySem PySem.Spec PyProof.Rows L2
section
variable {prog : Program} {w : World} {A : Around} {E : Value → Shared → Prop} {s : Shared} {K : PySem.W.Frag} {x C : Addr} {ox : Obj} {od : Option Obj} {name : Str} {v : Value} {R : Result → Shared → Prop}
open PySem.W in
open PySem.W in
open PySem.W in
open PySem.W in
structure XAt (K : PySem.W.Frag) (C : Addr) : Prop where
  ga : PySem.W.findIn K (.ref C) "__getattribute__" = some (some (.builtin "BaseException.__getattribute__"))
  gn : PySem.W.findIn K (.ref C) "__getattr__" = some none
  mb : PySem.W.mroIn K C (.type "BaseException") = some true
  mo : PySem.W.mroIn K C (.type "object") = some true
  hd : PySem.W.hasDictIn K C = true
  cl : PySem.W.findIn K (.ref C) "__class__" = some (some (.builtin "object.__class__"))
  sp : PySem.W.specialIn K (.builtin "object.__class__") "__get__" = some (some (.builtin "getset_descriptor.__get__"))
  tk : PySem.W.takesIn K (.builtin "object.__class__") = some true
  sa : PySem.W.findIn K (.ref C) "__setattr__" = some (some (.builtin "object.__setattr__"))
  po : overVE K C = true
open PySem.W in
open PySem.W in
end
end My
set_option Elab.async false
set_option linter.all false
set_option maxRecDepth 100000
set_option maxHeartbeats 1000000
namespace My
open PySem PySem.Spec PyProof.Rows L2
section
variable {X : Cx} {pins : List (Addr × Obj)} {σ : L2.St} {H : Hp} {s : Shared} {a C dx : Addr} {fs : List (Str × V)} {f : Str} {v y : V} {u : Value} {A : Around} {E : Value → Shared → Prop}
end
end My
set_option Elab.async false
set_option linter.all false
set_option maxRecDepth 100000
set_option maxHeartbeats 1000000
namespace My
open PySem PySem.Spec PyProof.Rows L2
def del (H : Hp) (a : Addr) : Hp := fun b => if b = a then none else H b
section
variable {X : Cx} {pins : List (Addr × Obj)} {σ : L2.St} {H : Hp} {s : Shared} {a : Addr} {φ : Heap → Prop}
end
structure XClI (K : PySem.W.Frag) (C f : Addr) : Prop where
  ob : ∃ (nm q : Str) (N : Addr) (bs bm : List Value) (hdct : Bool) (sn : List Str) (sub : List Value) (ab : Bool) (col : Option Bool) (dd : Option Addr) (k0 k1 k2 k3 k5 : Option Value) (mN : Str → Option Value),
    K.lookup C = some (excClassObj nm q C N bs bm hdct sn sub ab col dd k0 k1 k2 k3 k5 "ValueError.__new__") ∧ (∀ h : Heap, K.In h → h.Ns N mN) ∧ mN "__init__" = some (.ref f) ∧
    ∀ h : Heap, K.In h → OwnTail h [.type "ValueError", .type "Exception", .type "BaseException", .type "object"] bm
  fn : PySem.W.isFn K (.ref f) = true
section
variable {X : Cx} {k : Nat} {f : Addr} {fd : FuncData} {ps : List Str} {sp : Sp} {x : Str} {C : Addr} {W : L2.St → XK} {np cpos pos : Pos} {e : Expr} {es : List Expr} {t : TA} {CX : CXT}
end
end My
set_option Elab.async false
set_option linter.all false
set_option maxRecDepth 100000
set_option maxHeartbeats 1000000
namespace My
open PySem PySem.Spec PyProof.Rows L2
def tParts : List TE → Str → TE
  | [], out => fun _ H Q => Q (.str out) H
  | t :: r, out => fun σ H Q => t σ H fun v H1 => ∃ y, v = .str y ∧ (out ++ y).length ≤ sizeLine ∧ tParts r (out ++ y) σ H1 Q
def tJoin (ts : List TE) : TE := tParts ts Str.empty
section
variable {X : Cx}
inductive PJ (X : Cx) : List Expr → List TE → Prop
  | nil : PJ X [] []
  | cons {e : Expr} {es : List Expr} {t : TE} {ts : List TE} (h : PE X e t) (r : PJ X es ts) : PJ X (e :: es) (t :: ts)
theorem parts_ok {pins : List (Addr × Obj)} {σ : L2.St} : ∀ {es : List Expr} {ts : List TE} (j : PJ X es ts) (out : Str) (ho : out.length ≤ sizeLine) (s : Shared) (H : Hp) (Q : VK) (I : Inv X pins σ H s) (h : tParts ts out σ H Q),
    wpAny (model X.prog X.w) X.A (joinParts out (evalEach es X.env)) (EP X pins σ Q) X.xe s
  | _, _, .nil, out, ho, s, H, Q, I, h => joinParts_nil ⟨.str out, H, I.tok _, ⟨_, rfl⟩, h⟩ ho
  | _, _, .cons (e := e) he r, out, ho, s, H, Q, I, h => by
    show wpAny _ _ (joinParts out (eval e X.env :: evalEach _ X.env)) _ _ _
    refine joinParts_cons (thn (he pins s σ H _ I h) fun u s1 ⟨v, H1, I1, rv, y, ev, hz, q⟩ => ?_)
    subst ev
    obtain ⟨t, rfl⟩ := rv
    exact ⟨hz, parts_ok r _ hz s1 H1 Q I1 q⟩
theorem pe_join {v1 v2 : Expr} {rest : List Expr} {pos : Pos} {ts : List TE} (j : PJ X (v1 :: v2 :: rest) ts) : PE X (.JoinedStr (v1 :: v2 :: rest) pos) (tJoin ts) := by
  intro pins s σ H Q I h
  exact JoinedStr_many (parts_ok j Str.empty (by decide) s H Q I h)
end
section
variable {σ : L2.St} {H : Hp} {Q : VK} {te t : TE} {r : List TE} {z out : Str}
theorem r_join {ts : List TE} (h : tParts ts Str.empty σ H Q) : tJoin ts σ H Q := h
theorem r_part0 (h : Q (.str out) H) : tParts [] out σ H Q := h
theorem r_part1 (h : t σ H fun v H1 => ∃ y, v = .str y ∧ (out ++ y).length ≤ sizeLine ∧ tParts r (out ++ y) σ H1 Q) : tParts (t :: r) out σ H Q := h
end
end My
set_option Elab.async false
set_option linter.all false
set_option maxRecDepth 100000
set_option maxHeartbeats 1000000
namespace My
open PySem PySem.Spec PyProof.Rows L2
section
variable {prog : Program} {w : World} {A : Around} {E : Value → Shared → Prop} {h : Heap} {g : Array GenState} {d : Drawn} {t : Nat} {os : OsState}
variable {nm q : Str} {C N : Addr} {bs bm bmB : List Value} {hdct : Bool} {sn : List Str} {sub : List Value} {ab : Bool} {col : Option Bool} {dd : Option Addr} {k0 k1 k2 k3 k5 : Option Value} {B newId nid initId : String}
end
end My
set_option Elab.async false
set_option linter.all false
set_option maxRecDepth 100000
set_option maxHeartbeats 1000000
namespace My
open PySem PySem.Spec PyProof.Rows L2
structure XBase (K : PySem.W.Frag) (T : Addr) : Prop where
  ga : PySem.W.specialIn K (.ref T) "__getattribute__" = some (some (.builtin "type.__getattribute__"))
  rd : PySem.W.readsIn K T (.type "type") = true
  at_ : PySem.W.findCls K (.ref T) (.type "type") "__init__" = some (.val (.builtin "ValueError.__init__"))
section
variable {X : Cx} {C T f : Addr} {x : Str} {p apos cpos : Pos} {e : Expr} {es : List Expr} {t : TA}
end
end My
set_option Elab.async false
set_option linter.all false
set_option maxRecDepth 100000
set_option maxHeartbeats 1000000
namespace My
open PySem PySem.Spec PyProof.Rows L2
section
variable {X : Cx} {o e value : Expr} {f : Str} {pos pos' : Pos} {ta tv : TE}
end
section
variable {K : PySem.W.Frag} {σ : L2.St} {H : Hp} {Q : VK} {D : Ends} {ta tv : TE} {f : Str} {a C dx c : Addr} {d : Option Addr} {fs : List (Str × V)} {v y : V} {b : Bool}
end
end My
set_option Elab.async false
set_option linter.all false
set_option maxRecDepth 100000
set_option maxHeartbeats 1000000
namespace My
open PySem PySem.Spec PyProof.Rows L2
open PySem.MeetsSeq PySem.MeetsSeq2 PySem.MeetsSeq3 PySem.SeqRoads2
def EqW (P : Program) (w : World) (A : Around) (s : Shared) (y x : Value) (b : Bool) : Prop := ∀ (E : Value → Shared → Prop) (Q : Bool → Shared → Prop), Q b s → wpAny (model P w) A (eqBool y x) Q E s
def opN : Bool → CmpOp
  | false => .Eq
  | true => .NotEq
def RcW (P : Program) (w : World) (A : Around) (s : Shared) (ne : Bool) (y x : Value) (b : Bool) : Prop := ∀ (E : Value → Shared → Prop) (Q : Value → Shared → Prop), Q (.bool b) s → wpAny (model P w) A (richCompare (opN ne) y x) Q E s
def codeN : Bool → Int
  | false => 2
  | true => 3
abbrev lo (dd : Option Addr) (xs : Array Value) (n : Nat) (sl : Array (Option Value)) : Obj := { cls := .type "list", dict := dd, data := .seq xs n, slots := sl }
abbrev tob (dd : Option Addr) (xs : Array Value) (n : Nat) (sl : Array (Option Value)) : Obj := { cls := .type "tuple", dict := dd, data := .seq xs n, slots := sl }
section
variable {P : Program} {w : World} {A : Around} {s : Shared} {l b : Addr} {k : Bool}
theorem EqW.of {y x : Value} (h : SeqAt.EqAt A s y x k) : EqW P w A s y x k := fun E Q q => h P w E Q q
theorem EqW.refs (hn : l ≠ b) (h : RcW P w A s false (.ref l) (.ref b) k) : EqW P w A s (.ref l) (.ref b) k := fun E Q q => by
  unfold eqBool
  refine wpAny_holding (wpAny_ite_split (fun z => ?_) fun _ => wpAny_bind (h E _ (wpAny_truthy_bool q)))
  have z' := eq_of_beq z
  injection z' with z'
  exact absurd z' hn
abbrev Fin1 (P : Program) (w : World) (A : Around) (R : Result → Shared → Prop) : PySem.Fin → Shared → Prop := fun f s' => match f with | .done r => R (.ok r) s' | .again c => c.quiet = true ∧ codeAny (model P w) A c R s'
theorem loopW (ne : Bool) {xs ys : Array Value} {n m : Nat} {d1 d2 : Option Addr} {s1 s2 : Array (Option Value)} (hz : xs.size = ys.size) (f : Nat → Bool) (r : Nat) : ∀ (i : Nat), xs.size - i = r → ∀ (A : Around) (R : Result → Shared → Prop) (s : Shared), s.heap.get? l = some (lo d1 xs n s1) → s.heap.get? b = some (lo d2 ys m s2) →
    (∀ j (h1 : j < xs.size) (h2 : j < ys.size), EqW P w A.in1 s xs[j] ys[j] (f j)) → R (.ok (.ret (.bool (ne != ((List.range xs.size).drop i).all f)))) s →
    wpAny (model P w) A.in1 (Builtin.«list.__eq__.loop» ⟨[.ref l, .ref b, rawInt i, rawInt (codeN ne)], []⟩) (Fin1 P w A R) (fun e s' => R (.error e) s') s := by
  induction r with
  | zero =>
    intro i hr A R s hl hb he q
    obtain ⟨hp, g, d, tk, os⟩ := s
    have t1 : xs[((i : Nat) : Int).toNat]? = none := by simp; omega
    have t2 : ys[((i : Nat) : Int).toNat]? = none := by simp; omega
    have t3 : (List.range xs.size).drop i = [] := by simp; omega
    rw [t3] at q
    cases ne with
    | false =>
      wp_walk using AutoSeq1.wpAny_loadPart' hl, AutoSeq1.wpAny_loadPart' hb
      rw [t1, t2]
      wp_walk using AutoSeq1.wpAny_loadPart' hl, AutoSeq1.wpAny_loadPart' hb
      show R (.ok (.ret (.bool (xs.size == ys.size)))) _
      rw [hz]
      simpa using q
    | true =>
      wp_walk using AutoSeq1.wpAny_loadPart' hl, AutoSeq1.wpAny_loadPart' hb
      rw [t1, t2]
      wp_walk using AutoSeq1.wpAny_loadPart' hl, AutoSeq1.wpAny_loadPart' hb
      show R (.ok (.ret (.bool (xs.size != ys.size)))) _
      rw [hz]
      simpa using q
  | succ r ih =>
    intro i hr A R s hl hb he q
    obtain ⟨hp, g, d, tk, os⟩ := s
    have j1 : i < xs.size := by omega
    have j2 : i < ys.size := by omega
    have t1 : xs[((i : Nat) : Int).toNat]? = some xs[i] := by simp [j1]
    have t2 : ys[((i : Nat) : Int).toNat]? = some ys[i] := by simp [j2]
    have t3 : (List.range xs.size).drop i = i :: (List.range xs.size).drop (i + 1) := by simp [List.drop_eq_getElem_cons, j1]
    have t4 : ((i : Int) + 1) = ((i + 1 : Nat) : Int) := by push_cast; rfl
    rw [t3, List.all_cons] at q
    cases ne with
    | false =>
      wp_walk using AutoSeq1.wpAny_loadPart' hl, AutoSeq1.wpAny_loadPart' hb
      rw [t1, t2]
      refine wpAny_bind (he i j1 j2 _ _ ?_)
      cases hf : f i with
      | true =>
        rw [hf] at q
        wp_walk
        rw [t4]
        refine ⟨plainId_quiet plain_eq_loop _, codeAny_builtin entry_eq_loop ?_⟩
        rw [Around.under_plainId plain_eq_loop _]
        exact ih (i + 1) (by omega) A R _ hl hb he (by simpa using q)
      | false =>
        rw [hf] at q
        wp_walk using AutoSeq1.wpAny_loadPart' hl, AutoSeq1.wpAny_loadPart' hb
        rw [t1, t2]
        wp_walk
        simpa using q
    | true =>
      wp_walk using AutoSeq1.wpAny_loadPart' hl, AutoSeq1.wpAny_loadPart' hb
      rw [t1, t2]
      refine wpAny_bind (he i j1 j2 _ _ ?_)
      cases hf : f i with
      | true =>
        rw [hf] at q
        wp_walk
        rw [t4]
        refine ⟨plainId_quiet plain_eq_loop _, codeAny_builtin entry_eq_loop ?_⟩
        rw [Around.under_plainId plain_eq_loop _]
        exact ih (i + 1) (by omega) A R _ hl hb he (by simpa using q)
      | false =>
        rw [hf] at q
        wp_walk using AutoSeq1.wpAny_loadPart' hl, AutoSeq1.wpAny_loadPart' hb
        rw [t1, t2]
        wp_walk
        simpa using q
theorem listW (ne : Bool) {xs ys : Array Value} {n m : Nat} {d1 d2 : Option Addr} {s1 s2 : Array (Option Value)} (hz : xs.size = ys.size) (f : Nat → Bool) {R : Result → Shared → Prop} (hl : s.heap.get? l = some (lo d1 xs n s1)) (hb : s.heap.get? b = some (lo d2 ys m s2))
    (he : ∀ j (h1 : j < xs.size) (h2 : j < ys.size), EqW P w A.in1 s xs[j] ys[j] (f j)) (q : R (.ok (.ret (.bool (ne != (List.range xs.size).all f)))) s) :
    wpAny (model P w) A.in1 ((if ne = true then Builtin.«list.__ne__» else Builtin.«list.__eq__») ⟨[.ref l, .ref b], []⟩) (Fin1 P w A R) (fun e s' => R (.error e) s') s := by
  obtain ⟨hp, g, d, tk, os⟩ := s
  have f3 := AutoSeq1.sub_list_list
  have z0 : ¬ (xs.size != ys.size) = true := by simp [hz]
  cases ne with
  | false =>
    show wpAny _ _ (Builtin.«list.__eq__» _) _ _ _
    wp_walk using AutoSeq1.wpAny_loadPart' hl, AutoSeq1.wpAny_loadPart' hb
    refine ⟨plainId_quiet plain_eq_loop _, codeAny_builtin entry_eq_loop ?_⟩
    rw [Around.under_plainId plain_eq_loop _]
    exact loopW false hz f _ 0 rfl A R _ hl hb he (by simpa using q)
  | true =>
    show wpAny _ _ (Builtin.«list.__ne__» _) _ _ _
    wp_walk using AutoSeq1.wpAny_loadPart' hl, AutoSeq1.wpAny_loadPart' hb
    refine ⟨plainId_quiet plain_eq_loop _, codeAny_builtin entry_eq_loop ?_⟩
    rw [Around.under_plainId plain_eq_loop _]
    exact loopW true hz f _ 0 rfl A R _ hl hb he (by simpa using q)
theorem callW {T id : String} {name : Str} {B : Builtin} {self : Value} {rest : List Value} {E Q : Value → Shared → Prop} (slot : Slot T name id) (hT : s.TypeIs self T) (entry : entryFor table id = some B) (args : argsOk id ⟨self :: rest, []⟩)
    (h : wpAny (model P w) A.in1 (B ⟨self :: rest, []⟩) (Fin1 P w A (wants Q E)) (fun e s' => wants Q E (.error e) s') s) : wpAny (model P w) A (call (.builtin id) (self :: rest)) Q E s :=
  wpAny_call (codeAny_call_builtin slot.plain entry (slot.check _ _ _ _ _ _ _ _ hT args h))
theorem RcW.lists (ne : Bool) {xs ys : Array Value} {f : Nat → Bool} (hl : s.heap.IsList l xs) (hb : s.heap.IsList b ys) (hz : xs.size = ys.size) (hu : A.units < cLine) (he : ∀ j (h1 : j < xs.size) (h2 : j < ys.size), EqW P w A.in1 s xs[j] ys[j] (f j)) :
    RcW P w A s ne (.ref l) (.ref b) (ne != (List.range xs.size).all f) := fun E Q q => by
  obtain ⟨⟨c1, d1, e1, s1⟩, ho, hc, n, hd⟩ := id hl
  obtain ⟨⟨c2, d2, e2, s2⟩, ho2, hc2, m, hd2⟩ := id hb
  simp only at hc hd hc2 hd2
  subst hc hd hc2 hd2
  have q' : Value.bool (ne != (List.range xs.size).all f) ≠ Value.notImplemented ∧ Q (.bool (ne != (List.range xs.size).all f)) s := ⟨(fun x => nomatch x), q⟩
  cases ne with
  | false => exact wpAny_richCompare_same_room (op := .Eq) ⟨_, ho, rfl⟩ ⟨_, ho2, rfl⟩ F.slot_list_eq (callW F.slot_list_eq ⟨_, ho, rfl⟩ F.entry_list_eq (F.args_list_eq_2 _ _) (listW (R := wants (fun v s' => v ≠ .notImplemented ∧ Q v s') E) false hz f ho ho2 he q')) hu
  | true => exact wpAny_richCompare_same_room (op := .NotEq) ⟨_, ho, rfl⟩ ⟨_, ho2, rfl⟩ F.slot_list_ne (callW F.slot_list_ne ⟨_, ho, rfl⟩ F.entry_list_ne (F.args_list_ne_2 _ _) (listW (R := wants (fun v s' => v ≠ .notImplemented ∧ Q v s') E) true hz f ho ho2 he q')) hu
theorem RcW.listsN (ne : Bool) {xs ys : Array Value} (hl : s.heap.IsList l xs) (hb : s.heap.IsList b ys) (hz : (xs.size != ys.size) = true) (hu : A.units < cLine) : RcW P w A s ne (.ref l) (.ref b) (ne != false) := fun E Q q => by
  cases ne with
  | false => exact SeqAt.RcAt.lists_lengths hl hb hz hu P w E Q q
  | true => exact SeqAt.RcNeAt.lists_lengths hl hb hz hu P w E Q q
theorem tupW (ne : Bool) {xs ys : Array Value} {n m : Nat} {d1 d2 : Option Addr} {s1 s2 : Array (Option Value)} (f : Nat → Bool) {E Q : Value → Shared → Prop} (hl : s.heap.get? l = some (tob d1 xs n s1)) (hb : s.heap.get? b = some (tob d2 ys m s2))
    (he : ∀ j (h1 : j < xs.size) (h2 : j < ys.size), EqW P w A.in1 s xs[j] ys[j] (f j)) (q : Q (.bool (ne != ((List.range (min xs.size ys.size)).all f && xs.size == ys.size))) s) :
    wpAny (model P w) A.in1 ((if ne = true then Builtin.«tuple.__ne__» else Builtin.«tuple.__eq__») ⟨[.ref l, .ref b], []⟩) (fun fin s' => ∃ v, fin = .done (.ret v) ∧ Q v s') E s := by
  obtain ⟨hp, g, d, tk, os⟩ := s
  have f2 := AutoSeq1.sub_tuple_tuple
  have hZ : (xs.toList.zip ys.toList).length = min xs.size ys.size := by simp
  have turn : ∀ (x y : Value) (rest : List (Value × Value)) (i : Nat), (x, y) :: rest = (xs.toList.zip ys.toList).drop i → ∃ (h1 : i < xs.size) (h2 : i < ys.size), x = xs[i] ∧ y = ys[i] ∧ rest = (xs.toList.zip ys.toList).drop (i + 1) ∧ (List.range (min xs.size ys.size)).drop i = i :: (List.range (min xs.size ys.size)).drop (i + 1) := fun x y rest i hz => by
    have hlt : i < (xs.toList.zip ys.toList).length := by
      rcases Nat.lt_or_ge i (xs.toList.zip ys.toList).length with z | z
      · exact z
      · rw [List.drop_of_length_le z] at hz; cases hz
    have hm : i < min xs.size ys.size := hZ ▸ hlt
    have h1 : i < xs.size := Nat.lt_of_lt_of_le hm (Nat.min_le_left _ _)
    have h2 : i < ys.size := Nat.lt_of_lt_of_le hm (Nat.min_le_right _ _)
    rw [List.drop_eq_getElem_cons hlt] at hz
    injection hz with hxy hrest
    exact ⟨h1, h2, by have := congrArg Prod.fst hxy; simpa using this, by have := congrArg Prod.snd hxy; simpa using this, hrest, by simp [List.drop_eq_getElem_cons, hm]⟩
  have last : ∀ i : Nat, [] = (xs.toList.zip ys.toList).drop i → (List.range (min xs.size ys.size)).drop i = [] := fun i hz => by
    have hge : min xs.size ys.size ≤ i := by
      rcases Nat.lt_or_ge i (xs.toList.zip ys.toList).length with z | z
      · rw [List.drop_eq_getElem_cons z] at hz; cases hz
      · exact hZ ▸ z
    exact List.drop_of_length_le (by simpa using hge)
  cases ne with
  | false =>
    show wpAny _ _ (Builtin.«tuple.__eq__» _) _ _ _
    wp_walk using AutoSeq1.wpAny_loadPart' hl, AutoSeq1.wpAny_loadPart' hb, wpAny_forIn_list _ (fun rest c s' => c.1 = none ∧ s' = ⟨hp, g, d, tk, os⟩ ∧ ∃ i, rest = (xs.toList.zip ys.toList).drop i ∧ Q (.bool (((List.range (min xs.size ys.size)).drop i).all f && xs.size == ys.size)) ⟨hp, g, d, tk, os⟩) _
    case turn =>
      rintro ⟨x, y⟩ rest c s' ⟨hc, rfl, i, hz, hR⟩
      obtain ⟨h1, h2, rfl, rfl, hrest, hd⟩ := turn x y rest i hz
      rw [hd, List.all_cons] at hR
      refine wpAny_bind (he i h1 h2 _ _ ?_)
      cases hf : f i with
      | true =>
        rw [hf] at hR
        wp_walk
        exact ⟨rfl, rfl, i + 1, hrest, by simpa using hR⟩
      | false =>
        rw [hf] at hR
        wp_walk
        exact ⟨_, rfl, by simpa using hR⟩
    case fin =>
      rintro ⟨c1, c2⟩ s' ⟨hc, rfl, i, hz, hR⟩
      simp only at hc
      subst hc
      rw [last i hz] at hR
      wp_walk
      exact ⟨_, rfl, by simpa [Builtin.Tuple.tupleCompareSizes] using hR⟩
    case h => exact ⟨rfl, rfl, 0, rfl, by simpa using q⟩
  | true =>
    show wpAny _ _ (Builtin.«tuple.__ne__» _) _ _ _
    wp_walk using AutoSeq1.wpAny_loadPart' hl, AutoSeq1.wpAny_loadPart' hb, wpAny_forIn_list _ (fun rest c s' => c.1 = none ∧ s' = ⟨hp, g, d, tk, os⟩ ∧ ∃ i, rest = (xs.toList.zip ys.toList).drop i ∧ Q (.bool (!(((List.range (min xs.size ys.size)).drop i).all f && xs.size == ys.size))) ⟨hp, g, d, tk, os⟩) _
    case turn =>
      rintro ⟨x, y⟩ rest c s' ⟨hc, rfl, i, hz, hR⟩
      obtain ⟨h1, h2, rfl, rfl, hrest, hd⟩ := turn x y rest i hz
      rw [hd, List.all_cons] at hR
      refine wpAny_bind (he i h1 h2 _ _ ?_)
      cases hf : f i with
      | true =>
        rw [hf] at hR
        wp_walk
        exact ⟨rfl, rfl, i + 1, hrest, by simpa using hR⟩
      | false =>
        rw [hf] at hR
        wp_walk
        exact ⟨_, rfl, by simpa using hR⟩
    case fin =>
      rintro ⟨c1, c2⟩ s' ⟨hc, rfl, i, hz, hR⟩
      simp only at hc
      subst hc
      rw [last i hz] at hR
      wp_walk
      exact ⟨_, rfl, by simpa [Builtin.Tuple.tupleCompareSizes, bne] using hR⟩
    case h => exact ⟨rfl, rfl, 0, rfl, by simpa using q⟩
theorem RcW.tuples (ne : Bool) {xs ys : Array Value} {f : Nat → Bool} (hl : s.heap.IsTuple l xs) (hb : s.heap.IsTuple b ys) (hu : A.units < cLine) (he : ∀ j (h1 : j < xs.size) (h2 : j < ys.size), EqW P w A.in1 s xs[j] ys[j] (f j)) :
    RcW P w A s ne (.ref l) (.ref b) (ne != ((List.range (min xs.size ys.size)).all f && xs.size == ys.size)) := fun E Q q => by
  obtain ⟨⟨c1, d1, e1, s1⟩, ho, hc, n, hd⟩ := id hl
  obtain ⟨⟨c2, d2, e2, s2⟩, ho2, hc2, m, hd2⟩ := id hb
  simp only at hc hd hc2 hd2
  subst hc hd hc2 hd2
  cases ne with
  | false => exact wpAny_richCompare_same_room (op := .Eq) ⟨_, ho, rfl⟩ ⟨_, ho2, rfl⟩ F.slot_tuple_eq (wpAny_call_entry F.slot_tuple_eq ⟨_, ho, rfl⟩ F.entry_tuple_eq (tupW (Q := fun v s' => v ≠ .notImplemented ∧ Q v s') false f ho ho2 he ⟨(fun x => nomatch x), q⟩) (F.args_tuple_eq_2 _ _)) hu
  | true => exact wpAny_richCompare_same_room (op := .NotEq) ⟨_, ho, rfl⟩ ⟨_, ho2, rfl⟩ F.slot_tuple_ne (wpAny_call_entry F.slot_tuple_ne ⟨_, ho, rfl⟩ F.entry_tuple_ne (tupW (Q := fun v s' => v ≠ .notImplemented ∧ Q v s') true f ho ho2 he ⟨(fun x => nomatch x), q⟩) (F.args_tuple_ne_2 _ _)) hu
end
end My
set_option Elab.async false
set_option linter.all false
set_option maxRecDepth 100000
set_option maxHeartbeats 1000000
namespace My
open PySem PySem.Spec PyProof.Rows L2
inductive DEq (K : PySem.W.Frag) (H : Hp) : Nat → V → V → Bool → Prop
  | same {n : Nat} {a : Addr} : DEq K H n (.ref a) (.ref a) true
  | flat {n : Nat} {x y : V} (hx : flatV x = true) (hy : flatV y = true) : DEq K H n x y (eqV x y)
  | ls {n : Nat} {a b : Addr} {xs ys : List V} {e : Nat → Bool} (ha : SqL K H a xs) (hb : SqL K H b ys) (ne : a ≠ b) (hl : xs.length = ys.length)
      (he : ∀ j (h1 : j < xs.length) (h2 : j < ys.length), DEq K H n xs[j] ys[j] (e j)) : DEq K H (n + 1) (.ref a) (.ref b) ((List.range xs.length).all e)
  | lsN {n : Nat} {a b : Addr} {xs ys : List V} (ha : SqL K H a xs) (hb : SqL K H b ys) (ne : a ≠ b) (hl : xs.length ≠ ys.length) : DEq K H (n + 1) (.ref a) (.ref b) false
  | ts {n : Nat} {a b : Addr} {xs ys : List V} {e : Nat → Bool} (ha : SqT K H a xs) (hb : SqT K H b ys) (ne : a ≠ b)
      (he : ∀ j (h1 : j < xs.length) (h2 : j < ys.length), DEq K H n xs[j] ys[j] (e j)) : DEq K H (n + 1) (.ref a) (.ref b) ((List.range (min xs.length ys.length)).all e && xs.length == ys.length)
  | dd {n : Nat} {a b : Addr} {ka kb : List (Key × V)} (ha : Rd H a (.dK ka)) (hb : Rd H b (.dK kb)) (ne : a ≠ b) (fa : ∀ p ∈ ka, flatV p.2 = true) (fb : ∀ p ∈ kb, flatV p.2 = true) :
      DEq K H (n + 1) (.ref a) (.ref b) (ka.length == kb.length && ka.all fun p => (valV kb p.1).elim false (eqV p.2))
theorem vals_at {xs : List V} {us : List Value} (r : Vals xs us) {j : Nat} (h1 : j < xs.length) (h2 : j < us.length) : RelV xs[j] us[j] := by
  obtain ⟨u, e, ru⟩ := r.get (List.getElem?_eq_getElem h1)
  rw [List.getElem?_eq_getElem h2] at e
  cases e
  exact ru
theorem valV_mem {kvs : List (Key × V)} {k : Key} {v : V} (h : valV kvs k = some v) : (k, v) ∈ kvs := by
  unfold valV at h
  obtain ⟨p, hp, rfl⟩ := Option.map_eq_some_iff.mp h
  have e := List.find?_some hp
  have e' : p.1 = k := of_decide_eq_true e
  subst e'
  exact List.mem_of_find?_eq_some hp
theorem hits_of {A : Around} {s : Shared} {kb : List (Key × V)} {vb : List (Key × Value)} (rb : KV kb vb) (fb : ∀ p ∈ kb, flatV p.2 = true) {ka : List (Key × V)} {va : List (Key × Value)} (ra : KV ka va) (fa : ∀ p ∈ ka, flatV p.2 = true) :
    PySem.W.KeqHits A s vb va (ka.all fun p => (valV kb p.1).elim false (eqV p.2)) := by
  induction ra with
  | nil => exact .nil
  | @cons p q l1 l2 h t ih =>
    obtain ⟨k, v⟩ := p
    obtain ⟨k', u⟩ := q
    obtain ⟨e, ru⟩ := h
    dsimp only at e ru
    subst e
    have z := rb.val k
    rw [List.all_cons]
    have ih' := ih fun p hp => fa p (List.mem_cons_of_mem _ hp)
    cases hv : valV kb k with
    | none =>
      rw [hv] at z
      have hn : valueAt vb k = none := RelO.none_of z
      exact .miss hn
    | some y =>
      rw [hv] at z
      cases hu : valueAt vb k with
      | none => rw [hu] at z; exact z.elim
      | some yu =>
        rw [hu] at z
        exact .hit hu (eqAt_V ru z (fa _ (List.mem_cons_self ..)) (fb _ (valV_mem hv))) ih'
section
variable {X : Cx} {pins : List (Addr × Obj)} {σ : L2.St} {H : Hp} {s : Shared}
theorem PlainL.isList {h : Heap} {a : Addr} {its : Array Value} (p : PlainL h a its) : h.IsList a its := by
  obtain ⟨o, n, e, c, d, t⟩ := p
  exact ⟨o, e, c, n, t⟩
theorem deq_ok (I : Inv X pins σ H s) {n : Nat} {x y : V} {k : Bool} (q : DEq X.K H n x y k) : ∀ (A : Around) (u v : Value), RelV x u → RelV y v → A.units + n < cLine →
    EqW X.prog X.w A s u v k ∧ ∀ a b, x = .ref a → y = .ref b → a ≠ b → ∀ ne : Bool, RcW X.prog X.w A s ne (.ref a) (.ref b) (ne != k) := by
  have both : ∀ {A : Around} {a b : Addr} {k : Bool}, a ≠ b → (∀ ne : Bool, RcW X.prog X.w A s ne (.ref a) (.ref b) (ne != k)) →
      EqW X.prog X.w A s (.ref a) (.ref b) k ∧ ∀ a' b', V.ref a = .ref a' → V.ref b = .ref b' → a' ≠ b' → ∀ ne : Bool, RcW X.prog X.w A s ne (.ref a') (.ref b') (ne != k) := fun {A a b k} ne R =>
    ⟨EqW.refs ne (by have z := R false; simpa using z), fun a' b' e1 e2 _ => by cases e1; cases e2; exact R⟩
  induction q with
  | @same n a =>
    intro A u v ru rv hu
    obtain rfl : u = Value.ref a := ru
    obtain rfl : v = Value.ref a := rv
    exact ⟨EqW.of (SeqAt.EqAt.same _), fun a' b' e1 e2 ne => by cases e1; cases e2; exact absurd rfl ne⟩
  | flat hx hy =>
    intro A u v ru rv hu
    exact ⟨EqW.of (eqAt_V ru rv hx hy), fun a b e _ _ => by subst e; cases hx⟩
  | @ls n a b xs ys e ha hb ne hl he ih =>
    intro A u v ru rv hu
    obtain rfl : u = Value.ref a := ru
    obtain rfl : v = Value.ref b := rv
    obtain ⟨its, r1, p1, _⟩ := I.list ha
    obtain ⟨its2, r2, p2, _⟩ := I.list hb
    have l1 := r1.length
    have l2 := r2.length
    refine both ne fun nb => ?_
    have z := RcW.lists (P := X.prog) (w := X.w) (A := A) (s := s) nb (f := e) (PlainL.isList p1) (PlainL.isList p2) (by rw [List.size_toArray, List.size_toArray]; omega) (by omega) fun j h1 h2 => by
      have k1 : j < its.length := by simpa using h1
      have k2 : j < its2.length := by simpa using h2
      have w := (ih j (by omega) (by omega) A.in1 its[j] its2[j] (vals_at r1 (by omega) k1) (vals_at r2 (by omega) k2) (by show A.units + 1 + n < cLine; omega)).1
      simpa using w
    rw [List.size_toArray, ← l1] at z
    exact z
  | @lsN n a b xs ys ha hb ne hl =>
    intro A u v ru rv hu
    obtain rfl : u = Value.ref a := ru
    obtain rfl : v = Value.ref b := rv
    obtain ⟨its, r1, p1, _⟩ := I.list ha
    obtain ⟨its2, r2, p2, _⟩ := I.list hb
    have l1 := r1.length
    have l2 := r2.length
    exact both ne fun nb => RcW.listsN nb (PlainL.isList p1) (PlainL.isList p2) (by rw [List.size_toArray, List.size_toArray]; simp; omega) (by omega)
  | @ts n a b xs ys e ha hb ne he ih =>
    intro A u v ru rv hu
    obtain rfl : u = Value.ref a := ru
    obtain rfl : v = Value.ref b := rv
    obtain ⟨its, r1, p1, _⟩ := I.tuple ha
    obtain ⟨its2, r2, p2, _⟩ := I.tuple hb
    have l1 := r1.length
    have l2 := r2.length
    refine both ne fun nb => ?_
    have z := RcW.tuples (P := X.prog) (w := X.w) (A := A) (s := s) nb (f := e) p1 p2 (by omega) fun j h1 h2 => by
      have k1 : j < its.length := by simpa using h1
      have k2 : j < its2.length := by simpa using h2
      have w := (ih j (by omega) (by omega) A.in1 its[j] its2[j] (vals_at r1 (by omega) k1) (vals_at r2 (by omega) k2) (by show A.units + 1 + n < cLine; omega)).1
      simpa using w
    rw [List.size_toArray, List.size_toArray, ← l1, ← l2] at z
    exact z
  | @dd n a b ka kb ha hb ne fa fb =>
    intro A u v ru rv hu
    obtain rfl : u = Value.ref a := ru
    obtain rfl : v = Value.ref b := rv
    obtain ⟨_, ga, va, ra, da⟩ := dk_rd I.hok ha
    obtain ⟨_, gb, vb, rb, db⟩ := dk_rd I.hok hb
    have l1 := ra.length
    have l2 := rb.length
    refine both ne fun nb E Q q => ?_
    have hits := hits_of (A := A.in1) (s := s) rb fb ra fa
    rw [l1, l2] at q
    cases nb with
    | false => exact PySem.W.keq_eq ga gb da db (by omega) (fun _ => hits) (by simpa using q)
    | true => exact PySem.W.keq_ne ga gb da db (by omega) (fun _ => hits) (by simpa using q)
def rEqD (K : PySem.W.Frag) : R2 := fun x y H Q => ∃ a b n k, x = .ref a ∧ y = .ref b ∧ a ≠ b ∧ n ≤ 8 ∧ DEq K H n (.ref a) (.ref b) k ∧ Q (.bl k) H
theorem op_eqD (hu : X.A.units + 8 < cLine) : OpR X (compareOp .Eq) (rEqD X.K) := by
  intro pins s σ H x y v u Q I rx ry h
  obtain ⟨a, b, n, k, rfl, rfl, ne, hn, q, z⟩ := h
  cases rx
  cases ry
  have r := (deq_ok I q X.A _ _ rfl rfl (by omega)).2 a b rfl rfl ne false X.xe (EP X pins σ Q)
  rw [Bool.false_bne] at r
  exact r ⟨.bl k, H, I, rfl, z⟩
end
end My
set_option Elab.async false
set_option linter.all false
set_option maxRecDepth 100000
set_option maxHeartbeats 1000000
namespace My
open PySem PySem.Spec PyProof.Rows L2
section
variable {X : Cx}
end
section
variable {K : PySem.W.Frag} {σ : L2.St} {H : Hp} {Q : VK} {p l b : Addr} {ys xs zs : List V} {to : TE} {t : TA} {T : String} {r : V → List V → Hp → VK → Prop} {x v : V}
theorem r_bm (h : to σ H fun x H1 => tyV K T x H1 ∧ t σ H1 fun xs H2 => r x xs H2 Q) : tBM K T r to t σ H Q := h
theorem r_tyL {P : Prop} (h : SqL K H p ys) (q : P) : tyV K "list" (.ref p) H ∧ P := ⟨.inl ⟨rfl, _, h⟩, q⟩
theorem r_append (h : H l = some (.lst xs)) (hz : xs.length < sizeLine) (q : Q .non (upd H l (.lst (xs ++ [v])))) : rAppend (.ref l) [v] H Q := ⟨l, xs, v, rfl, rfl, h, hz, q⟩
theorem r_cat (h : H l = some (.lst xs)) (h' : H b = some (.lst zs)) (hz : xs.length + zs.length ≤ sizeLine) (q : ∀ p, H p = none → Q (.ref p) (upd H p (.lst (xs ++ zs)))) : rCat (.ref l) (.ref b) H Q := ⟨l, b, xs, zs, rfl, rfl, h, h', hz, q⟩
end
end My
set_option Elab.async false
set_option linter.all false
set_option maxRecDepth 100000
set_option maxHeartbeats 1000000
namespace My
open PySem PySem.Spec PyProof.Rows L2
end My
set_option Elab.async false
set_option linter.all false
set_option maxRecDepth 100000
set_option maxHeartbeats 1000000
namespace My
open PySem PySem.Spec PyProof.Rows L2
structure RoomH (k : Nat) (A : Around) : Prop where
  dp : A.depth + 3 * k + 5 < recursionLimit
  un : A.units + 16 * k + 200 < cLine
structure FnOkH (P : Program) (w : World) (K : PySem.W.Frag) (mg : Str → Option Value) (base : Heap) (k : Nat) (f : Addr) (fd : FuncData) (ps : List Str) (sp : Sp) : Prop where
  len : ∀ vs H Q E, sp vs H Q E → vs.length = ps.length
  run : ∀ (a : Addr) (A : Around) (outer : List Env) (s : Shared) (H : Hp) (args : Args) (us : List Value) (vs : List V) (Q : VK) (E : XK), RoomH k A → A.handled = some (.ref a) → Env0 P w K mg base A outer s H → BindsTo s fd args (ps.zip us) → Vals vs us → sp vs H Q E →
    codeAny (model P w) A (.call (.ref f) args) (CR CX0 outer P w H s Q E) s
section
variable {X : Cx} {k : Nat} {f a : Addr} {fd : FuncData} {ps : List Str} {sp : Sp} {x : Str} {p pos : Pos} {e : Expr} {es : List Expr} {t : TA}
end
end My
set_option Elab.async false
set_option linter.all false
set_option maxRecDepth 100000
set_option maxHeartbeats 1000000
namespace My
open PySem PySem.Spec PyProof.Rows L2
section
variable {X : Cx}
def rNeD (K : PySem.W.Frag) : R2 := fun x y H Q => ∃ a b n k, x = .ref a ∧ y = .ref b ∧ a ≠ b ∧ n ≤ 8 ∧ DEq K H n (.ref a) (.ref b) k ∧ Q (.bl (!k)) H
theorem op_neD (hu : X.A.units + 8 < cLine) : OpR X (compareOp .NotEq) (rNeD X.K) := by
  intro pins s σ H x y v u Q I rx ry h
  obtain ⟨a, b, n, k, rfl, rfl, ne, hn, q, z⟩ := h
  cases rx
  cases ry
  have r := (deq_ok I q X.A _ _ rfl rfl (by omega)).2 a b rfl rfl ne true X.xe (EP X pins σ Q)
  rw [Bool.true_bne] at r
  exact r ⟨.bl (!k), H, I, rfl, z⟩
end
section
variable {K : PySem.W.Frag} {H : Hp} {Q : VK} {a b : Addr} {n : Nat} {k : Bool}
theorem r_eqD (ne : a ≠ b) (hn : n ≤ 8) (q : DEq K H n (.ref a) (.ref b) k) (h : Q (.bl k) H) : rEqD K (.ref a) (.ref b) H Q := ⟨a, b, n, k, rfl, rfl, ne, hn, q, h⟩
theorem r_neD (ne : a ≠ b) (hn : n ≤ 8) (q : DEq K H n (.ref a) (.ref b) k) (h : Q (.bl (!k)) H) : rNeD K (.ref a) (.ref b) H Q := ⟨a, b, n, k, rfl, rfl, ne, hn, q, h⟩
end
end My
set_option Elab.async false
set_option linter.all false
set_option maxRecDepth 100000
set_option maxHeartbeats 1000000
namespace My
open PySem PySem.Spec PyProof.Rows L2
section
variable {K : PySem.W.Frag} {σ : L2.St} {H : Hp} {Q : VK} {D : Ends} {ta tv : TE} {t : TA} {f : Str} {C : Addr}
end
end My
set_option Elab.async false
set_option linter.all false
set_option maxRecDepth 100000
set_option maxHeartbeats 1000000
namespace My
open PySem PySem.Spec PyProof.Rows L2
theorem hu8 {k : Nat} {A : Around} (r : Room k A) : A.units + 8 < cLine := by have := r.un; omega
section
variable {K : PySem.W.Frag} {cs : List Addr} {i j : Nat} {c e : Addr}
end
def DEqs (K : PySem.W.Frag) (H : Hp) (n : Nat) : List V → List V → Prop
  | [], [] => True
  | x :: xs, y :: ys => DEq K H n x y true ∧ DEqs K H n xs ys
  | _, _ => False
theorem DEqs.len {K : PySem.W.Frag} {H : Hp} {n : Nat} : ∀ {xs ys : List V}, DEqs K H n xs ys → xs.length = ys.length
  | [], [], _ => rfl
  | _ :: _, _ :: _, h => congrArg (· + 1) (DEqs.len h.2)
  | [], _ :: _, h => h.elim
  | _ :: _, [], h => h.elim
theorem DEqs.get {K : PySem.W.Frag} {H : Hp} {n : Nat} : ∀ {xs ys : List V}, DEqs K H n xs ys → ∀ j (h1 : j < xs.length) (h2 : j < ys.length), DEq K H n xs[j] ys[j] true
  | [], [], _, j, h1, _ => absurd h1 (Nat.not_lt_zero j)
  | _ :: _, _ :: _, h, 0, _, _ => h.1
  | _ :: _, _ :: _, h, j + 1, h1, h2 => DEqs.get h.2 j (Nat.lt_of_succ_lt_succ h1) (Nat.lt_of_succ_lt_succ h2)
  | [], _ :: _, h, _, _, _ => h.elim
  | _ :: _, [], h, _, _, _ => h.elim
theorem deq_list {K : PySem.W.Frag} {H : Hp} {n : Nat} {a b : Addr} {xs ys : List V} (ha : SqL K H a xs) (hb : SqL K H b ys) (ne : a ≠ b) (h : DEqs K H n xs ys) : DEq K H (n + 1) (.ref a) (.ref b) true := by
  have z := DEq.ls (n := n) (e := fun _ => true) ha hb ne h.len h.get
  have e : (List.range xs.length).all (fun _ => true) = true := by simp
  rw [e] at z
  exact z
theorem deq_str {K : PySem.W.Frag} {H : Hp} {n : Nat} (z : Str) : DEq K H n (.str z) (.str z) true := by
  have w := DEq.flat (K := K) (H := H) (n := n) (x := .str z) (y := .str z) rfl rfl
  have e : eqV (.str z) (.str z) = true := by simp [eqV]
  rw [e] at w
  exact w
def SameBut (L : Addr) (H H' : Hp) : Prop := ∀ b o, b ≠ L → H b = some o → H' b = some o
section
variable {K : PySem.W.Frag} {H : Hp} {Q : VK} {a C c : Addr} {d : Option Addr} {b : Bool}
end
end My
set_option Elab.async false
set_option linter.all false
set_option maxRecDepth 100000
set_option maxHeartbeats 1000000
namespace My
open PySem PySem.Spec PyProof.Rows L2
def NoFrz (H : Hp) (a : Addr) : Prop := ∀ o u, H a ≠ some (.frz o u)
section
variable {X : Cx} {pins : List (Addr × Obj)} {σ : L2.St} {H H' : Hp} {s : Shared} {a : Addr} {kvs : List (Key × V)} {o : Obj}
theorem Inv.freeze (I : Inv X pins σ H s) (e : H a = some (.dK kvs)) (ho : s.heap.get? a = some o) : Inv X pins σ (upd H a (.frz o (.dK kvs))) s := by
  have ok := I.hok a _ e
  have z := I.write (x := a) (e := a) (o := .frz o (.dK kvs)) (h' := s.heap) (t' := s.toks) (by rw [e]; exact True.intro) (.inl rfl) (fun _ _ _ q => q) ⟨o, ho⟩ ⟨ho, ok⟩
  exact z
theorem Inv.thaw (I : Inv X pins σ H s) (e : H a = some (.frz o (.dK kvs))) (n0 : NoFrz X.H₀ a) : Inv X pins σ (upd H a (.dK kvs)) s := by
  have ne : ∀ b, H b = none → b ≠ a := fun b q z => by subst z; rw [e] at q; cases q
  have nk : ∀ b u, H b = some u → (∀ o' u', u ≠ .frz o' u') → b ≠ a := fun b u q z w => by subst w; rw [e] at q; cases q; exact z _ _ rfl
  refine ⟨I.ok, I.os, I.bare, ⟨I.base.keep, I.base.slot, fun b ob q n hx => ?_, I.base.there, fun b xs q => ?_, fun b ob u q => ?_, fun b ps q => ?_⟩, I.loc, I.cell, ?_, fun x c q => ?_, fun p hp => ?_, fun b u q => ?_, I.len⟩
  · have z := I.base.free b ob q n hx
    rw [upd_ne (ne b z)]; exact z
  · have z := I.base.tups b xs q
    rw [upd_ne (nk b _ z (by intro _ _ h; cases h))]; exact z
  · have z := I.base.frzs b ob u q
    rw [upd_ne (fun w => by subst w; exact n0 _ _ q)]; exact z
  · obtain ⟨m, z⟩ := I.base.tbls b ps q
    exact ⟨m, by rw [upd_ne (nk b _ z (by intro _ _ h; cases h))]; exact z⟩
  · have z := I.free
    rw [upd_ne (ne _ z)]; exact z
  · have z := I.freeC x c q
    rw [upd_ne (ne _ z)]; exact z
  · obtain ⟨p1, p2, p3⟩ := I.pin p hp
    exact ⟨p1, by rw [upd_ne (ne _ p2)]; exact p2, p3⟩
  · by_cases hb : b = a
    · subst hb
      rw [upd_same] at q
      cases q
      exact (I.hok b _ e).2
    · rw [upd_ne hb] at q
      exact (I.hok b u q).stay (fun _ _ _ r => r) (fun c r => by rw [upd_ne (nk c _ r (by intro _ _ h; cases h))]; exact r) fun c xs r => by rw [upd_ne (nk c _ r (by intro _ _ h; cases h))]; exact r
def Thaw (H0 H H' : Hp) : Prop := H' = H ∨ ∃ a o kvs, H a = some (.frz o (.dK kvs)) ∧ NoFrz H0 a ∧ H' = upd H a (.dK kvs)
theorem Inv.thawed (I : Inv X pins σ H s) (t : Thaw X.H₀ H H') : Inv X pins σ H' s := by
  rcases t with rfl | ⟨a, o, kvs, e, n, rfl⟩
  · exact I
  · exact Inv.thaw I e n
end
section
variable {X : Cx} {st : Stmt} {e : Expr} {t : TS} {te : TE}
def thE (H0 : Hp) (D : Ends) : Ends := { nx := fun σ H => ∃ H', Thaw H0 H H' ∧ D.nx σ H', rt := fun v H => ∃ H', Thaw H0 H H' ∧ D.rt v H', bk := fun σ H => ∃ H', Thaw H0 H H' ∧ D.bk σ H', ct := fun σ H => ∃ H', Thaw H0 H H' ∧ D.ct σ H' }
def tThA (H0 : Hp) (t : TS) : TS := fun D σ H => t (thE H0 D) σ H
theorem ps_thA (h : PS X st t) : PS X st (tThA X.H₀ t) := fun pins s σ H D I q => thn (h pins s σ H _ I q) fun f s' hs => by
  cases f with
  | next => obtain ⟨σ', H1, J, H2, th, q⟩ := hs; exact ⟨σ', H2, Inv.thawed J th, q⟩
  | brk => obtain ⟨σ', H1, J, H2, th, q⟩ := hs; exact ⟨σ', H2, Inv.thawed J th, q⟩
  | cont => obtain ⟨σ', H1, J, H2, th, q⟩ := hs; exact ⟨σ', H2, Inv.thawed J th, q⟩
  | ret u => obtain ⟨v, σ', H1, J, r, H2, th, q⟩ := hs; exact ⟨v, σ', H2, Inv.thawed J th, r, q⟩
end
theorem kvget {κ : Type} {kvs : List (κ × V)} {vs : List (κ × Value)} (r : KV kvs vs) : ∀ {i : Nat} {k : κ} {v : V}, kvs[i]? = some (k, v) → ∃ u, vs[i]? = some (k, u) ∧ RelV v u := by
  induction r with
  | nil => intro i k v e; simp at e
  | cons h t ih =>
    intro i k v e
    cases i with
    | zero =>
      simp only [List.getElem?_cons_zero, Option.some.injEq] at e ⊢
      subst e
      obtain ⟨h1, h2⟩ := h
      exact ⟨_, Prod.ext h1.symm rfl, h2⟩
    | succ i =>
      simp only [List.getElem?_cons_succ] at e ⊢
      exact ih e
theorem kV_rel {k : Key} {u : Value} (h : keyIs k u = true) : RelV (kV k) u := by
  rcases keyIs_shape h with ⟨i, t, rfl, rfl⟩ | ⟨x, t, rfl, rfl⟩
  · exact ⟨t, rfl⟩
  · exact ⟨t, rfl⟩
def ItD (d : Addr) (o : Obj) (kvs : List (Key × V)) : It :=
  ⟨fun i H => H d = some (.frz o (.dK kvs)) ∧ i < kvs.length, fun i H x H' => H' = H ∧ ∃ k v, kvs[i]? = some (k, v) ∧ x = kV k, fun i H => H d = some (.frz o (.dK kvs)) ∧ kvs.length ≤ i⟩
theorem frz_at {P : Program} {w : World} {H : Hp} {h : Heap} {d : Addr} {o : Obj} {kvs : List (Key × V)} {es : Array DictEntry} {ep : Nat} (ok : HOk P w H h) (e : H d = some (.frz o (.dK kvs))) (hd : o.data = .dict es ep) :
    ∃ vs, KV kvs vs ∧ h.DictAt (mixKind P w) d vs ep := by
  obtain ⟨ho, _, _, vs, rel, o', es', ep', ho', ex, hd', ks, ps, nd⟩ := ok d _ e
  rw [ho] at ho'
  cases ho'
  rw [hd] at hd'
  cases hd'
  exact ⟨vs, rel, o, es, ho, ex, hd, ks, ps, nd⟩
theorem turn_dict {P : Program} {w : World} {K : PySem.W.Frag} {tg : Expr} {o : Obj} {kvs : List (Key × V)} {es : Array DictEntry} {ep : Nat} (d it : Addr) (hd : o.data = .dict es ep) : Turn P w K tg (ItD d o kvs) [it] it (fun i h => h.IsKeyIter it d i kvs.length ep) where
  mem := by simp
  obj := fun i h st b hb => by
    have e : b = it := by simpa using hb
    subst e
    obtain ⟨ob, e, c, dd⟩ := st
    exact ⟨ob, e, fun v z => by rw [dd] at z; cases z⟩
  keep := fun i h h' st k => st.at fun ob e => k it (by simp) ob e
  item := by
    intro X hP hw hK hc i pins s σ H E I hf st hg
    subst hP hw hK
    obtain ⟨hfz, hi⟩ := hg
    obtain ⟨vs, rel, dat⟩ := frz_at I.hok hfz hd
    obtain ⟨f0, f1, f2, f3, f4, f5⟩ := hf it (by simp)
    have hl := rel.length
    obtain ⟨u, hu, ru⟩ := kvget rel (i := i) (k := kvs[i].1) (v := kvs[i].2) (by rw [List.getElem?_eq_getElem hi])
    rw [hl] at st
    refine wpAny_pyNext_dict_item st dat hu fun key h' hkey st' hs' => ?_
    have I1 : Inv X pins σ H { s with heap := h' } := I.turned (t' := s.toks) (fun b ob hb e => hs'.extBut b ob hb e) f0 f1 f3 f4 f5
    obtain ⟨ob, e, c, dd⟩ := id st'
    exact ⟨key, rfl, go_of (s := { s with heap := h' }) e c dd (by decide) ⟨kV kvs[i].1, H, I1, kV_rel hkey, ⟨rfl, kvs[i].1, kvs[i].2, List.getElem?_eq_getElem hi, rfl⟩, by rw [hl]; exact st', fun b hb => (hf b hb).1⟩⟩
  done := by
    intro X hP hw hK hc i pins s σ H E I hf st hg
    subst hP hw hK
    obtain ⟨hfz, hi⟩ := hg
    obtain ⟨vs, rel, dat⟩ := frz_at I.hok hfz hd
    obtain ⟨f0, f1, f2, f3, f4, f5⟩ := hf it (by simp)
    have hl := rel.length
    rw [hl] at st hi
    exact wpAny_pyNext_dict_end (I.ok.hd hc) st dat (by simpa using hi) fun h' eb => ⟨rfl, I.turned (t' := s.toks) (fun b ob hb e => eb b ob hb e) f0 f1 f3 f4 f5⟩
  self := fun _ _ _ _ _ st h => wpAny_pyIter_keyiter st h
def rItD (x : V) (H : Hp) (R : It → Hp → Prop) : Prop := ∃ a kvs, x = .ref a ∧ ((H a = some (.dK kvs) ∧ ∀ o, R (ItD a o kvs) (upd H a (.frz o (.dK kvs)))) ∨ ∃ o, H a = some (.frz o (.dK kvs)) ∧ R (ItD a o kvs) H)
def iDict (td : TE) : TI := fun σ H R => td σ H fun x H1 => rItD x H1 R
theorem dat_of {P : Program} {w : World} {H : Hp} {h : Heap} {d : Addr} {kvs : List (Key × V)} (ok : ObjOk P w H h d (.dK kvs)) : ∃ o es ep vs, h.get? d = some o ∧ o.data = .dict es ep ∧ KV kvs vs ∧ h.DictAt (mixKind P w) d vs ep ∧ (d == sysModules) = false := by
  obtain ⟨_, hs, vs, rel, o, es, ep, ho, ex, hd, ks, ps, nd⟩ := ok
  exact ⟨o, es, ep, vs, ho, hd, rel, ⟨o, es, ho, ex, hd, ks, ps, nd⟩, hs⟩
theorem pi_dict {X : Cx} {tg l : Expr} {tl : TE} (hl : PE X l tl) : PI X tg l (iDict tl) := by
  intro pins s σ H R I h
  refine thn (hl pins s σ H _ I h) fun v s1 ⟨x, H1, I1, r1, q1⟩ => ?_
  obtain ⟨a, kvs, e, q⟩ := q1
  subst e
  cases r1
  have ok : ObjOk X.prog X.w H1 s1.heap a (.dK kvs) := by
    rcases q with ⟨e, _⟩ | ⟨o, e, _⟩
    · exact I1.hok a _ e
    · exact (I1.hok a _ e).2
  obtain ⟨o, es, ep, vs, ho, hd, rel, dat, hs⟩ := dat_of ok
  have hlen := rel.length
  refine wpAny_pyIter_dict hs dat ?_
  have it0 : (s1.heap.push { cls := .type "dict_keyiterator", data := .fields #[.ref a, .int 0 0, .int vs.length 0, .int ep 0] }).IsKeyIter s1.heap.objs.size a 0 kvs.length ep := by
    rw [hlen]; exact ⟨_, Heap.get?_push_size _ rfl, rfl, rfl⟩
  rcases q with ⟨e, q⟩ | ⟨o', e, q⟩
  · have I2 := Inv.freeze I1 e ho
    refine ⟨s1.heap.objs.size, [s1.heap.objs.size], _, _, _, rfl, I2.kept (t' := s1.toks) fun b ob e => Heap.get?_push_of_some _ e, turn_dict (kvs := kvs) a _ hd, it0, fun b hb => ?_, q o⟩
    have e : b = s1.heap.objs.size := by simpa using hb
    subst e
    exact I2.fpOk (Nat.le_refl _) (I2.hok.fresh (Nat.le_refl _))
  · have eo : o' = o := by
      have z := (I1.hok a _ e).1
      rw [ho] at z
      cases z
      rfl
    subst eo
    refine ⟨s1.heap.objs.size, [s1.heap.objs.size], _, _, _, rfl, I1.kept (t' := s1.toks) fun b ob e => Heap.get?_push_of_some _ e, turn_dict (kvs := kvs) a _ hd, it0, fun b hb => ?_, q⟩
    have e : b = s1.heap.objs.size := by simpa using hb
    subst e
    exact I1.fpOk (Nat.le_refl _) (I1.hok.fresh (Nat.le_refl _))
section
variable {σ : L2.St} {H H' : Hp} {D : Ends} {t : TS} {te tl : TE} {Q : VK} {g : TG} {tb : TS} {a : Addr} {o : Obj} {kvs : List (Key × V)} {H0 : Hp} {v : V}
theorem r_thA (h : t (thE H0 D) σ H) : tThA H0 t D σ H := h
theorem r_thNx (th : Thaw H0 H H') (h : D.nx σ H') : (thE H0 D).nx σ H := ⟨H', th, h⟩
theorem thaw1 (e : H a = some (.frz o (.dK kvs))) (n : NoFrz H0 a) : Thaw H0 H (upd H a (.dK kvs)) := .inr ⟨a, o, kvs, e, n, rfl⟩
theorem r_iD {R : It → Hp → Prop} (h : tl σ H fun x H1 => rItD x H1 R) : iDict tl σ H R := h
theorem r_itD {R : It → Hp → Prop} (e : H a = some (.dK kvs)) (h : ∀ o, R (ItD a o kvs) (upd H a (.frz o (.dK kvs)))) : rItD (.ref a) H R := ⟨a, kvs, rfl, .inl ⟨e, h⟩⟩
theorem f_dict (Pv : Nat → L2.St → Hp → Prop) (h0 : Pv 0 σ H) (hl : ∀ i σ H, i ≤ kvs.length → Pv i σ H → H a = some (.frz o (.dK kvs)))
    (hs : ∀ i k v σ H, kvs[i]? = some (k, v) → Pv i σ H → g (kV k) σ H fun σ2 H2 => tb { nx := Pv (i + 1), rt := D.rt, bk := D.nx, ct := Pv (i + 1) } σ2 H2) (hd : ∀ σ H, Pv kvs.length σ H → D.nx σ H) : FOR (ItD a o kvs) g tb D σ H := by
  refine ⟨fun i m σ H => m = kvs.length - i ∧ i ≤ kvs.length ∧ Pv i σ H, ⟨kvs.length, rfl, Nat.zero_le _, h0⟩, ?_⟩
  rintro i m σ H ⟨rfl, hi, p⟩
  have q := hl i σ H hi p
  by_cases hlt : i < kvs.length
  · refine .inr ⟨⟨q, hlt⟩, Pv (i + 1), fun σ' H' p' => ⟨kvs.length - (i + 1), by omega, rfl, hlt, p'⟩, fun x H' y => ?_⟩
    obtain ⟨e, k, v, hk, rfl⟩ := y
    subst e
    exact hs i k v σ _ hk p
  · have e : i = kvs.length := Nat.le_antisymm hi (Nat.le_of_not_lt hlt)
    subst e
    exact .inl ⟨⟨q, Nat.le_refl _⟩, hd σ H p⟩
end
end My
set_option Elab.async false
set_option linter.all false
set_option maxRecDepth 100000
set_option maxHeartbeats 1000000
namespace My
open PySem PySem.Spec PyProof.Rows L2
theorem objOk_get {P : Program} {w : World} {H : Hp} {h : Heap} {a : Addr} {o : HO} (x : ObjOk P w H h a o) : ∃ u, h.get? a = some u := by
  induction o with
  | lst xs => obtain ⟨_, _, _, _, e⟩ := x; exact ⟨_, e⟩
  | tup xs => obtain ⟨_, _, _, ob, e, _⟩ := x; exact ⟨_, e⟩
  | dK kvs => obtain ⟨_, _, _, _, o, _, _, e, _⟩ := x; exact ⟨_, e⟩
  | dT kvs => obtain ⟨_, _, _, _, o, _, _, e, _⟩ := x; exact ⟨_, e⟩
  | set S n => obtain ⟨o, _, _, _, e, _⟩ := x; exact ⟨_, e⟩
  | ins C dx fs => obtain ⟨_, _, _, e, _⟩ := x; exact ⟨_, e⟩
  | own y => exact x
  | xd fs => obtain ⟨_, ⟨_, _, _, e, _⟩, _⟩ := x; exact ⟨_, e⟩
  | rng lo hi => obtain ⟨_, _, _, e⟩ := x; exact ⟨_, e⟩
  | frz ob u ih => exact ⟨_, x.1⟩
  | tbl ps => exact ⟨_, x⟩
  | met f y => exact ⟨_, x⟩
  | ext φ => exact x.2.1
theorem Inv.laidN {X : Cx} {pins : List (Addr × Obj)} {σ : L2.St} {H : Hp} {s : Shared} {h' : Heap} {a : Addr} {o : HO} {t' : Nat} (I : Inv X pins σ H s) (k : ∀ b u, s.heap.get? b = some u → h'.get? b = some u) (hg : s.heap.get? a = none) (new : ObjOk X.prog X.w (upd H a o) h' a o) :
    H a = none ∧ Inv X pins σ (upd H a o) { s with heap := h', toks := t' } := by
  have hn : H a = none := by
    cases q : H a with
    | none => rfl
    | some u => obtain ⟨v, e⟩ := objOk_get (I.hok a u q); rw [hg] at e; cases e
  refine ⟨hn, I.un ⟨fun b u q _ _ _ => k b u q, fun b u q _ _ _ => ⟨u.slots, k b u q⟩, fun b u q n _ => by rw [upd_ne (fun z => by subst z; rw [hg] at q; cases q)]; exact n, fun b u q _ => ⟨u, k b u q⟩, fun b xs q => by rw [upd_ne (ne_of_none q hn)]; exact q,
    fun b u xs q => by rw [upd_ne (ne_of_none q hn)]; exact q, fun b ps q => ⟨#[], by rw [upd_ne (ne_of_none q hn), q]; simp⟩⟩ fun b u e => ?_⟩
  by_cases hb : b = a
  · subst hb; rw [upd_same] at e; cases e; exact new
  · rw [upd_ne hb] at e
    exact (I.hok b u e).stay (fun c v _ q => k c v q) (fun c q => by rw [upd_ne (ne_of_none q hn)]; exact q) fun c xs q => by rw [upd_ne (ne_of_none q hn)]; exact q
section
variable {X : Cx}
def rDictCp : List V → Hp → VK → Prop := fun xs H Q => ∃ p kvs, xs = [.ref p] ∧ Rd H p (.dK kvs) ∧ ∀ q, H q = none → Q (.ref q) (upd H q (.dK kvs))
theorem call_dictR : CallR X (.type "dict") rDictCp := by
  intro pins s σ H xs us Q I hv h
  obtain ⟨p, kvs, rfl, e, q⟩ := h
  obtain ⟨u, rfl, ru⟩ := hv.one
  cases ru
  exact d_copyOf I e fun l s' hl I' => ⟨.ref l, _, I', rfl, q l hl⟩
theorem vals_strs : ∀ {us : List Value} {ss : List Str}, StrsAre us ss → Vals (ss.map V.str) us
  | _, _, .nil => .nil
  | _, _, .cons x t h => .cons ⟨t, rfl⟩ (vals_strs h)
def rSortD : List V → Hp → VK → Prop := fun xs H Q => ∃ p kvs ss, xs = [.ref p] ∧ Rd H p (.dK kvs) ∧ kvs.map (·.1) = ss.map Sum.inr ∧ ss.length < 64 ∧ ∀ l ss', H l = none → ss'.Perm ss → sortedS ss' = true → Q (.ref l) (upd H l (.lst (ss'.map V.str)))
theorem strs_keys {ss : List Str} {us : List Value} (hl : us.length = ss.length) (h : ∀ (j : Nat) (u : Value), us[j]? = some u → ∃ x, ss[j]? = some x ∧ keyIs (.inr x) u = true) : StrsAre us ss := by
  induction us generalizing ss with
  | nil => cases ss with
    | nil => exact .nil
    | cons _ _ => simp at hl
  | cons u us ih => cases ss with
    | nil => simp at hl
    | cons x ss =>
      obtain ⟨y, hy, hk⟩ := h 0 u rfl
      simp only [List.getElem?_cons_zero, Option.some.injEq] at hy
      subst hy
      rcases keyIs_shape hk with ⟨i, t, e, _⟩ | ⟨z, t, e, rfl⟩
      · cases e
      · cases e
        exact .cons x t (ih (by simpa using hl) fun j v hv => by have := h (j + 1) v (by simpa using hv); simpa using this)
theorem call_sortD (hc : X.calm = true) : CallR X (.builtin "sorted") rSortD := by
  intro pins s σ H xs us Q I hv h
  obtain ⟨p, kvs, ss, rfl, hR, hk, hz, q⟩ := h
  obtain ⟨u, rfl, ru⟩ := hv.one
  cases ru
  obtain ⟨o, es, ep, vs, ho, hd, rel, dat, hs⟩ := dat_of (hR.ok I.hok)
  have hlen := rel.length
  have hks := rel.keys
  have hl2 : kvs.length = ss.length := by have := congrArg List.length hk; simpa using this
  refine Calls.call_function_entry kind_sorted plain_sorted entry_sorted (args_sorted1 _) ?_
  unfold Builtin.«sorted»
  refine wpAny_bind (m := checkCount "sorted" 1 1 _) (wpAny_pure ?_)
  refine wpAny_bind (PySem.W.kdu_collect (A := X.A.in1) (PySem.W.kdl_dict (knd := mixKind X.prog X.w) (kvs := vs) (ep := ep) hs) (I.ok.hd hc) dat (by rw [sizeLine_eq]; omega) fun h' tk acc hkeep hacc => ?_)
  have hal : acc.toList.length = vs.length := by rw [Array.length_toList]; exact hacc.1
  refine wpAny_bind (wpAny_newList ?_ (by rw [hal, sizeLine_eq]; omega))
  have hS : StrsAre acc.toList ss := by
    refine strs_keys (by omega) fun j v hv => ?_
    obtain ⟨k, x, hx, hkv⟩ := hacc.2 j v (by rw [← Array.getElem?_toList]; exact hv)
    have e1 : (vs.map (·.1))[j]? = some k := by rw [List.getElem?_map, hx]; rfl
    rw [← hks, hk, List.getElem?_map] at e1
    obtain ⟨z, hz1, rfl⟩ := Option.map_eq_some_iff.mp e1
    exact ⟨z, hz1, hkv⟩
  have hoL : (h'.push { cls := .type "list", data := .seq acc.toList.toArray }).get? h'.objs.size = some (seqObj "list" acc.toList.toArray 0) := Heap.get?_push_size _ rfl
  refine wpAny_bind (wpAny_holding (wpAny_call_entry slot_list_sort ⟨_, hoL, rfl⟩ entry_list_sort (list_sort_treeK strKind_oneLt hoL hS.keysOf (fun v₁ v₂ rest e => keyKind_strs (by rw [← e]; exact hS)) (by omega) fun st' a1 a2 => ⟨_, rfl, ?_⟩) (args_list_sort _)))
  obtain ⟨ss', b1, b2, b3⟩ := sorted_out_str hS a1 a2
  obtain ⟨e, he⟩ := sortedHeap_at (out := (arrOf st').map (·.2)) hoL
  have hl3 := b2.length_eq
  have hg : s.heap.get? h'.objs.size = none := by
    cases q : s.heap.get? h'.objs.size with
    | none => rfl
    | some ob => exact absurd (Heap.lt_size (hkeep _ _ q)) (Nat.lt_irrefl _)
  obtain ⟨hn, I2⟩ := Inv.laidN I (h' := sortedHeap (h'.push { cls := .type "list", data := .seq acc.toList.toArray }) h'.objs.size acc.toList ((arrOf st').map (·.2))) (a := h'.objs.size) (o := .lst (ss'.map V.str)) (t' := tk) (fun b ob hb => by
    have hb' := hkeep b ob hb
    rw [sortedHeap_old (Nat.ne_of_lt (Heap.lt_size hb')) (by rw [size_push']; exact Nat.lt_succ_of_lt (Heap.lt_size hb'))]
    exact Heap.get?_push_of_some _ hb') hg ⟨by rw [List.length_map, sizeLine_eq]; omega, ((arrOf st').map (·.2)).toList, e, vals_strs b1, by rw [Array.toArray_toList]; exact he⟩
  exact wpAny_pure ⟨_, rfl, .ref _, _, I2, rfl, q _ ss' hn b2 b3⟩
end
section
variable {K : PySem.W.Frag} {H : Hp} {Q : VK} {p : Addr} {kvs : List (Key × V)} {ss : List Str}
theorem r_dictCp (e : Rd H p (.dK kvs)) (h : ∀ q, H q = none → Q (.ref q) (upd H q (.dK kvs))) : rDictCp [.ref p] H Q := ⟨p, kvs, rfl, e, h⟩
theorem r_sortD (e : Rd H p (.dK kvs)) (hk : kvs.map (·.1) = ss.map Sum.inr) (hz : ss.length < 64) (h : ∀ l ss', H l = none → ss'.Perm ss → sortedS ss' = true → Q (.ref l) (upd H l (.lst (ss'.map V.str)))) : rSortD [.ref p] H Q := ⟨p, kvs, ss, rfl, e, hk, hz, h⟩
end
end My
set_option Elab.async false
set_option linter.all false
set_option maxRecDepth 100000
set_option maxHeartbeats 1000000
namespace My
open PySem PySem.Spec PyProof.Rows L2
structure AD (kvs : List (Key × V)) (f : Str → Option Int) : Prop where
  nd : (kvs.map (·.1)).Nodup
  sh : ∀ p ∈ kvs, ∃ z i, p = (Sum.inr z, V.int i)
  get : ∀ z, valV kvs (Sum.inr z) = (f z).map V.int
def noF : Str → Option Int := fun _ => none
def putF' (f : Str → Option Int) (z : Str) (i : Int) : Str → Option Int := fun y => if y = z then some i else f y
theorem AD.nil : AD [] noF := ⟨List.nodup_nil, fun p hp => absurd hp (by simp), fun z => rfl⟩
theorem AD.cast {kvs : List (Key × V)} {f g : Str → Option Int} (h : AD kvs f) (e : ∀ z, f z = g z) : AD kvs g := ⟨h.nd, h.sh, fun z => by rw [h.get, e]⟩
theorem putK_keys {kvs : List (Key × V)} {k : Key} {v : V} (h : valV kvs k ≠ none) : (putK kvs k v).map (·.1) = kvs.map (·.1) := by
  unfold putK
  have e : (kvs.any fun kv => decide (kv.1 = k)) = true := by rw [valV_any]; cases q : valV kvs k with
    | none => exact absurd q h
    | some _ => rfl
  rw [if_pos e, List.map_map]
  apply List.map_congr_left
  intro p _
  show (if p.1 = k then (p.1, v) else p).1 = p.1
  split <;> rfl
theorem putK_mem {kvs : List (Key × V)} {k : Key} {v : V} {p : Key × V} (h : p ∈ putK kvs k v) : p = (k, v) ∨ p ∈ kvs := by
  unfold putK at h
  split at h
  · obtain ⟨q, hq, e⟩ := List.mem_map.mp h
    split at e
    · rename_i ek; subst ek; exact .inl e.symm
    · subst e; exact .inr hq
  · rcases List.mem_append.mp h with h | h
    · exact .inr h
    · exact .inl (by simpa using h)
theorem AD.put {kvs : List (Key × V)} {f : Str → Option Int} (h : AD kvs f) (z : Str) (i : Int) : AD (putK kvs (Sum.inr z) (.int i)) (putF' f z i) := by
  refine ⟨?_, fun p hp => ?_, fun y => ?_⟩
  · cases q : valV kvs (Sum.inr z) with
    | none => exact nd_putK _ h.nd q
    | some v => rw [putK_keys (by rw [q]; simp)]; exact h.nd
  · rcases putK_mem hp with rfl | hp
    · exact ⟨z, i, rfl⟩
    · exact h.sh p hp
  · rw [valV_put]
    unfold putF'
    by_cases e : y = z
    · subst e; rw [if_pos rfl, if_pos rfl]; rfl
    · rw [if_neg (fun q => e (Sum.inr.inj q)), if_neg e]; exact h.get y
theorem AD.flat {kvs : List (Key × V)} {f : Str → Option Int} (h : AD kvs f) : ∀ p ∈ kvs, flatV p.2 = true := fun p hp => by
  obtain ⟨z, i, rfl⟩ := h.sh p hp
  rfl
theorem valV_of_mem {kvs : List (Key × V)} (nd : (kvs.map (·.1)).Nodup) {k : Key} {v : V} (h : (k, v) ∈ kvs) : valV kvs k = some v := by
  induction kvs with
  | nil => simp at h
  | cons p r ih =>
    rw [List.map_cons, List.nodup_cons] at nd
    rcases List.mem_cons.mp h with rfl | h
    · exact valV_pos rfl
    · have ne : ¬ p.1 = k := fun e => nd.1 (e ▸ List.mem_map.mpr ⟨(k, v), h, rfl⟩)
      rw [valV_neg ne]
      exact ih nd.2 h
theorem AD.mem {kvs : List (Key × V)} {f : Str → Option Int} (h : AD kvs f) {k : Key} {v : V} (hm : (k, v) ∈ kvs) : ∃ z n, k = Sum.inr z ∧ v = .int n ∧ f z = some n := by
  obtain ⟨z, n, e⟩ := h.sh _ hm
  cases e
  have q := valV_of_mem h.nd hm
  rw [h.get] at q
  cases hf : f z with
  | none => rw [hf] at q; cases q
  | some m => rw [hf] at q; cases q; exact ⟨z, _, rfl, rfl, hf⟩
def keysS (kvs : List (Key × V)) : List Str := kvs.filterMap fun p => match p.1 with | .inr z => some z | .inl _ => none
theorem AD.keys {kvs : List (Key × V)} {f : Str → Option Int} (h : AD kvs f) : kvs.map (·.1) = (keysS kvs).map Sum.inr := by
  have sh := h.sh
  clear h
  induction kvs with
  | nil => rfl
  | cons p r ih =>
    obtain ⟨z, i, rfl⟩ := sh p (List.mem_cons_self ..)
    show Sum.inr z :: r.map (·.1) = (z :: keysS r).map Sum.inr
    rw [List.map_cons, ih fun q hq => sh q (List.mem_cons_of_mem _ hq)]
theorem AD.klen {kvs : List (Key × V)} {f : Str → Option Int} (h : AD kvs f) : (keysS kvs).length = kvs.length := by
  have := congrArg List.length h.keys
  simpa using this.symm
theorem AD.knd {kvs : List (Key × V)} {f : Str → Option Int} (h : AD kvs f) : (keysS kvs).Nodup := by
  have nd := h.nd
  rw [h.keys] at nd
  exact List.Pairwise.imp (fun ne e => ne (congrArg Sum.inr e)) (List.pairwise_map.mp nd)
theorem AD.kin {kvs : List (Key × V)} {f : Str → Option Int} (h : AD kvs f) (z : Str) : z ∈ keysS kvs ↔ f z ≠ none := by
  constructor
  · intro hz
    have hm : (Sum.inr z : Key) ∈ kvs.map (·.1) := by rw [h.keys]; exact List.mem_map.mpr ⟨z, hz, rfl⟩
    obtain ⟨⟨k, v⟩, hp, e⟩ := List.mem_map.mp hm
    dsimp only at e
    subst e
    obtain ⟨z', n, e1, _, hf⟩ := h.mem hp
    cases e1
    rw [hf]; simp
  · intro hf
    cases q : f z with
    | none => exact absurd q hf
    | some n =>
      have hv := h.get z
      rw [q] at hv
      have hm := valV_in hv
      rw [h.keys] at hm
      obtain ⟨y, hy, e⟩ := List.mem_map.mp hm
      cases e
      exact hy
theorem nd_le : ∀ {l m : List Str}, l.Nodup → (∀ a ∈ l, a ∈ m) → l.length ≤ m.length
  | [], _, _, _ => Nat.zero_le _
  | a :: l, m, nd, h => by
    have ha := h a (List.mem_cons_self ..)
    rw [List.nodup_cons] at nd
    have q := nd_le (l := l) (m := m.erase a) nd.2 fun b hb => (List.mem_erase_of_ne (fun (e : b = a) => nd.1 (by rw [← e]; exact hb))).mpr (h b (List.mem_cons_of_mem _ hb))
    rw [List.length_erase_of_mem ha] at q
    have : 0 < m.length := List.length_pos_of_mem ha
    simp only [List.length_cons]
    omega
theorem AD.le {kvs : List (Key × V)} {f : Str → Option Int} (h : AD kvs f) {ws : List Str} (hs : ∀ z, f z ≠ none → z ∈ ws) : kvs.length ≤ ws.length := by
  rw [← h.klen]
  exact nd_le h.knd fun z hz => hs z ((h.kin z).mp hz)
theorem AD.eq {ka kb : List (Key × V)} {f : Str → Option Int} (h : AD ka f) (h' : AD kb f) : (ka.length == kb.length && ka.all fun p => (valV kb p.1).elim false (eqV p.2)) = true := by
  rw [Bool.and_eq_true, beq_iff_eq, List.all_eq_true]
  constructor
  · have l1 := nd_le h.knd fun z hz => (h'.kin z).mpr ((h.kin z).mp hz)
    have l2 := nd_le h'.knd fun z hz => (h.kin z).mpr ((h'.kin z).mp hz)
    rw [h.klen, h'.klen] at l1
    rw [h.klen, h'.klen] at l2
    omega
  · rintro ⟨k, v⟩ hp
    obtain ⟨z, n, rfl, rfl, hf⟩ := h.mem hp
    show ((valV kb (Sum.inr z)).elim false (eqV (.int n))) = true
    rw [h'.get, hf]
    show (n == n) = true
    simp
theorem AD.at {kvs : List (Key × V)} {f : Str → Option Int} (h : AD kvs f) {i : Nat} {k : Key} {v : V} (e : kvs[i]? = some (k, v)) : ∃ z n, k = Sum.inr z ∧ v = .int n ∧ f z = some n ∧ (keysS kvs)[i]? = some z := by
  obtain ⟨z, n, rfl, rfl, hf⟩ := h.mem (List.mem_of_getElem? e)
  refine ⟨z, n, rfl, rfl, hf, ?_⟩
  have q : (kvs.map (·.1))[i]? = some (Sum.inr z) := by rw [List.getElem?_map, e]; rfl
  rw [h.keys, List.getElem?_map] at q
  obtain ⟨y, hy, e⟩ := Option.map_eq_some_iff.mp q
  cases e
  exact hy
def leS (a b : Str) : Prop := ltCps b.cps.toList a.cps.toList = false
theorem leS_iff {a b : Str} : leS a b ↔ a.cps.toList ≤ b.cps.toList := by
  unfold leS
  rw [ltCps_eq, decide_eq_false_iff_not]
  exact List.not_lt
theorem leS_trans {a b c : Str} (h : leS a b) (h' : leS b c) : leS a c := leS_iff.mpr (List.le_trans (leS_iff.mp h) (leS_iff.mp h'))
theorem leS_anti {a b : Str} (h : leS a b) (h' : leS b a) : a = b := by
  have e := List.le_antisymm (leS_iff.mp h) (leS_iff.mp h')
  obtain ⟨⟨x⟩⟩ := a
  obtain ⟨⟨y⟩⟩ := b
  have e' : x = y := e
  subst e'
  rfl
theorem rising_pw : ∀ {p : Str} {l : List Str}, risingS p l = true → (p :: l).Pairwise leS
  | p, [], _ => List.pairwise_singleton _ _
  | p, x :: r, h => by
    have h' : (!ltCps x.cps.toList p.cps.toList && risingS x r) = true := h
    rw [Bool.and_eq_true, Bool.not_eq_true'] at h'
    have q := rising_pw h'.2
    refine List.pairwise_cons.mpr ⟨fun y hy => ?_, q⟩
    rcases List.mem_cons.mp hy with rfl | hy
    · exact h'.1
    · exact leS_trans h'.1 (List.rel_of_pairwise_cons q hy)
theorem sorted_pw : ∀ {l : List Str}, sortedS l = true → l.Pairwise leS
  | [], _ => List.Pairwise.nil
  | x :: r, h => rising_pw h
end My
set_option Elab.async false
set_option linter.all false
set_option maxRecDepth 100000
set_option maxHeartbeats 1000000
namespace My
open PySem PySem.Spec PyProof.Rows L2
section
variable {prog : Program} {w : World} {A : Around} {s : Shared} {E Q : Value → Shared → Prop} {r : Addr} {n : Int} {t u v : Tok}
end
section
variable {X : Cx}
end
section
variable {σ : L2.St} {H : Hp} {D : Ends} {Q : VK} {g : TG} {tb : TS} {ta : TA} {j : Int} {p : Addr} {n : Nat}
end
end My
set_option Elab.async false
set_option linter.all false
set_option maxRecDepth 100000
set_option maxHeartbeats 1000000
namespace My
open PySem PySem.Spec PyProof.Rows L2
section
variable {K : PySem.W.Frag} {σ : L2.St} {H H' : Hp} {Q : VK} {D : Ends} {td ty tx tv : TE} {a b p : Addr} {kvs kb : List (Key × V)} {f : Str → Option Int} {z : Str} {n : Int} {v : V} {o : Obj}
def rDGk (x y : V) (H : Hp) (Q : VK) : Prop := ∃ a v, x = .ref a ∧ DGet H a y (some v) ∧ Q v H
theorem r_dg (h : td σ H fun x H1 => ty σ H1 fun y H2 => rDGk x y H2 Q) : tDGet td ty σ H Q := h
theorem r_dgk (d : Rd H a (.dK kvs)) (A : AD kvs f) (e : f z = some n) (h : Q (.int n) H) : rDGk (.ref a) (.str z) H Q :=
  ⟨a, .int n, rfl, .inl ⟨kvs, Sum.inr z, d, rfl, by rw [A.get, e]; rfl⟩, h⟩
def rDP (x y v : V) (H : Hp) (D : Ends) (σ : L2.St) : Prop := ∃ a H4, x = .ref a ∧ DPut H a y v H4 ∧ D.nx σ H4
theorem r_dp (h : tv σ H fun v H1 => td σ H1 fun x H2 => ty σ H2 fun y H3 => rDP x y v H3 D σ) : sDPut td ty tv D σ H := h
theorem r_dpk (e : H a = some (.dK kvs)) (hz : kvs.length < sizeLine) (h : D.nx σ (upd H a (.dK (putK kvs (Sum.inr z) v)))) : rDP (.ref a) (.str z) v H D σ := ⟨a, _, rfl, DPut.k (k := Sum.inr z) e hz, h⟩
def rDI (x y : V) (H : Hp) (Q : VK) : Prop := ∃ a o, x = .ref a ∧ DGet H a y o ∧ Q (.bl o.isSome) H
theorem r_di (h : ty σ H fun y H1 => td σ H1 fun x H2 => rDI x y H2 Q) : tDIn ty td σ H Q := h
theorem r_dik (d : Rd H a (.dK kvs)) (A : AD kvs f) (h : Q (.bl (f z).isSome) H) : rDI (.ref a) (.str z) H Q := by
  refine ⟨a, valV kvs (Sum.inr z), rfl, .inl ⟨kvs, Sum.inr z, d, rfl, rfl⟩, ?_⟩
  rw [A.get, Option.isSome_map]
  exact h
theorem r_dnew (h : ∀ p, H p = none → Q (.ref p) (upd H p (.dK []))) : tDNewK σ H Q := h
theorem noFrz_dK (e : H a = some (.dK kvs)) : NoFrz H a := fun o u z => by rw [e] at z; cases z
theorem rd_new (d : Rd H a (.dK kvs)) (n : H p = none) {u : HO} : Rd (upd H p u) a (.dK kvs) := by
  rcases d with d | ⟨o, d⟩
  · exact .inl (look_new d n)
  · exact .inr ⟨o, look_new d n⟩
theorem same_thaw (e : H a = some (.dK kvs)) (sb : SameBut a H H') : Same H (upd H' a (.dK kvs)) := fun b u q => by
  by_cases h : b = a
  · subst h; rw [upd_same]; rw [e] at q; exact q
  · rw [upd_ne h]; exact sb b u h q
theorem sb_frz (e : H a = some (.dK kvs)) : SameBut a H (upd H a (.frz o (.dK kvs))) := fun b u h q => by rw [upd_ne h]; exact q
theorem same_put {l : Addr} {u : HO} (s : Same H H') (n : H l = none) : Same H (upd H' l u) := fun b w q => by rw [upd_ne (ne_of_none q n)]; exact s b w q
end
end My
set_option Elab.async false
set_option linter.all false
set_option maxRecDepth 100000
set_option maxHeartbeats 1000000
namespace My
open PySem PySem.Spec PyProof.Rows L2
section
variable {X : Cx}
theorem ps_comp {elt iter : Expr} {x y : Str} {px py : Pos} {ifs : List Expr} {scope : Scope} {cl : List (Str × Addr)} {pos spos : Pos} {caps : List Nat} {cn : List Str} {wi : TI} {tt : CT TT} {te : CT TE} {j : Nat} (Cp : Caps X x scope cl caps cn) (hc : X.calm = true)
    (hN : X.N.Nodup) (hy : X.N[j]? = some y) (hly : X.env.scope.names.lookup y = some .local)
    (hi : PI X (.Name x px) iter wi) (ht : ∀ C s H fp, PIfs (cxC X (x :: cn) scope cl C s H fp) ifs (tt C s H fp)) (he : ∀ C s H fp, PE (cxC X (x :: cn) scope cl C s H fp) elt (te C s H fp))
    (hsw : swapsWith (.ListComp elt [⟨.Name x px, iter, ifs, 0⟩] scope pos) (some (.Name y py)) spos.line X.env = pure true := by rfl) (hs : ∀ x, foldedSetIterable iter X.env x = pure x := by intro _; rfl) :
    PS X (.Assign [.Name y py] (.ListComp elt [⟨.Name x px, iter, ifs, 0⟩] scope pos) spos) (tAsg (tComp wi caps tt te) (gName j)) := by
  intro pins s σ H D I h
  replace h : tComp wi caps tt te σ H (fun v H1 => D.nx (σ.set j (some v)) H1) := h
  rw [exec_Assign_Name_used _ _ _ _ hsw]
  refine wpAny_bind (wpAny_standAt (wpAny_bind ?_))
  show wpAny _ X.A (do let _ ← comprehension (.ListComp elt [⟨.Name x px, iter, ifs, 0⟩] scope pos) scope X.env _ (newList []) false (eval iter X.env) (some (assign (.Name y py) X.env))) _ _ s
  refine wpAny_bind (wpAny_mono (wpAny_comprehension_free (use := some (assign (.Name y py) X.env)) (Q := fun _ s' => SP X pins D .next s') rfl hs Cp.clos Cp.kind Cp.names
    (thn (hi pins s σ H _ I h) fun v s1 h1 => thn h1 fun itv s2 h2 => ?_)) (fun _ s' hq => wpAny_pure (wpAny_pure hq)) fun _ _ e => e)
  obtain ⟨it, fp, tn, J, H2, e, I2, T, st2, f2, R⟩ := h2
  subst e
  have hacc : H2 s2.heap.objs.size = none := I2.hok.fresh (Nat.le_refl _)
  refine wpAny_newObj_type ?_
  have I3 : Inv X pins σ (upd H2 s2.heap.objs.size (.lst [])) { s2 with heap := s2.heap.push { cls := .type "list", dict := none, data := .seq ([] : List Value).toArray } } := Inv.lnew (its := []) (t' := s2.toks) I2 .nil (Nat.zero_le _)
  have lt2 : ∀ b ∈ fp, b < s2.heap.objs.size := fun b hb => let ⟨o, e, _⟩ := T.obj _ _ st2 b hb; Heap.lt_size e
  have f3 : ∀ b ∈ fp, FpOk X pins (upd H2 s2.heap.objs.size (.lst [])) b := fun b hb => ⟨by rw [upd_ne (Nat.ne_of_lt (lt2 b hb))]; exact (f2 b hb).1, (f2 b hb).2⟩
  have st3 : tn 0 (s2.heap.push { cls := .type "list", dict := none, data := .seq ([] : List Value).toArray }) := T.keep _ _ _ st2 fun b _ o e => Heap.get?_push_of_some _ e
  generalize hs3 : ({ s2 with heap := s2.heap.push { cls := .type "list", dict := none, data := .seq ([] : List Value).toArray } } : Shared) = s3 at I3 ⊢
  have st3' : tn 0 s3.heap := by rw [← hs3]; exact st3
  generalize s2.heap.objs.size = acc at hacc I3 f3 ⊢
  obtain ⟨W, ⟨m0, w0⟩, turn⟩ := R s3.heap.objs.size s3 (upd H2 acc (.lst [])) fp acc hacc
  have lt3 : ∀ b ∈ fp, b < s3.heap.objs.size := fun b hb => let ⟨o, e, _⟩ := T.obj _ _ st3' b hb; Heap.lt_size e
  clear st3 hs3
  refine wpAny_newFunctionEnv Cp.cell (by intro y hy; simp at hy) (fun h₁ hns hsb => ?_) Cp.kind
  have k1 : ∀ b o, s3.heap.get? b = some o → h₁.get? b = some o := fun b o e => hsb.extBut b o (Nat.ne_of_lt (Heap.lt_size e)) (Heap.get?_push_of_some _ e)
  have I4 : Inv (cxC X (x :: cn) scope cl s3.heap.objs.size s3 (upd H2 acc (.lst [])) fp) [] (none :: capsOf caps σ) (upd H2 acc (.lst [])) { s3 with heap := h₁, toks := s3.toks + ([] : List (Str × Value)).length } :=
    Inv.comp Cp I3 f3 lt3 hns k1
  have st4 : tn 0 h₁ := T.keep _ _ _ st3' fun b _ o e => k1 b o e
  generalize hX : cxC X (x :: cn) scope cl s3.heap.objs.size s3 (upd H2 acc (.lst [])) fp = X' at I4
  have stat : ∀ {H' : Hp}, (∀ b ∈ fp, H' b = none) → ∀ b ∈ fp, FpOk X' [] H' b := fun hn b hb => by
    subst hX
    obtain ⟨g0, g1, g2, g3, g4, g5⟩ := f3 b hb
    refine ⟨hn b hb, Nat.ne_of_lt (lt3 b hb), fun z => ?_, .inl hb, fun y c e => g4 y c (Cp.sub y c e), fun p hp => absurd (show p ∈ ([] : List (Addr × Obj)) from hp) (by simp)⟩
    rcases List.mem_cons.mp (I3.stkSub b z) with z | z
    · exact g1 z
    · exact g2 z
  have core : codeAny (model X.prog X.w) X.A (.compLoop (.ListComp elt [⟨.Name x px, iter, ifs, 0⟩] scope pos) 0 (.ref it) (.ref acc) (compEnvC scope cl s3.heap.objs.size X.env))
      (compPost (model X.prog X.w) X.A X.xe (some (assign (.Name y py) X.env)) (fun _ s' => SP X pins D .next s') (.ref acc) s3.heap.objs.size) { s3 with heap := h₁, toks := s3.toks + ([] : List (Str × Value)).length } := by
    refine codeAny_loop rfl (fun n s' => ∃ i a H', Inv X' [] (a :: capsOf caps σ) H' s' ∧ tn i s'.heap ∧ (∀ b ∈ fp, H' b = none) ∧ W i n H') (fun n s5 hI => ?_) m0 ⟨0, none, _, I4, st4, fun b hb => (f3 b hb).1, w0⟩
    obtain ⟨i, a0, H5, I5, st5, fr5, w5⟩ := hI
    show wpAny _ _ ((compTurn _ 0 _ _ _).onRaise _) _ _ s5
    refine wpAny_noted ?_
    rw [compTurn_list]
    refine wpAny_bind (wpAny_standAt (wpAny_bind ?_))
    have aX : X'.A = X.A := by subst hX; rfl
    have pX : X'.prog = X.prog := by subst hX; rfl
    have wX : X'.w = X.w := by subst hX; rfl
    have kX : X'.K = X.K := by subst hX; rfl
    have cX : X'.calm = true := by subst hX; exact hc
    have eX : X'.env = compEnvC scope cl s3.heap.objs.size X.env := by subst hX; rfl
    rcases turn i n H5 w5 with ⟨stop, qn⟩ | ⟨go, N, hN, step⟩
    · have z := T.done X' pX wX kX cX i [] s5 _ H5 (fun _ _ => False) I5 (stat fr5) st5 stop
      rw [aX] at z
      refine wpAny_mono z (fun r s6 ⟨hr, I6⟩ => ?_) fun _ _ q => q.elim
      subst hr
      subst hX
      obtain ⟨m, hm, _⟩ := id I6.loc
      have J0 : Inv X pins σ H5 s6 := Inv.uncomp I3 f3 rfl I6 (h' := s6.heap) ⟨rfl, fun _ _ => rfl⟩
      have fC : FpOk X pins H5 s3.heap.objs.size := I3.fpOk (Nat.le_refl _) I6.free
      refine wpAny_pure ?_
      show wpAny _ X.A (assign (.Name y py) X.env (.ref acc)) _ _ s6
      refine wpAny_assign_Name (store_ok2 (X := X) (v := .ref acc) J0 hN hy (.inl hly) rfl (fun s7 I7 ⟨a, sb, ha⟩ => ?_) (.inr hly))
      have nC : s3.heap.objs.size ≠ a := by
        rcases ha with rfl | ha
        · exact fC.2.1
        · exact (fC.2.2.2.2.1 y a ha).symm
      refine ⟨m, hm.sameBut sb nC, fun h' sb' => ⟨_, H5, ?_, qn⟩⟩
      exact I7.turned (t' := s7.toks) (fun b o hb e => (sb'.2 b hb).trans e) fC.1 fC.2.1 fC.2.2.2.1 fC.2.2.2.2.1 fC.2.2.2.2.2
    · have z := T.item X' pX wX kX cX i [] s5 _ H5 (fun _ _ => False) I5 (stat fr5) st5 go
      rw [aX] at z
      refine wpAny_mono z (fun r s6 ⟨u, hr, h6⟩ => ?_) fun _ _ q => q.elim
      subst hr
      refine wpAny_bind (wpAny_mono h6 (fun _ s7 ⟨v, H7, I7, r7, y7, st7, fr7⟩ => ?_) fun _ _ q => q.elim)
      have I7' := I7.pinned (stat fr7) (T.obj _ _ st7)
      have asg : wpAny (model X.prog X.w) X.A (assign (.Name x px) (compEnvC scope cl s3.heap.objs.size X.env) u) (fun _ s8 => Inv X' ([] ++ pinsAt fp s7.heap) (some v :: capsOf caps σ) H7 s8) (fun _ _ => False) s7 := by
        subst hX
        exact wpAny_assign_Name (store_ok (X := cxC X (x :: cn) scope cl s3.heap.objs.size s3 (upd H2 acc (.lst [])) fp) (i := 0) I7' Cp.nd rfl (.inl (lookup_relabel_local Cp.tg)) r7 (fun s' I' => I') (.inr (lookup_relabel_local Cp.tg)))
      refine wpAny_bind (wpAny_mono asg (fun _ s8 I8 => ?_) fun _ _ q => q.elim)
      have tst : wpAny (model X.prog X.w) X.A (forIn ifs true fun c r => if r = true then do let ok ← isTrue c (compEnvC scope cl s3.heap.objs.size X.env) (eval c (compEnvC scope cl s3.heap.objs.size X.env)); pure (ForInStep.yield ok) else pure (ForInStep.yield r))
          (TP X' ([] ++ pinsAt fp s7.heap) (some v :: capsOf caps σ) (fun b H9 => if b = true then te s3.heap.objs.size s3 (upd H2 acc (.lst [])) fp (some v :: capsOf caps σ) H9 (fun y H3 => rApp acc N y H3) else N H9)) (fun _ _ => False) s8 := by
        subst hX
        exact ht _ _ _ _ _ s8 _ H7 _ I8 (step v H7 y7)
      refine wpAny_bind (wpAny_mono tst (fun b s9 ⟨H9, I9, q9⟩ => ?_) fun _ _ q => q.elim)
      have fin : ∀ {a : Option V} {H10 : Hp} {s10 : Shared}, Inv X' ([] ++ pinsAt fp s7.heap) (a :: capsOf caps σ) H10 s10 → N H10 → ∃ m', m' < n ∧ ∃ i a H', Inv X' [] (a :: capsOf caps σ) H' s10 ∧ tn i s10.heap ∧ (∀ b ∈ fp, H' b = none) ∧ W i m' H' := fun {a H10 s10} I10 n10 =>
        let ⟨m', hm, w10⟩ := hN _ n10
        ⟨m', hm, i + 1, a, H10, I10.unpinned, T.keep _ _ _ st7 fun b hb o e => (I10.pin (b, o) (List.mem_append_right _ (List.mem_append_right _ (mem_pinsAt hb e)))).1, fun b hb => by
          obtain ⟨o, e, d⟩ := T.obj _ _ st7 b hb
          exact (I10.pin (b, o) (List.mem_append_right _ (List.mem_append_right _ (mem_pinsAt hb e)))).2.1, w10⟩
      cases b with
      | false => exact wpAny_pure ⟨rfl, fin I9 q9⟩
      | true =>
        have elt' : wpAny (model X.prog X.w) X.A (eval elt (compEnvC scope cl s3.heap.objs.size X.env)) (EP X' ([] ++ pinsAt fp s7.heap) (some v :: capsOf caps σ) (fun y H3 => rApp acc N y H3)) (fun _ _ => False) s9 := by
          subst hX
          exact he _ _ _ _ _ s9 _ H9 _ I9 q9
        refine wpAny_bind (wpAny_bind (wpAny_mono elt' (fun y s10 ⟨w, H10, I10, r10, ys, ha, hz, q10⟩ => ?_) fun _ _ q => q.elim))
        have app : wpAny (model X.prog X.w) X.A (call (.builtin "list.append") [.ref acc, y]) (EP X' ([] ++ pinsAt fp s7.heap) (some v :: capsOf caps σ) fun _ H11 => H11 = upd H10 acc (.lst (ys ++ [w]))) (fun _ _ => False) s10 := by
          subst hX
          exact mt_append (X := cxC X (x :: cn) scope cl s3.heap.objs.size s3 (upd H2 acc (.lst [])) fp) _ s10 _ H10 (.ref acc) [w] (.ref acc) [y] _ I10 rfl (.cons r10 .nil) ⟨acc, ys, w, rfl, rfl, ha, hz, rfl⟩
        refine wpAny_bind (wpAny_mono app (fun _ s11 ⟨_, H11, I11, _, e11⟩ => ?_) fun _ _ q => q.elim)
        subst e11
        exact wpAny_pure (wpAny_pure ⟨rfl, fin I11 q10⟩)
  exact codeAny_compStart_list core (T.self _ 0 _ _ _ st4 core)
end
end My
set_option Elab.async false
set_option linter.all false
set_option maxRecDepth 100000
set_option maxHeartbeats 1000000
namespace My
open PySem PySem.Spec PyProof.Rows L2
section
variable {X : Cx} {pins : List (Addr × Obj)} {σ : L2.St} {H : Hp} {s : Shared} {h' : Heap}
end
section
variable {K : PySem.W.Frag} {σ : L2.St} {H : Hp} {D : Ends} {g : TG} {tb : TS} {ta : TA} {l1 l2 : Addr} {xs ys : List V}
end
end My
set_option Elab.async false
set_option linter.all false
set_option maxRecDepth 100000
set_option maxHeartbeats 1000000
namespace My
open PySem PySem.Spec PyProof.Rows L2
section
variable {prog : Program} {w : World} {A : Around} {E : Value → Shared → Prop} {s : Shared}
end
theorem vals_pairs : ∀ {ss : List Str} {us : List Value}, Vals (ss.map V.str) us → ∃ l : List (Str × Tok), us = strValues l ∧ l.map (·.1) = ss
  | [], _, r => by cases r; exact ⟨[], rfl, rfl⟩
  | x :: ss, _, r => by
    cases r with
    | cons h t =>
      obtain ⟨k, rfl⟩ := h
      obtain ⟨l, rfl, e⟩ := vals_pairs t
      exact ⟨(x, k) :: l, rfl, by rw [List.map_cons, e]⟩
theorem foldl_len (k : Nat) : ∀ (ss : List Str) (a : Nat), ss.foldl (fun n x => n + x.length + k) a = a + (ss.map (·.length)).sum + ss.length * k
  | [], a => by simp
  | x :: ss, a => by
    rw [List.foldl_cons, foldl_len k ss]
    simp only [List.map_cons, List.sum_cons, List.length_cons, Nat.add_mul]
    omega
section
variable {X : Cx}
end
section
variable {K : PySem.W.Frag} {σ : L2.St} {H : Hp} {Q : VK} {D : Ends} {td ty tv t1 t2 : TE} {l : Addr} {xs : List V} {ss : List Str} {k : Nat} {v : V} {z : Str} {i j : Int}
theorem r_tyS {B : Prop} (q : B) : tyV K "str" (.str z) H ∧ B := ⟨rfl, q⟩
end
end My
set_option Elab.async false
set_option linter.all false
set_option maxRecDepth 100000
set_option maxHeartbeats 1000000
namespace My
open PySem PySem.Spec PyProof.Rows L2
section
variable {K : PySem.W.Frag} {σ : L2.St} {H : Hp} {Q : VK} {D : Ends} {ta tv : TE} {t : TA} {a C dx : Addr} {fs : List (Str × V)} {f m : Str} {v y : V} {sp : Sp} {dvs : List V} {E : XK}
end
structure IsC (K : PySem.W.Frag) (C : Addr) : Prop where
  ha : PySem.W.findIn K (.ref C) "__class__" = some (some (.builtin "object.__class__"))
  hn : PySem.W.specialIn K (.builtin "object.__class__") "__get__" = some (some (.builtin "getset_descriptor.__get__"))
  htk : PySem.W.takesIn K (.builtin "object.__class__") = some true
  hm : PySem.W.mroIn K C (.type "object") = some true
end My
set_option Elab.async false
set_option linter.all false
set_option maxRecDepth 100000
set_option maxHeartbeats 1000000
namespace My
open PySem PySem.Spec PyProof.Rows L2
section
variable {X : Cx} {k : Nat} {f C : Addr} {fd : FuncData} {ps : List Str} {sp : Sp} {dvs : List V} {ds : List Value} {W : L2.St → XK} {x m : Str} {p pos apos : Pos} {e o : Expr} {es : List Expr} {ta : TE} {t : TA}
end
structure FunD (K : PySem.W.Frag) (x qual : Str) (st : Stmt) (f : Addr) (fd : FuncData) (T : Addr) (items : Array Value) : Prop where
  ex : ∃ (oc : Value) (od : Option Addr) (kV doc pm : Value) (an : Option Addr) (cdv ct : Value) (osl : Array (Option Value)),
    fd = PySem.W.fnOf x qual (defArgs st) (defBody st) (defScope st) (.ref T) kV doc pm an cdv ct ∧ K.lookup f = some ⟨oc, od, .func fd, osl⟩ ∧ PySem.W.codeIn K cdv qual = true
  kp : PySem.W.keepIn K (.ref f) = true
  tup : ∃ (o : Obj) (n : Nat), K.lookup T = some o ∧ o.data = .seq items n
section
variable {P : Program} {w : World} {K : PySem.W.Frag} {mg : Str → Option Value} {base : Heap} {x qual : Str} {st : Stmt} {f T : Addr} {fd : FuncData} {N ps : List Str} {k : Nat} {sp : Sp} {items : Array Value}
end
section
variable {K : PySem.W.Frag} {σ : L2.St} {H : Hp} {Q : VK} {ta : TE} {t : TA} {a C dx : Addr} {fs : List (Str × V)} {m : Str} {sp : Sp} {dvs : List V} {W : L2.St → XK}
end
end My
set_option Elab.async false
set_option linter.all false
set_option maxRecDepth 100000
set_option maxHeartbeats 1000000
namespace My
open PySem PySem.Spec PyProof.Rows L2
section
variable {prog : Program} {w : World} {A : Around} {E : Value → Shared → Prop} {s : Shared} {it l : Addr} {its : Array Value}
end
section
variable {X : Cx}
end
section
variable {K : PySem.W.Frag} {σ : L2.St} {H : Hp} {Q : VK} {ta : TA} {p : Addr} {ys : List V}
end
end My
set_option Elab.async false
set_option linter.all false
set_option maxRecDepth 100000
set_option maxHeartbeats 1000000
namespace My
open PySem PySem.Spec PyProof.Rows L2
section
variable {prog : Program} {w : World} {A : Around} {E : Value → Shared → Prop}
end
section
variable {X : Cx} {pos : Pos}
end
end My
set_option Elab.async false
set_option linter.all false
set_option maxRecDepth 100000
set_option maxHeartbeats 1000000
namespace My
open PySem PySem.Spec PyProof.Rows L2
end My
set_option Elab.async false
set_option linter.all false
set_option maxRecDepth 100000
set_option maxHeartbeats 1000000
namespace My
open PySem PySem.Spec PyProof.Rows L2
section
variable {P : Program} {w : World} {K : PySem.W.Frag} {mg : Str → Option Value} {base : Heap} {x qual : Str} {st : Stmt} {f T : Addr} {fd : FuncData} {N ps : List Str} {k : Nat} {sp : Sp} {items : Array Value}
end
end My
set_option Elab.async false
set_option linter.all false
set_option maxRecDepth 100000
set_option maxHeartbeats 1000000
namespace My
open PySem PySem.Spec PyProof.Rows L2
section
variable {K : PySem.W.Frag} {σ : L2.St} {H H' : Hp} {Q : VK} {D : Ends} {a h : Addr} {hs : List (Str × Addr)} {z : Str}
end
end My
set_option Elab.async false
set_option linter.all false
set_option maxRecDepth 100000
set_option maxHeartbeats 1000000
set_option exponentiation.threshold 2000
namespace My
open PySem PySem.Spec PyProof.Rows L2
def shw (i : Int) : Str := Str.ofString (toString i)
theorem shw_log {i : Int} (h : i.natAbs < 2 ^ 600) : i.natAbs.log2 < 1920 := by
  by_cases z : i.natAbs = 0
  · rw [z]; decide
  · exact Nat.lt_trans ((Nat.log2_lt z).mpr h) (by decide)
theorem shw_len {i : Int} (h : i.natAbs < 2 ^ 600) : (shw i).length ≤ 2000 := by
  have e := int_text_length_le (k := 1920) (by decide) (shw_log h)
  unfold shw
  rw [PySem.ofString_length]
  omega
theorem app_len (a b : Str) : (a ++ b).length = a.length + b.length := PySem.Str.length_append ..
theorem app_assoc (a b c : Str) : a ++ b ++ c = a ++ (b ++ c) := by
  have e : (a ++ b ++ c).cps = (a ++ (b ++ c)).cps := by
    rw [Str.cps_append, Str.cps_append, Str.cps_append, Str.cps_append, Array.append_assoc]
  exact congrArg Str.mk e
theorem app_nil (d : Str) : Str.empty ++ d = d := by
  have e : (Str.empty ++ d).cps = d.cps := by
    rw [Str.cps_append]
    simp [Str.empty]
  exact congrArg Str.mk e
def tFmtI (te : TE) : TE := fun σ H Q => te σ H fun v H1 => ∃ i, v = .int i ∧ i.natAbs < 2 ^ 600 ∧ Q (.str (shw i)) H1
def rStr : List V → Hp → VK → Prop := fun xs H Q => ∃ i, xs = [.int i] ∧ i.natAbs < 2 ^ 600 ∧ Q (.str (shw i)) H
section
variable {X : Cx}
theorem pe_fmtI {e : Expr} {pos : Pos} {te : TE} (he : PE X e te) : PE X (.FormattedValue e (-1) none pos) (tFmtI te) := by
  intro pins s σ H Q I h
  refine FormattedValue_plain (thn (he pins s σ H _ I h) fun u s1 ⟨v, H1, I1, r, i, ev, hz, q⟩ => ?_)
  subst ev
  obtain ⟨t, rfl⟩ := r
  exact wpAny_formatField_int (shw_log hz) ⟨.str (shw i), H1, I1.tok _, ⟨_, rfl⟩, q⟩
theorem call_strI : CallR X (.type "str") rStr := by
  intro pins s σ H xs us Q I r h
  obtain ⟨i, rfl, hz, q⟩ := h
  exact call_str_int pins s σ H [.int i] us Q I r ⟨i, rfl, shw_log hz, q⟩
end
section
variable {σ : L2.St} {H : Hp} {Q : VK} {te : TE} {i : Int}
theorem r_fmtI (h : te σ H fun v H1 => ∃ i, v = .int i ∧ i.natAbs < 2 ^ 600 ∧ Q (.str (shw i)) H1) : tFmtI te σ H Q := h
theorem r_str (hz : i.natAbs < 2 ^ 600) (h : Q (.str (shw i)) H) : rStr [.int i] H Q := ⟨i, rfl, hz, h⟩
end
def tLstF (K : PySem.W.Frag) (ta : TA) : TE := fun σ H Q => ta σ H fun xs H1 => xs.length ≤ sizeLine ∧ ∀ p, H1 p = none → K.lookup p = none → Q (.ref p) (upd H1 p (.lst xs))
theorem pe_lstF {X : Cx} {es : List Expr} {t : TA} {pos : Pos} (h : PA X es t) : PE X (.List es pos) (tLstF X.K t) := by
  intro pins s σ H Q I hq
  refine wpAny_List_spliced (thn (h pos pins s σ H _ I hq) fun us s1 ⟨xs, H1, I1, r, z, q⟩ => ⟨r.length ▸ z, ?_⟩)
  have kn : X.K.lookup s1.heap.objs.size = none := by
    cases e : X.K.lookup s1.heap.objs.size with
    | none => rfl
    | some o => exact absurd (Heap.lt_size (I1.kIn _ o e)) (Nat.lt_irrefl _)
  exact ⟨.ref _, _, I1.laid (o := .lst xs) (t' := s1.toks) (fun b u e => Heap.get?_push_of_some _ e) (Nat.le_refl _) ⟨z, us, 0, r, Heap.get?_push_size _ rfl⟩, rfl, q _ (I1.hok.fresh (Nat.le_refl _)) kn⟩
theorem r_lstF {K : PySem.W.Frag} {σ : L2.St} {H : Hp} {Q : VK} {ta : TA} (h : ta σ H fun xs H1 => xs.length ≤ sizeLine ∧ ∀ p, H1 p = none → K.lookup p = none → Q (.ref p) (upd H1 p (.lst xs))) : tLstF K ta σ H Q := h
theorem sqL_ne {K : PySem.W.Frag} {H : Hp} {a p : Addr} {xs : List V} (h : SqL K H a xs) (n : H p = none) (k : K.lookup p = none) : a ≠ p := fun z => by
  subst z
  rcases h with (e | ⟨o, e⟩) | ⟨o, _, _, e, _⟩
  · rw [n] at e; cases e
  · rw [n] at e; cases e
  · rw [k] at e; cases e
end My
set_option Elab.async false
set_option linter.all false
set_option maxRecDepth 100000
set_option maxHeartbeats 3200000
namespace My
open PySem PySem.Spec PyProof.Rows L2
section
variable {P : Program} {w : World} {A : Around}
end
section
variable {X : Cx}
end
section
variable {P : Program} {w : World} {K : PySem.W.Frag} {H : Hp} {Q : VK}
end
end My
set_option Elab.async false
set_option linter.all false
set_option maxRecDepth 100000
set_option maxHeartbeats 1000000
namespace My
open PySem PySem.Spec PyProof.Rows L2
section
variable {X : Cx}
end
section
variable {σ : L2.St} {H : Hp} {D : Ends} {g : TG} {tb : TS} {tl : TE} {a : Addr} {o : Obj} {kvs : List (Key × V)} {Q : VK}
end
section
variable {X : Cx}
end
end My
set_option Elab.async false
set_option linter.all false
set_option maxRecDepth 100000
set_option maxHeartbeats 1000000
namespace My
open PySem PySem.Spec PyProof.Rows L2
section
variable {X : Cx}
end
section
variable {σ : L2.St} {H : Hp} {tl : TE} {a : Addr} {kvs : List (Key × V)} {Q : VK}
end
end My
set_option Elab.async false
set_option linter.all false
set_option maxRecDepth 100000
namespace My
open PySem PySem.Spec PyProof.Rows L2 PyProof
section
variable {X : Cx}
end
end My
set_option Elab.async false
set_option linter.all false
set_option maxRecDepth 100000
namespace My
open PySem PySem.Spec PyProof.Rows L2
section
variable {X : Cx}
end
end My
set_option Elab.async false
set_option linter.all false
set_option maxRecDepth 100000
namespace My
open PySem PySem.Spec PyProof.Rows L2
section
variable {X : Cx}
inductive OddV (K : PySem.W.Frag) (H : Hp) : V → Prop
  | non : OddV K H .non
  | bl (b : Bool) : OddV K H (.bl b)
  | int (i : Int) : OddV K H (.int i)
  | lst {a : Addr} {xs : List V} (h : SqL K H a xs) : OddV K H (.ref a)
  | tup {a : Addr} {xs : List V} (h : SqT K H a xs) : OddV K H (.ref a)
  | dct {a : Addr} {kvs : List (Key × V)} (h : H a = some (.dK kvs)) : OddV K H (.ref a)
end
section
variable {K : PySem.W.Frag} {H : Hp} {Q : VK}
theorem inV_str {y : Str} : ∀ nm : List Str, inV (.str y) (nm.map V.str) = decide (y ∈ nm)
  | [] => rfl
  | z :: r => by
    have ih := inV_str (y := y) r
    unfold inV at ih ⊢
    rw [List.map_cons, List.any_cons, ih]
    by_cases c : z = y
    · subst c
      rw [show eqV (V.str z) (V.str z) = true from beq_self_eq_true z, decide_eq_true (List.mem_cons_self ..)]
      rfl
    · rw [show eqV (V.str z) (V.str y) = false from beq_false_of_ne c, Bool.false_or]
      by_cases m : y ∈ r
      · rw [decide_eq_true m, decide_eq_true (List.mem_cons_of_mem _ m)]
      · rw [decide_eq_false m, decide_eq_false fun h => (List.mem_cons.mp h).elim (fun e => c e.symm) m]
theorem flat_strs (nm : List Str) : (nm.map V.str).all flatV = true := by
  rw [List.all_map]
  exact List.all_eq_true.mpr fun _ _ => rfl
theorem r_inSs {p : Addr} {y : Str} {nm : List Str} (h : SqL K H p (nm.map V.str)) (q : Q (.bl (decide (y ∈ nm))) H) : rIn K false (.str y) (.ref p) H Q := ⟨p, _, rfl, .inl h, rfl, flat_strs nm, by rw [inV_str]; exact q⟩
end
end My
set_option Elab.async false
set_option linter.all false
set_option maxRecDepth 100000
set_option maxHeartbeats 1000000
namespace My
open PySem PySem.Spec PyProof.Rows L2
section
variable {X : Cx} {tg : Expr}
end
section
variable {K : PySem.W.Frag} {σ : L2.St} {H : Hp} {D : Ends} {Q : VK} {g : TG} {tb : TS} {ta : TA} {tl : TE}
end
end My
set_option Elab.async false
set_option linter.all false
set_option maxRecDepth 100000
set_option maxHeartbeats 1000000
namespace My
open PySem PySem.Spec PyProof.Rows L2
def rSumL (K : PySem.W.Frag) : List V → Hp → VK → Prop := fun xs H Q => ∃ (p : Addr) (ns : List Int), xs = [.ref p] ∧ SqL K H p (ns.map V.int) ∧ Q (.int ns.sum) H
section
variable {X : Cx}
theorem preSum_list (ns : List Int) : ∀ k, k ≤ ns.length → preSum (fun i => (ns[i]?).getD 0) k = (ns.take k).sum
  | 0, _ => by simp [preSum]
  | k + 1, h => by
    have hk : k < ns.length := by omega
    show preSum _ k + (ns[k]?).getD 0 = _
    rw [preSum_list ns k (by omega), List.take_add_one, List.getElem?_eq_getElem hk, List.sum_append]
    simp
theorem call_sumL (hc : X.calm = true) : CallR X (.builtin "sum") (rSumL X.K) := by
  intro pins s σ H xs us Q I hv h
  obtain ⟨p, ns, rfl, hS, q⟩ := h
  obtain ⟨u, rfl, ru⟩ := hv.one
  cases ru
  obtain ⟨its, rv, pl, hz⟩ := I.list hS
  have hl := pl.isList
  have hlt : p < s.heap.objs.size := by obtain ⟨_, e, _⟩ := hl; exact Heap.lt_size e
  have hlen := rv.length
  rw [List.length_map] at hlen
  refine call_sum_walkG (wpAny_pyIter_list hl ?_)
  refine ⟨s.heap.objs.size, [s.heap.objs.size, p], [s.heap.objs.size], its.toArray.size, _, _, fun i => (ns[i]?).getD 0, rfl, Walks.list (A := X.A.in1) (I.ok.hd hc) _ p (Nat.ne_of_lt hlt) its.toArray, ⟨⟨_, Heap.get?_push_size _ rfl, rfl, rfl⟩, hl.push _⟩, fun b hb => ?_, fun i v hP => ?_, fun h' tk t' hk => ?_⟩
  · have e : (s.heap.push { cls := .type "list_iterator", data := .fields #[.ref p, .int 0 0] }).objs.size = s.heap.objs.size + 1 := by simp [Heap.push]
    rcases List.mem_cons.mp hb with rfl | hb
    · show _ < (s.heap.push _).objs.size
      rw [e]; omega
    · rw [List.mem_singleton.mp hb]
      show _ < (s.heap.push _).objs.size
      rw [e]; exact Nat.lt_succ_of_lt hlt
  · have hi : its[i]? = some v := by simpa using hP
    have hb : i < ns.length := by rw [hlen]; exact (List.getElem?_eq_some_iff.mp hi).1
    have hx : (ns.map V.int)[i]? = some (.int ns[i]) := by rw [List.getElem?_map, List.getElem?_eq_getElem hb]; rfl
    obtain ⟨u, e, r⟩ := rv.get hx
    rw [hi] at e
    cases e
    obtain ⟨t, rfl⟩ := r
    exact ⟨t, by show Value.int ns[i] t = Value.int ((ns[i]?).getD 0) t; rw [List.getElem?_eq_getElem hb]; rfl⟩
  · have e : preSum (fun i => (ns[i]?).getD 0) its.toArray.size = ns.sum := by
      rw [List.size_toArray, ← hlen, preSum_list ns _ (Nat.le_refl _), List.take_length]
    rw [e]
    exact ⟨.int _, H, I.kept (t' := tk) (fun b o eb => hk b o (fun hm => by have z := Heap.lt_size eb; rw [List.mem_singleton.mp hm] at z; exact Nat.lt_irrefl _ z) (Heap.get?_push_of_some _ eb)), ⟨_, rfl⟩, q⟩
end
section
variable {K : PySem.W.Frag} {H : Hp} {Q : VK} {p : Addr} {ns : List Int}
theorem r_sumL (hS : SqL K H p (ns.map V.int)) (h : Q (.int ns.sum) H) : rSumL K [.ref p] H Q := ⟨p, ns, rfl, hS, h⟩
end
end My
set_option Elab.async false
set_option linter.all false
set_option maxRecDepth 100000
set_option maxHeartbeats 1000000
namespace My
open PySem PySem.Spec PyProof.Rows L2
section
variable {X : Cx} {pins : List (Addr × Obj)} {σ : L2.St} {H : Hp} {s : Shared}
end
section
variable {X : Cx}
end
section
variable {K : PySem.W.Frag} {σ : L2.St} {H : Hp} {Q : VK}
end
end My
set_option Elab.async false
set_option linter.all false
set_option maxRecDepth 100000
set_option maxHeartbeats 1000000
namespace My
open PySem PySem.Spec PyProof.Rows L2
def XB (X : Cx) (E : XK) (e : Value) (s' : Shared) : Prop := ∃ (a : Addr) (C : Value) (d : Option Addr) (σ' : L2.St) (H' : Hp), e = .ref a ∧ Inv X [] σ' H' s' ∧ E C d H' ∧
  ∃ (T : Addr) (fl : Value) (σ1 : L2.St) (H1 : Hp) (s1 : Shared), Inv X [] σ1 H1 s1 ∧ s1.heap.get? a = none ∧ s1.heap.get? T = none ∧ H' a = none ∧ H' T = none ∧ XTr s'.heap a C d fl T
abbrev xb (X : Cx) (E : XK) : Cx := X.wish (XB X E)
section
variable {X : Cx} {E : XK} {k : Nat} {f : Addr} {fd : FuncData} {ps : List Str} {sp : Sp} {dvs : List V} {ds : List Value} {x : Str} {p pos : Pos} {e : Expr} {es : List Expr} {t : TA}
theorem run_fnB {pins : List (Addr × Obj)} {σ : L2.St} {H : Hp} {s : Shared} {Q : VK} {us : List Value} {vs : List V} (F : FnOk X.prog X.w X.K X.mg X.base (CX1 X.prog X.w) k f fd ps sp) (hr : Room k X.A) (hb : Binds X.K fd ps ds) (hd : Vals dvs ds)
    (I : Inv (xb X E) pins σ H s) (r : Vals vs us) (h : sp (vs ++ dvs) H Q E) : wpAny (model X.prog X.w) X.A (call (.ref f) us) (EP (xb X E) pins σ Q) (XB X E) s := by
  have r2 : Vals (vs ++ dvs) (us ++ ds) := r.append hd
  have hl : (us ++ ds).length = ps.length := by rw [← r2.length]; exact F.len _ _ _ _ h
  refine wpAny_call (codeAny_mono (F.run X.A X.stack s H ⟨us, []⟩ (us ++ ds) (vs ++ dvs) Q E hr I.env0 (hb s us I.kIn hl) r2 h) fun r s' hq => ?_)
  match r, hq with
  | .error e, hq =>
    obtain ⟨a, C, d, H', rfl, os, bare, un, hok, la, na, ⟨T, lT, nT, x⟩, w⟩ := hq
    have J : Inv (xb X E) pins σ H' s' := I.call' (ch := []) os un hok bare (fun b z => absurd z (by simp))
    exact ⟨a, C, d, σ, H', rfl, J.unwish.pins_of (fun _ z => nomatch z), w, T, .none, σ, H, s, I.unwish.pins_of (fun _ z => nomatch z), la, lT, na, nT, x⟩
  | .ok (.ret u), hq => exact I.after hq
  | .ok .next, hq => exact False.elim hq
  | .ok .brk, hq => exact False.elim hq
  | .ok .cont, hq => exact False.elim hq
theorem pe_callB2 (F : FnOk X.prog X.w X.K X.mg X.base (CX1 X.prog X.w) k f fd ps sp) (hr : Room k X.A) (hg : Gl (xb X E) x) (hm : X.mg x = some (.ref f)) (hk : PySem.W.keepIn X.K (.ref f) = true) (hb : Binds X.K fd ps ds) (hd : Vals dvs ds)
    (ha : PA (xb X E) (e :: es) t) (hdb : (x == ("__debug__" : Str)) = false := by decide) (he : starEach (e :: es) X.env = (false, eval e X.env) :: starEach es X.env := by rfl) (hpl : (backTo pos (starEach es X.env)).any (·.1) = false := by rfl) :
    PE (xb X E) (.Call (.Name x p) (e :: es) [] pos) (tCallX sp dvs (fun _ => E) t) := by
  intro pins s σ H Q I h
  refine wpAny_Call_Name_kw (ld_glob I hg hm ?_ hdb)
  refine PySem.W.callWith_K (h₀ := X.base) I.ok.mod.kin hk (thn (ha pos pins s σ H _ I h) fun us s1 ⟨vs, H1, I1, r, q⟩ => ⟨I1.kIn, ?_⟩) he hpl
  exact run_fnB F hr hb hd I1 r q
end
section
variable {X : Cx} {pins : List (Addr × Obj)} {σ : L2.St} {H : Hp} {s : Shared}
theorem block_raise {N : List Str} {scope : Scope} {cl : List (Str × Addr)} {C0 : Addr} {fp : List Addr} (hst : X.stack = X.env :: X.outer) (hf : X.env.frame = some X.env.locals) (hex : X.ex = []) (I : Inv X pins σ H s) (hfp : ∀ b ∈ fp, FpOk X pins H b) (hC : C0 = s.heap.objs.size)
    {E : XK} (hx : Xes X fun _ => E) {Q : Value → Shared → Prop} {acc e : Value} {s' : Shared} (h : XB (cxC X N scope cl C0 s H fp) E e s') :
    notedBy (model X.prog X.w) X.A (compEnvC scope cl C0 X.env) (fun e s' => compPost (model X.prog X.w) X.A X.xe none Q acc C0 (.error e) s') e s' := by
  obtain ⟨a, C, d, σ', H', rfl, J, w, T, fl, σ1, H1, s1, J1, la, lT, na, nT, x⟩ := h
  have O : Inv X pins σ H' s' := Inv.uncomp I hfp hC J ⟨rfl, fun _ _ => rfl⟩
  have O1 : Inv X pins σ H1 s1 := Inv.uncomp I hfp hC J1 ⟨rfl, fun _ _ => rfl⟩
  have pn : ∀ b, s1.heap.get? b = none → ∀ p ∈ X.pn ++ pins, p.1 ≠ b := fun b lb p hp z => by
    have w := (O1.pin p hp).1
    rw [z, lb] at w
    cases w
  obtain ⟨m, ⟨oC, es, ep, hoC, hdC, hsk, hnf⟩, _⟩ := id J.loc
  have hoC : s'.heap.get? C0 = some oC := hoC
  obtain ⟨m1, ⟨oC1, _, _, hoC1, _⟩, _⟩ := id J1.loc
  have hoC1 : s1.heap.get? C0 = some oC1 := hoC1
  have nC : ∀ b, s1.heap.get? b = none → C0 ≠ b := fun b lb z => by rw [z, lb] at hoC1; cases hoC1
  have fC : FpOk X pins H' C0 := I.fpOk (by rw [hC]; exact Nat.le_refl _) J.free
  obtain ⟨g0, g1, g2, g3, g4, g5⟩ := id fC
  have P : Inv X (pins ++ [(C0, oC)]) σ H' s' := O.pins_of fun p hp => by
    rcases List.mem_append.mp hp with z | z
    · exact O.pin p (List.mem_append_right _ z)
    · rw [List.mem_singleton.mp z]
      exact ⟨hoC, g0, g1, g2, fun v z => by rw [hdC] at z; cases z⟩
  have pn2 : ∀ b, s1.heap.get? b = none → ∀ p ∈ X.pn ++ (pins ++ [(C0, oC)]), p.1 ≠ b := fun b lb p hp => by
    rw [← List.append_assoc] at hp
    rcases List.mem_append.mp hp with z | z
    · exact pn b lb p z
    · rw [List.mem_singleton.mp z]; exact nC b lb
  obtain ⟨oe, vs, oT, ts, he, hc, hdd, hd, h1, hTe, hT, hdT, h3⟩ := id x
  have xin : XIn X (pins ++ [(C0, oC)]) H' s'.heap a C d := ⟨⟨new_of O1 hex la, na, pn2 a la, ⟨oe, vs, he, hd⟩⟩, .inr ⟨T, ⟨new_of O1 hex lT, nT, pn2 T lT, ⟨oT, ts, hT, hdT⟩⟩, fl, x⟩⟩
  show wpAny _ _ (noteFrame (.ref a) X.env) _ _ s'
  refine note_x P P.ok.frames hst hf xin fun s2 I2 x2 => ?_
  have hC2 : s2.heap.get? C0 = some oC := (I2.pin (C0, oC) (List.mem_append_right _ (List.mem_append_right _ (List.mem_singleton.mpr rfl)))).1
  refine ⟨m, ⟨oC, es, ep, hC2, hdC, hsk, hnf⟩, fun h' sb cenv _ => ?_⟩
  obtain ⟨r2, T2, rT2, oe2, vs2, oT2, ts2, he2, hc2, hdd2, hd2, h12, hTe2, hT2, hdT2, h32⟩ := x2
  have ne1 : a ≠ C0 := (nC a la).symm
  have ne2 : T2 ≠ C0 := fun z => rT2.pin (C0, oC) (List.mem_append_right _ (List.mem_append_right _ (List.mem_singleton.mpr rfl))) z.symm
  have I3 : Inv X pins σ H' { s2 with heap := h' } := I2.unpinned.turned (t' := s2.toks) (fun b o hb e => (sb.2 b hb).trans e) g0 g1 g3 g4 g5
  have he3 : h'.get? a = some oe2 := (sb.2 a ne1).trans he2
  have hT3 : h'.get? T2 = some oT2 := (sb.2 T2 ne2).trans hT2
  have lessP : ∀ {b : Addr}, (∀ p ∈ X.pn ++ (pins ++ [(C0, oC)]), p.1 ≠ b) → ∀ p ∈ X.pn ++ pins, p.1 ≠ b := fun {b} hh p hp => hh p (by
    rcases List.mem_append.mp hp with z | z
    · exact List.mem_append_left _ z
    · exact List.mem_append_right _ (List.mem_append_left _ z))
  have xh : XHeld X pins H' h' a C d (rawInt X.env.locals) := ⟨⟨r2.nw, r2.un, lessP r2.pin, ⟨oe2, vs2, he3, hd2⟩⟩, T2, ⟨rT2.nw, rT2.un, lessP rT2.pin, ⟨oT2, ts2, hT3, hdT2⟩⟩, oe2, vs2, oT2, ts2, he3, hc2, hdd2, hd2, h12, hTe2, hT3, hdT2, h32⟩
  unfold PySem.passOn
  refine wpAny_bind (wpAny_field he3 hd2 h12 ?_)
  have fin : wpAny (model X.prog X.w) X.A (do setFlight (.ref a) cenv.frame; throw (.ref a) : Sem Value) (fun _ _ => False) X.xe { s2 with heap := h' } :=
    wpAny_bind (flight_g cenv.frame I3 xh fun s4 I4 x4 => wpAny_throw (hx pins σ H' s4 a C d I4 x4.xin w))
  first
    | (rw [if_neg (show ¬ ((Value.ref T2 == Value.none) = true) from by simp)]; exact fin)
    | (rw [if_neg (show ¬ ((Value.ref T2 == Value.none) = true) from by simp)]; exact wpAny_bind (wpAny_pure fin))
    | (refine wpAny_bind ?_; rw [if_neg (show ¬ ((Value.ref T2 == Value.none) = true) from by simp)]; exact wpAny_pure fin)
end
section
variable {X : Cx}
theorem pe_compX {E : XK} {elt iter : Expr} {x : Str} {px : Pos} {ifs : List Expr} {scope : Scope} {cl : List (Str × Addr)} {pos : Pos} {caps : List Nat} {cn : List Str} {wi : TI} {tt : CT TT} {te : CT TE} (hst : X.stack = X.env :: X.outer) (hf : X.env.frame = some X.env.locals) (hex : X.ex = []) (hx : Xes X fun _ => E) (Cp : Caps X x scope cl caps cn) (hc : X.calm = true)
    (hi : PI X (.Name x px) iter wi) (ht : ∀ C s H fp, PIfs (cxC X (x :: cn) scope cl C s H fp) ifs (tt C s H fp)) (he : ∀ C s H fp, PE (xb (cxC X (x :: cn) scope cl C s H fp) E) elt (te C s H fp))
    (hs : ∀ x, foldedSetIterable iter X.env x = pure x := by intro _; rfl) :
    PE X (.ListComp elt [⟨.Name x px, iter, ifs, 0⟩] scope pos) (tComp wi caps tt te) := by
  intro pins s σ H Q I h
  rw [eval_ListComp]
  refine wpAny_comprehension_free (use := none) rfl hs Cp.clos Cp.kind Cp.names (thn (hi pins s σ H _ I h) fun v s1 h1 => thn h1 fun itv s2 h2 => ?_)
  obtain ⟨it, fp, tn, J, H2, e, I2, T, st2, f2, R⟩ := h2
  subst e
  have hacc : H2 s2.heap.objs.size = none := I2.hok.fresh (Nat.le_refl _)
  refine wpAny_newObj_type ?_
  have I3 : Inv X pins σ (upd H2 s2.heap.objs.size (.lst [])) { s2 with heap := s2.heap.push { cls := .type "list", dict := none, data := .seq ([] : List Value).toArray } } := Inv.lnew (its := []) (t' := s2.toks) I2 .nil (Nat.zero_le _)
  have lt2 : ∀ b ∈ fp, b < s2.heap.objs.size := fun b hb => let ⟨o, e, _⟩ := T.obj _ _ st2 b hb; Heap.lt_size e
  have f3 : ∀ b ∈ fp, FpOk X pins (upd H2 s2.heap.objs.size (.lst [])) b := fun b hb => ⟨by rw [upd_ne (Nat.ne_of_lt (lt2 b hb))]; exact (f2 b hb).1, (f2 b hb).2⟩
  have st3 : tn 0 (s2.heap.push { cls := .type "list", dict := none, data := .seq ([] : List Value).toArray }) := T.keep _ _ _ st2 fun b _ o e => Heap.get?_push_of_some _ e
  generalize hs3 : ({ s2 with heap := s2.heap.push { cls := .type "list", dict := none, data := .seq ([] : List Value).toArray } } : Shared) = s3 at I3 ⊢
  have st3' : tn 0 s3.heap := by rw [← hs3]; exact st3
  generalize s2.heap.objs.size = acc at hacc I3 f3 ⊢
  obtain ⟨W, ⟨m0, w0⟩, turn⟩ := R s3.heap.objs.size s3 (upd H2 acc (.lst [])) fp acc hacc
  have lt3 : ∀ b ∈ fp, b < s3.heap.objs.size := fun b hb => let ⟨o, e, _⟩ := T.obj _ _ st3' b hb; Heap.lt_size e
  clear st3 hs3
  refine wpAny_newFunctionEnv Cp.cell (by intro y hy; simp at hy) (fun h₁ hns hsb => ?_) Cp.kind
  have k1 : ∀ b o, s3.heap.get? b = some o → h₁.get? b = some o := fun b o e => hsb.extBut b o (Nat.ne_of_lt (Heap.lt_size e)) (Heap.get?_push_of_some _ e)
  have I4 : Inv (cxC X (x :: cn) scope cl s3.heap.objs.size s3 (upd H2 acc (.lst [])) fp) [] (none :: capsOf caps σ) (upd H2 acc (.lst [])) { s3 with heap := h₁, toks := s3.toks + ([] : List (Str × Value)).length } :=
    Inv.comp Cp I3 f3 lt3 hns k1
  have st4 : tn 0 h₁ := T.keep _ _ _ st3' fun b _ o e => k1 b o e
  have br : ∀ (e : Value) (s' : Shared), XB (cxC X (x :: cn) scope cl s3.heap.objs.size s3 (upd H2 acc (.lst [])) fp) E e s' → notedBy (model X.prog X.w) X.A (compEnvC scope cl s3.heap.objs.size X.env) (fun e s' => compPost (model X.prog X.w) X.A X.xe none (EP X pins σ Q) (.ref acc) s3.heap.objs.size (.error e) s') e s' := fun e s' h => block_raise hst hf hex I3 f3 rfl hx h
  generalize hX : cxC X (x :: cn) scope cl s3.heap.objs.size s3 (upd H2 acc (.lst [])) fp = X' at I4 br
  have stat : ∀ {H' : Hp}, (∀ b ∈ fp, H' b = none) → ∀ b ∈ fp, FpOk X' [] H' b := fun hn b hb => by
    subst hX
    obtain ⟨g0, g1, g2, g3, g4, g5⟩ := f3 b hb
    refine ⟨hn b hb, Nat.ne_of_lt (lt3 b hb), fun z => ?_, .inl hb, fun y c e => g4 y c (Cp.sub y c e), fun p hp => absurd (show p ∈ ([] : List (Addr × Obj)) from hp) (by simp)⟩
    rcases List.mem_cons.mp (I3.stkSub b z) with z | z
    · exact g1 z
    · exact g2 z
  have core : codeAny (model X.prog X.w) X.A (.compLoop (.ListComp elt [⟨.Name x px, iter, ifs, 0⟩] scope pos) 0 (.ref it) (.ref acc) (compEnvC scope cl s3.heap.objs.size X.env))
      (compPost (model X.prog X.w) X.A X.xe none (EP X pins σ Q) (.ref acc) s3.heap.objs.size) { s3 with heap := h₁, toks := s3.toks + ([] : List (Str × Value)).length } := by
    refine codeAny_loop rfl (fun n s' => ∃ i a H', Inv X' [] (a :: capsOf caps σ) H' s' ∧ tn i s'.heap ∧ (∀ b ∈ fp, H' b = none) ∧ W i n H') (fun n s5 hI => ?_) m0 ⟨0, none, _, I4, st4, fun b hb => (f3 b hb).1, w0⟩
    obtain ⟨i, a0, H5, I5, st5, fr5, w5⟩ := hI
    show wpAny _ _ ((compTurn _ 0 _ _ _).onRaise _) _ _ s5
    refine wpAny_noted ?_
    rw [compTurn_list]
    refine wpAny_bind (wpAny_standAt (wpAny_bind ?_))
    have aX : X'.A = X.A := by subst hX; rfl
    have pX : X'.prog = X.prog := by subst hX; rfl
    have wX : X'.w = X.w := by subst hX; rfl
    have kX : X'.K = X.K := by subst hX; rfl
    have cX : X'.calm = true := by subst hX; exact hc
    have eX : X'.env = compEnvC scope cl s3.heap.objs.size X.env := by subst hX; rfl
    rcases turn i n H5 w5 with ⟨stop, qn⟩ | ⟨go, N, hN, step⟩
    · have z := T.done X' pX wX kX cX i [] s5 _ H5 (fun _ _ => False) I5 (stat fr5) st5 stop
      rw [aX] at z
      refine wpAny_mono z (fun r s6 ⟨hr, I6⟩ => ?_) fun _ _ q => q.elim
      subst hr
      subst hX
      obtain ⟨m, hm, _⟩ := id I6.loc
      exact wpAny_pure ⟨m, hm, fun h' sb => ⟨.ref acc, H5, Inv.uncomp I3 f3 rfl I6 sb, rfl, qn⟩⟩
    · have z := T.item X' pX wX kX cX i [] s5 _ H5 (fun _ _ => False) I5 (stat fr5) st5 go
      rw [aX] at z
      refine wpAny_mono z (fun r s6 ⟨u, hr, h6⟩ => ?_) fun _ _ q => q.elim
      subst hr
      refine wpAny_bind (wpAny_mono h6 (fun _ s7 ⟨v, H7, I7, r7, y7, st7, fr7⟩ => ?_) fun _ _ q => q.elim)
      have I7' := I7.pinned (stat fr7) (T.obj _ _ st7)
      have asg : wpAny (model X.prog X.w) X.A (assign (.Name x px) (compEnvC scope cl s3.heap.objs.size X.env) u) (fun _ s8 => Inv X' ([] ++ pinsAt fp s7.heap) (some v :: capsOf caps σ) H7 s8) (fun _ _ => False) s7 := by
        subst hX
        exact wpAny_assign_Name (store_ok (X := cxC X (x :: cn) scope cl s3.heap.objs.size s3 (upd H2 acc (.lst [])) fp) (i := 0) I7' Cp.nd rfl (.inl (lookup_relabel_local Cp.tg)) r7 (fun s' I' => I') (.inr (lookup_relabel_local Cp.tg)))
      refine wpAny_bind (wpAny_mono asg (fun _ s8 I8 => ?_) fun _ _ q => q.elim)
      have tst : wpAny (model X.prog X.w) X.A (forIn ifs true fun c r => if r = true then do let ok ← isTrue c (compEnvC scope cl s3.heap.objs.size X.env) (eval c (compEnvC scope cl s3.heap.objs.size X.env)); pure (ForInStep.yield ok) else pure (ForInStep.yield r))
          (TP X' ([] ++ pinsAt fp s7.heap) (some v :: capsOf caps σ) (fun b H9 => if b = true then te s3.heap.objs.size s3 (upd H2 acc (.lst [])) fp (some v :: capsOf caps σ) H9 (fun y H3 => rApp acc N y H3) else N H9)) (fun _ _ => False) s8 := by
        subst hX
        exact ht _ _ _ _ _ s8 _ H7 _ I8 (step v H7 y7)
      refine wpAny_bind (wpAny_mono tst (fun b s9 ⟨H9, I9, q9⟩ => ?_) fun _ _ q => q.elim)
      have fin : ∀ {a : Option V} {H10 : Hp} {s10 : Shared}, Inv X' ([] ++ pinsAt fp s7.heap) (a :: capsOf caps σ) H10 s10 → N H10 → ∃ m', m' < n ∧ ∃ i a H', Inv X' [] (a :: capsOf caps σ) H' s10 ∧ tn i s10.heap ∧ (∀ b ∈ fp, H' b = none) ∧ W i m' H' := fun {a H10 s10} I10 n10 =>
        let ⟨m', hm, w10⟩ := hN _ n10
        ⟨m', hm, i + 1, a, H10, I10.unpinned, T.keep _ _ _ st7 fun b hb o e => (I10.pin (b, o) (List.mem_append_right _ (List.mem_append_right _ (mem_pinsAt hb e)))).1, fun b hb => by
          obtain ⟨o, e, d⟩ := T.obj _ _ st7 b hb
          exact (I10.pin (b, o) (List.mem_append_right _ (List.mem_append_right _ (mem_pinsAt hb e)))).2.1, w10⟩
      cases b with
      | false => exact wpAny_pure ⟨rfl, fin I9 q9⟩
      | true =>
        have elt' : wpAny (model X.prog X.w) X.A (eval elt (compEnvC scope cl s3.heap.objs.size X.env)) (EP (xb X' E) ([] ++ pinsAt fp s7.heap) (some v :: capsOf caps σ) (fun y H3 => rApp acc N y H3)) (XB X' E) s9 := by
          subst hX
          exact he _ _ _ _ _ s9 _ H9 _ (I9.wish _) q9
        refine wpAny_bind (wpAny_bind (wpAny_mono elt' (fun y s10 ⟨w, H10, I10w, r10, ys, ha, hz, q10⟩ => ?_) fun e' s' q => br e' s' q))
        have I10 := I10w.unwish
        have app : wpAny (model X.prog X.w) X.A (call (.builtin "list.append") [.ref acc, y]) (EP X' ([] ++ pinsAt fp s7.heap) (some v :: capsOf caps σ) fun _ H11 => H11 = upd H10 acc (.lst (ys ++ [w]))) (fun _ _ => False) s10 := by
          subst hX
          exact mt_append (X := cxC X (x :: cn) scope cl s3.heap.objs.size s3 (upd H2 acc (.lst [])) fp) _ s10 _ H10 (.ref acc) [w] (.ref acc) [y] _ I10 rfl (.cons r10 .nil) ⟨acc, ys, w, rfl, rfl, ha, hz, rfl⟩
        refine wpAny_bind (wpAny_mono app (fun _ s11 ⟨_, H11, I11, _, e11⟩ => ?_) fun _ _ q => q.elim)
        subst e11
        exact wpAny_pure (wpAny_pure ⟨rfl, fin I11 q10⟩)
  exact codeAny_compStart_list core (T.self _ 0 _ _ _ st4 core)
end
end My
set_option Elab.async false
set_option linter.all false
set_option maxRecDepth 100000
set_option maxHeartbeats 1000000
namespace My
open PySem PySem.Spec PyProof.Rows L2 PyProof PySem.Builtin.Str
section
variable {X : Cx}
def rPart : V → List V → Hp → VK → Prop := fun x xs H Q => ∃ z y : Str, x = .str z ∧ xs = [.str y] ∧ y.length = 1 ∧ z.length ≤ sizeLine ∧ ∀ p, H p = none → Q (.ref p) (upd H p (.tup [.str (Txt.partition z y).1, .str (Txt.partition z y).2.1, .str (Txt.partition z y).2.2]))
theorem mt_part : MtR X "str.partition" rPart := by
  intro pins s σ H x xs v us Q I rx rv h
  obtain ⟨z, y, rfl, rfl, hy, hz, q⟩ := h
  obtain ⟨t, rfl⟩ := rx
  obtain ⟨u, rfl, ru⟩ := rv.one
  obtain ⟨t', rfl⟩ := ru
  have hy0 : (y.length == 0) = false := by rw [hy]; rfl
  refine call_meets PySem.F.slot_str_partition (typeIs_str _ _ _) PySem.F.entry_str_partition (PySem.F.args_str_partition_2 _ _) (meets_str_partition z y t t' hy0 hz) ?_
  have qf := q s.heap.objs.size (I.hok.fresh (Nat.le_refl _))
  unfold Txt.partition at qf
  revert qf
  cases occurrences z y 0 z.length 1 with
  | nil =>
    intro qf
    exact ⟨.ref _, _, I.laid (a := s.heap.objs.size) (o := .tup [.str z, .str Str.empty, .str Str.empty]) (fun b ob hb => Heap.get?_push_of_some _ hb) (Nat.le_refl _) ⟨by (show 3 ≤ sizeLine; decide), _, .cons ⟨t, rfl⟩ (.cons ⟨s.toks, rfl⟩ (.cons ⟨s.toks, rfl⟩ .nil)), ⟨_, Heap.get?_push_size s.heap rfl, rfl, 0, rfl⟩⟩, rfl, qf⟩
  | cons i r =>
    intro qf
    exact ⟨.ref _, _, I.laid (a := s.heap.objs.size) (o := .tup [.str (strSub z 0 i), .str y, .str (strSub z (i + y.length) z.length)]) (fun b ob hb => Heap.get?_push_of_some _ hb) (Nat.le_refl _) ⟨by (show 3 ≤ sizeLine; decide), _, .cons ⟨_, rfl⟩ (.cons ⟨_, rfl⟩ (.cons ⟨_, rfl⟩ .nil)), ⟨_, Heap.get?_push_size s.heap rfl, rfl, 0, rfl⟩⟩, rfl, qf⟩
def rIntT : List V → Hp → VK → Prop := fun xs H Q => ∃ (z : Str) (n : Int), xs = [.str z] ∧ z.length ≤ 640 ∧ PySem.intText? z = some n ∧ Q (.int n) H
theorem call_intT : CallR X (.type "int") rIntT := by
  intro pins s σ H xs us Q I rv h
  obtain ⟨z, n, rfl, hl, hn, q⟩ := h
  obtain ⟨u, rfl, ru⟩ := rv.one
  obtain ⟨t, rfl⟩ := ru
  exact PySem.W.KIN.call_text hn hl ⟨.int n, H, I.tok _, ⟨_, rfl⟩, q⟩
theorem vals_txts : ∀ (l : List Str) (k : Nat), Vals (l.map V.str) (strsFrom k l)
  | [], _ => .nil
  | x :: l, k => .cons ⟨k, rfl⟩ (vals_txts l (k + 1))
def rSplit : V → List V → Hp → VK → Prop := fun x xs H Q => ∃ z y : Str, x = .str z ∧ xs = [.str y] ∧ y.length = 1 ∧ z.length ≤ 1000000 ∧ ∀ p, H p = none → Q (.ref p) (upd H p (.lst ((Txt.split z y).map V.str)))
theorem mt_split : MtR X "str.split" rSplit := by
  intro pins s σ H x xs v us Q I rx rv h
  obtain ⟨z, y, rfl, rfl, hy, hz, q⟩ := h
  obtain ⟨t, rfl⟩ := rx
  obtain ⟨u, rfl, ru⟩ := rv.one
  obtain ⟨t', rfl⟩ := ru
  have hy0 : (y.length == 0) = false := by rw [hy]; rfl
  have qf := q s.heap.objs.size (I.hok.fresh (Nat.le_refl _))
  have one : Txt.split z y = [z] → EP X pins σ Q (.ref s.heap.objs.size) { s with heap := s.heap.push { cls := .type "list", data := .seq [Value.str z t].toArray } } := fun e => by
    rw [e] at qf
    exact ⟨.ref _, _, I.laid (a := s.heap.objs.size) (o := .lst [.str z]) (t' := s.toks) (fun b ob hb => Heap.get?_push_of_some _ hb) (Nat.le_refl _) ⟨by (show 1 ≤ sizeLine; decide), [Value.str z t], 0, .cons ⟨t, rfl⟩ .nil, Heap.get?_push_size _ rfl⟩, rfl, qf⟩
  have hsz : z.length ≤ sizeLine := by rw [sizeLine_eq]; omega
  cases h1 : (decide (z.length < y.length) || decide (strKind z < strKind y)) with
  | true => exact call_meets PySem.F.slot_str_split (typeIs_str _ _ _) PySem.F.entry_str_split (PySem.F.args_str_split_2 _ _) (meets_str_split_cannot_occur z y t t' h1) (one (by unfold Txt.split; rw [if_pos h1]))
  | false =>
    cases hf : (occurrences z y 0 z.length (z.length + 1)).isEmpty with
    | true => exact call_meets PySem.F.slot_str_split (typeIs_str _ _ _) PySem.F.entry_str_split (PySem.F.args_str_split_2 _ _) (meets_str_split_not_found z y t t' h1 hy0 hf) (one (by unfold Txt.split; rw [h1, if_neg (by decide), if_pos hf]))
    | false =>
      have es : Txt.split z y = partsBetween z (occurrences z y 0 z.length (z.length + 1)) y.length := by unfold Txt.split; rw [h1, if_neg (by decide), hf, if_neg (by decide)]
      rw [es] at qf
      have hn : (partsBetween z (occurrences z y 0 z.length (z.length + 1)) y.length).length ≤ sizeLine := by
        have h2 := PySem.StrLaws.occ_length_le_len z y 0 z.length (z.length + 1)
        have e3 : (partsBetween z (occurrences z y 0 z.length (z.length + 1)) y.length).length = (occurrences z y 0 z.length (z.length + 1)).length + 1 := by simp [partsBetween]
        rw [e3, sizeLine_eq]
        omega
      refine call_meets PySem.F.slot_str_split (typeIs_str _ _ _) PySem.F.entry_str_split (PySem.F.args_str_split_2 _ _) (meets_str_split_sep z y t t' h1 hy0 hf hsz hn) ?_
      exact ⟨.ref _, _, I.laid (a := s.heap.objs.size) (o := .lst ((partsBetween z (occurrences z y 0 z.length (z.length + 1)) y.length).map V.str)) (fun b ob hb => Heap.get?_push_of_some _ hb) (Nat.le_refl _) ⟨by rw [List.length_map]; exact hn, _, 0, vals_txts _ s.toks, Heap.get?_push_size _ rfl⟩, rfl, qf⟩
end
section
variable {K : PySem.W.Frag} {H : Hp} {Q : VK} {z y : Str}
theorem r_partn (hy : y.length = 1) (hz : z.length ≤ sizeLine) (h : ∀ p, H p = none → Q (.ref p) (upd H p (.tup [.str (Txt.partition z y).1, .str (Txt.partition z y).2.1, .str (Txt.partition z y).2.2]))) : rPart (.str z) [.str y] H Q := ⟨z, y, rfl, rfl, hy, hz, h⟩
theorem r_split (hy : y.length = 1) (hz : z.length ≤ 1000000) (h : ∀ p, H p = none → Q (.ref p) (upd H p (.lst ((Txt.split z y).map V.str)))) : rSplit (.str z) [.str y] H Q := ⟨z, y, rfl, rfl, hy, hz, h⟩
theorem r_intT {n : Int} (hl : z.length ≤ 640) (hn : PySem.intText? z = some n) (h : Q (.int n) H) : rIntT [.str z] H Q := ⟨z, n, rfl, hl, hn, h⟩
end
end My
set_option Elab.async false
set_option linter.all false
set_option maxRecDepth 100000
set_option maxHeartbeats 1000000
namespace My
open PySem PySem.Spec PyProof.Rows L2 PyProof PySem.Builtin.Str PySem.StrLaws
def ofC (l : List Nat) : Str := ⟨l.toArray⟩
theorem ofC_codes (l : List Nat) : (ofC l).cps.toList = l := rfl
theorem ofC_self (x : Str) : ofC x.cps.toList = x := rfl
theorem ofC_len (l : List Nat) : (ofC l).length = l.length := by simp [ofC, Str.length]
theorem ofC_app (l m : List Nat) : ofC l ++ ofC m = ofC (l ++ m) := by
  have e : (ofC l ++ ofC m).cps = (ofC (l ++ m)).cps := by
    rw [Str.cps_append]
    simp [ofC]
  exact congrArg Str.mk e
def hits (l : List Nat) (c : Nat) (is : List Nat) : List Nat := is.filter fun i => decide (l[i]? = some c)
theorem occ_run (x : Str) (c limit : Nat) : ∀ (l : List Nat) (st : Array Nat × Nat), (∀ i ∈ l, st.2 ≤ i) → l.Pairwise (· < ·) →
    (forIn l st (occBody x ⟨#[c]⟩ x.length limit)).run.fst.toList = st.1.toList ++ (hits x.cps.toList c l).take (limit - st.1.size)
  | [], st, _, _ => by simp [hits]
  | a :: l, st, h, pw => by
    rw [List.forIn_cons]
    unfold occBody
    have ha := h a (List.mem_cons_self ..)
    rw [List.pairwise_cons] at pw
    have hl : ∀ i ∈ l, st.2 ≤ i := fun i hi => h i (List.mem_cons_of_mem _ hi)
    have hs := subAt_one x c a
    by_cases hc : x.cps.toList[a]? = some c
    · have eh : hits x.cps.toList c (a :: l) = a :: hits x.cps.toList c l := by
        unfold hits
        rw [List.filter_cons, if_pos (decide_eq_true hc)]
      obtain ⟨h1, h2⟩ := hs.mpr hc
      by_cases sz : st.1.size < limit
      · rw [if_pos ⟨⟨⟨sz, ha⟩, h1⟩, h2⟩]
        refine (occ_run x c limit l (st.1.push a, a + 1) (fun i hi => pw.1 i hi) pw.2).trans ?_
        rw [eh, show limit - st.1.size = (limit - (st.1.size + 1)) + 1 by omega, List.take_succ_cons]
        simp
      · rw [if_neg fun z => sz z.1.1.1]
        refine (occ_run x c limit l st hl pw.2).trans ?_
        rw [show limit - st.1.size = 0 by omega]
        simp
    · have eh : hits x.cps.toList c (a :: l) = hits x.cps.toList c l := by
        unfold hits
        rw [List.filter_cons, if_neg (by rw [decide_eq_false hc]; decide)]
      rw [if_neg fun z => hc (hs.mp ⟨z.1.2, z.2⟩), eh]
      exact occ_run x c limit l st hl pw.2
theorem occ_is (x : Str) (c limit : Nat) : occurrences x ⟨#[c]⟩ 0 x.length limit = (hits x.cps.toList c (List.range' 0 (x.length + 1))).take limit := by
  rw [occ_eq]
  have z := occ_run x c limit (List.range' 0 (x.length + 1 - 0)) (#[], 0) (fun _ _ => Nat.zero_le _) (List.pairwise_lt_range' ..)
  rw [z]
  simp
theorem hits_no {l : List Nat} {c : Nat} (h : c ∉ l) (is : List Nat) : hits l c is = [] := by
  unfold hits
  rw [List.filter_eq_nil_iff]
  intro i _
  rw [decide_eq_true_iff]
  exact fun e => h (List.mem_of_getElem? e)
theorem hits_first {x y : List Nat} {c n : Nat} (h : c ∉ x) (hn : x.length < n) : ∃ r, hits (x ++ c :: y) c (List.range' 0 n) = x.length :: r ∧ (c ∉ y → r = []) := by
  have e : List.range' 0 n = List.range' 0 x.length ++ x.length :: List.range' (x.length + 1) (n - x.length - 1) := by
    have e1 : List.range' 0 n = List.range' 0 x.length ++ List.range' (0 + x.length) (n - x.length) := by
      rw [List.range'_append_1, show x.length + (n - x.length) = n by omega]
    rw [e1, Nat.zero_add, show n - x.length = (n - x.length - 1) + 1 by omega, List.range'_succ]
    rfl
  refine ⟨hits (x ++ c :: y) c (List.range' (x.length + 1) (n - x.length - 1)), ?_, fun hy => ?_⟩
  · rw [e]
    unfold hits
    rw [List.filter_append, List.filter_cons, if_pos (by rw [decide_eq_true_iff, List.getElem?_append_right (Nat.le_refl _), Nat.sub_self]; rfl)]
    have z : (List.range' 0 x.length).filter (fun i => decide ((x ++ c :: y)[i]? = some c)) = [] := by
      rw [List.filter_eq_nil_iff]
      intro i hi
      have hi' : i < x.length := by have := List.mem_range'_1.mp hi; omega
      rw [decide_eq_true_iff, List.getElem?_append_left hi']
      exact fun e => h (List.mem_of_getElem? e)
    rw [z]; rfl
  · unfold hits
    rw [List.filter_eq_nil_iff]
    intro i hi
    have hi' : x.length + 1 ≤ i := (List.mem_range'_1.mp hi).1
    rw [decide_eq_true_iff, List.getElem?_append_right (by omega), show i - x.length = (i - x.length - 1) + 1 by omega, List.getElem?_cons_succ]
    exact fun e => hy (List.mem_of_getElem? e)
theorem sub_ofC (l : List Nat) (i j : Nat) : strSub (ofC l) i j = ofC ((l.take j).drop i) := by
  unfold strSub ofC
  congr 1
  apply Array.ext'
  simp [List.drop_take]
theorem part_no {l : List Nat} {c : Nat} (h : c ∉ l) : Txt.partition (ofC l) ⟨#[c]⟩ = (ofC l, Str.empty, Str.empty) := by
  unfold Txt.partition
  rw [occ_is, ofC_codes, hits_no h]
  rfl
theorem part_at {x y : List Nat} {c : Nat} (h : c ∉ x) : Txt.partition (ofC (x ++ c :: y)) ⟨#[c]⟩ = (ofC x, ⟨#[c]⟩, ofC y) := by
  obtain ⟨r, hr, _⟩ := hits_first (y := y) (n := (ofC (x ++ c :: y)).length + 1) h (by rw [ofC_len, List.length_append]; omega)
  unfold Txt.partition
  rw [occ_is, ofC_codes, hr, List.take_succ_cons]
  show (strSub _ 0 x.length, (⟨#[c]⟩ : Str), strSub _ (x.length + (⟨#[c]⟩ : Str).length) _) = _
  rw [sub_ofC, sub_ofC, ofC_len, show (⟨#[c]⟩ : Str).length = 1 from rfl]
  rw [List.drop_zero, List.take_left', List.take_length]
  · rw [show x.length + 1 = (x ++ [c]).length by rw [List.length_append]; rfl, show x ++ c :: y = (x ++ [c]) ++ y by rw [List.append_assoc]; rfl, List.drop_left]
  · rfl
theorem split_no {l : List Nat} {c : Nat} (h : c ∉ l) : Txt.split (ofC l) ⟨#[c]⟩ = [ofC l] := by
  unfold Txt.split
  split
  · rfl
  · rw [occ_is, ofC_codes, hits_no h]
    rfl
theorem split_at {x y : List Nat} {c : Nat} (h : c ∉ x) (hy : c ∉ y) (hk : c < 256) : Txt.split (ofC (x ++ c :: y)) ⟨#[c]⟩ = [ofC x, ofC y] := by
  obtain ⟨r, hr, hn⟩ := hits_first (y := y) (n := (ofC (x ++ c :: y)).length + 1) h (by rw [ofC_len, List.length_append]; omega)
  have hn := hn hy
  subst hn
  have k1 : Builtin.Str.strKind (⟨#[c]⟩ : Str) = 1 := by unfold Builtin.Str.strKind; simp [hk]
  have k2 : ∀ s : Str, 1 ≤ Builtin.Str.strKind s := fun s => by unfold Builtin.Str.strKind; split <;> (try split) <;> decide
  have c1 : (decide ((ofC (x ++ c :: y)).length < (⟨#[c]⟩ : Str).length) || decide (Builtin.Str.strKind (ofC (x ++ c :: y)) < Builtin.Str.strKind (⟨#[c]⟩ : Str))) = false := by
    rw [k1, ofC_len, List.length_append, show (⟨#[c]⟩ : Str).length = 1 from rfl]
    have := k2 (ofC (x ++ c :: y))
    simp
    omega
  unfold Txt.split
  rw [c1, if_neg (by decide), occ_is, ofC_codes, hr, show (ofC (x ++ c :: y)).length + 1 = (x ++ c :: y).length + 1 by rw [ofC_len], List.take_succ_cons]
  have e2 : List.take (x ++ c :: y).length ([] : List Nat) = [] := List.take_nil
  rw [e2, if_neg (by simp)]
  unfold partsBetween
  show [strSub _ 0 x.length, strSub _ (x.length + (⟨#[c]⟩ : Str).length) _] = _
  rw [sub_ofC, sub_ofC, ofC_len, show (⟨#[c]⟩ : Str).length = 1 from rfl]
  rw [List.drop_zero, List.take_left', List.take_length]
  · rw [show x.length + 1 = (x ++ [c]).length by rw [List.length_append]; rfl, show x ++ c :: y = (x ++ [c]) ++ y by rw [List.append_assoc]; rfl, List.drop_left]
  · rfl
end My
set_option Elab.async false
set_option linter.all false
set_option maxRecDepth 100000
set_option maxHeartbeats 1000000
namespace My
open PySem PySem.Spec PyProof.Rows L2 PyProof PySem.Builtin.Str PySem.NumText
def dg (m : Nat) : List Nat := (Nat.toDigits 10 m).map Char.toNat
theorem shw_dg (m : Nat) : shw ((m : Nat) : Int) = ofC (dg m) := by
  have e := PySem.W.KIN.signs_num m
  unfold shw dg
  rw [← e]
  rfl
theorem dch : ∀ d : Nat, d < 10 → (Nat.digitChar d).toNat = 48 + d := by decide
theorem dg_low {m : Nat} (h : m < 10) : dg m = [48 + m] := by
  unfold dg
  rw [Nat.toDigits_of_lt_base h, List.map_singleton, dch m h]
theorem dg_up {m : Nat} (h : 10 ≤ m) : dg m = dg (m / 10) ++ [48 + m % 10] := by
  have hm : m % 10 < 10 := Nat.mod_lt m (by decide)
  have t : Nat.toDigits 10 (m / 10) ++ Nat.toDigits 10 (m % 10) = Nat.toDigits 10 (10 * (m / 10) + m % 10) := Nat.toDigits_append_toDigits (by decide) (by omega) hm
  rw [Nat.div_add_mod] at t
  unfold dg
  rw [← t, List.map_append, Nat.toDigits_of_lt_base hm, List.map_singleton, dch _ hm]
theorem dg_val (m : Nat) : digitsVal (dg m) = m := PySem.W.KIN.val_back m
def isF (c : Nat) : Prop := 48 ≤ c ∧ c ≤ 57
theorem dg_is (m : Nat) : ∀ c ∈ dg m, isF c := by
  induction m using Nat.strongRecOn with
  | _ m ih =>
    by_cases h : m < 10
    · rw [dg_low h]
      intro c hc
      rw [List.mem_singleton.mp hc]
      exact ⟨by omega, by omega⟩
    · rw [dg_up (by omega)]
      intro c hc
      rcases List.mem_append.mp hc with z | z
      · exact ih (m / 10) (by omega) c z
      · rw [List.mem_singleton.mp z]
        exact ⟨by omega, by omega⟩
theorem dg_ne (m : Nat) : dg m ≠ [] := by
  by_cases h : m < 10
  · rw [dg_low h]; simp
  · rw [dg_up (by omega)]; simp
theorem dg_len : ∀ (k m : Nat), m < 10 ^ (k + 1) → (dg m).length ≤ k + 1
  | 0, m, h => by rw [dg_low (by simpa using h)]; exact Nat.le_refl _
  | k + 1, m, h => by
    by_cases c : m < 10
    · rw [dg_low c]; simp
    · rw [dg_up (by omega), List.length_append, List.length_singleton]
      have := dg_len k (m / 10) (by rw [Nat.pow_succ] at h; omega)
      omega
theorem dg_head (m : Nat) (h : m ≠ 0) : (dg m).head? ≠ some 48 := by
  induction m using Nat.strongRecOn with
  | _ m ih =>
    by_cases c : m < 10
    · rw [dg_low c]
      intro e
      have : 48 + m = 48 := by simpa using e
      omega
    · rw [dg_up (by omega)]
      have i := ih (m / 10) (by omega) (by omega)
      have n := dg_ne (m / 10)
      cases e : dg (m / 10) with
      | nil => exact absurd e n
      | cons a r => rw [e] at i; simpa using i
def Can (l : List Nat) : Prop := l.head? ≠ some 48 ∨ l = [48]
theorem can_dg (m : Nat) : Can (dg m) := by
  by_cases h : m = 0
  · subst h; exact .inr (dg_low (by decide))
  · exact .inl (dg_head m h)
def Fig (l : List Nat) : Prop := 1 ≤ l.length ∧ l.length ≤ 31 ∧ ∀ c ∈ l, isF c
theorem int_fig {l : List Nat} (h : Fig l) : PySem.intText? (ofC l) = some ((digitsVal l : Nat) : Int) :=
  intText_digits (x := ofC l) h.2.2 (fun e => by rw [show l = [] from e] at h; exact absurd h.1 (by decide)) (by rw [ofC_len]; have := h.2.1; omega)
end My
set_option Elab.async false
set_option linter.all false
set_option maxRecDepth 100000
set_option maxHeartbeats 1000000
namespace My
open PySem PySem.Spec PyProof.Rows L2 PyProof PySem.Builtin.Str
def joinL (c : Nat) : List (List Nat) → List Nat
  | [] => []
  | [p] => p
  | p :: q :: r => p ++ c :: joinL c (q :: r)
def cutsL : Nat → List (List Nat) → List Nat
  | _, [] => []
  | _, [_] => []
  | k, p :: q :: r => (k + p.length) :: cutsL (k + p.length + 1) (q :: r)
theorem hits_app (l : List Nat) (c : Nat) (a b : List Nat) : hits l c (a ++ b) = hits l c a ++ hits l c b := by
  unfold hits; rw [List.filter_append]
theorem hits_none {l : List Nat} {c : Nat} {is : List Nat} (h : ∀ i ∈ is, l[i]? ≠ some c) : hits l c is = [] := by
  unfold hits
  rw [List.filter_eq_nil_iff]
  intro i hi
  rw [decide_eq_true_iff]
  exact h i hi
theorem hits_join {c : Nat} : ∀ (ps : List (List Nat)) (pre : List Nat), ps ≠ [] → (∀ p ∈ ps, c ∉ p) → hits (pre ++ joinL c ps) c (List.range' pre.length ((joinL c ps).length + 1)) = cutsL pre.length ps
  | [], _, h, _ => absurd rfl h
  | [p], pre, _, h => by
    refine hits_none fun i hi e => ?_
    have hi' := (List.mem_range'_1.mp hi).1
    rw [List.getElem?_append_right hi'] at e
    exact h p (List.mem_singleton.mpr rfl) (List.mem_of_getElem? e)
  | p :: q :: r, pre, _, h => by
    have ih := hits_join (q :: r) (pre ++ p ++ [c]) (by simp) (fun x hx => h x (List.mem_cons_of_mem _ hx))
    have hp := h p (List.mem_cons_self ..)
    show hits (pre ++ (p ++ c :: joinL c (q :: r))) c (List.range' pre.length ((p ++ c :: joinL c (q :: r)).length + 1)) = (pre.length + p.length) :: cutsL (pre.length + p.length + 1) (q :: r)
    have e1 : pre ++ (p ++ c :: joinL c (q :: r)) = (pre ++ p ++ [c]) ++ joinL c (q :: r) := by simp
    have e2 : (p ++ c :: joinL c (q :: r)).length + 1 = p.length + (1 + ((joinL c (q :: r)).length + 1)) := by simp; omega
    have e3 : (pre ++ p ++ [c]).length = pre.length + p.length + 1 := by simp; omega
    rw [e3] at ih
    rw [e2, ← List.range'_append_1, ← List.range'_append_1 (s := pre.length + p.length), hits_app, hits_app]
    have z1 : hits (pre ++ (p ++ c :: joinL c (q :: r))) c (List.range' pre.length p.length) = [] := hits_none fun i hi e => by
      have hi' := List.mem_range'_1.mp hi
      rw [List.getElem?_append_right hi'.1, List.getElem?_append_left (by omega)] at e
      exact hp (List.mem_of_getElem? e)
    have z2 : hits (pre ++ (p ++ c :: joinL c (q :: r))) c (List.range' (pre.length + p.length) 1) = [pre.length + p.length] := by
      unfold hits
      rw [List.range'_one, List.filter_cons, if_pos ?_]
      · rfl
      · rw [decide_eq_true_iff, ← List.append_assoc, List.getElem?_append_right (by simp)]
        simp
    rw [z1, z2, e1, ih]
    rfl
theorem parts_join {c : Nat} : ∀ (ps : List (List Nat)) (pre : List Nat), ps ≠ [] →
    ((pre.length :: (cutsL pre.length ps).map (· + 1)).zip (cutsL pre.length ps ++ [(pre ++ joinL c ps).length])).map (fun (i, j) => strSub (ofC (pre ++ joinL c ps)) i j) = ps.map ofC
  | [], _, h => absurd rfl h
  | [p], pre, _ => by
    show [strSub (ofC (pre ++ p)) pre.length (pre ++ p).length] = [ofC p]
    rw [sub_ofC, List.take_length, List.drop_left]
  | p :: q :: r, pre, _ => by
    have ih := parts_join (c := c) (q :: r) (pre ++ p ++ [c]) (by simp)
    have e1 : (pre ++ p ++ [c]) ++ joinL c (q :: r) = pre ++ joinL c (p :: q :: r) := by show _ = pre ++ (p ++ c :: joinL c (q :: r)); simp
    have e3 : (pre ++ p ++ [c]).length = pre.length + p.length + 1 := by simp; omega
    rw [e1, e3] at ih
    show strSub (ofC (pre ++ joinL c (p :: q :: r))) pre.length (pre.length + p.length) :: _ = ofC p :: _
    refine congr (congrArg List.cons ?_) ?_
    · rw [sub_ofC]
      show ofC (((pre ++ (p ++ c :: joinL c (q :: r))).take (pre.length + p.length)).drop pre.length) = ofC p
      rw [show pre.length + p.length = (pre ++ p).length by simp, ← List.append_assoc, List.take_left, List.drop_left]
    · exact ih
theorem split_join {c : Nat} (hk : c < 256) {ps : List (List Nat)} (h0 : ps ≠ []) (h : ∀ p ∈ ps, c ∉ p) : Txt.split (ofC (joinL c ps)) ⟨#[c]⟩ = ps.map ofC := by
  have k1 : Builtin.Str.strKind (⟨#[c]⟩ : Str) = 1 := by unfold Builtin.Str.strKind; simp [hk]
  have k2 : ∀ s : Str, 1 ≤ Builtin.Str.strKind s := fun s => by unfold Builtin.Str.strKind; split <;> (try split) <;> decide
  have c1 : (⟨#[c]⟩ : Str).length = 1 := rfl
  have hh := hits_join ps [] h0 h
  have pp := parts_join (c := c) ps [] h0
  rw [List.length_nil, List.nil_append] at hh pp
  have ho : occurrences (ofC (joinL c ps)) ⟨#[c]⟩ 0 (ofC (joinL c ps)).length ((ofC (joinL c ps)).length + 1) = cutsL 0 ps := by
    rw [occ_is, ofC_codes, ofC_len, hh, List.take_of_length_le]
    have z : (cutsL 0 ps).length ≤ (List.range' 0 ((joinL c ps).length + 1)).length := by
      rw [← hh]; unfold hits; exact List.length_filter_le ..
    rwa [List.length_range'] at z
  unfold Txt.split
  rw [k1, c1, ho]
  match ps, h0 with
  | [p], _ =>
    split
    · rfl
    · rfl
  | p :: q :: r, _ =>
    rw [if_neg ?_, if_neg (by show ¬ ((cutsL 0 (p :: q :: r)).isEmpty = true); exact Bool.false_ne_true)]
    · unfold partsBetween
      rw [ofC_len]
      exact pp
    · rw [ofC_len]
      have := k2 (ofC (joinL c (p :: q :: r)))
      have l1 : 1 ≤ (joinL c (p :: q :: r)).length := by show 1 ≤ (p ++ c :: joinL c (q :: r)).length; simp; omega
      rw [decide_eq_false (by omega), decide_eq_false (by omega)]
      exact Bool.false_ne_true
theorem glued_one {c : Nat} : ∀ ps : List (List Nat), glued ⟨#[c]⟩ (ps.map ofC) = ofC (joinL c ps)
  | [] => rfl
  | p :: r => by
    have key : ∀ (r : List (List Nat)) (p : List Nat), (r.map ofC).foldl (fun acc (q : Str) => acc ++ (#[c] : Array Nat) ++ q.cps) p.toArray = (joinL c (p :: r)).toArray := by
      intro r
      induction r with
      | nil => intro p; rfl
      | cons q r ih =>
        intro p
        rw [List.map_cons, List.foldl_cons]
        have e : p.toArray ++ (#[c] : Array Nat) ++ (ofC q).cps = (p ++ c :: q).toArray := by simp [ofC]
        rw [e, ih (p ++ c :: q)]
        congr 1
        cases r with
        | nil => rfl
        | cons a r => show (p ++ c :: q) ++ c :: joinL c (a :: r) = p ++ c :: (q ++ c :: joinL c (a :: r)); simp
    exact congrArg Str.mk (key r p)
section
variable {X : Cx}
def rJoinG (K : PySem.W.Frag) : V → List V → Hp → VK → Prop := fun x xs H Q => ∃ (z : Str) (l : Addr) (ss : List Str), x = .str z ∧ xs = [.ref l] ∧ SqL K H l (ss.map V.str) ∧ z.length ≤ 1 ∧ (ss.map (·.length)).sum ≤ 1000000 ∧ ss.length ≤ 1000 ∧ Q (.str (glued z ss)) H
theorem mt_joinG : MtR X "str.join" (rJoinG X.K) := by
  intro pins s σ H x xs v us Q I rx rv h
  obtain ⟨z, l, ss, rfl, rfl, hS, hz, hsum, hn, q⟩ := h
  obtain ⟨t, rfl⟩ := rx
  obtain ⟨u, rfl, ru⟩ := rv.one
  cases ru
  obtain ⟨its, r1, pl, _⟩ := I.list hS
  obtain ⟨ps, rfl, e⟩ := vals_pairs r1
  have hm : ss.length * z.length ≤ 1000 := Nat.le_trans (Nat.mul_le_mul hn hz) (by decide)
  have hg : (Builtin.Str.glued z ss).length ≤ 1001000 := by
    rw [size_glued]
    have : (ss.length - 1) * z.length ≤ ss.length * z.length := Nat.mul_le_mul_right _ (by omega)
    omega
  refine call_meets PySem.F.slot_str_join (typeIs_str _ _ _) PySem.F.entry_str_join (PySem.F.args_str_join_2 _ _) (meets_str_join_list z t l ps ?_) ⟨PlainL.isList pl, ?_⟩
  · rw [e]
    unfold Builtin.Str.tooLong
    rw [List.foldl_toArray, foldl_len]
    exact decide_eq_false (by rw [sizeLine_eq]; omega)
  · match ps, e with
    | [p], e =>
      have e' : [p.1] = ss := e
      subst e'
      exact ⟨.str p.1, H, I, ⟨_, rfl⟩, q⟩
    | [], e =>
      refine ⟨by rw [e, sizeLine_eq]; omega, .str _, H, I.tok _, ⟨_, rfl⟩, ?_⟩
      rw [e]; exact q
    | a :: b :: r, e =>
      refine ⟨by rw [e, sizeLine_eq]; omega, .str _, H, I.tok _, ⟨_, rfl⟩, ?_⟩
      rw [e]; exact q
end
section
variable {K : PySem.W.Frag} {H : Hp} {Q : VK}
theorem r_joinG {z : Str} {l : Addr} {ss : List Str} (e : SqL K H l (ss.map V.str)) (hz : z.length ≤ 1) (h1 : (ss.map (·.length)).sum ≤ 1000000) (hn : ss.length ≤ 1000) (h : Q (.str (glued z ss)) H) : rJoinG K (.str z) [.ref l] H Q := ⟨z, l, ss, rfl, rfl, e, hz, h1, hn, h⟩
theorem r_menuS {p : Addr} {xs : List Str} {r : Int} (hS : SqL K H p (xs.map V.str)) (h0 : 0 ≤ r) (h1 : r < xs.length) (h : ∀ m, m ∈ xs → Q (.str m) H) : rIxL K (.ref p) (.int r) H Q := by
  obtain ⟨j, rfl⟩ := Int.eq_ofNat_of_zero_le h0
  have hj : j < xs.length := by omega
  exact r_ixL hS (atI_nat (by rw [List.getElem?_map, List.getElem?_eq_getElem hj]; rfl)) (h _ (List.getElem_mem hj))
end
end My
set_option Elab.async false
set_option linter.all false
set_option maxRecDepth 100000
set_option maxHeartbeats 4000000
set_option exponentiation.threshold 1000
namespace Our
open PySem L2 My PySem.NumText
def top (i : Nat) : PySem.Stmt := PySem.Challenge.pw_quotatree_k83_amounts_written.main.body.getD i (.Pass ⟨0, 0, 0, 0⟩)
abbrev s_is_whole : PySem.Stmt := top 6
abbrev s_is_whole_from : PySem.Stmt := top 7
abbrev s_is_amount : PySem.Stmt := top 9
abbrev s_divisor : PySem.Stmt := top 11
abbrev s_fraction : PySem.Stmt := top 12
abbrev s_divided : PySem.Stmt := top 13
abbrev s_parted : PySem.Stmt := top 14
abbrev s_show_share : PySem.Stmt := top 18
abbrev s_show_measure : PySem.Stmt := top 19
abbrev s_check_text : PySem.Stmt := top 20
abbrev s_is_number : PySem.Stmt := top 21
abbrev s_read_number : PySem.Stmt := top 22
abbrev s_pieces_in : PySem.Stmt := top 23
abbrev s_read_measure : PySem.Stmt := top 24
abbrev s_show_amounts : PySem.Stmt := top 25
abbrev s_read_pairs : PySem.Stmt := top 26
abbrev s_check_new : PySem.Stmt := top 27
abbrev s_read_amounts : PySem.Stmt := top 28
abbrev s_cell : PySem.Stmt := top 30
abbrev s_whole : PySem.Stmt := top 31
abbrev s_name : PySem.Stmt := top 32
abbrev s_common : PySem.Stmt := top 33
abbrev s_shown : PySem.Stmt := top 34
abbrev s_grain : PySem.Stmt := top 35
abbrev s_amounts : PySem.Stmt := top 36
abbrev s_words : PySem.Stmt := top 37
abbrev s_fault : PySem.Stmt := top 38
abbrev s_due : PySem.Stmt := top 39
abbrev s_read : PySem.Stmt := top 40
abbrev s_alike : PySem.Stmt := top 41
abbrev s_law : PySem.Stmt := top 42
structure Ad where
  f_is_whole : Addr
  fd_is_whole : FuncData
  f_is_whole_from : Addr
  fd_is_whole_from : FuncData
  f_is_amount : Addr
  fd_is_amount : FuncData
  f_divisor : Addr
  fd_divisor : FuncData
  f_fraction : Addr
  fd_fraction : FuncData
  f_divided : Addr
  fd_divided : FuncData
  f_parted : Addr
  fd_parted : FuncData
  f_show_share : Addr
  fd_show_share : FuncData
  f_show_measure : Addr
  fd_show_measure : FuncData
  f_check_text : Addr
  fd_check_text : FuncData
  f_is_number : Addr
  fd_is_number : FuncData
  f_read_number : Addr
  fd_read_number : FuncData
  f_pieces_in : Addr
  fd_pieces_in : FuncData
  f_read_measure : Addr
  fd_read_measure : FuncData
  f_show_amounts : Addr
  fd_show_amounts : FuncData
  f_read_pairs : Addr
  fd_read_pairs : FuncData
  f_check_new : Addr
  fd_check_new : FuncData
  f_read_amounts : Addr
  fd_read_amounts : FuncData
  f_cell : Addr
  fd_cell : FuncData
  f_whole : Addr
  fd_whole : FuncData
  f_name : Addr
  fd_name : FuncData
  f_common : Addr
  fd_common : FuncData
  f_shown : Addr
  fd_shown : FuncData
  f_grain : Addr
  fd_grain : FuncData
  f_amounts : Addr
  fd_amounts : FuncData
  f_words : Addr
  fd_words : FuncData
  f_fault : Addr
  fd_fault : FuncData
  f_due : Addr
  fd_due : FuncData
  f_read : Addr
  fd_read : FuncData
  f_alike : Addr
  fd_alike : FuncData
  f_law : Addr
  fd_law : FuncData
  c_NoAmount : Addr
  c_NoText : Addr
  c_NoWare : Addr
  u_FIGURES : Value
  u_MOST_FIGURES : Value
structure Tx (K : PySem.W.Frag) (mg : Str → Option Value) (d : Ad) : Prop where
  F_is_whole : Fun K "is_whole" "is_whole" s_is_whole d.f_is_whole d.fd_is_whole
  m_is_whole : mg "is_whole" = some (.ref d.f_is_whole)
  b_is_whole : Binds K d.fd_is_whole ["thing"] []
  F_is_whole_from : Fun K "is_whole_from" "is_whole_from" s_is_whole_from d.f_is_whole_from d.fd_is_whole_from
  m_is_whole_from : mg "is_whole_from" = some (.ref d.f_is_whole_from)
  b_is_whole_from : Binds K d.fd_is_whole_from ["thing", "least", "most"] []
  F_is_amount : Fun K "is_amount" "is_amount" s_is_amount d.f_is_amount d.fd_is_amount
  m_is_amount : mg "is_amount" = some (.ref d.f_is_amount)
  b_is_amount : Binds K d.fd_is_amount ["thing"] []
  F_divisor : Fun K "divisor" "divisor" s_divisor d.f_divisor d.fd_divisor
  m_divisor : mg "divisor" = some (.ref d.f_divisor)
  b_divisor : Binds K d.fd_divisor ["one", "other"] []
  F_fraction : Fun K "fraction" "fraction" s_fraction d.f_fraction d.fd_fraction
  m_fraction : mg "fraction" = some (.ref d.f_fraction)
  b_fraction : Binds K d.fd_fraction ["top", "bottom"] []
  F_divided : Fun K "divided" "divided" s_divided d.f_divided d.fd_divided
  m_divided : mg "divided" = some (.ref d.f_divided)
  b_divided : Binds K d.fd_divided ["one", "other"] []
  F_parted : Fun K "parted" "parted" s_parted d.f_parted d.fd_parted
  m_parted : mg "parted" = some (.ref d.f_parted)
  b_parted : Binds K d.fd_parted ["one"] []
  F_show_share : Fun K "show_share" "show_share" s_show_share d.f_show_share d.fd_show_share
  m_show_share : mg "show_share" = some (.ref d.f_show_share)
  b_show_share : Binds K d.fd_show_share ["share", "grain"] []
  F_show_measure : Fun K "show_measure" "show_measure" s_show_measure d.f_show_measure d.fd_show_measure
  m_show_measure : mg "show_measure" = some (.ref d.f_show_measure)
  b_show_measure : Binds K d.fd_show_measure ["pieces", "grain"] []
  F_check_text : Fun K "check_text" "check_text" s_check_text d.f_check_text d.fd_check_text
  m_check_text : mg "check_text" = some (.ref d.f_check_text)
  b_check_text : Binds K d.fd_check_text ["thing"] []
  F_is_number : Fun K "is_number" "is_number" s_is_number d.f_is_number d.fd_is_number
  m_is_number : mg "is_number" = some (.ref d.f_is_number)
  b_is_number : Binds K d.fd_is_number ["text"] []
  F_read_number : Fun K "read_number" "read_number" s_read_number d.f_read_number d.fd_read_number
  m_read_number : mg "read_number" = some (.ref d.f_read_number)
  b_read_number : Binds K d.fd_read_number ["text"] []
  F_pieces_in : Fun K "pieces_in" "pieces_in" s_pieces_in d.f_pieces_in d.fd_pieces_in
  m_pieces_in : mg "pieces_in" = some (.ref d.f_pieces_in)
  b_pieces_in : Binds K d.fd_pieces_in ["text", "grain"] []
  F_read_measure : Fun K "read_measure" "read_measure" s_read_measure d.f_read_measure d.fd_read_measure
  m_read_measure : mg "read_measure" = some (.ref d.f_read_measure)
  b_read_measure : Binds K d.fd_read_measure ["text", "grain"] []
  F_show_amounts : Fun K "show_amounts" "show_amounts" s_show_amounts d.f_show_amounts d.fd_show_amounts
  m_show_amounts : mg "show_amounts" = some (.ref d.f_show_amounts)
  b_show_amounts : Binds K d.fd_show_amounts ["amounts", "grains"] []
  F_read_pairs : Fun K "read_pairs" "read_pairs" s_read_pairs d.f_read_pairs d.fd_read_pairs
  m_read_pairs : mg "read_pairs" = some (.ref d.f_read_pairs)
  b_read_pairs : Binds K d.fd_read_pairs ["text"] []
  F_check_new : Fun K "check_new" "check_new" s_check_new d.f_check_new d.fd_check_new
  m_check_new : mg "check_new" = some (.ref d.f_check_new)
  b_check_new : Binds K d.fd_check_new ["name", "ahead"] []
  F_read_amounts : Fun K "read_amounts" "read_amounts" s_read_amounts d.f_read_amounts d.fd_read_amounts
  m_read_amounts : mg "read_amounts" = some (.ref d.f_read_amounts)
  b_read_amounts : Binds K d.fd_read_amounts ["text", "grains"] []
  F_cell : Fun K "_law_cell" "_law_cell" s_cell d.f_cell d.fd_cell
  m_cell : mg "_law_cell" = some (.ref d.f_cell)
  b_cell : Binds K d.fd_cell ["_law_script", "_law_k"] []
  F_whole : Fun K "_law_whole" "_law_whole" s_whole d.f_whole d.fd_whole
  m_whole : mg "_law_whole" = some (.ref d.f_whole)
  b_whole : Binds K d.fd_whole ["_law_found"] []
  F_name : Fun K "_law_name" "_law_name" s_name d.f_name d.fd_name
  m_name : mg "_law_name" = some (.ref d.f_name)
  b_name : Binds K d.fd_name ["_law_script", "_law_number"] []
  F_common : Fun K "_law_common" "_law_common" s_common d.f_common d.fd_common
  m_common : mg "_law_common" = some (.ref d.f_common)
  b_common : Binds K d.fd_common ["_law_one", "_law_other"] []
  F_shown : Fun K "_law_shown" "_law_shown" s_shown d.f_shown d.fd_shown
  m_shown : mg "_law_shown" = some (.ref d.f_shown)
  b_shown : Binds K d.fd_shown ["_law_top", "_law_bottom"] []
  F_grain : Fun K "_law_grain" "_law_grain" s_grain d.f_grain d.fd_grain
  m_grain : mg "_law_grain" = some (.ref d.f_grain)
  b_grain : Binds K d.fd_grain ["_law_cell_here"] []
  F_amounts : Fun K "_law_amounts" "_law_amounts" s_amounts d.f_amounts d.fd_amounts
  m_amounts : mg "_law_amounts" = some (.ref d.f_amounts)
  b_amounts : Binds K d.fd_amounts ["_law_script", "_law_wares"] []
  F_words : Fun K "_law_words" "_law_words" s_words d.f_words d.fd_words
  m_words : mg "_law_words" = some (.ref d.f_words)
  b_words : Binds K d.fd_words ["_law_script", "_law_wares", "_law_grains", "_law_some"] []
  F_fault : Fun K "_law_fault" "_law_fault" s_fault d.f_fault d.fd_fault
  m_fault : mg "_law_fault" = some (.ref d.f_fault)
  b_fault : Binds K d.fd_fault ["_law_script", "_law_words_here", "_law_cell_here"] []
  F_due : Fun K "_law_due" "_law_due" s_due d.f_due d.fd_due
  m_due : mg "_law_due" = some (.ref d.f_due)
  b_due : Binds K d.fd_due ["_law_words_here"] []
  F_read : Fun K "_law_read" "_law_read" s_read d.f_read d.fd_read
  m_read : mg "_law_read" = some (.ref d.f_read)
  b_read : Binds K d.fd_read ["_law_text", "_law_grains"] []
  F_alike : Fun K "_law_alike" "_law_alike" s_alike d.f_alike d.fd_alike
  m_alike : mg "_law_alike" = some (.ref d.f_alike)
  b_alike : Binds K d.fd_alike ["_law_found", "_law_due_here"] []
  F_law : Fun K "law" "law" s_law d.f_law d.fd_law
  m_law : mg "law" = some (.ref d.f_law)
  m_NoAmount : mg "NoAmount" = some (.ref d.c_NoAmount)
  m_NoText : mg "NoText" = some (.ref d.c_NoText)
  m_NoWare : mg "NoWare" = some (.ref d.c_NoWare)
  m_FIGURES : mg "FIGURES" = some d.u_FIGURES
  r_FIGURES : RelV (.str "0123456789") d.u_FIGURES
  m_MOST_FIGURES : mg "MOST_FIGURES" = some d.u_MOST_FIGURES
  r_MOST_FIGURES : RelV (.int 31) d.u_MOST_FIGURES
  z_abs : mg "abs" = none
  z_all : mg "all" = none
  z_bool : mg "bool" = none
  z_dict : mg "dict" = none
  z_int : mg "int" = none
  z_isinstance : mg "isinstance" = none
  z_len : mg "len" = none
  z_range : mg "range" = none
  z_sorted : mg "sorted" = none
  z_str : mg "str" = none
  z_sum : mg "sum" = none
  kcT : PySem.W.kitCls K (.ref d.c_NoText) (.ref d.c_NoText) = some true
  kcW : PySem.W.kitCls K (.ref d.c_NoWare) (.ref d.c_NoWare) = some true
  kcX : PySem.W.kitCls K (.ref d.c_NoText) (.ref d.c_NoWare) = some false
  X_NoAmount : My.XCls K d.c_NoAmount
  X_NoText : My.XCls K d.c_NoText
  X_NoWare : My.XCls K d.c_NoWare
  B_NoText : PySem.W.kitCls K (.ref d.c_NoText) (.type "BaseException") = some true
  B_NoWare : PySem.W.kitCls K (.ref d.c_NoWare) (.type "BaseException") = some true
@[irreducible] def gcdI (a b : Int) : Int := ((Int.gcd a b : Nat) : Int)
theorem gcd_step (g s : Int) (hs : 0 < s) : Int.gcd s (g % s) = Int.gcd g s := by
  have e : g = s * (g / s) + g % s := (Int.mul_ediv_add_emod g s).symm
  apply Nat.dvd_antisymm
  · have h1 : ((Int.gcd s (g % s) : Nat) : Int) ∣ s := Int.gcd_dvd_left _ _
    have h2 : ((Int.gcd s (g % s) : Nat) : Int) ∣ g % s := Int.gcd_dvd_right _ _
    have h3 : ((Int.gcd s (g % s) : Nat) : Int) ∣ g := by
      have := Int.dvd_add (Int.dvd_trans h1 (Int.dvd_mul_right s (g / s))) h2
      rw [← e] at this
      exact this
    exact Int.ofNat_dvd.mp (Int.dvd_coe_gcd h3 h1)
  · have h1 : ((Int.gcd g s : Nat) : Int) ∣ g := Int.gcd_dvd_left _ _
    have h2 : ((Int.gcd g s : Nat) : Int) ∣ s := Int.gcd_dvd_right _ _
    have h3 : ((Int.gcd g s : Nat) : Int) ∣ g % s := by
      have := Int.dvd_sub h1 (Int.dvd_trans h2 (Int.dvd_mul_right s (g / s)))
      have e2 : g - s * (g / s) = g % s := by omega
      rw [e2] at this
      exact this
    exact Int.ofNat_dvd.mp (Int.dvd_coe_gcd h2 h3)
theorem gcd_abs (a b : Int) : Int.gcd (if a < 0 then -a else a) (if b < 0 then -b else b) = Int.gcd a b := by
  have ea : (if a < 0 then -a else a).natAbs = a.natAbs := by split <;> omega
  have eb : (if b < 0 then -b else b).natAbs = b.natAbs := by split <;> omega
  unfold Int.gcd
  rw [ea, eb]
theorem nonneg (a b : Int) : 0 ≤ gcdI a b := by unfold gcdI; exact Int.natCast_nonneg _
theorem zero {a b : Int} (h : gcdI a b = 0) : a = 0 ∧ b = 0 := by
  unfold gcdI at h
  exact Int.gcd_eq_zero_iff.mp (by omega)
def sg (t b : Int) : Int := if b < 0 then 0 - gcdI t b else gcdI t b
theorem gcdI_pos {t b : Int} (h : b ≠ 0) : 0 < gcdI t b := by
  have h1 := nonneg t b
  have h2 : gcdI t b ≠ 0 := fun z => h (zero z).2
  omega
theorem gcdI_le {t b : Int} (h : b ≠ 0) : (gcdI t b).natAbs ≤ b.natAbs := by
  have hd : gcdI t b ∣ b := by unfold gcdI; exact Int.gcd_dvd_right _ _
  exact Nat.le_of_dvd (by omega) (Int.natAbs_dvd_natAbs.mpr hd)
def sg' (t b : Int) : Int := if b < 0 then - gcdI t b else gcdI t b
theorem low_facts {t b : Int} (hb : b ≠ 0) : ∃ x y : Int, t.fdiv (sg' t b) = x ∧ b.fdiv (sg' t b) = y ∧ 1 ≤ y ∧ x * b = y * t ∧ Int.gcd x y = 1 ∧ x.natAbs ≤ t.natAbs ∧ y.natAbs ≤ b.natAbs := by
  have gp := gcdI_pos (t := t) hb
  have d1 : gcdI t b ∣ t := by unfold gcdI; exact Int.gcd_dvd_left _ _
  have d2 : gcdI t b ∣ b := by unfold gcdI; exact Int.gcd_dvd_right _ _
  have e1 : sg' t b ∣ t := by unfold sg'; split <;> first | exact Int.neg_dvd.mpr d1 | exact d1
  have e2 : sg' t b ∣ b := by unfold sg'; split <;> first | exact Int.neg_dvd.mpr d2 | exact d2
  have s0 : sg' t b ≠ 0 := by unfold sg'; split <;> omega
  have na : (sg' t b).natAbs = Int.gcd t b := by
    have : (gcdI t b).natAbs = Int.gcd t b := by unfold gcdI; exact Int.natAbs_natCast _
    unfold sg'; split <;> omega
  have sgn : 0 < b / sg' t b := by
    unfold sg'
    split
    · rename_i n
      rw [Int.ediv_neg]
      have : b / gcdI t b < 0 := Int.ediv_neg_of_neg_of_pos n gp
      omega
    · exact Int.ediv_pos_of_pos_of_dvd (by omega) (by omega) d2
  rw [Int.fdiv_eq_ediv_of_dvd e1, Int.fdiv_eq_ediv_of_dvd e2]
  generalize hs : sg' t b = s at *
  obtain ⟨x, hx⟩ := e1
  obtain ⟨y, hy⟩ := e2
  have ex : t / s = x := by rw [hx]; exact Int.mul_ediv_cancel_left _ s0
  have ey : b / s = y := by rw [hy]; exact Int.mul_ediv_cancel_left _ s0
  refine ⟨x, y, ex, ey, by omega, by rw [hy, hx, ← Int.mul_assoc, ← Int.mul_assoc, Int.mul_comm x s, Int.mul_comm y s, Int.mul_assoc, Int.mul_assoc, Int.mul_comm x y], ?_, ?_, ?_⟩
  · have hp : 0 < Int.gcd t b := Int.gcd_pos_of_ne_zero_right _ hb
    have h := Int.gcd_mul_left s x y
    rw [← hx, ← hy, na] at h
    have : Int.gcd t b * Int.gcd x y = Int.gcd t b * 1 := by omega
    exact Nat.eq_of_mul_eq_mul_left hp this
  · rw [hx, Int.natAbs_mul]; exact Nat.le_mul_of_pos_left _ (by omega)
  · rw [hy, Int.natAbs_mul]; exact Nat.le_mul_of_pos_left _ (by omega)
def meas (i : Nat) (σ : St) : Nat := match σ[i]? with
  | some (some (.int s)) => s.toNat
  | _ => 0
def tl (t b : Int) : Str := shw t ++ Str.ofString "/" ++ shw b
def SH (t b : Int) : Str := if t % b = 0 then shw (t / b) else if t / b = 0 then tl (t % b / gcdI t b) (b / gcdI t b) else shw (t / b) ++ Str.ofString "+" ++ tl (t % b / gcdI t b) (b / gcdI t b)
theorem SH_scale {k t b : Int} (hk : 0 < k) : SH (k * t) (k * b) = SH t b := by
  have e1 : k * t / (k * b) = t / b := Int.mul_ediv_mul_of_pos _ _ hk
  have e2 : k * t % (k * b) = k * (t % b) := Int.mul_emod_mul_of_pos _ _ hk
  have e3 : gcdI (k * t) (k * b) = k * gcdI t b := by
    unfold gcdI
    rw [Int.gcd_mul_left]
    have : ((k.natAbs : Nat) : Int) = k := by omega
    rw [Int.natCast_mul, this]
  unfold SH
  rw [e1, e2, e3, Int.mul_ediv_mul_of_pos _ _ hk, Int.mul_ediv_mul_of_pos _ _ hk]
  have c : (k * (t % b) = 0) = (t % b = 0) := propext ⟨fun z => (Int.mul_eq_zero.mp z).resolve_left (by omega), fun z => by rw [z, Int.mul_zero]⟩
  simp only [c]
theorem SH_one {t b : Int} (h : gcdI t b = 1) : SH t b = if t % b = 0 then shw (t / b) else if t / b = 0 then tl (t % b) b else shw (t / b) ++ Str.ofString "+" ++ tl (t % b) b := by
  unfold SH
  rw [h, Int.ediv_one, Int.ediv_one]
theorem SH_low {t b : Int} (ht : 0 ≤ t) (hb : 0 < b) : ∃ x y : Int, t.fdiv (sg' t b) = x ∧ b.fdiv (sg' t b) = y ∧ 0 ≤ x ∧ 0 < y ∧ gcdI x y = 1 ∧ x ≤ t ∧ y ≤ b ∧ SH x y = SH t b := by
  have gp := gcdI_pos (t := t) (show b ≠ 0 by omega)
  have es : sg' t b = gcdI t b := by unfold sg'; rw [if_neg (by omega)]
  have d1 : gcdI t b ∣ t := by unfold gcdI; exact Int.gcd_dvd_left _ _
  have d2 : gcdI t b ∣ b := by unfold gcdI; exact Int.gcd_dvd_right _ _
  obtain ⟨x, y, ex, ey, y1, _, hg, xb, yb⟩ := low_facts (t := t) (show b ≠ 0 by omega)
  have ex' := ex
  have ey' := ey
  rw [es, Int.fdiv_eq_ediv_of_dvd d1] at ex'
  rw [es, Int.fdiv_eq_ediv_of_dvd d2] at ey'
  have e1 : t = gcdI t b * x := by rw [← ex']; exact (Int.mul_ediv_cancel' d1).symm
  have e2 : b = gcdI t b * y := by rw [← ey']; exact (Int.mul_ediv_cancel' d2).symm
  have x0 : 0 ≤ x := by rw [← ex']; exact Int.ediv_nonneg ht (by omega)
  have eg : gcdI x y = 1 := by unfold gcdI; rw [hg]; rfl
  refine ⟨x, y, ex, ey, x0, by omega, eg, by omega, by omega, ?_⟩
  have z := SH_scale (k := gcdI t b) (t := x) (b := y) gp
  rw [← e1, ← e2] at z
  exact z.symm
theorem small {m : Int} {n : Nat} (h0 : 0 ≤ m) (h1 : m ≤ n) (hn : n < 2 ^ 600) : m.natAbs < 2 ^ 600 := Nat.lt_of_le_of_lt (show m.natAbs ≤ n by omega) hn
theorem tl_len {t b : Int} (ht : t.natAbs < 2 ^ 600) (hb : b.natAbs < 2 ^ 600) : (tl t b).length ≤ 4001 := by
  unfold tl
  rw [app_len, app_len]
  have h1 := shw_len ht
  have h2 := shw_len hb
  have h3 : (Str.ofString "/").length = 1 := rfl
  omega
abbrev cds (z : Str) : List Nat := z.cps.toList
abbrev plusS : Str := ⟨#[43]⟩
abbrev slashS : Str := ⟨#[47]⟩
def tlL (t b : Nat) : List Nat := dg t ++ 47 :: dg b
def SHL (p g : Nat) : List Nat := if p % g = 0 then dg (p / g) else if p / g = 0 then tlL (p % g / Nat.gcd p g) (g / Nat.gcd p g) else dg (p / g) ++ 43 :: tlL (p % g / Nat.gcd p g) (g / Nat.gcd p g)
theorem tl_L (t b : Nat) : tl ((t : Nat) : Int) ((b : Nat) : Int) = ofC (tlL t b) := by
  unfold tl tlL
  rw [shw_dg, shw_dg, show Str.ofString "/" = ofC [47] from rfl, ofC_app, ofC_app, List.append_assoc]
  rfl
theorem SH_L (p g : Nat) : SH ((p : Nat) : Int) ((g : Nat) : Int) = ofC (SHL p g) := by
  have eg : gcdI ((p : Nat) : Int) ((g : Nat) : Int) = ((Nat.gcd p g : Nat) : Int) := by unfold gcdI; rw [Int.gcd_natCast_natCast]
  unfold SH SHL
  rw [eg, ← Int.natCast_emod, ← Int.natCast_ediv, ← Int.natCast_ediv, ← Int.natCast_ediv, tl_L]
  by_cases c : p % g = 0
  · rw [if_pos c, if_pos (by omega), shw_dg]
  · rw [if_neg c, if_neg (by omega)]
    by_cases c2 : p / g = 0
    · rw [if_pos c2, if_pos (by omega)]
    · rw [if_neg c2, if_neg (by omega), shw_dg, show Str.ofString "+" = ofC [43] from rfl, ofC_app, ofC_app, List.append_assoc]
      rfl
open Classical in
noncomputable def numS (z : Str) : Option Int := if Fig (cds z) ∧ Can (cds z) then some ((digitsVal (cds z) : Nat) : Int) else none
open Classical in
noncomputable def pcS (z : Str) (g : Int) : Option Int :=
  match numS (Txt.partition z slashS).1 with
  | none => none
  | some n => if 47 ∈ cds z then
      match numS (Txt.partition z slashS).2.2 with
      | none => none
      | some m => if m = 0 then none else some (n * g / m)
    else some (n * g)
noncomputable def sumS (g : Int) : List Str → Option Int
  | [] => some 0
  | z :: r => match pcS z g, sumS g r with
    | some a, some b => some (a + b)
    | _, _ => none
open Classical in
noncomputable def rdS (z : Str) (g : Int) : Option Int := match sumS g (Txt.split z plusS) with
  | none => none
  | some p => if (0 ≤ p ∧ p ≤ 10 ^ 30) ∧ SH p g = z then some p else none
open Classical in
theorem no_sign {m c : Nat} (h : c < 48) : c ∉ dg m := fun z => by have := (dg_is m c z).1; omega
theorem fig_dg {m : Nat} (h : m < 10 ^ 31) : Fig (dg m) := ⟨by
  have := dg_ne m
  cases e : dg m with
  | nil => exact absurd e this
  | cons a r => simp, dg_len 30 m h, dg_is m⟩
theorem num_dg {m : Nat} (h : m < 10 ^ 31) : numS (ofC (dg m)) = some ((m : Nat) : Int) := by
  unfold numS
  rw [if_pos ⟨fig_dg h, can_dg m⟩, show cds (ofC (dg m)) = dg m from rfl, dg_val]
theorem tl_parts {t b : Nat} : Txt.partition (ofC (tlL t b)) slashS = (ofC (dg t), slashS, ofC (dg b)) := part_at (no_sign (by decide))
theorem tl_no {t b : Nat} : 43 ∉ tlL t b := fun h => by
  unfold tlL at h
  rcases List.mem_append.mp h with z | z
  · exact no_sign (by decide) z
  · rcases List.mem_cons.mp z with z | z
    · exact absurd z (by decide)
    · exact no_sign (by decide) z
theorem tl_in {t b : Nat} : 47 ∈ tlL t b := List.mem_append_right _ (List.mem_cons_self ..)
theorem pc_one {m g : Nat} (h : m < 10 ^ 31) : pcS (ofC (dg m)) ((g : Nat) : Int) = some (((m * g : Nat)) : Int) := by
  unfold pcS
  rw [part_no (no_sign (by decide))]
  dsimp only
  rw [num_dg h]
  dsimp only
  rw [if_neg (show ¬ 47 ∈ cds (ofC (dg m)) from no_sign (by decide)), Int.natCast_mul]
theorem pc_tl {t b g q : Nat} (ht : t < 10 ^ 31) (hb : b < 10 ^ 31) (b0 : b ≠ 0) (e : t * g = q * b) : pcS (ofC (tlL t b)) ((g : Nat) : Int) = some ((q : Nat) : Int) := by
  unfold pcS
  rw [tl_parts]
  dsimp only
  rw [num_dg ht, num_dg hb]
  dsimp only
  rw [if_pos (show 47 ∈ cds (ofC (tlL t b)) from tl_in), if_neg (by omega), ← Int.natCast_mul, e, Int.natCast_mul, Int.mul_ediv_cancel _ (by omega)]
theorem low_tl {p g : Nat} (g0 : 0 < g) (g1 : g ≤ 1000) : (p % g / Nat.gcd p g) < 10 ^ 31 ∧ g / Nat.gcd p g < 10 ^ 31 ∧ g / Nat.gcd p g ≠ 0 ∧ (p % g / Nat.gcd p g) * g = (p % g) * (g / Nat.gcd p g) := by
  have d0 : 0 < Nat.gcd p g := Nat.gcd_pos_of_pos_right _ g0
  have d1 : Nat.gcd p g ∣ g := Nat.gcd_dvd_right _ _
  have d2 : Nat.gcd p g ∣ p % g := (Nat.dvd_mod_iff d1).mpr (Nat.gcd_dvd_left _ _)
  have r1 : p % g < g := Nat.mod_lt _ g0
  have a1 : p % g / Nat.gcd p g ≤ p % g := Nat.div_le_self _ _
  have a2 : g / Nat.gcd p g ≤ g := Nat.div_le_self _ _
  refine ⟨Nat.lt_of_le_of_lt (show _ ≤ 1000 by omega) (by decide), Nat.lt_of_le_of_lt (show _ ≤ 1000 by omega) (by decide), fun z => ?_, ?_⟩
  · have := Nat.div_mul_cancel d1
    rw [z] at this
    omega
  · have e1 := Nat.div_mul_cancel d2
    have e2 := Nat.div_mul_cancel d1
    generalize p % g / Nat.gcd p g = u at *
    generalize g / Nat.gcd p g = v at *
    rw [← e1]
    refine (congrArg (fun y => u * y) e2.symm).trans ?_
    show u * (v * Nat.gcd p g) = u * Nat.gcd p g * v
    rw [Nat.mul_comm v, Nat.mul_assoc]
theorem rd_SH {p g : Nat} (hp : p ≤ 10 ^ 30) (g0 : 0 < g) (g1 : g ≤ 1000) : rdS (ofC (SHL p g)) ((g : Nat) : Int) = some ((p : Nat) : Int) := by
  obtain ⟨t1, b1, b0, eq⟩ := low_tl (p := p) g0 g1
  have w1 : p / g < 10 ^ 31 := Nat.lt_of_le_of_lt (Nat.le_trans (Nat.div_le_self _ _) hp) (by decide)
  have dm := Nat.div_add_mod p g
  have hs : sumS ((g : Nat) : Int) (Txt.split (ofC (SHL p g)) plusS) = some ((p : Nat) : Int) := by
    unfold SHL
    by_cases c : p % g = 0
    · rw [if_pos c, split_no (no_sign (by decide))]
      show (match pcS (ofC (dg (p / g))) ((g : Nat) : Int), sumS ((g : Nat) : Int) [] with | some a, some b => some (a + b) | _, _ => none) = _
      rw [pc_one w1]
      show some ((((p / g * g : Nat)) : Int) + 0) = _
      rw [Nat.mul_comm, show g * (p / g) = p by omega, Int.add_zero]
    · rw [if_neg c]
      by_cases c2 : p / g = 0
      · rw [if_pos c2, split_no tl_no]
        show (match pcS (ofC (tlL _ _)) ((g : Nat) : Int), sumS ((g : Nat) : Int) [] with | some a, some b => some (a + b) | _, _ => none) = _
        rw [pc_tl t1 b1 b0 eq]
        show some (((p % g : Nat) : Int) + 0) = _
        rw [c2] at dm
        rw [show p % g = p by omega, Int.add_zero]
      · rw [if_neg c2, split_at (no_sign (by decide)) tl_no (by decide)]
        show (match pcS (ofC (dg (p / g))) ((g : Nat) : Int), (match pcS (ofC (tlL _ _)) ((g : Nat) : Int), sumS ((g : Nat) : Int) [] with | some a, some b => some (a + b) | _, _ => none) with | some a, some b => some (a + b) | _, _ => none) = _
        rw [pc_one w1, pc_tl t1 b1 b0 eq]
        show some ((((p / g * g : Nat)) : Int) + (((p % g : Nat) : Int) + 0)) = _
        rw [Int.add_zero, ← Int.natCast_add, Nat.mul_comm, dm]
  unfold rdS
  rw [hs]
  dsimp only
  rw [if_pos ⟨⟨by omega, by omega⟩, SH_L p g⟩]
def sp_common (K : PySem.W.Frag) (d : Ad) : Sp := fun vs H Q _ => ∃ i j : Int, vs = [.int i, .int j] ∧ 0 ≤ i ∧ 0 ≤ j ∧ Q (.int (gcdI i j)) H
def sp_grain (K : PySem.W.Frag) (d : Ad) : Sp := fun vs H Q _ => ∃ c : Int, vs = [.int c] ∧ ∀ (g : Int) H', Same H H' → 1 ≤ g → g ≤ 1000 → Q (.int g) H'
def sp_shown (K : PySem.W.Frag) (d : Ad) : Sp := fun vs H Q _ => ∃ t b : Int, vs = [.int t, .int b] ∧ 0 ≤ t ∧ t ≤ 10 ^ 40 ∧ 0 < b ∧ b ≤ 10 ^ 23 ∧ Q (.str (SH t b)) H
def sp_divisor (K : PySem.W.Frag) (d : Ad) : Sp := fun vs H Q _ => ∃ i j : Int, vs = [.int i, .int j] ∧ Q (.int (gcdI i j)) H
def sp_fraction (K : PySem.W.Frag) (d : Ad) : Sp := fun vs H Q E => ∃ t b : Int, vs = [.int t, .int b] ∧ b.natAbs < 2 ^ 600 ∧ b ≠ 0 ∧
  ∀ p, H p = none → Q (.ref p) (upd H p (.tup [.int (t.fdiv (sg' t b)), .int (b.fdiv (sg' t b))]))
def sp_divided (K : PySem.W.Frag) (d : Ad) : Sp := fun vs H Q E => ∃ (o p : Addr) (t1 b1 t2 b2 : Int), vs = [.ref o, .ref p] ∧ H o = some (.tup [.int t1, .int b1]) ∧ H p = some (.tup [.int t2, .int b2]) ∧
  t1.natAbs < 2 ^ 200 ∧ b1.natAbs < 2 ^ 200 ∧ t2.natAbs < 2 ^ 200 ∧ b2.natAbs < 2 ^ 200 ∧ b1 ≠ 0 ∧ t2 ≠ 0 ∧ ∀ r, H r = none → Q (.ref r) (upd H r (.tup [.int ((t1 * b2).fdiv (sg' (t1 * b2) (b1 * t2))), .int ((b1 * t2).fdiv (sg' (t1 * b2) (b1 * t2)))]))
def sp_parted (K : PySem.W.Frag) (d : Ad) : Sp := fun vs H Q _ => ∃ (o : Addr) (t b : Int), vs = [.ref o] ∧ H o = some (.tup [.int t, .int b]) ∧ 0 < b ∧ b.natAbs < 2 ^ 600 ∧ t.natAbs < 2 ^ 600 ∧
  ∀ (p r : Addr) (H' : Hp), Same H H' → H' p = some (.tup [.int (t / b), .ref r]) → H' r = some (.tup [.int (t % b), .int b]) → Q (.ref p) H'
def sp_show_measure (K : PySem.W.Frag) (d : Ad) : Sp := fun vs H Q _ => ∃ n g : Int, vs = [.int n, .int g] ∧ 0 ≤ n ∧ n ≤ 10 ^ 40 ∧ 1 ≤ g ∧ g ≤ 1000 ∧ ∀ H', Same H H' → Q (.str (SH n g)) H'
def sp_show_share (K : PySem.W.Frag) (d : Ad) : Sp := fun vs H Q _ => ∃ (o : Addr) (t b g : Int), vs = [.ref o, .int g] ∧ H o = some (.tup [.int t, .int b]) ∧ 0 ≤ t ∧ t ≤ 10 ^ 40 ∧ 0 < b ∧ b ≤ 10 ^ 20 ∧ 1 ≤ g ∧ g ≤ 1000 ∧ ∀ H', Same H H' → Q (.str (SH t (b * g))) H'
section
variable {K : PySem.W.Frag} {d : Ad} {H : Hp} {Q : VK} {E : XK}
theorem u_divisor {i j : Int} (q : Q (.int (gcdI i j)) H) : sp_divisor K d [.int i, .int j] H Q E := ⟨i, j, rfl, q⟩
theorem u_common {i j : Int} (h0 : 0 ≤ i) (h1 : 0 ≤ j) (q : Q (.int (gcdI i j)) H) : sp_common K d [.int i, .int j] H Q E := ⟨i, j, rfl, h0, h1, q⟩
theorem r_partI {out z : Str} {r : List TE} {σ : St} (hz : (out ++ z).length ≤ sizeLine) (h : tParts r (out ++ z) σ H Q) : ∃ y, V.str z = .str y ∧ (out ++ y).length ≤ sizeLine ∧ tParts r (out ++ y) σ H Q := ⟨z, rfl, hz, h⟩
end
local macro_rules | `(tactic| walk_at "kit") => `(tactic| (with_reducible (first | assumption | exact My.kit_int_int | exact My.kit_int_bool | exact My.kit_int_str | exact My.kit_int_lst | exact My.kit_int_tup | exact My.kit_int_dct | exact My.kit_bool_int | exact My.kit_bool_bool | exact My.kit_bool_str | exact My.kit_bool_lst | exact My.kit_bool_tup | exact My.kit_bool_dct | exact My.kit_str_int | exact My.kit_str_bool | exact My.kit_str_str | exact My.kit_str_lst | exact My.kit_str_tup | exact My.kit_str_dct | exact My.kit_non_int | exact My.kit_non_bool | exact My.kit_non_str | exact My.kit_non_lst | exact My.kit_non_tup | exact My.kit_non_dct | exact My.kit_lst_int | exact My.kit_lst_bool | exact My.kit_lst_str | exact My.kit_lst_lst | exact My.kit_lst_tup | exact My.kit_lst_dct | exact My.kit_tup_int | exact My.kit_tup_bool | exact My.kit_tup_str | exact My.kit_tup_lst | exact My.kit_tup_tup | exact My.kit_tup_dct | exact My.kit_dct_int | exact My.kit_dct_bool | exact My.kit_dct_str | exact My.kit_dct_lst | exact My.kit_dct_tup | exact My.kit_dct_dct)))
local macro_rules | `(tactic| walk_at "ty") => `(tactic| (first | (with_reducible assumption) | (with_reducible exact TyOf.int _) | (with_reducible exact TyOf.bl _) | (with_reducible exact TyOf.str _) | (with_reducible exact TyOf.non) | ((with_reducible refine' TyOf.tup ?h); (case h => walk_at "heap")) | ((with_reducible refine' TyOf.lst ?h); (case h => walk_at "heap")) | ((with_reducible refine' TyOf.dK ?h); (case h => walk_at "heap"))))
local macro_rules | `(tactic| walk_at "heap") => `(tactic| first | with_reducible assumption | with_reducible exact upd_same | ((with_reducible refine' look_new ?h ?n); (case n => with_reducible assumption); (case h => walk_at "heap")))
local macro_rules | `(tactic| walk_at "sqL") => `(tactic| first | with_reducible assumption | ((with_reducible refine' sqL_new ?h ?n); (case n => with_reducible assumption); (case h => walk_at "sqL")) | ((with_reducible refine' SqL.of ?h); (case h => walk_at "heap")))
local macro_rules | `(tactic| walk_at "sqT") => `(tactic| first | with_reducible assumption | ((with_reducible refine' sqT_new ?h ?n); (case n => with_reducible assumption); (case h => walk_at "sqT")) | ((with_reducible refine' SqT.of ?h); (case h => walk_at "heap")))
local macro_rules | `(tactic| walk_at "side") => `(tactic| first | assumption | exact rfl | omega | decide | (simp only [List.length_cons, List.length_nil, List.length_map]; omega) | exact ⟨by omega, by omega⟩ | exact ⟨by decide, by decide⟩ | exact ⟨by omega, by assumption⟩ | exact ⟨by assumption, by assumption⟩ | exact ⟨by decide, by assumption⟩ | exact ⟨by decide, by decide, by decide⟩)
local macro_rules | `(tactic| walk_at "size") => `(tactic| (first | assumption | (simp only [List.length_cons, List.length_nil, List.length_map, List.length_take]; first | decide | (show _ ≤ 16777216; omega) | (show _ < 16777216; omega)) | (show _ ≤ 16777216; omega) | (show _ < 16777216; omega)))
local macro_rules | `(tactic| walk_at "sp") => `(tactic| fail)
local macro_rules | `(tactic| walk_at "r1") => `(tactic| first
  | (with_reducible refine r_var (by with_unfolding_all exact rfl) ?_)
  | (with_reducible refine r_c ?_) | (with_reducible refine r_op ?_) | (with_reducible refine r_un ?_)
  | (with_reducible refine r_I0 ?_) | (with_reducible refine r_U ?_)
  | ((with_reducible refine r_I ?hc ?_); (case hc => walk_at "side"))
  | (with_reducible refine r_eqI ?_) | (with_reducible refine r_neI ?_) | (with_reducible refine r_eqB ?_) | (with_reducible refine r_eqS ?_) | (with_reducible refine r_neS ?_)
  | (with_reducible refine r_exb ?_) | (with_reducible refine r_test ?_) | (with_reducible refine r_tB ?_)
  | (with_reducible refine r_and ?_) | (with_reducible refine r_or ?_) | (with_reducible refine r_not ?_)
  | (with_reducible refine r_andV ?_) | (with_reducible refine r_orV ?_) | (with_reducible refine r_notV ?_) | (with_reducible refine r_ifE ?_)
  | (with_reducible refine r_next ?_) | (with_reducible refine r_seq ?_) | (with_reducible refine r_drop ?_) | (with_reducible refine r_ret ?_) | (with_reducible refine r_retN ?_)
  | (with_reducible refine r_if ?_) | (with_reducible refine r_asg ?_)
  | (with_reducible refine r_name (by with_unfolding_all (simp only [List.set]; exact rfl)) ?_)
  | (with_reducible refine r_gnil ?_) | (with_reducible refine r_gcons ?_)
  | ((with_reducible refine' r_gtup ?s ?n ?_); (case s => walk_at "sqT"); (case n => exact rfl))
  | (with_reducible refine r_for ?_) | (with_reducible refine r_iL ?_) | (with_reducible refine r_iT ?_) | (with_reducible refine r_iR ?_)
  | ((with_reducible refine' r_itL ?s ?_); (case s => walk_at "sqL")) | ((with_reducible refine' r_itT ?s ?_); (case s => walk_at "sqT")) | ((with_reducible refine' r_itR ?s ?t ?_); (case s => walk_at "side"); (case t => walk_at "side"))
  | (with_reducible refine r_par ?_) | (with_reducible refine r_two ?_)
  | (with_reducible refine r_gone (by with_unfolding_all (simp only [List.set]; exact rfl)) ?_) | (with_reducible refine r_goneR ?_)
  | (with_reducible refine r_nx ?_) | (with_reducible refine r_rt ?_) | (with_reducible refine r_bk ?_) | (with_reducible refine r_ct ?_)
  | (with_reducible refine r_nil ?_) | (with_reducible refine r_cons ?_) | (with_reducible refine r_tup ?_) | (with_reducible refine r_lst ?_)
  | ((with_reducible refine r_new ?n ?_); (case n => (simp only [List.length_cons, List.length_nil]; decide)))
  | ((with_reducible refine r_fresh ?_); intro p hp)
  | (with_reducible refine r_as ?_)
  | (with_reducible refine r_call ?_) | (with_reducible refine r_callX ?_) | (with_reducible refine r_cb ?_) | ((with_reducible refine r_try ?_); intro pins) | (with_reducible refine r_raise ?_)
  | ((with_reducible refine' r_ixT ?s ?e ?_); (case s => walk_at "sqT"); (case e => exact rfl))
  | (with_reducible refine r_comp ?_) | (with_reducible refine r_true ?_) | (with_reducible refine r_iS ?_) | (with_reducible refine r_itS ?_) | (with_reducible refine r_inS ?_)
  | ((with_reducible refine' r_app ?a ?z ?_); (case a => walk_at "heap"); (case z => walk_at "size"))
  | ((with_reducible refine' r_catS ?z ?_); (case z => walk_at "size")) | ((with_reducible refine' r_lenS ?z ?_); (case z => walk_at "size")) | ((with_reducible refine' r_slS ?z ?_); (case z => walk_at "size"))
  | (with_reducible refine r_sl ?_) | (with_reducible refine r_noPart ?_) | (with_reducible refine r_part ?_) | (with_reducible refine r_exi ?_) | (with_reducible refine r_chain ?_)
  | ((with_reducible refine' r_lenT ?s ?_); (case s => walk_at "sqT")) | ((with_reducible refine' r_lenL ?s ?_); (case s => walk_at "sqL"))
  | (with_reducible refine r_abs ?_) | (with_reducible refine r_isNn ?_) | (with_reducible refine r_isNr ?_) | (with_reducible refine r_isNi ?_) | (with_reducible refine r_isNb ?_) | (with_reducible refine r_isNs ?_)
  | (with_reducible refine r_notNn ?_) | (with_reducible refine r_notNr ?_) | (with_reducible refine r_notNi ?_) | (with_reducible refine r_isTb ?_) | (with_reducible refine r_isTn ?_)
  | ((with_reducible refine' r_isi ?t ?k ?_); (case t => walk_at "ty"); (case k => walk_at "kit"))
  | (with_reducible refine i_nT ?_) | (with_reducible refine i_nF ?_)
  | (with_reducible refine iteT ?_) | (with_reducible refine iteF ?_)
  | ((with_reducible refine i_t ?c ?_); (case c => walk_at "side")) | ((with_reducible refine i_f ?c ?_); (case c => walk_at "side"))
  | ((with_reducible refine i_nt ?c ?_); (case c => walk_at "side")) | ((with_reducible refine i_nf ?c ?_); (case c => walk_at "side"))
  | walk_at "sp")
local macro_rules | `(tactic| walk_at "go") => `(tactic| repeat walk_at "r1")
local macro_rules | `(tactic| walk_at "same") => `(tactic| first | with_reducible assumption | exact Same.refl _ | ((with_reducible refine' same_upd ?h ?n); (case n => with_reducible assumption); (case h => walk_at "same")))
local macro_rules | `(tactic| walk_at "sp") => `(tactic| first
  | (with_reducible refine u_divisor ?_) | (with_reducible refine r_bm ?_) | (with_reducible refine r_bm0 ?_) | (with_reducible refine r_tyS ?_) | ((with_reducible refine' r_tyL ?s ?_); (case s => walk_at "sqL"))
  | (with_reducible refine r_join ?_) | (with_reducible refine r_part0 ?_) | (with_reducible refine r_part1 ?_) | (with_reducible refine r_fmtI ?_)
  | ((with_reducible refine r_fmtIi ?z ?_); (case z => walk_at "side")) | ((with_reducible refine r_str ?z ?_); (case z => walk_at "side"))
  | ((with_reducible refine' r_ixL ?s ?e ?_); (case s => walk_at "sqL"); (case e => exact rfl)))
local macro_rules | `(tactic| walk_at "rd") => `(tactic| first | with_reducible assumption | ((with_reducible refine' rd_new ?h ?n); (case n => with_reducible assumption); (case h => walk_at "rd")) | ((with_reducible refine' Rd.of ?h); (case h => walk_at "heap")))
local macro_rules | `(tactic| walk_at "sp") => `(tactic| first
  | (with_reducible refine r_intB ?_) | (with_reducible refine r_neB ?_)
  | (with_reducible refine r_dg ?_) | ((with_reducible refine' r_dgk ?r ?a ?e ?_); (case r => walk_at "rd"); (case a => with_reducible assumption); (case e => with_reducible assumption))
  | (with_reducible refine r_dp ?_) | ((with_reducible refine' r_dpk ?e ?z ?_); (case e => walk_at "heap"); (case z => walk_at "size"))
  | (with_reducible refine r_di ?_) | ((with_reducible refine' r_dik ?r ?a ?_); (case r => walk_at "rd"); (case a => with_reducible assumption))
  | ((with_reducible refine r_dnew ?_); intro p hp) | (with_reducible refine r_thA ?_) | (with_reducible refine r_iD ?_)
  | ((with_reducible refine' r_dictCp ?e ?_); (case e => walk_at "rd"); intro p hp)
  | ((with_reducible refine' r_append ?h ?z ?_); (case h => walk_at "heap"); (case z => walk_at "size")))
theorem sc_is_whole : FnScope ["thing"] ["thing"] (defScope s_is_whole) := ⟨rfl, rfl, rfl, by decide +kernel, rfl, by decide +kernel, by decide +kernel⟩
theorem sc_is_whole_from : FnScope ["thing", "least", "most"] ["thing", "least", "most"] (defScope s_is_whole_from) := ⟨rfl, rfl, rfl, by decide +kernel, rfl, by decide +kernel, by decide +kernel⟩
theorem sc_is_amount : FnScope ["thing"] ["thing"] (defScope s_is_amount) := ⟨rfl, rfl, rfl, by decide +kernel, rfl, by decide +kernel, by decide +kernel⟩
theorem sc_divisor : FnScope ["one", "other", "great", "small", "rest"] ["one", "other"] (defScope s_divisor) := ⟨rfl, rfl, rfl, by decide +kernel, rfl, by decide +kernel, by decide +kernel⟩
theorem sc_fraction : FnScope ["top", "bottom", "shared"] ["top", "bottom"] (defScope s_fraction) := ⟨rfl, rfl, rfl, by decide +kernel, rfl, by decide +kernel, by decide +kernel⟩
theorem sc_divided : FnScope ["one", "other"] ["one", "other"] (defScope s_divided) := ⟨rfl, rfl, rfl, by decide +kernel, rfl, by decide +kernel, by decide +kernel⟩
theorem sc_parted : FnScope ["one", "whole"] ["one"] (defScope s_parted) := ⟨rfl, rfl, rfl, by decide +kernel, rfl, by decide +kernel, by decide +kernel⟩
theorem sc_show_share : FnScope ["share", "grain", "ones_rest", "ones", "top", "bottom"] ["share", "grain"] (defScope s_show_share) := ⟨rfl, rfl, rfl, by decide +kernel, rfl, by decide +kernel, by decide +kernel⟩
theorem sc_show_measure : FnScope ["pieces", "grain"] ["pieces", "grain"] (defScope s_show_measure) := ⟨rfl, rfl, rfl, by decide +kernel, rfl, by decide +kernel, by decide +kernel⟩
theorem sc_check_text : FnScope ["thing"] ["thing"] (defScope s_check_text) := ⟨rfl, rfl, rfl, by decide +kernel, rfl, by decide +kernel, by decide +kernel⟩
theorem sc_is_number : FnScope ["text"] ["text"] (defScope s_is_number) := ⟨rfl, rfl, rfl, by decide +kernel, rfl, by decide +kernel, by decide +kernel⟩
theorem sc_read_number : FnScope ["text"] ["text"] (defScope s_read_number) := ⟨rfl, rfl, rfl, by decide +kernel, rfl, by decide +kernel, by decide +kernel⟩
theorem sc_pieces_in : FnScope ["text", "grain", "top_bottom", "pieces", "bottom"] ["text", "grain"] (defScope s_pieces_in) := ⟨rfl, rfl, rfl, by decide +kernel, rfl, by decide +kernel, by decide +kernel⟩
theorem sc_read_measure : FnScope ["text", "grain", "pieces"] ["text", "grain"] (defScope s_read_measure) := ⟨rfl, rfl, rfl, by decide +kernel, rfl, by decide +kernel, by decide +kernel⟩
theorem sc_show_amounts : FnScope ["amounts", "grains"] ["amounts", "grains"] (defScope s_show_amounts) := ⟨rfl, rfl, rfl, by decide +kernel, rfl, by decide +kernel, by decide +kernel⟩
theorem sc_read_pairs : FnScope ["text", "pairs", "word", "cut"] ["text"] (defScope s_read_pairs) := ⟨rfl, rfl, rfl, by decide +kernel, rfl, by decide +kernel, by decide +kernel⟩
theorem sc_check_new : FnScope ["name", "ahead"] ["name", "ahead"] (defScope s_check_new) := ⟨rfl, rfl, rfl, by decide +kernel, rfl, by decide +kernel, by decide +kernel⟩
theorem sc_read_amounts : FnScope ["text", "grains", "amounts", "pair", "ware", "pieces"] ["text", "grains"] (defScope s_read_amounts) := ⟨rfl, rfl, rfl, by decide +kernel, rfl, by decide +kernel, by decide +kernel⟩
theorem sc_cell : FnScope ["_law_script", "_law_k"] ["_law_script", "_law_k"] (defScope s_cell) := ⟨rfl, rfl, rfl, by decide +kernel, rfl, by decide +kernel, by decide +kernel⟩
theorem sc_whole : FnScope ["_law_found"] ["_law_found"] (defScope s_whole) := ⟨rfl, rfl, rfl, by decide +kernel, rfl, by decide +kernel, by decide +kernel⟩
theorem sc_name : FnScope ["_law_script", "_law_number", "_law_letters", "_law_cell_here", "_law_size", "_law_at", "_law_shift", "_law_tail", "_law_name_here", "_law_k"] ["_law_script", "_law_number"] (defScope s_name) := ⟨rfl, rfl, rfl, by decide +kernel, rfl, by decide +kernel, by decide +kernel⟩
theorem sc_common : FnScope ["_law_one", "_law_other"] ["_law_one", "_law_other"] (defScope s_common) := ⟨rfl, rfl, rfl, by decide +kernel, rfl, by decide +kernel, by decide +kernel⟩
theorem sc_shown : FnScope ["_law_top", "_law_bottom", "_law_whole_here", "_law_rest", "_law_by", "_law_tail"] ["_law_top", "_law_bottom"] (defScope s_shown) := ⟨rfl, rfl, rfl, by decide +kernel, rfl, by decide +kernel, by decide +kernel⟩
theorem sc_grain : FnScope ["_law_cell_here"] ["_law_cell_here"] (defScope s_grain) := ⟨rfl, rfl, rfl, by decide +kernel, rfl, by decide +kernel, by decide +kernel⟩
theorem sc_amounts : FnScope ["_law_script", "_law_wares", "_law_some", "_law_k", "_law_cell_here"] ["_law_script", "_law_wares"] (defScope s_amounts) := ⟨rfl, rfl, rfl, by decide +kernel, rfl, by decide +kernel, by decide +kernel⟩
theorem sc_words : FnScope ["_law_script", "_law_wares", "_law_grains", "_law_some", "_law_words_here", "_law_k", "_law_ware"] ["_law_script", "_law_wares", "_law_grains", "_law_some"] (defScope s_words) := ⟨rfl, rfl, rfl, by decide +kernel, rfl, by decide +kernel, by decide +kernel⟩
theorem sc_fault : FnScope ["_law_script", "_law_words_here", "_law_cell_here", "_law_at", "_law_ware", "_law_word", "_law_tail"] ["_law_script", "_law_words_here", "_law_cell_here"] (defScope s_fault) := ⟨rfl, rfl, rfl, by decide +kernel, rfl, by decide +kernel, by decide +kernel⟩
theorem sc_due : FnScope ["_law_words_here", "_law_seen", "_law_ware", "_law_text", "_law_fault_here"] ["_law_words_here"] (defScope s_due) := ⟨rfl, rfl, rfl, by decide +kernel, rfl, by decide +kernel, by decide +kernel⟩
theorem sc_read : FnScope ["_law_text", "_law_grains", "_law_word", "_law_found"] ["_law_text", "_law_grains"] (defScope s_read) := ⟨rfl, rfl, rfl, by decide +kernel, rfl, by decide +kernel, by decide +kernel⟩
theorem sc_alike : FnScope ["_law_found", "_law_due_here", "_law_ware"] ["_law_found", "_law_due_here"] (defScope s_alike) := ⟨rfl, rfl, rfl, by decide +kernel, rfl, by decide +kernel, by decide +kernel⟩
theorem sc_law : FnScope ["_law_script", "_law_wares", "_law_grains", "_law_k", "_law_some", "_law_shown_here", "_law_handed", "_law_found", "_law_words_here", "_law_text", "_law_word", "_law_read_here", "_law_thing"] ["_law_script"] (defScope s_law) := ⟨rfl, rfl, rfl, by decide +kernel, rfl, by decide +kernel, by decide +kernel⟩
theorem ok_common {P : Program} {w : World} {K : PySem.W.Frag} {mg : Str → Option Value} {base : Heap} {d : Ad} (T : Tx K mg d) : FnOk P w K mg base CX0 1 d.f_common d.fd_common ["_law_one", "_law_other"] (sp_common K d) := by
  refine T.F_common.ok sc_common (fun vs H Q E h => ?_) (fun cdv A outer s H vs Q E hr h => ?_)
  · obtain ⟨i, j, rfl, _⟩ := h; rfl
  obtain ⟨i, j, rfl, i0, j0, q⟩ := h
  refine ⟨_, (pss_cons (ps_while PassesOwn.never (pt_cmpR op_gt (pv 1) pe_int (nomark _)) (pss_one (ps_par (i := 0) (j := 1) rfl sc_common.nd rfl rfl (by decide) rfl rfl (pa_cons (pv 1) (pa_cons (pe_op op_mod (pv 0) (pv 1)) pa_nil)) rfl)))
    (pss_one (ps_ret (pv 0)))), ?_⟩
  try dsimp only [L2.cxOf, L2.Cx.nox, L2.Cx.wish, My.xw, My.pnd, My.suite]
  refine r_start (σ := [some (.int i), some (.int j)]) rfl ?_
  walk_at "go"
  refine while_by (fun σ H' => H' = H ∧ ∃ (g t : Int), σ = [some (.int g), some (.int t)] ∧ 0 ≤ g ∧ 0 ≤ t ∧ Int.gcd g t = Int.gcd i j) (fun σ _ => meas 1 σ) ?_ ?_ ?_
  · exact ⟨rfl, _, _, rfl, i0, j0, rfl⟩
  · rintro σ H1 ⟨rfl, g, t, rfl, hg, ht, e⟩
    walk_at "go"
    refine i_2 (fun c => ?_) (fun c => ?_)
    · walk_at "go"
      refine ⟨⟨rfl, _, _, rfl, by omega, Int.emod_nonneg _ (by omega), ?_⟩, ?_⟩
      · rw [gcd_step g t c]; exact e
      · show (g % t).toNat < t.toNat
        have := Int.emod_lt_of_pos g c
        have := Int.emod_nonneg g (show t ≠ 0 by omega)
        omega
    · walk_at "go"
      have z : t = 0 := by omega
      subst z
      have e2 : g = gcdI i j := by
        rw [Int.gcd_zero_right] at e
        unfold gcdI
        rw [← e]; omega
      rw [e2]; exact q
  · rintro σ H1 Q1 Q2 h ⟨v, e, a, b, e1, e2, d, e3, q⟩
    exact ⟨v, e, a, b, e1, e2, d, e3, h _ _ q⟩
theorem ok_grain {P : Program} {w : World} {K : PySem.W.Frag} {mg : Str → Option Value} {base : Heap} {d : Ad} (T : Tx K mg d) : FnOk P w K mg base CX0 1 d.f_grain d.fd_grain ["_law_cell_here"] (sp_grain K d) := by
  refine T.F_grain.ok sc_grain (fun vs H Q E h => ?_) (fun cdv A outer s H vs Q E hr h => ?_)
  · obtain ⟨c, rfl, _⟩ := h; rfl
  obtain ⟨c, rfl, q⟩ := h
  refine ⟨_, (pss_one (ps_ret (pe_ix ix_list (pe_lst (pa_cons pe_int (pa_cons pe_int (pa_cons pe_int (pa_cons pe_int (pa_cons pe_int (pa_cons (pe_op op_add pe_int (pe_op op_mod (pe_op My.op_fdivB (pv 0) pe_int) pe_int)) (pa_cons (pe_op op_add pe_int (pe_op op_mod (pe_op My.op_fdivB (pv 0) pe_int) pe_int)) (pa_cons (pe_op op_add pe_int (pe_op op_mod (pe_op My.op_fdivB (pv 0) pe_int) pe_int)) pa_nil))))))))) (pe_op op_mod (pv 0) pe_int) (fun _ _ => rfl)))), ?_⟩
  try dsimp only [L2.cxOf, L2.Cx.nox, L2.Cx.wish, My.xw, My.pnd, My.suite]
  refine r_start (σ := [some (.int c)]) rfl ?_
  walk_at "go"
  rename_i p hp
  have m0 := Int.emod_nonneg c (show (8 : Int) ≠ 0 by decide)
  have m1 := Int.emod_lt_of_pos c (show (0 : Int) < 8 by decide)
  have a0 := Int.emod_nonneg (c.fdiv 8) (show (1000 : Int) ≠ 0 by decide)
  have a1 := Int.emod_lt_of_pos (c.fdiv 8) (show (0 : Int) < 1000 by decide)
  have b0 := Int.emod_nonneg (c.fdiv 8) (show (12 : Int) ≠ 0 by decide)
  have b1 := Int.emod_lt_of_pos (c.fdiv 8) (show (0 : Int) < 12 by decide)
  refine r_menu (xs := [1, 2, 12, 1000, 60, 1 + c.fdiv 8 % 1000, 1 + c.fdiv 8 % 12, 1 + c.fdiv 8 % 1000]) (SqL.of upd_same) m0 m1 fun m hm => ?_
  walk_at "go"
  simp only [List.mem_cons, List.not_mem_nil, or_false] at hm
  exact q m _ (same_new hp _) (by omega) (by omega)
theorem ok_shown {P : Program} {w : World} {K : PySem.W.Frag} {mg : Str → Option Value} {base : Heap} {d : Ad} (T : Tx K mg d) : FnOk P w K mg base CX0 2 d.f_shown d.fd_shown ["_law_top", "_law_bottom"] (sp_shown K d) := by
  refine T.F_shown.ok sc_shown (fun vs H Q E h => ?_) (fun cdv A outer s H vs Q E hr h => ?_)
  · obtain ⟨t, b, rfl, _⟩ := h; rfl
  obtain ⟨t, b, rfl, t0, t1, b0, b1, q⟩ := h
  have ed : t.fdiv b = t / b := Int.fdiv_eq_ediv_of_nonneg t (by omega)
  have w0 : 0 ≤ t / b := Int.ediv_nonneg t0 (by omega)
  have w1 : t / b ≤ t := Int.ediv_le_self _ t0
  have r0 : 0 ≤ t % b := Int.emod_nonneg _ (by omega)
  have r1 : t % b < b := Int.emod_lt_of_pos _ b0
  have bs : b.natAbs < 2 ^ 600 := small (n := 10 ^ 23) (by omega) (by omega) (by decide)
  have ws : (t / b).natAbs < 2 ^ 600 := small (n := 10 ^ 40) (by omega) (by omega) (by decide)
  have eg : gcdI b (t % b) = gcdI t b := by unfold gcdI; rw [gcd_step t b b0]
  have gp := gcdI_pos (t := t) (show b ≠ 0 by omega)
  have gs : (gcdI t b).natAbs < 2 ^ 600 := Nat.lt_of_le_of_lt (gcdI_le (by omega)) bs
  have x0 : 0 ≤ t % b / gcdI t b := Int.ediv_nonneg r0 (by omega)
  have x1 : t % b / gcdI t b ≤ t % b := Int.ediv_le_self _ r0
  have y0 : 0 ≤ b / gcdI t b := Int.ediv_nonneg (by omega) (by omega)
  have y1 : b / gcdI t b ≤ b := Int.ediv_le_self _ (by omega)
  have xs : (t % b / gcdI t b).natAbs < 2 ^ 600 := small (n := 10 ^ 23) (by omega) (by omega) (by decide)
  have ys : (b / gcdI t b).natAbs < 2 ^ 600 := small (n := 10 ^ 23) (by omega) (by omega) (by decide)
  have ex : (t % b).fdiv (gcdI t b) = t % b / gcdI t b := Int.fdiv_eq_ediv_of_nonneg _ (by omega)
  have ey : b.fdiv (gcdI t b) = b / gcdI t b := Int.fdiv_eq_ediv_of_nonneg _ (by omega)
  have lw := shw_len ws
  have lx := shw_len xs
  have ly := shw_len ys
  have lt := tl_len xs ys
  refine ⟨_, (pss_cons (ps_set (i := 2) sc_shown.nd rfl (Or.inl rfl) (pe_op My.op_fdivB (pv 0) (pv 1)))
    (pss_cons (ps_set (i := 3) sc_shown.nd rfl (Or.inl rfl) (pe_op op_mod (pv 0) (pv 1)))
    (pss_cons (ps_if (pt_cmpR op_eq (pv 3) pe_int (nomark _)) (pss_one (ps_ret (pe_callTy My.call_strI rfl T.z_str PyProof.Rows.boot_str (pa_cons (pv 2) pa_nil)))) pss_nil)
    (pss_cons (ps_set (i := 4) sc_shown.nd rfl (Or.inl rfl) (pe_call ((ok_common T).mono (by decide)) hr rfl T.m_common T.F_common.kp T.b_common .nil pass0 (pa_cons (pv 1) (pa_cons (pv 3) pa_nil))))
    (pss_cons (ps_set (i := 5) sc_shown.nd rfl (Or.inl rfl) (pe_op My.op_catS (pe_op My.op_catS (pe_callTy My.call_strI rfl T.z_str PyProof.Rows.boot_str (pa_cons (pe_op My.op_fdivB (pv 3) (pv 4)) pa_nil)) pe_str) (pe_callTy My.call_strI rfl T.z_str PyProof.Rows.boot_str (pa_cons (pe_op My.op_fdivB (pv 1) (pv 4)) pa_nil))))
    (pss_cons (ps_if (pt_cmpR op_eq (pv 2) pe_int (nomark _)) (pss_one (ps_ret (pv 5))) pss_nil)
    (pss_one (ps_ret (pe_op My.op_catS (pe_op My.op_catS (pe_callTy My.call_strI rfl T.z_str PyProof.Rows.boot_str (pa_cons (pv 2) pa_nil)) pe_str) (pv 5)))))))))), ?_⟩
  try dsimp only [L2.cxOf, L2.Cx.nox, L2.Cx.wish, My.xw, My.pnd, My.suite]
  refine r_start (σ := [some (.int t), some (.int b), none, none, none, none]) rfl ?_
  walk_at "go"
  rw [ed]
  unfold SH at q
  refine i_2 (fun c => ?_) (fun c => ?_)
  · rw [if_pos c] at q
    walk_at "go"
    exact q
  · rw [if_neg c] at q
    walk_at "go"
    refine u_common (by omega) r0 ?_
    rw [eg]
    walk_at "go"
    rw [ex]
    walk_at "go"
    rw [ey]
    refine r_catS ?_ ?_
    · rw [app_len, show (Str.ofString "/").length = 1 from rfl]; show _ ≤ 16777216; omega
    walk_at "go"
    refine i_2 (fun c2 => ?_) (fun c2 => ?_)
    · rw [if_pos c2] at q
      walk_at "go"
      exact q
    · rw [if_neg c2] at q
      walk_at "go"
      refine r_catS ?_ ?_
      · rw [app_len, show (Str.ofString "+").length = 1 from rfl]; show _ + (tl _ _).length ≤ 16777216; omega
      exact q
theorem ok_divisor {P : Program} {w : World} {K : PySem.W.Frag} {mg : Str → Option Value} {base : Heap} {d : Ad} (T : Tx K mg d) : FnOk P w K mg base CX0 1 d.f_divisor d.fd_divisor ["one", "other"] (sp_divisor K d) := by
  refine T.F_divisor.ok sc_divisor (fun vs H Q E h => ?_) (fun cdv A outer s H vs Q E hr h => ?_)
  · obtain ⟨i, j, rfl, _⟩ := h; rfl
  obtain ⟨i, j, rfl, q⟩ := h
  refine ⟨_, (pss_cons (ps_set (i := 2) sc_divisor.nd rfl (Or.inl rfl) (pe_callB My.call_absN rfl T.z_abs PyProof.Rows.boot_abs (pa_cons (pv 0) pa_nil)))
    (pss_cons (ps_set (i := 3) sc_divisor.nd rfl (Or.inl rfl) (pe_callB My.call_absN rfl T.z_abs PyProof.Rows.boot_abs (pa_cons (pv 1) pa_nil)))
    (pss_cons (ps_while PassesOwn.never (pt_cmpR op_gt (pv 3) pe_int (nomark _)) (pss_cons (ps_set (i := 4) sc_divisor.nd rfl (Or.inl rfl) (pe_op op_mod (pv 2) (pv 3)))
    (pss_cons (ps_set (i := 2) sc_divisor.nd rfl (Or.inl rfl) (pv 3))
    (pss_one (ps_set (i := 3) sc_divisor.nd rfl (Or.inl rfl) (pv 4))))))
    (pss_one (ps_ret (pv 2)))))), ?_⟩
  try dsimp only [L2.cxOf, L2.Cx.nox, L2.Cx.wish, My.xw, My.pnd, My.suite]
  refine r_start (σ := [some (.int i), some (.int j), none, none, none]) rfl ?_
  walk_at "go"
  refine while_by (fun σ H' => H' = H ∧ ∃ (g t : Int) (r : Option V), σ = [some (.int i), some (.int j), some (.int g), some (.int t), r] ∧ 0 ≤ g ∧ 0 ≤ t ∧ Int.gcd g t = Int.gcd i j) (fun σ _ => meas 3 σ) ?_ ?_ ?_
  · refine ⟨rfl, _, _, _, rfl, ?_, ?_, gcd_abs i j⟩ <;> split <;> omega
  · rintro σ H1 ⟨rfl, g, t, r, rfl, hg, ht, e⟩
    walk_at "go"
    refine i_2 (fun c => ?_) (fun c => ?_)
    · walk_at "go"
      refine ⟨⟨rfl, _, _, _, rfl, by omega, Int.emod_nonneg _ (by omega), ?_⟩, ?_⟩
      · rw [gcd_step g t c]; exact e
      · show (g % t).toNat < t.toNat
        have := Int.emod_lt_of_pos g c
        have := Int.emod_nonneg g (show t ≠ 0 by omega)
        omega
    · walk_at "go"
      have z : t = 0 := by omega
      subst z
      have e2 : g = gcdI i j := by
        rw [Int.gcd_zero_right] at e
        unfold gcdI
        rw [← e]; omega
      rw [e2]; exact q
  · rintro σ H1 Q1 Q2 h ⟨v, e, a, b, e1, e2, d, e3, q⟩
    exact ⟨v, e, a, b, e1, e2, d, e3, h _ _ q⟩
theorem ok_fraction {P : Program} {w : World} {K : PySem.W.Frag} {mg : Str → Option Value} {base : Heap} {d : Ad} (T : Tx K mg d) : FnOk P w K mg base (My.CX1 P w) 3 d.f_fraction d.fd_fraction ["top", "bottom"] (sp_fraction K d) := by
  refine My.okX T.F_fraction sc_fraction (fun vs H Q E h => ?_) (fun cdv A outer s H vs Q E hr h => ?_)
  · obtain ⟨t, b, rfl, _⟩ := h; rfl
  obtain ⟨t, b, rfl, hb, c, hq⟩ := h
  refine ⟨_, (pss_cons (ps_if (pt_cmpR op_eq (pv 1) pe_int (nomark _)) (pss_one (My.ps_raise rfl T.X_NoAmount rfl T.m_NoAmount My.xes_xw (pa_cons pe_str pa_nil))) pss_nil)
    (pss_cons (ps_set (i := 2) sc_fraction.nd rfl (Or.inl rfl) (pe_call ((ok_divisor T).mono (by decide)) hr rfl T.m_divisor T.F_divisor.kp T.b_divisor .nil pass0 (pa_cons (pv 0) (pa_cons (pv 1) pa_nil))))
    (pss_cons (My.ps_cut (ps_if (pt_cmpR op_lt (pv 1) pe_int (nomark _)) (pss_one (ps_set (i := 2) sc_fraction.nd rfl (Or.inl rfl) (pe_un un_neg (pv 2)))) pss_nil))
    (pss_one (ps_ret (pe_tup (pa_cons (pe_op My.op_fdivB (pv 0) (pv 2)) (pa_cons (pe_op My.op_fdivB (pv 1) (pv 2)) pa_nil)))))))), ?_⟩
  try dsimp only [L2.cxOf, L2.Cx.nox, L2.Cx.wish, My.xw, My.pnd, My.suite]
  refine r_start (σ := [some (.int t), some (.int b), none]) rfl ?_
  walk_at "go"
  have gb : (gcdI t b).natAbs < 2 ^ 600 := Nat.lt_of_le_of_lt (gcdI_le c) hb
  have gp := gcdI_pos (t := t) c
  refine r_cut0 ?_
  walk_at "go"
  refine i_2 (fun n => ?_) (fun n => ?_)
  · have es : sg' t b = - gcdI t b := by unfold sg'; rw [if_pos n]
    rw [es] at hq
    walk_at "go"
    exact hq _ (by assumption)
  · have es : sg' t b = gcdI t b := by unfold sg'; rw [if_neg n]
    rw [es] at hq
    walk_at "go"
    exact hq _ (by assumption)
theorem ok_divided {P : Program} {w : World} {K : PySem.W.Frag} {mg : Str → Option Value} {base : Heap} {d : Ad} (T : Tx K mg d) : FnOk P w K mg base (My.CX1 P w) 4 d.f_divided d.fd_divided ["one", "other"] (sp_divided K d) := by
  refine My.okX T.F_divided sc_divided (fun vs H Q E h => ?_) (fun cdv A outer s H vs Q E hr h => ?_)
  · obtain ⟨o, p, t1, b1, t2, b2, rfl, _⟩ := h; rfl
  obtain ⟨o, p, t1, b1, t2, b2, rfl, ho, hp, x1, x2, x3, x4, n1, n2, q⟩ := h
  refine ⟨_, (pss_one (ps_ret (My.pe_callX ((ok_fraction T).mono (by decide)) hr rfl T.m_fraction T.F_fraction.kp T.b_fraction .nil My.xes_xw (pa_cons (pe_op My.op_mulB (pe_ix ix_tup (pv 0) pe_int (fun _ _ => rfl)) (pe_ix ix_tup (pv 1) pe_int (fun _ _ => rfl))) (pa_cons (pe_op My.op_mulB (pe_ix ix_tup (pv 0) pe_int (fun _ _ => rfl)) (pe_ix ix_tup (pv 1) pe_int (fun _ _ => rfl))) pa_nil))))), ?_⟩
  try dsimp only [L2.cxOf, L2.Cx.nox, L2.Cx.wish, My.xw, My.pnd, My.suite]
  refine r_start (σ := [some (.ref o), some (.ref p)]) rfl ?_
  have y1 : t1.natAbs < 2 ^ 600 := Nat.lt_trans x1 (by decide)
  have y2 : b1.natAbs < 2 ^ 600 := Nat.lt_trans x2 (by decide)
  have y3 : t2.natAbs < 2 ^ 600 := Nat.lt_trans x3 (by decide)
  have y4 : b2.natAbs < 2 ^ 600 := Nat.lt_trans x4 (by decide)
  walk_at "go"
  have hb : (b1 * t2).natAbs < 2 ^ 600 := by
    rw [Int.natAbs_mul]
    exact Nat.lt_of_le_of_lt (Nat.mul_le_mul (Nat.le_of_lt x2) (Nat.le_of_lt x3)) (by decide)
  refine ⟨_, _, rfl, hb, fun z => by rcases Int.mul_eq_zero.mp z with z | z <;> omega, fun p hp => ?_⟩
  walk_at "go"
  exact q _ hp
theorem ok_parted {P : Program} {w : World} {K : PySem.W.Frag} {mg : Str → Option Value} {base : Heap} {d : Ad} (T : Tx K mg d) : FnOk P w K mg base CX0 1 d.f_parted d.fd_parted ["one"] (sp_parted K d) := by
  refine T.F_parted.ok sc_parted (fun vs H Q E h => ?_) (fun cdv A outer s H vs Q E hr h => ?_)
  · obtain ⟨o, t, b, rfl, _⟩ := h; rfl
  obtain ⟨o, t, b, rfl, ho, hb, hbb, htb, q⟩ := h
  have ed : t.fdiv b = t / b := Int.fdiv_eq_ediv_of_nonneg t (by omega)
  have hw : (t / b).natAbs < 2 ^ 600 := Nat.lt_of_le_of_lt (Int.natAbs_ediv_le_natAbs t b) htb
  have er : t - t / b * b = t % b := by
    have := Int.emod_add_mul_ediv t b
    rw [Int.mul_comm] at this
    omega
  refine ⟨_, (pss_cons (ps_set (i := 1) sc_parted.nd rfl (Or.inl rfl) (pe_op My.op_fdivB (pe_ix ix_tup (pv 0) pe_int (fun _ _ => rfl)) (pe_ix ix_tup (pv 0) pe_int (fun _ _ => rfl))))
    (pss_one (ps_ret (pe_tup (pa_cons (pv 1) (pa_cons (pe_tup (pa_cons (pe_op op_sub (pe_ix ix_tup (pv 0) pe_int (fun _ _ => rfl)) (pe_op My.op_mulB (pv 1) (pe_ix ix_tup (pv 0) pe_int (fun _ _ => rfl)))) (pa_cons (pe_ix ix_tup (pv 0) pe_int (fun _ _ => rfl)) pa_nil))) pa_nil)))))), ?_⟩
  try dsimp only [L2.cxOf, L2.Cx.nox, L2.Cx.wish, My.xw, My.pnd, My.suite]
  refine r_start (σ := [some (.ref o), none]) rfl ?_
  walk_at "go"
  rename_i r hr' p hp
  rw [ed, er] at hp ⊢
  exact q p r _ ((same_new hr' _).trans (same_new hp _)) upd_same (same_new hp _ _ _ upd_same)
theorem ok_show_share {P : Program} {w : World} {K : PySem.W.Frag} {mg : Str → Option Value} {base : Heap} {d : Ad} (T : Tx K mg d) : FnOk P w K mg base CX0 5 d.f_show_share d.fd_show_share ["share", "grain"] (sp_show_share K d) := by
  refine T.F_show_share.ok sc_show_share (fun vs H Q E h => ?_) (fun cdv A outer s H vs Q E hr h => ?_)
  · obtain ⟨o, t, b, g, rfl, _⟩ := h; rfl
  obtain ⟨o, t, b, g, rfl, ho, t0, t1, b0, b1, g0, g1, q⟩ := h
  refine ⟨_, (pss_cons (ps_set (i := 2) sc_show_share.nd rfl (Or.inl rfl) (pe_call ((ok_parted T).mono (by decide)) hr rfl T.m_parted T.F_parted.kp T.b_parted .nil pass0 (pa_cons (My.pe_callX (W := fun _ _ _ _ => False) ((ok_divided T).mono (by decide)) hr rfl T.m_divided T.F_divided.kp T.b_divided .nil My.xes_no (pa_cons (pv 0) (pa_cons (pe_tup (pa_cons (pv 1) (pa_cons pe_int pa_nil))) pa_nil))) pa_nil)))
    (pss_cons (ps_set (i := 3) sc_show_share.nd rfl (Or.inl rfl) (pe_ix ix_tup (pv 2) pe_int (fun _ _ => rfl)))
    (pss_cons (ps_set (i := 4) sc_show_share.nd rfl (Or.inl rfl) (pe_ix ix_tup (pe_ix ix_tup (pv 2) pe_int (fun _ _ => rfl)) pe_int (fun _ _ => rfl)))
    (pss_cons (ps_set (i := 5) sc_show_share.nd rfl (Or.inl rfl) (pe_ix ix_tup (pe_ix ix_tup (pv 2) pe_int (fun _ _ => rfl)) pe_int (fun _ _ => rfl)))
    (pss_cons (ps_if (pt_cmpR op_eq (pv 4) pe_int (nomark _)) (pss_one (ps_ret (pe_callTy My.call_strI rfl T.z_str PyProof.Rows.boot_str (pa_cons (pv 3) pa_nil)))) pss_nil)
    (pss_cons (ps_if (pt_cmpR op_eq (pv 3) pe_int (nomark _)) (pss_one (ps_ret (My.pe_join (My.PJ.cons (My.pe_fmtI (pv 4)) (My.PJ.cons pe_str (My.PJ.cons (My.pe_fmtI (pv 5)) My.PJ.nil)))))) pss_nil)
    (pss_one (ps_ret (My.pe_join (My.PJ.cons (My.pe_fmtI (pv 3)) (My.PJ.cons pe_str (My.PJ.cons (My.pe_fmtI (pv 4)) (My.PJ.cons pe_str (My.PJ.cons (My.pe_fmtI (pv 5)) My.PJ.nil)))))))))))))), ?_⟩
  try dsimp only [L2.cxOf, L2.Cx.nox, L2.Cx.wish, My.xw, My.pnd, My.suite]
  refine r_start (σ := [some (.ref o), some (.int g), none, none, none, none]) rfl ?_
  walk_at "go"
  rename_i p hp
  have sp : ∀ {m : Int} {n : Nat}, 0 ≤ m → m ≤ n → n < 2 ^ 200 → m.natAbs < 2 ^ 200 := fun h0 h1 hn => Nat.lt_of_le_of_lt (show _ ≤ _ by omega) hn
  have bg : 0 < b * g := Int.mul_pos b0 (by omega)
  have bg1 : b * g ≤ 10 ^ 20 * 1000 := Int.mul_le_mul b1 g1 (by omega) (by decide)
  refine ⟨o, p, t, b, g, 1, rfl, look_new ho hp, upd_same, sp (n := 10 ^ 40) t0 (by omega) (by decide), sp (n := 10 ^ 20) (by omega) (by omega) (by decide), sp (n := 1000) (by omega) (by omega) (by decide), by decide, by omega, by omega, fun r hr' => ?_⟩
  rw [Int.mul_one]
  obtain ⟨x, y, ex, ey, x0, y0, eg, xn, yn, es⟩ := SH_low (t := t) (b := b * g) t0 bg
  rw [ex, ey]
  rw [← es, SH_one eg] at q
  have x1 : x ≤ 10 ^ 50 := by omega
  have y1 : y ≤ 10 ^ 50 := by omega
  have s0 : Same H (upd (upd H p (.tup [.int g, .int 1])) r (.tup [.int x, .int y])) := (same_new hp _).trans (same_new hr' _)
  have hx : (upd (upd H p (.tup [.int g, .int 1])) r (.tup [.int x, .int y])) r = some (.tup [.int x, .int y]) := upd_same
  generalize upd (upd H p (.tup [.int g, .int 1])) r (.tup [.int x, .int y]) = H0 at *
  clear es xn yn ex ey t0 t1 b0 b1 ho bg bg1 sp hp
  have w0 : 0 ≤ x / y := Int.ediv_nonneg x0 (by omega)
  have w1 : x / y ≤ x := Int.ediv_le_self _ x0
  have r0 : 0 ≤ x % y := Int.emod_nonneg _ (by omega)
  have r1 : x % y < y := Int.emod_lt_of_pos _ y0
  have bs : y.natAbs < 2 ^ 600 := small (n := 10 ^ 50) (by omega) (by omega) (by decide)
  have ts : x.natAbs < 2 ^ 600 := small (n := 10 ^ 50) (by omega) (by omega) (by decide)
  have ws : (x / y).natAbs < 2 ^ 600 := small (n := 10 ^ 50) (by omega) (by omega) (by decide)
  have rs : (x % y).natAbs < 2 ^ 600 := small (n := 10 ^ 50) (by omega) (by omega) (by decide)
  have lw := shw_len ws
  have lx := shw_len rs
  have ly := shw_len bs
  have e1 : (Str.ofString "/").length = 1 := rfl
  have e2 : (Str.ofString "+").length = 1 := rfl
  walk_at "go"
  refine ⟨r, x, y, rfl, hx, y0, bs, ts, fun p2 r2 H1 sm1 hp2 hr2 => ?_⟩
  have sm := s0.trans sm1
  clear sm1 s0 hx
  walk_at "go"
  refine i_2 (fun c => ?_) (fun c => ?_)
  · rw [if_pos c] at q
    walk_at "go"
    exact q _ sm
  · rw [if_neg c] at q
    walk_at "go"
    refine i_2 (fun c2 => ?_) (fun c2 => ?_)
    · rw [if_pos c2] at q
      walk_at "go"
      first | refine ⟨by assumption, r_partI ?_ ?_⟩ | refine r_partI ?_ ?_
      · rw [app_nil]; show _ ≤ 16777216; omega
      walk_at "go"
      first | refine ⟨by assumption, r_partI ?_ ?_⟩ | refine r_partI ?_ ?_
      · rw [app_nil, app_len]; show _ ≤ 16777216; omega
      walk_at "go"
      first | refine ⟨by assumption, r_partI ?_ ?_⟩ | refine r_partI ?_ ?_
      · rw [app_nil, app_len, app_len]; show _ ≤ 16777216; omega
      walk_at "go"
      rw [app_nil]
      exact q _ sm
    · rw [if_neg c2] at q
      walk_at "go"
      first | refine ⟨by assumption, r_partI ?_ ?_⟩ | refine r_partI ?_ ?_
      · rw [app_nil]; show _ ≤ 16777216; omega
      walk_at "go"
      first | refine ⟨by assumption, r_partI ?_ ?_⟩ | refine r_partI ?_ ?_
      · rw [app_nil, app_len]; show _ ≤ 16777216; omega
      walk_at "go"
      first | refine ⟨by assumption, r_partI ?_ ?_⟩ | refine r_partI ?_ ?_
      · rw [app_nil, app_len, app_len]; show _ ≤ 16777216; omega
      walk_at "go"
      first | refine ⟨by assumption, r_partI ?_ ?_⟩ | refine r_partI ?_ ?_
      · rw [app_nil, app_len, app_len, app_len]; show _ ≤ 16777216; omega
      walk_at "go"
      first | refine ⟨by assumption, r_partI ?_ ?_⟩ | refine r_partI ?_ ?_
      · rw [app_nil, app_len, app_len, app_len, app_len]; show _ ≤ 16777216; omega
      walk_at "go"
      have z := q _ sm
      unfold tl at z
      rw [← app_assoc, ← app_assoc] at z
      rw [app_nil]
      exact z
theorem ok_show_measure {P : Program} {w : World} {K : PySem.W.Frag} {mg : Str → Option Value} {base : Heap} {d : Ad} (T : Tx K mg d) : FnOk P w K mg base CX0 6 d.f_show_measure d.fd_show_measure ["pieces", "grain"] (sp_show_measure K d) := by
  refine T.F_show_measure.ok sc_show_measure (fun vs H Q E h => ?_) (fun cdv A outer s H vs Q E hr h => ?_)
  · obtain ⟨n, g, rfl, _⟩ := h; rfl
  obtain ⟨n, g, rfl, n0, n1, g0, g1, q⟩ := h
  refine ⟨_, (pss_one (ps_ret (pe_call ((ok_show_share T).mono (by decide)) hr rfl T.m_show_share T.F_show_share.kp T.b_show_share .nil pass0 (pa_cons (pe_tup (pa_cons (pv 0) (pa_cons pe_int pa_nil))) (pa_cons (pv 1) pa_nil))))), ?_⟩
  try dsimp only [L2.cxOf, L2.Cx.nox, L2.Cx.wish, My.xw, My.pnd, My.suite]
  refine r_start (σ := [some (.int n), some (.int g)]) rfl ?_
  walk_at "go"
  rename_i p hp
  refine ⟨p, n, 1, g, rfl, upd_same, n0, n1, by decide, by decide, g0, g1, fun H' sm => ?_⟩
  rw [Int.one_mul]
  walk_at "go"
  exact q _ ((same_new hp _).trans sm)
def sp_is_whole (K : PySem.W.Frag) (d : Ad) : Sp := fun vs H Q _ => ∃ i : Int, vs = [.int i] ∧ Q (.bl true) H
def sp_is_whole_from (K : PySem.W.Frag) (d : Ad) : Sp := fun vs H Q _ => ∃ i a b : Int, vs = [.int i, .int a, .int b] ∧ Q (.bl (decide (a ≤ i ∧ i ≤ b))) H
def sp_is_amount (K : PySem.W.Frag) (d : Ad) : Sp := fun vs H Q _ => ∃ i : Int, vs = [.int i] ∧ Q (.bl (decide (0 ≤ i ∧ i ≤ 10 ^ 30))) H
theorem ok_is_whole {P : Program} {w : World} {K : PySem.W.Frag} {mg : Str → Option Value} {base : Heap} {d : Ad} (T : Tx K mg d) : FnOk P w K mg base CX0 1 d.f_is_whole d.fd_is_whole ["thing"] (sp_is_whole K d) := by
  refine T.F_is_whole.ok sc_is_whole (fun vs H Q E h => ?_) (fun cdv A outer s H vs Q E hr h => ?_)
  · obtain ⟨i, rfl, _⟩ := h; rfl
  obtain ⟨i, rfl, q⟩ := h
  refine ⟨_, (pss_one (ps_ret (pe_and (pe_callB My.call_isi2 rfl T.z_isinstance PyProof.Rows.boot_isinstance (pa_cons (pv 0) (pa_cons (pe_bltn (v := .ty "int") rfl T.z_int PyProof.Rows.boot_int rfl) pa_nil))) (pe_one (pe_not (pe_callB My.call_isi2 rfl T.z_isinstance PyProof.Rows.boot_isinstance (pa_cons (pv 0) (pa_cons (pe_bltn (v := .ty "bool") rfl T.z_bool PyProof.Rows.boot_bool rfl) pa_nil)))))))), ?_⟩
  try dsimp only [L2.cxOf, L2.Cx.nox, L2.Cx.wish, My.xw, My.pnd, My.suite]
  refine r_start (σ := [some (.int i)]) rfl ?_
  walk_at "go"
  exact q
theorem ok_is_whole_from {P : Program} {w : World} {K : PySem.W.Frag} {mg : Str → Option Value} {base : Heap} {d : Ad} (T : Tx K mg d) : FnOk P w K mg base CX0 2 d.f_is_whole_from d.fd_is_whole_from ["thing", "least", "most"] (sp_is_whole_from K d) := by
  refine T.F_is_whole_from.ok sc_is_whole_from (fun vs H Q E h => ?_) (fun cdv A outer s H vs Q E hr h => ?_)
  · obtain ⟨i, a, b, rfl, _⟩ := h; rfl
  obtain ⟨i, a, b, rfl, q⟩ := h
  refine ⟨_, (pss_one (ps_ret (pe_and (pe_call ((ok_is_whole T).mono (by decide)) hr rfl T.m_is_whole T.F_is_whole.kp T.b_is_whole .nil pass0 (pa_cons (pv 0) pa_nil)) (pe_one (pe_chain op_le op_le (pv 1) (pv 0) (pv 2)))))), ?_⟩
  try dsimp only [L2.cxOf, L2.Cx.nox, L2.Cx.wish, My.xw, My.pnd, My.suite]
  refine r_start (σ := [some (.int i), some (.int a), some (.int b)]) rfl ?_
  walk_at "go"
  refine ⟨i, rfl, ?_⟩
  walk_at "go"
  by_cases c : a ≤ i
  · rw [decide_eq_true c]
    walk_at "go"
    have e : decide (a ≤ i ∧ i ≤ b) = decide (i ≤ b) := by rw [Bool.eq_iff_iff, decide_eq_true_iff, decide_eq_true_iff]; exact ⟨fun z => z.2, fun z => ⟨c, z⟩⟩
    rw [e] at q
    exact q
  · rw [decide_eq_false c]
    walk_at "go"
    have e : decide (a ≤ i ∧ i ≤ b) = false := decide_eq_false fun z => c z.1
    rw [e] at q
    exact q
theorem ok_is_amount {P : Program} {w : World} {K : PySem.W.Frag} {mg : Str → Option Value} {base : Heap} {d : Ad} (T : Tx K mg d) : FnOk P w K mg base CX0 3 d.f_is_amount d.fd_is_amount ["thing"] (sp_is_amount K d) := by
  refine T.F_is_amount.ok sc_is_amount (fun vs H Q E h => ?_) (fun cdv A outer s H vs Q E hr h => ?_)
  · obtain ⟨i, rfl, _⟩ := h; rfl
  obtain ⟨i, rfl, q⟩ := h
  refine ⟨_, (pss_one (ps_ret (pe_call ((ok_is_whole_from T).mono (by decide)) hr rfl T.m_is_whole_from T.F_is_whole_from.kp T.b_is_whole_from .nil pass0 (pa_cons (pv 0) (pa_cons pe_int (pa_cons (pe_op op_pow pe_int pe_int) pa_nil)))))), ?_⟩
  try dsimp only [L2.cxOf, L2.Cx.nox, L2.Cx.wish, My.xw, My.pnd, My.suite]
  refine r_start (σ := [some (.int i)]) rfl ?_
  walk_at "go"
  exact ⟨i, _, _, rfl, q⟩
def NoTx (K : PySem.W.Frag) (H : Hp) (x : V) : Prop := ∃ t, TyOf K H x t ∧ PySem.W.kitOne K t (.type "str") = some false
def sp_check_text (K : PySem.W.Frag) (d : Ad) : Sp := fun vs H Q E => ∃ x : V, vs = [x] ∧ ((∃ z, x = .str z ∧ Q .non H) ∨ NoTx K H x ∧ E (.ref d.c_NoText) none H)
theorem ok_check_text {P : Program} {w : World} {K : PySem.W.Frag} {mg : Str → Option Value} {base : Heap} {d : Ad} (T : Tx K mg d) : FnOk P w K mg base (My.CX1 P w) 1 d.f_check_text d.fd_check_text ["thing"] (sp_check_text K d) := by
  refine My.okX T.F_check_text sc_check_text (fun vs H Q E h => ?_) (fun cdv A outer s H vs Q E hr h => ?_)
  · obtain ⟨x, rfl, _⟩ := h; rfl
  obtain ⟨x, rfl, h⟩ := h
  refine ⟨_, (pss_one (ps_if (pt_not (pt_val (pe_callB My.call_isi2 rfl T.z_isinstance PyProof.Rows.boot_isinstance (pa_cons (pv 0) (pa_cons (pe_bltn (v := .ty "str") rfl T.z_str PyProof.Rows.boot_str rfl) pa_nil))))) (pss_one (My.ps_raise rfl T.X_NoText rfl T.m_NoText My.xes_xw (pa_cons pe_str pa_nil))) pss_nil)), ?_⟩
  try dsimp only [L2.cxOf, L2.Cx.nox, L2.Cx.wish, My.xw, My.pnd, My.suite]
  refine r_start (σ := [some (x)]) rfl ?_
  rcases h with ⟨z, rfl, q⟩ | ⟨⟨t, ty, kt⟩, q⟩
  · walk_at "go"
    exact q
  · walk_at "go"
    exact q
theorem fig_in (c : Nat) : (!(Builtin.Str.occurrences (Str.ofString "0123456789") ⟨#[c]⟩ 0 (Str.ofString "0123456789").length 1).isEmpty) = decide (48 ≤ c ∧ c ≤ 57) := by
  rw [PySem.StrLaws.found_one]
  have e : (Str.ofString "0123456789").cps.toList = [48, 49, 50, 51, 52, 53, 54, 55, 56, 57] := by decide
  rw [e, Bool.eq_iff_iff, decide_eq_true_iff, decide_eq_true_iff]
  simp only [List.mem_cons, List.not_mem_nil, or_false]
  omega
def allF (l : List Nat) : Bool := l.all fun c => decide (48 ≤ c ∧ c ≤ 57)
theorem allF_iff {l : List Nat} : allF l = true ↔ ∀ c ∈ l, isF c := by
  unfold allF
  rw [List.all_eq_true]
  exact ⟨fun h c hc => of_decide_eq_true (p := 48 ≤ c ∧ c ≤ 57) (h c hc), fun h c hc => decide_eq_true (show 48 ≤ c ∧ c ≤ 57 from h c hc)⟩
open Classical in
noncomputable def numB (z : Str) : Bool := if Fig (cds z) ∧ Can (cds z) then true else false
theorem numB_t {z : Str} (h : Fig (cds z) ∧ Can (cds z)) : numB z = true := by unfold numB; rw [if_pos h]
theorem numB_f {z : Str} (h : ¬ (Fig (cds z) ∧ Can (cds z))) : numB z = false := by unfold numB; rw [if_neg h]
def sp_is_number (K : PySem.W.Frag) (d : Ad) : Sp := fun vs H Q _ => ∃ z : Str, vs = [.str z] ∧ z.length ≤ 400000 ∧ ∀ H', Same H H' → Q (.bl (numB z)) H'
theorem cds_len (z : Str) : (cds z).length = z.length := by simp [Str.length]
theorem ok_is_number {P : Program} {w : World} {K : PySem.W.Frag} {mg : Str → Option Value} {base : Heap} {d : Ad} (T : Tx K mg d) : FnOk P w K mg base CX0 1 d.f_is_number d.fd_is_number ["text"] (sp_is_number K d) := by
  refine T.F_is_number.ok sc_is_number (fun vs H Q E h => ?_) (fun cdv A outer s H vs Q E hr h => ?_)
  · obtain ⟨z, rfl, _⟩ := h; rfl
  obtain ⟨z, rfl, hz, q⟩ := h
  have hl := cds_len z
  refine ⟨_, (pss_cons (ps_if (PW.pt (pw_or (pt_cmpR op_lt (pe_callB My.call_lenS rfl T.z_len PySem.boot_len (pa_cons (pv 0) pa_nil)) pe_int (nomark _)) (pw_or1 (pt_cmpR op_gt (pe_callB My.call_lenS rfl T.z_len PySem.boot_len (pa_cons (pv 0) pa_nil)) (pe_glob rfl T.m_MOST_FIGURES T.r_MOST_FIGURES) (nomark _))))) (pss_one (ps_ret pe_bl)) pss_nil)
    (pss_cons (ps_if (PW.pt (pw_and (pt_cmpR op_eq (pe_ix ix_str (pv 0) pe_int (fun _ _ => rfl)) pe_str (nomark _)) (pw_and1 (pt_cmpR op_ne (pv 0) pe_str (nomark _))))) (pss_one (ps_ret pe_bl)) pss_nil)
    (pss_one (ps_ret (pe_callB (My.call_allB rfl) rfl T.z_all PyProof.Rows.boot_all (pa_cons (My.pe_comp (caps := []) (cn := []) (My.caps_of rfl rfl (by rfl) (by rfl) rfl trivial (by rfl) rfl trivial (by decide)) rfl (My.pi_str (pv 0)) (fun _ _ _ _ => My.pf_nil) (fun _ _ _ _ => (pe_cmpR My.op_inS (pv 0) (pe_glob rfl T.m_FIGURES T.r_FIGURES) (by rfl)))) pa_nil)))))), ?_⟩
  try dsimp only [L2.cxOf, L2.Cx.nox, L2.Cx.wish, My.xw, My.pnd, My.suite]
  try dsimp only [My.cxC]
  refine r_start (σ := [some (.str z)]) rfl ?_
  have qF : (¬ (Fig (cds z) ∧ Can (cds z))) → ∀ H', Same H H' → Q (.bl false) H' := fun h H' s => by
    have z1 := q H' s
    rw [numB_f h] at z1
    exact z1
  walk_at "go"
  refine i_2 (fun c => ?_) (fun c => ?_)
  · walk_at "go"
    exact qF (fun h => by have := h.1.1; omega) _ (Same.refl _)
  · walk_at "go"
    refine i_2 (fun c2 => ?_) (fun c2 => ?_)
    · walk_at "go"
      exact qF (fun h => by have := h.1.2.1; omega) _ (Same.refl _)
    · obtain ⟨a, r, er⟩ : ∃ a r, cds z = a :: r := by
        cases e : cds z with
        | nil => rw [e] at hl; simp at hl; omega
        | cons a r => exact ⟨a, r, rfl⟩
      have hf : ∀ H', Same H H' → (a = 48 → z = Str.ofString "0") → (∀ b : Bool, b = allF (cds z) → Q (.bl b) H') := fun H' s h0 b hb => by
        have z1 := q H' s
        have hc : Can (cds z) := by
          by_cases c : a = 48
          · rw [h0 c]; exact .inr rfl
          · refine .inl ?_
            rw [er]
            simpa using c
        cases hA : allF (cds z) with
        | true =>
          rw [numB_t ⟨⟨by omega, by omega, allF_iff.mp hA⟩, hc⟩] at z1
          rw [hb, hA]; exact z1
        | false =>
          rw [numB_f fun h => by
            have := allF_iff.mpr h.1.2.2
            rw [hA] at this; cases this] at z1
          rw [hb, hA]; exact z1
      have xa : atI z.cps.toList 0 = some a := atI_nat (j := 0) (by rw [show z.cps.toList = a :: r from er]; rfl)
      have e48 : ((⟨#[a]⟩ : Str) = Str.ofString "0") ↔ a = 48 := ⟨fun h => by
        have := congrArg (fun s : Str => s.cps.toList) h
        have e2 : [a] = [48] := this
        simpa using e2, fun h => by rw [h]; rfl⟩
      walk_at "go"
      refine r_ixS (by show _ ≤ 16777216; omega) xa ?_
      walk_at "go"
      refine i_2 (fun c3 => ?_) (fun c3 => ?_)
      · walk_at "go"
        refine i_n2 (fun c4 => ?_) (fun c4 => ?_)
        · walk_at "go"
          refine qF (fun h => ?_) _ (Same.refl _)
          rcases h.2 with k | k
          · rw [er] at k
            exact k (by rw [e48.mp c3]; rfl)
          · exact c4 (by
              have : ofC (cds z) = ofC [48] := by rw [k]
              exact this)
        · walk_at "go"
          intro C s0 H0 fp acc hacc
          refine c_by z.length (fun i H' => H' = upd H acc (.lst (((cds z).take i).map fun c => V.bl (decide (48 ≤ c ∧ c ≤ 57))))) (by simp) (fun i H' hi _ => hi) (fun H' _ => rfl) ?_ ?_
          · rintro i H' v H'' hi rfl ⟨rfl, c, hc, rfl⟩
            have hc' : (cds z)[i]? = some c := by rw [Array.getElem?_toList]; exact hc
            have zl : (((cds z).take i).map fun c => V.bl (decide (48 ≤ c ∧ c ≤ 57))).length < sizeLine := by rw [List.length_map, List.length_take]; show _ < 16777216; omega
            walk_at "go"
            rw [fig_in c, upd_upd]
            congr 2
            rw [List.take_add_one, hc', List.map_append]
            rfl
          · rintro H' rfl
            walk_at "go"
            have e1 : ((cds z).take z.length).map (fun c => V.bl (decide (48 ≤ c ∧ c ≤ 57))) = ((cds z).map fun c => decide (48 ≤ c ∧ c ≤ 57)).map V.bl := by
              rw [← hl, List.take_length, List.map_map]; rfl
            rw [e1]
            refine r_all (bs := (cds z).map fun c => decide (48 ≤ c ∧ c ≤ 57)) (SqL.of upd_same) ?_
            walk_at "go"
            exact hf _ (same_new hacc _) (fun _ => c4) _ (by unfold allF; rw [List.all_map]; rfl)
      · have h48 : ¬ a = 48 := fun e => c3 (e48.mpr e)
        · walk_at "go"
          intro C s0 H0 fp acc hacc
          refine c_by z.length (fun i H' => H' = upd H acc (.lst (((cds z).take i).map fun c => V.bl (decide (48 ≤ c ∧ c ≤ 57))))) (by simp) (fun i H' hi _ => hi) (fun H' _ => rfl) ?_ ?_
          · rintro i H' v H'' hi rfl ⟨rfl, c, hc, rfl⟩
            have hc' : (cds z)[i]? = some c := by rw [Array.getElem?_toList]; exact hc
            have zl : (((cds z).take i).map fun c => V.bl (decide (48 ≤ c ∧ c ≤ 57))).length < sizeLine := by rw [List.length_map, List.length_take]; show _ < 16777216; omega
            walk_at "go"
            rw [fig_in c, upd_upd]
            congr 2
            rw [List.take_add_one, hc', List.map_append]
            rfl
          · rintro H' rfl
            walk_at "go"
            have e1 : ((cds z).take z.length).map (fun c => V.bl (decide (48 ≤ c ∧ c ≤ 57))) = ((cds z).map fun c => decide (48 ≤ c ∧ c ≤ 57)).map V.bl := by
              rw [← hl, List.take_length, List.map_map]; rfl
            rw [e1]
            refine r_all (bs := (cds z).map fun c => decide (48 ≤ c ∧ c ≤ 57)) (SqL.of upd_same) ?_
            walk_at "go"
            exact hf _ (same_new hacc _) (fun e => absurd e h48) _ (by unfold allF; rw [List.all_map]; rfl)
theorem num_some {z : Str} {n : Int} (h : numS z = some n) : (Fig (cds z) ∧ Can (cds z)) ∧ n = ((digitsVal (cds z) : Nat) : Int) := by
  unfold numS at h
  by_cases c : Fig (cds z) ∧ Can (cds z)
  · rw [if_pos c] at h
    exact ⟨c, (Option.some.inj h).symm⟩
  · rw [if_neg c] at h; cases h
theorem num_t {z : Str} (h : Fig (cds z) ∧ Can (cds z)) : numS z = some ((digitsVal (cds z) : Nat) : Int) := by unfold numS; rw [if_pos h]
theorem num_f {z : Str} (h : ¬ (Fig (cds z) ∧ Can (cds z))) : numS z = none := by unfold numS; rw [if_neg h]
def sp_read_number (K : PySem.W.Frag) (d : Ad) : Sp := fun vs H Q E => ∃ z : Str, vs = [.str z] ∧ z.length ≤ 400000 ∧ ∀ H', Same H H' → (∀ n, numS z = some n → Q (.int n) H') ∧ (numS z = none → E (.ref d.c_NoText) none H')
theorem ok_read_number {P : Program} {w : World} {K : PySem.W.Frag} {mg : Str → Option Value} {base : Heap} {d : Ad} (T : Tx K mg d) : FnOk P w K mg base (My.CX1 P w) 2 d.f_read_number d.fd_read_number ["text"] (sp_read_number K d) := by
  refine My.okX T.F_read_number sc_read_number (fun vs H Q E h => ?_) (fun cdv A outer s H vs Q E hr h => ?_)
  · obtain ⟨z, rfl, _⟩ := h; rfl
  obtain ⟨z, rfl, hz, q⟩ := h
  refine ⟨_, (pss_cons (ps_expr (My.pe_callX ((ok_check_text T).mono (by decide)) hr rfl T.m_check_text T.F_check_text.kp T.b_check_text .nil My.xes_xw (pa_cons (pv 0) pa_nil)))
    (pss_cons (ps_if (pt_not (pt_val (pe_call ((ok_is_number T).mono (by decide)) hr rfl T.m_is_number T.F_is_number.kp T.b_is_number .nil pass0 (pa_cons (pv 0) pa_nil)))) (pss_one (My.ps_raise rfl T.X_NoText rfl T.m_NoText My.xes_xw (pa_cons pe_str pa_nil))) pss_nil)
    (pss_one (ps_ret (pe_callTy My.call_intT rfl T.z_int PyProof.Rows.boot_int (pa_cons (pv 0) pa_nil)))))), ?_⟩
  try dsimp only [L2.cxOf, L2.Cx.nox, L2.Cx.wish, My.xw, My.pnd, My.suite]
  refine r_start (σ := [some (.str z)]) rfl ?_
  walk_at "go"
  refine ⟨_, rfl, .inl ⟨z, rfl, ?_⟩⟩
  walk_at "go"
  refine ⟨z, rfl, hz, fun H1 s1 => ?_⟩
  by_cases c : Fig (cds z) ∧ Can (cds z)
  · rw [numB_t c]
    walk_at "go"
    refine r_intT (by have := c.1.2.1; rw [cds_len] at this; omega) (int_fig c.1) ?_
    walk_at "go"
    exact (q H1 s1).1 _ (num_t c)
  · rw [numB_f c]
    walk_at "go"
    exact (q H1 s1).2 (num_f c)
theorem val_lt : ∀ (n : Nat) (l : List Nat), l.length = n → (∀ c ∈ l, isF c) → digitsVal l < 10 ^ n
  | 0, l, hl, _ => by rw [List.length_eq_zero_iff.mp hl]; decide
  | n + 1, l, hl, hd => by
    have h : l ≠ [] := fun e => by rw [e] at hl; cases hl
    have e0 : l.dropLast ++ [l.getLast h] = l := List.dropLast_concat_getLast h
    have hx := hd _ (List.getLast_mem h)
    generalize l.getLast h = x at *
    have hd' : ∀ c ∈ l.dropLast, isF c := fun c hm => hd c ((List.dropLast_sublist l).mem hm)
    have hl' : l.dropLast.length = n := by rw [List.length_dropLast]; omega
    generalize l.dropLast = r at *
    subst e0
    rw [PySem.NumText.digitsVal_snoc, Nat.pow_succ]
    have ih := val_lt n r hl' hd'
    obtain ⟨x0, x1⟩ := hx
    omega
theorem num_bd {z : Str} {n : Int} (h : numS z = some n) : 0 ≤ n ∧ n ≤ 10 ^ 31 := by
  obtain ⟨⟨f, _⟩, rfl⟩ := num_some h
  have h1 := val_lt _ (cds z) rfl f.2.2
  have h2 : 10 ^ (cds z).length ≤ 10 ^ 31 := Nat.pow_le_pow_right (by decide) f.2.1
  exact ⟨by omega, by omega⟩
theorem sub_le (x : Str) (i j : Nat) : (Builtin.Str.strSub x i j).length ≤ x.length := by
  show (x.cps.extract i j).size ≤ x.cps.size
  rw [Array.size_extract]
  omega
theorem part_len (z y : Str) : (Txt.partition z y).1.length ≤ z.length ∧ (Txt.partition z y).2.2.length ≤ z.length := by
  unfold Txt.partition
  split
  · exact ⟨sub_le _ _ _, sub_le _ _ _⟩
  · exact ⟨Nat.le_refl _, Nat.zero_le _⟩
def sp_pieces_in (K : PySem.W.Frag) (d : Ad) : Sp := fun vs H Q E => ∃ (z : Str) (g : Int), vs = [.str z, .int g] ∧ z.length ≤ 400000 ∧ 0 ≤ g ∧ g ≤ 1000 ∧ ∀ H', Same H H' → (∀ p, pcS z g = some p → Q (.int p) H') ∧ (pcS z g = none → E (.ref d.c_NoText) none H')
theorem ok_pieces_in {P : Program} {w : World} {K : PySem.W.Frag} {mg : Str → Option Value} {base : Heap} {d : Ad} (T : Tx K mg d) : FnOk P w K mg base (My.CX1 P w) 3 d.f_pieces_in d.fd_pieces_in ["text", "grain"] (sp_pieces_in K d) := by
  refine My.okX T.F_pieces_in sc_pieces_in (fun vs H Q E h => ?_) (fun cdv A outer s H vs Q E hr h => ?_)
  · obtain ⟨z, g, rfl, _⟩ := h; rfl
  obtain ⟨z, g, rfl, hz, g0, g1, q⟩ := h
  have pl := part_len z slashS
  have gb : g.natAbs < 2 ^ 600 := Nat.lt_of_le_of_lt (show g.natAbs ≤ 1000 by omega) (by decide)
  refine ⟨_, (pss_cons (ps_set (i := 2) sc_pieces_in.nd rfl (Or.inl rfl) (pe_bm PySem.F.plainAttrs_str PySem.F.slot_str_partition PySem.F.type_str_partition My.mt_part (pv 0) (pa_cons pe_str pa_nil)))
    (pss_cons (ps_set (i := 3) sc_pieces_in.nd rfl (Or.inl rfl) (pe_op My.op_mulB (My.pe_callX ((ok_read_number T).mono (by decide)) hr rfl T.m_read_number T.F_read_number.kp T.b_read_number .nil My.xes_xw (pa_cons (pe_ix ix_tup (pv 2) pe_int (fun _ _ => rfl)) pa_nil)) (pv 1)))
    (pss_cons (ps_if (pt_cmpR op_notIn_str pe_str (pv 0) (by rfl)) (pss_one (ps_ret (pv 3))) pss_nil)
    (pss_cons (ps_set (i := 4) sc_pieces_in.nd rfl (Or.inl rfl) (My.pe_callX ((ok_read_number T).mono (by decide)) hr rfl T.m_read_number T.F_read_number.kp T.b_read_number .nil My.xes_xw (pa_cons (pe_ix ix_tup (pv 2) pe_int (fun _ _ => rfl)) pa_nil)))
    (pss_cons (ps_if (pt_cmpR op_eq (pv 4) pe_int (nomark _)) (pss_one (My.ps_raise rfl T.X_NoText rfl T.m_NoText My.xes_xw (pa_cons pe_str pa_nil))) pss_nil)
    (pss_one (ps_ret (pe_op My.op_fdivB (pv 3) (pv 4))))))))), ?_⟩
  try dsimp only [L2.cxOf, L2.Cx.nox, L2.Cx.wish, My.xw, My.pnd, My.suite]
  refine r_start (σ := [some (.str z), some (.int g), none, none, none]) rfl ?_
  walk_at "go"
  refine r_partn (y := slashS) rfl (by show _ ≤ 16777216; omega) fun p hp => ?_
  have s1 := same_new hp (.tup [.str (Txt.partition z slashS).1, .str (Txt.partition z slashS).2.1, .str (Txt.partition z slashS).2.2])
  have e1 : upd H p (.tup [.str (Txt.partition z slashS).1, .str (Txt.partition z slashS).2.1, .str (Txt.partition z slashS).2.2]) p = some (.tup [.str (Txt.partition z slashS).1, .str (Txt.partition z slashS).2.1, .str (Txt.partition z slashS).2.2]) := upd_same
  generalize upd H p (.tup [.str (Txt.partition z slashS).1, .str (Txt.partition z slashS).2.1, .str (Txt.partition z slashS).2.2]) = H1 at *
  unfold pcS at q
  walk_at "go"
  refine ⟨_, rfl, by omega, fun H2 s2 => ⟨fun n hn => ?_, fun hn => ?_⟩⟩
  rotate_left
  · have z1 := (q H2 (s1.trans s2)).2
    rw [hn] at z1
    exact z1 rfl
  rw [hn] at q
  dsimp only at q
  obtain ⟨n0, n1⟩ := num_bd hn
  have nb : n.natAbs < 2 ^ 600 := Nat.lt_of_le_of_lt (show n.natAbs ≤ 10 ^ 31 by omega) (by decide)
  have e2 := s2 _ _ e1
  walk_at "go"
  refine ⟨_, _, rfl, rfl, ?_⟩
  rw [show Str.ofString "/" = slashS from rfl, PySem.StrLaws.found_one]
  by_cases c : 47 ∈ cds z
  · rw [if_pos c] at q
    rw [show decide (47 ∈ z.cps.toList) = true from decide_eq_true c]
    walk_at "go"
    refine ⟨_, rfl, by omega, fun H3 s3 => ⟨fun m hm => ?_, fun hm => ?_⟩⟩
    rotate_left
    · have z1 := (q H3 ((s1.trans s2).trans s3)).2
      rw [hm] at z1
      exact z1 rfl
    rw [hm] at q
    dsimp only at q
    obtain ⟨m0, m1⟩ := num_bd hm
    have mb : m.natAbs < 2 ^ 600 := Nat.lt_of_le_of_lt (show m.natAbs ≤ 10 ^ 31 by omega) (by decide)
    walk_at "go"
    refine i_2 (fun c2 => ?_) (fun c2 => ?_)
    · rw [if_pos c2] at q
      walk_at "go"
      exact (q H3 ((s1.trans s2).trans s3)).2 rfl
    · rw [if_neg c2] at q
      walk_at "go"
      rw [Int.fdiv_eq_ediv_of_nonneg _ m0]
      exact (q H3 ((s1.trans s2).trans s3)).1 _ rfl
  · rw [if_neg c] at q
    rw [show decide (47 ∈ z.cps.toList) = false from decide_eq_false c]
    walk_at "go"
    exact (q H2 (s1.trans s2)).1 _ rfl
theorem sum_none {g : Int} : ∀ {l : List Str} {z : Str}, z ∈ l → pcS z g = none → sumS g l = none
  | y :: l, z, h, hn => by
    unfold sumS
    rcases List.mem_cons.mp h with e | e
    · subst e; rw [hn]
    · rw [sum_none e hn]
      split <;> simp_all
theorem sum_some {g : Int} : ∀ {l : List Str} {ps : List Int}, l.map (fun z => pcS z g) = ps.map some → sumS g l = some ps.sum
  | [], [], _ => rfl
  | [], _ :: _, h => by simp at h
  | _ :: _, [], h => by simp at h
  | z :: l, p :: ps, h => by
    rw [List.map_cons, List.map_cons] at h
    obtain ⟨h1, h2⟩ := List.cons.inj h
    unfold sumS
    rw [h1, sum_some h2, List.sum_cons]
theorem split_len (z y0 : Str) : (Txt.split z y0).length ≤ z.length + 2 ∧ ∀ y ∈ Txt.split z y0, y.length ≤ z.length := by
  unfold Txt.split
  split
  · exact ⟨by simp, fun y h => by rw [List.mem_singleton.mp h]; exact Nat.le_refl _⟩
  · split
    · exact ⟨by simp, fun y h => by rw [List.mem_singleton.mp h]; exact Nat.le_refl _⟩
    · refine ⟨?_, fun y h => ?_⟩
      · have h3 := PySem.StrLaws.occ_length_le_len z y0 0 z.length (z.length + 1)
        have e3 : (Builtin.Str.partsBetween z (Builtin.Str.occurrences z y0 0 z.length (z.length + 1)) y0.length).length = (Builtin.Str.occurrences z y0 0 z.length (z.length + 1)).length + 1 := by simp [Builtin.Str.partsBetween]
        rw [e3]
        omega
      · simp only [Builtin.Str.partsBetween, List.mem_map] at h
        obtain ⟨⟨i, j⟩, _, rfl⟩ := h
        exact sub_le _ _ _
def sp_read_measure (K : PySem.W.Frag) (d : Ad) : Sp := fun vs H Q E => ∃ (x : V) (g : Int), vs = [x, .int g] ∧ 1 ≤ g ∧ g ≤ 1000 ∧ ((∃ z : Str, x = .str z ∧ z.length ≤ 200000 ∧ ∀ H', Same H H' → (∀ p, rdS z g = some p → Q (.int p) H') ∧ (rdS z g = none → E (.ref d.c_NoText) none H')) ∨ NoTx K H x ∧ ∀ H', Same H H' → E (.ref d.c_NoText) none H')
theorem ok_read_measure {P : Program} {w : World} {K : PySem.W.Frag} {mg : Str → Option Value} {base : Heap} {d : Ad} (T : Tx K mg d) : FnOk P w K mg base (My.CX1 P w) 7 d.f_read_measure d.fd_read_measure ["text", "grain"] (sp_read_measure K d) := by
  refine My.okX T.F_read_measure sc_read_measure (fun vs H Q E h => ?_) (fun cdv A outer s H vs Q E hr h => ?_)
  · obtain ⟨x, g, rfl, _⟩ := h; rfl
  obtain ⟨x, g, rfl, g0, g1, h⟩ := h
  refine ⟨_, (pss_cons (ps_expr (My.pe_callX ((ok_check_text T).mono (by decide)) hr rfl T.m_check_text T.F_check_text.kp T.b_check_text .nil My.xes_xw (pa_cons (pv 0) pa_nil)))
    (pss_cons (ps_set (i := 2) sc_read_measure.nd rfl (Or.inl rfl) (pe_callB (My.call_sumL rfl) rfl T.z_sum PyProof.Rows.boot_sum (pa_cons (My.pe_compX rfl rfl rfl My.xes_xw (caps := [1]) (cn := ["grain"]) (My.caps_of rfl rfl (by rfl) (by rfl) rfl ⟨rfl, trivial⟩ (by rfl) rfl ⟨⟨rfl, rfl, rfl, rfl, _, rfl⟩, trivial⟩ (by decide)) rfl (pi_list (pe_bm PySem.F.plainAttrs_str PySem.F.slot_str_split PySem.F.type_str_split My.mt_split (pv 0) (pa_cons pe_str pa_nil))) (fun _ _ _ _ => My.pf_nil) (fun _ _ _ _ => (My.pe_callB2 ((ok_pieces_in T).mono (by decide)) hr rfl T.m_pieces_in T.F_pieces_in.kp T.b_pieces_in .nil (pa_cons (pv 0) (pa_cons (pv 1) pa_nil))))) pa_nil)))
    (pss_cons (ps_if (PW.pt (pw_or (pt_not (pt_val (pe_call ((ok_is_amount T).mono (by decide)) hr rfl T.m_is_amount T.F_is_amount.kp T.b_is_amount .nil pass0 (pa_cons (pv 2) pa_nil)))) (pw_or1 (pt_cmpR op_ne (pe_call ((ok_show_measure T).mono (by decide)) hr rfl T.m_show_measure T.F_show_measure.kp T.b_show_measure .nil pass0 (pa_cons (pv 2) (pa_cons (pv 1) pa_nil))) (pv 0) (nomark _))))) (pss_one (My.ps_raise rfl T.X_NoText rfl T.m_NoText My.xes_xw (pa_cons pe_str pa_nil))) pss_nil)
    (pss_one (ps_ret (pv 2)))))), ?_⟩
  try dsimp only [L2.cxOf, L2.Cx.nox, L2.Cx.wish, My.xw, My.pnd, My.suite]
  try dsimp only [My.cxC]
  refine r_start (σ := [some (x), some (.int g), none]) rfl ?_
  walk_at "go"
  rcases h with ⟨z, rfl, hz, q⟩ | ⟨nt, q⟩
  rotate_left
  · exact ⟨_, rfl, .inr ⟨nt, q _ (Same.refl _)⟩⟩
  refine ⟨_, rfl, .inl ⟨z, rfl, ?_⟩⟩
  obtain ⟨sl, sp⟩ := split_len z plusS
  unfold rdS at q
  walk_at "go"
  refine r_split (y := plusS) rfl (by omega) fun ls hls => ?_
  have s1 := same_new hls (.lst ((Txt.split z plusS).map V.str))
  have e1 : upd H ls (.lst ((Txt.split z plusS).map V.str)) ls = some (.lst ((Txt.split z plusS).map V.str)) := upd_same
  generalize upd H ls (.lst ((Txt.split z plusS).map V.str)) = H1 at *
  generalize Txt.split z plusS = ps at *
  walk_at "go"
  intro C s0 H0 fp acc hacc
  refine c_by ps.length (fun i H' => ∃ ns : List Int, Same H1 H' ∧ H' acc = some (.lst (ns.map V.int)) ∧ (ps.take i).map (fun y => pcS y g) = ns.map some) ⟨[], same_new hacc _, upd_same, rfl⟩ ?_ ?_ ?_ ?_
  · rintro i H' hi ⟨ns, sm, _⟩
    exact ⟨_, .str ps[i], SqL.of (sm _ _ e1), by rw [List.getElem?_map, List.getElem?_eq_getElem hi]; rfl⟩
  · rintro H' ⟨ns, sm, _⟩
    exact ⟨_, SqL.of (sm _ _ e1), by rw [List.length_map]; exact Nat.le_refl _⟩
  · rintro i H' v H'' hi ⟨ns, sm, ea, hn⟩ ⟨rfl, hv⟩
    have hv := hv _ (SqL.of (sm _ _ e1))
    rw [List.getElem?_map, List.getElem?_eq_getElem hi] at hv
    cases hv
    have tk : ps.take (i + 1) = ps.take i ++ [ps[i]] := by rw [List.take_add_one, List.getElem?_eq_getElem hi]; rfl
    have hm := List.getElem_mem hi
    have hnl : ns.length = i := by have := congrArg List.length hn; rw [List.length_map, List.length_map, List.length_take] at this; omega
    generalize ps[i] = y at *
    walk_at "go"
    refine ⟨y, g, rfl, by have := sp y hm; omega, by omega, g1, fun H2 s2 => ⟨fun p hp => ?_, fun hp => ?_⟩⟩
    · have ea2 := s2 _ _ ea
      exact ⟨_, ea2, by rw [List.length_map]; show _ < 16777216; omega, ns ++ [p], same_put (sm.trans s2) hacc, by rw [upd_same, List.map_append]; rfl, by rw [tk, List.map_append, hn, List.map_append, List.map_singleton, List.map_singleton, hp]⟩
    · have z1 := (q H2 ((s1.trans sm).trans s2)).2
      rw [sum_none hm hp] at z1
      exact z1 rfl
  rintro H2 ⟨ns, sm, ea, hn⟩
  rw [List.take_length] at hn
  rw [sum_some hn] at q
  dsimp only at q
  have q := fun H' s => q H' ((s1.trans sm).trans s)
  walk_at "go"
  refine r_sumL (SqL.of ea) ?_
  generalize ns.sum = p at *
  walk_at "go"
  refine ⟨p, rfl, ?_⟩
  by_cases c : 0 ≤ p ∧ p ≤ 10 ^ 30
  · rw [decide_eq_true c]
    walk_at "go"
    refine ⟨p, g, rfl, c.1, by omega, g0, g1, fun H3 s3 => ?_⟩
    walk_at "go"
    refine i_n2 (fun c2 => ?_) (fun c2 => ?_)
    · walk_at "go"
      have z1 := (q H3 s3).2
      rw [if_neg fun h => c2 h.2] at z1
      exact z1 rfl
    · walk_at "go"
      have z1 := (q H3 s3).1
      rw [if_pos ⟨c, c2⟩] at z1
      exact z1 _ rfl
  · rw [decide_eq_false c]
    walk_at "go"
    have z1 := (q H2 (Same.refl _)).2
    rw [if_neg fun h => c h.1] at z1
    exact z1 rfl
abbrev ABC : Str := Str.ofString "abcdefghijklmnopqrstuvwxyz"
def letc (i : Int) : Nat := 97 + (i % 26).toNat
theorem letAt (g : Int) : atI ABC.cps.toList (g % 26) = some (letc g) := by
  have e0 := Int.emod_nonneg g (show (26 : Int) ≠ 0 by decide)
  have e1 := Int.emod_lt_of_pos g (show (0 : Int) < 26 by decide)
  have h : ∀ k : Nat, k < 26 → ABC.cps.toList[k]? = some (97 + k) := by decide +kernel
  have e : g % 26 = (((g % 26).toNat : Nat) : Int) := by omega
  rw [e]
  rw [atI_nat (h (g % 26).toNat (by omega))]
  rfl
theorem letc_in (g : Int) : 97 ≤ letc g ∧ letc g ≤ 122 := by
  have e0 := Int.emod_nonneg g (show (26 : Int) ≠ 0 by decide)
  have e1 := Int.emod_lt_of_pos g (show (0 : Int) < 26 by decide)
  unfold letc
  omega
theorem letc_inj {g g' : Int} (h : letc g = letc g') : g % 26 = g' % 26 := by
  have e0 := Int.emod_nonneg g (show (26 : Int) ≠ 0 by decide)
  have f0 := Int.emod_nonneg g' (show (26 : Int) ≠ 0 by decide)
  unfold letc at h
  omega
theorem ofC_inj {l m : List Nat} (h : ofC l = ofC m) : l = m := by rw [← ofC_codes l, ← ofC_codes m, h]
def cellE (ns : List Int) (k : Int) : Int := if k < (ns.length : Int) then cell ns k else if ns = [] then 7919 * k else (cell ns (k % (ns.length : Int))).fdiv (k + 1) + 7919 * k
def nmZ (c0 : Int) : Int := 1 + c0 % (8 - c0.fdiv 64 % 2)
def nmA (c0 : Int) : Int := (c0.fdiv 8) % nmZ c0
def nmSh (c0 m : Int) : Int := if c0.fdiv 64 % 2 = 1 then m.fdiv 2 else m
def nmT (c0 c1 m : Int) : List Nat := if c0.fdiv 64 % 2 = 1 then (if m % 2 < 1 then [] else [letc c1]) else []
def nmJ (c0 c1 m : Int) (j : Nat) : Nat := letc (c1.fdiv (0 + (j : Int) + 1) + (0 + (j : Int)) * (0 + (j : Int)) + nmSh c0 m * if decide (0 + (j : Int) = nmA c0) = true then 1 else 0)
def nmL (c0 c1 m : Int) : List Nat := (List.range (nmZ c0).toNat).map (nmJ c0 c1 m) ++ nmT c0 c1 m
def nmS (ns : List Int) (m : Int) : Str := ofC (nmL (cellE ns 0) (cellE ns 1) m)
theorem nmZ_bd (c0 : Int) : 1 ≤ nmZ c0 ∧ nmZ c0 ≤ 8 - c0.fdiv 64 % 2 ∧ 0 ≤ c0.fdiv 64 % 2 ∧ c0.fdiv 64 % 2 < 2 := by
  have e0 := Int.emod_nonneg (c0.fdiv 64) (show (2 : Int) ≠ 0 by decide)
  have e1 := Int.emod_lt_of_pos (c0.fdiv 64) (show (0 : Int) < 2 by decide)
  unfold nmZ
  generalize c0.fdiv 64 % 2 = e at *
  have f0 := Int.emod_nonneg c0 (show (8 - e : Int) ≠ 0 by omega)
  have f1 := Int.emod_lt_of_pos c0 (show (0 : Int) < 8 - e by omega)
  omega
theorem nmL_in (c0 c1 m : Int) : ∀ x ∈ nmL c0 c1 m, 97 ≤ x ∧ x ≤ 122 := fun x hx => by
  unfold nmL at hx
  rcases List.mem_append.mp hx with h | h
  · obtain ⟨j, _, rfl⟩ := List.mem_map.mp h
    exact letc_in _
  · unfold nmT at h
    split at h
    · split at h
      · cases h
      · rw [List.mem_singleton.mp h]; exact letc_in _
    · cases h
theorem nmT_len (c0 c1 m : Int) : (nmT c0 c1 m).length = if c0.fdiv 64 % 2 = 1 then (if m % 2 < 1 then 0 else 1) else 0 := by
  unfold nmT
  split
  · split <;> rfl
  · rfl
theorem nmL_len (c0 c1 m : Int) : 1 ≤ (nmL c0 c1 m).length ∧ (nmL c0 c1 m).length ≤ 8 := by
  obtain ⟨a, b, c, d⟩ := nmZ_bd c0
  unfold nmL
  rw [List.length_append, List.length_map, List.length_range, nmT_len]
  split
  · split <;> omega
  · omega
theorem nmL_inj {c0 c1 m m' : Int} (h0 : 0 ≤ m ∧ m ≤ 25) (h1 : 0 ≤ m' ∧ m' ≤ 25) (h : nmL c0 c1 m = nmL c0 c1 m') : m = m' := by
  obtain ⟨a, b, c, d⟩ := nmZ_bd c0
  have hl := congrArg List.length h
  unfold nmL at h hl
  rw [List.length_append, List.length_append, List.length_map, List.length_map, nmT_len, nmT_len] at hl
  have hj := congrArg (fun l : List Nat => l[(nmA c0).toNat]?) (List.append_inj_left h (by rw [List.length_map, List.length_map]))
  have A0 := Int.emod_nonneg (c0.fdiv 8) (show nmZ c0 ≠ 0 by omega)
  have A1 := Int.emod_lt_of_pos (c0.fdiv 8) (show 0 < nmZ c0 by omega)
  change 0 ≤ nmA c0 at A0
  change nmA c0 < nmZ c0 at A1
  simp only [List.getElem?_map] at hj
  rw [List.getElem?_range (by omega)] at hj
  have hj' : nmJ c0 c1 m (nmA c0).toNat = nmJ c0 c1 m' (nmA c0).toNat := by simpa using hj
  unfold nmJ at hj'
  rw [if_pos (decide_eq_true (by omega)), Int.mul_one, Int.mul_one] at hj'
  have z := letc_inj hj'
  generalize c1.fdiv (0 + ((nmA c0).toNat : Int) + 1) + (0 + ((nmA c0).toNat : Int)) * (0 + ((nmA c0).toNat : Int)) = x at z
  unfold nmSh at z
  split at z
  · rename_i cc
    rw [if_pos cc, if_pos cc] at hl
    rw [Int.fdiv_eq_ediv_of_nonneg _ (by decide), Int.fdiv_eq_ediv_of_nonneg _ (by decide)] at z
    split at hl <;> split at hl <;> omega
  · omega
structure W3 where
  w : Str
  t : Str
  f : Str
abbrev colS : Str := ⟨#[58]⟩
abbrev spcS : Str := ⟨#[32]⟩
structure Dr where
  ns : List Int
  ws : List Str
  g : Str → Option Int
  s : Str → Option Int
structure Dr.Ok (D : Dr) : Prop where
  wn : ∀ z ∈ D.ws, ∃ m : Int, 0 ≤ m ∧ m ≤ 5 ∧ z = nmS D.ns m
  gw : ∀ z, D.g z ≠ none ↔ z ∈ D.ws
  gb : ∀ z n, D.g z = some n → 1 ≤ n ∧ n ≤ 1000
  sb : ∀ z n, D.s z = some n → 1 ≤ n ∧ n ≤ 10 ^ 30 ∧ z ∈ D.ws
def badT : List Str := ["0", "", "x", "1/1", "+1/2", "01", "1\n", "\t1"]
def WOk (D : Dr) (r : W3) : Prop := ∃ n gr, D.s r.w = some n ∧ D.g r.w = some gr ∧ r.t = r.w ++ Str.ofString ":" ++ SH n gr ∧ r.f = Str.ofString ""
def WCol (r : W3) : Prop := (r.t = Str.ofString "abc" ∨ r.t = Str.ofString "") ∧ r.f = Str.ofString "colon"
def WWar (D : Dr) (r : W3) : Prop := ∃ m : Int, 6 ≤ m ∧ m ≤ 25 ∧ r.w = nmS D.ns m ∧ r.t = r.w ++ Str.ofString ":1" ∧ r.f = Str.ofString "ware"
def WTxt (D : Dr) (r : W3) : Prop := r.w ∈ D.ws ∧ ∃ y ∈ badT, r.t = r.w ++ Str.ofString ":" ++ y ∧ r.f = Str.ofString "text"
def WK (D : Dr) (r : W3) : Prop := WOk D r ∨ WCol r ∨ WWar D r ∨ WTxt D r
def Cov (D : Dr) (rs : List W3) : Prop := (∃ r ∈ rs, WTxt D r) ∨ ∀ z n, D.s z = some n → ∃ r ∈ rs, r.w = z
def dueL : List Str → List W3 → Str
  | _, [] => Str.ofString ""
  | seen, r :: rs => if r.f = Str.ofString "ware" then Str.ofString "ware" else if r.w ∈ seen ∨ r.f = Str.ofString "text" then Str.ofString "text" else dueL (seen ++ [r.w]) rs
open Classical in
noncomputable def dueW (rs : List W3) : Str := if ∃ r ∈ rs, r.f = Str.ofString "colon" then Str.ofString "text" else dueL [] rs
inductive Res where
  | ware
  | text
  | ok (f : Str → Option Int)
open Classical in
noncomputable def prs (z : Str) : Option (List (Str × Str)) := if z = Str.ofString "-" then some [] else if ∀ p ∈ Txt.split z spcS, 58 ∈ cds p then some ((Txt.split z spcS).map fun p => ((Txt.partition p colS).1, (Txt.partition p colS).2.2)) else none
noncomputable def rdP (g : Str → Option Int) : (Str → Option Int) → List (Str × Str) → Res
  | f, [] => .ok f
  | f, (w, y) :: r => match g w with
    | none => .ware
    | some gr => if (f w).isSome = true then .text else match rdS y gr with
      | none => .text
      | some n => if n = 0 then .text else rdP g (putF' f w n) r
noncomputable def rdA (g : Str → Option Int) (z : Str) : Res := match prs z with
  | none => .text
  | some l => rdP g noF l
def resS : Res → Str
  | .ware => Str.ofString "ware"
  | .text => Str.ofString "text"
  | .ok _ => Str.ofString ""
theorem cds_app (a b : Str) : cds (a ++ b) = cds a ++ cds b := by
  show (a ++ b).cps.toList = _
  rw [Str.cps_append]; simp
theorem part_col {w y : Str} (h : 58 ∉ cds w) : Txt.partition (w ++ Str.ofString ":" ++ y) colS = (w, colS, y) := by
  have e : w ++ Str.ofString ":" ++ y = ofC (cds w ++ 58 :: cds y) := by
    have : cds (w ++ Str.ofString ":" ++ y) = cds w ++ 58 :: cds y := by rw [cds_app, cds_app, List.append_assoc]; rfl
    rw [← this]; rfl
  rw [e, part_at h]; rfl
theorem nm_no {ns : List Int} {m : Int} {c : Nat} (h : c < 97) : c ∉ cds (nmS ns m) := fun z => by
  have := nmL_in _ _ _ c z
  omega
theorem in_col {w y : Str} : 58 ∈ cds (w ++ Str.ofString ":" ++ y) := by
  rw [cds_app, cds_app]
  exact List.mem_append_left _ (List.mem_append_right _ (by decide))
theorem SHL_in (p g : Nat) : ∀ c ∈ SHL p g, 43 ≤ c ∧ c ≤ 57 := by
  have d : ∀ m, ∀ c ∈ dg m, 43 ≤ c ∧ c ≤ 57 := fun m c h => by have := dg_is m c h; unfold isF at this; omega
  have t : ∀ a b, ∀ c ∈ tlL a b, 43 ≤ c ∧ c ≤ 57 := fun a b c h => by
    unfold tlL at h
    rcases List.mem_append.mp h with h | h
    · exact d _ c h
    · rcases List.mem_cons.mp h with rfl | h
      · decide
      · exact d _ c h
  intro c h
  unfold SHL at h
  split at h
  · exact d _ c h
  · split at h
    · exact t _ _ c h
    · rcases List.mem_append.mp h with h | h
      · exact d _ c h
      · rcases List.mem_cons.mp h with rfl | h
        · decide
        · exact t _ _ c h
theorem SH_in {n gr : Int} (h0 : 0 ≤ n) (h1 : 0 ≤ gr) : ∀ c ∈ cds (SH n gr), 43 ≤ c ∧ c ≤ 57 := by
  obtain ⟨p, rfl⟩ := Int.eq_ofNat_of_zero_le h0
  obtain ⟨g, rfl⟩ := Int.eq_ofNat_of_zero_le h1
  rw [SH_L]
  exact SHL_in p g
theorem rd_back {n gr : Int} (h0 : 0 ≤ n) (h1 : n ≤ 10 ^ 30) (g0 : 1 ≤ gr) (g1 : gr ≤ 1000) : rdS (SH n gr) gr = some n := by
  obtain ⟨p, rfl⟩ := Int.eq_ofNat_of_zero_le h0
  obtain ⟨g, rfl⟩ := Int.eq_ofNat_of_zero_le (show 0 ≤ gr by omega)
  rw [SH_L]
  exact rd_SH (by omega) (by omega) (by omega)
theorem rd_none {z y : Str} {g : Int} (h : y ∈ Txt.split z plusS) (hn : pcS y g = none) : rdS z g = none := by
  unfold rdS
  rw [sum_none h hn]
theorem pc_none {l : List Nat} {g : Int} (h : 47 ∉ l) (hn : ¬ (Fig l ∧ Can l)) : pcS (ofC l) g = none := by
  unfold pcS
  rw [part_no h]
  dsimp only
  rw [show numS (ofC l) = none from num_f hn]
theorem rd_bad {y : Str} {g : Int} (hy : y ∈ badT) (g0 : 1 ≤ g) (g1 : g ≤ 1000) : rdS y g = none ∨ rdS y g = some 0 := by
  have no : ∀ l : List Nat, 43 ∉ l → 47 ∉ l → ¬ (Fig l ∧ Can l) → rdS (ofC l) g = none := fun l a b c => rd_none (y := ofC l) (by rw [split_no a]; exact List.mem_singleton.mpr rfl) (pc_none b c)
  unfold badT at hy
  simp only [List.mem_cons, List.not_mem_nil, or_false] at hy
  rcases hy with rfl | rfl | rfl | rfl | rfl | rfl | rfl | rfl
  · right
    have e : (Str.ofString "0") = SH 0 g := by
      unfold SH
      rw [if_pos (by simp)]
      have : (0 : Int) / g = 0 := by simp
      rw [this]; rfl
    show rdS (Str.ofString "0") g = some 0
    rw [e]
    exact rd_back (by decide) (by decide) g0 g1
  · exact .inl (no [] (by decide) (by decide) fun h => absurd h.1.1 (by decide))
  · exact .inl (no [120] (by decide) (by decide) fun h => absurd (h.1.2.2 120 (by decide)).2 (by decide))
  · left
    show rdS (ofC [49, 47, 49]) g = none
    have f1 : Fig [49] := ⟨by decide, by decide, fun c hc => by rw [List.mem_singleton.mp hc]; exact ⟨by decide, by decide⟩⟩
    have n1 : numS (ofC [49]) = some 1 := num_t (z := ofC [49]) ⟨f1, .inl (by decide)⟩
    have pc : pcS (ofC [49, 47, 49]) g = some g := by
      unfold pcS
      rw [show (ofC [49, 47, 49]) = ofC ([49] ++ 47 :: [49]) from rfl, part_at (by decide)]
      dsimp only
      rw [n1]
      dsimp only
      rw [if_pos (by decide)]
      simp
    unfold rdS
    rw [split_no (show 43 ∉ [49, 47, 49] by decide)]
    have : sumS g [ofC [49, 47, 49]] = some g := by unfold sumS; rw [pc]; unfold sumS; simp
    rw [this]
    dsimp only
    rw [if_neg]
    intro h
    have h2 := h.2
    unfold SH at h2
    rw [if_pos (by simp), Int.ediv_self (by omega)] at h2
    exact absurd (congrArg Str.length h2) (by decide)
  · left
    refine rd_none (y := ofC []) ?_ (pc_none (by decide) fun h => absurd h.1.1 (by decide))
    show ofC [] ∈ Txt.split (ofC ([] ++ 43 :: [49, 47, 50])) plusS
    rw [split_at (by decide) (by decide) (by decide)]
    exact List.mem_cons_self ..
  · exact .inl (no [48, 49] (by decide) (by decide) fun h => by rcases h.2 with k | k <;> exact absurd k (by decide))
  · exact .inl (no [49, 10] (by decide) (by decide) fun h => absurd (h.1.2.2 10 (by decide)).1 (by decide))
  · exact .inl (no [9, 49] (by decide) (by decide) fun h => absurd (h.1.2.2 9 (by decide)).1 (by decide))
theorem WK.no {D : Dr} (ok : D.Ok) {r : W3} (h : WK D r) : 32 ∉ cds r.t := by
  have ap : ∀ {a b : Str}, 32 ∉ cds a → 32 ∉ cds b → 32 ∉ cds (a ++ b) := fun h1 h2 => by
    rw [cds_app]
    exact fun z => (List.mem_append.mp z).elim h1 h2
  have nw : ∀ z ∈ D.ws, 32 ∉ cds z := fun z hz => by
    obtain ⟨m, _, _, rfl⟩ := ok.wn z hz
    exact nm_no (by decide)
  rcases h with ⟨n, gr, h1, h2, h3, _⟩ | ⟨h, _⟩ | ⟨m, _, _, h1, h2, _⟩ | ⟨h1, y, hy, h2, _⟩
  · rw [h3]
    obtain ⟨a, b, c⟩ := ok.sb _ _ h1
    have gb := ok.gb _ _ h2
    exact ap (ap (nw _ c) (by decide)) fun z => by have := SH_in (show 0 ≤ n by omega) (show 0 ≤ gr by omega) 32 z; omega
  · rcases h with h | h <;> rw [h] <;> decide
  · rw [h2, h1]
    exact ap (nm_no (by decide)) (by decide)
  · rw [h2]
    refine ap (ap (nw _ h1) (by decide)) ?_
    revert hy
    revert y
    have : ∀ y ∈ badT, 32 ∉ cds y := by unfold badT; decide +kernel
    exact fun y _ hy => this y hy
theorem WK.cut {D : Dr} (ok : D.Ok) {r : W3} (h : WK D r) (nc : r.f ≠ Str.ofString "colon") : 58 ∈ cds r.t ∧ (Txt.partition r.t colS).1 = r.w := by
  have nw : ∀ z ∈ D.ws, 58 ∉ cds z := fun z hz => by
    obtain ⟨m, _, _, rfl⟩ := ok.wn z hz
    exact nm_no (by decide)
  rcases h with ⟨n, gr, h1, h2, h3, _⟩ | ⟨_, h⟩ | ⟨m, _, _, h1, h2, _⟩ | ⟨h1, y, hy, h2, _⟩
  · rw [h3, part_col (nw _ (ok.sb _ _ h1).2.2)]
    exact ⟨in_col, rfl⟩
  · exact absurd h nc
  · have e : r.w ++ Str.ofString ":1" = r.w ++ Str.ofString ":" ++ Str.ofString "1" := by rw [app_assoc]; rfl
    rw [h2, e, part_col (by rw [h1]; exact nm_no (by decide))]
    exact ⟨in_col, rfl⟩
  · rw [h2, part_col (nw _ h1)]
    exact ⟨in_col, rfl⟩
theorem col_no {r : W3} (h : WCol r) : 58 ∉ cds r.t := by
  rcases h.1 with h | h <;> rw [h] <;> decide
theorem f_ne : Str.ofString "" ≠ Str.ofString "colon" ∧ Str.ofString "ware" ≠ Str.ofString "colon" ∧ Str.ofString "text" ≠ Str.ofString "colon" ∧ Str.ofString "" ≠ Str.ofString "ware" ∧ Str.ofString "text" ≠ Str.ofString "ware" ∧ Str.ofString "" ≠ Str.ofString "text" :=
  ⟨fun h => absurd (congrArg Str.length h) (by decide), fun h => absurd (congrArg Str.length h) (by decide), fun h => absurd (congrArg Str.length h) (by decide), fun h => absurd (congrArg Str.length h) (by decide), fun h => absurd (congrArg cds h) (by decide), fun h => absurd (congrArg Str.length h) (by decide)⟩
theorem WK.col {D : Dr} {r : W3} (h : WK D r) (c : r.f = Str.ofString "colon") : WCol r := by
  obtain ⟨a, b, e, _⟩ := f_ne
  rcases h with ⟨n, gr, h1, h2, h3, h4⟩ | h | ⟨m, _, _, h1, h2, h4⟩ | ⟨h1, y, hy, h2, h4⟩
  · exact absurd (h4.symm.trans c) a
  · exact h
  · exact absurd (h4.symm.trans c) b
  · exact absurd (h4.symm.trans c) e
def prW (rs : List W3) : List (Str × Str) := rs.map fun r => (r.w, (Txt.partition r.t colS).2.2)
theorem glued_spc (l : List Str) : Builtin.Str.glued (Str.ofString " ") l = ofC (joinL 32 (l.map cds)) := by
  have z := glued_one (c := 32) (l.map cds)
  rw [List.map_map] at z
  have e : l.map (ofC ∘ cds) = l := (List.map_congr_left fun x _ => ofC_self x).trans (List.map_id _)
  rw [e] at z
  exact z
theorem prs_join {D : Dr} (ok : D.Ok) {rs : List W3} (h0 : rs ≠ []) (hk : ∀ r ∈ rs, WK D r) :
    prs (Builtin.Str.glued (Str.ofString " ") (rs.map (·.t))) = if (∃ r ∈ rs, r.f = Str.ofString "colon") then none else some (prW rs) := by
  rw [glued_spc, List.map_map]
  have hs : Txt.split (ofC (joinL 32 (rs.map (cds ∘ (·.t))))) spcS = rs.map (·.t) := by
    rw [split_join (by decide) (by simpa using h0) (fun p hp => by
      obtain ⟨r, hr, rfl⟩ := List.mem_map.mp hp
      exact (hk r hr).no ok), List.map_map]
    exact List.map_congr_left fun r _ => ofC_self r.t
  have hd : ofC (joinL 32 (rs.map (cds ∘ (·.t)))) ≠ Str.ofString "-" := fun e => by
    have e : joinL 32 (rs.map (cds ∘ (·.t))) = [45] := ofC_inj e
    clear hs
    match rs, h0, hk, e with
    | [r], _, hk, e =>
      have e : cds r.t = [45] := e
      have hr := hk r (List.mem_singleton.mpr rfl)
      by_cases c : r.f = Str.ofString "colon"
      · rcases (hr.col c).1 with z | z <;> rw [z] at e <;> exact absurd e (by decide)
      · have := (hr.cut ok c).1
        rw [e] at this
        exact absurd this (by decide)
    | r :: q :: l, _, _, e =>
      have : 32 ∈ joinL 32 ((r :: q :: l).map (cds ∘ (·.t))) := by
        show 32 ∈ cds r.t ++ 32 :: _
        exact List.mem_append_right _ (List.mem_cons_self ..)
      rw [e] at this
      exact absurd this (by decide)
  unfold prs
  rw [if_neg hd, hs]
  by_cases c : ∃ r ∈ rs, r.f = Str.ofString "colon"
  · rw [if_pos c, if_neg]
    intro z
    obtain ⟨r, hr, e⟩ := c
    exact col_no ((hk r hr).col e) (z _ (List.mem_map_of_mem hr))
  · rw [if_neg c, if_pos, List.map_map]
    · refine congrArg some (List.map_congr_left fun r hr => ?_)
      show ((Txt.partition r.t colS).1, _) = (r.w, _)
      rw [((hk r hr).cut ok fun e => c ⟨r, hr, e⟩).2]
    · intro p hp
      obtain ⟨r, hr, rfl⟩ := List.mem_map.mp hp
      exact ((hk r hr).cut ok fun e => c ⟨r, hr, e⟩).1
theorem rd_due {D : Dr} (ok : D.Ok) : ∀ (rs : List W3) (f : Str → Option Int) (seen : List Str), (∀ r ∈ rs, WK D r ∧ r.f ≠ Str.ofString "colon") → (∀ z, (f z).isSome = true ↔ z ∈ seen) → (∀ z n, f z = some n → D.s z = some n) →
    resS (rdP D.g f (prW rs)) = dueL seen rs ∧ ∀ f', rdP D.g f (prW rs) = .ok f' → (∀ z n, f' z = some n → D.s z = some n) ∧ (∀ r ∈ rs, (f' r.w).isSome = true ∧ ¬ WTxt D r) ∧ ∀ z, (f z).isSome = true → (f' z).isSome = true
  | [], f, seen, _, _, hs => ⟨rfl, fun f' e => by cases e; exact ⟨hs, fun r h => absurd h (by simp), fun z h => h⟩⟩
  | r :: rs, f, seen, hk, hf, hs => by
    obtain ⟨k, nc⟩ := hk r (List.mem_cons_self ..)
    obtain ⟨n1, n2, n3, n4, n5, n6⟩ := f_ne
    have sm : ∀ {y : Str}, y ∈ badT → ∀ gr, D.g r.w = some gr → (rdS y gr = none ∨ rdS y gr = some 0) := fun hy gr hg => rd_bad hy (ok.gb _ _ hg).1 (ok.gb _ _ hg).2
    have cut := (k.cut ok nc)
    have nw : ∀ z ∈ D.ws, 58 ∉ cds z := fun z hz => by
      obtain ⟨m, _, _, rfl⟩ := ok.wn z hz
      exact nm_no (by decide)
    show resS (rdP D.g f ((r.w, (Txt.partition r.t colS).2.2) :: prW rs)) = _ ∧ ∀ f', rdP D.g f ((r.w, (Txt.partition r.t colS).2.2) :: prW rs) = .ok f' → _
    unfold rdP dueL
    rcases k with ⟨n, gr, h1, h2, h3, h4⟩ | h | ⟨m, m0, m1, h1, h2, h4⟩ | ⟨h1, y, hy, h2, h4⟩
    · rw [h2, h4, if_neg n4]
      dsimp only
      obtain ⟨s0, s1, s2⟩ := ok.sb _ _ h1
      by_cases c : (f r.w).isSome = true
      · rw [if_pos c, if_pos (.inl ((hf _).mp c))]
        exact ⟨rfl, fun f' e => by cases e⟩
      · rw [if_neg c, if_neg (fun z => z.elim (fun z => c ((hf _).mpr z)) n6), h3, part_col (nw _ s2)]
        dsimp only
        rw [rd_back (by omega) s1 (ok.gb _ _ h2).1 (ok.gb _ _ h2).2]
        dsimp only
        rw [if_neg (by omega)]
        have ih := rd_due ok rs (putF' f r.w n) (seen ++ [r.w]) (fun x hx => hk x (List.mem_cons_of_mem _ hx)) (fun z => by
          unfold putF'
          by_cases e : z = r.w
          · rw [if_pos e]; subst e; simp
          · rw [if_neg e, hf, List.mem_append, List.mem_singleton]
            exact ⟨.inl, fun h => h.resolve_right e⟩) (fun z k' e => by
          unfold putF' at e
          split at e
          · rename_i ez; subst ez; cases e; exact h1
          · exact hs z k' e)
        refine ⟨ih.1, fun f' e => ?_⟩
        obtain ⟨a, b, c'⟩ := ih.2 f' e
        have own : (f' r.w).isSome = true := c' _ (by unfold putF'; rw [if_pos rfl]; rfl)
        refine ⟨a, fun x hx => ?_, fun z hz => c' z ?_⟩
        · rcases List.mem_cons.mp hx with rfl | hx
          · exact ⟨own, fun ⟨_, _, _, _, z⟩ => n6 (h4.symm.trans z)⟩
          · exact b x hx
        · unfold putF'
          split
          · rfl
          · exact hz
    · exact absurd h.2 nc
    · have hn : D.g r.w = none := by
        cases e : D.g r.w with
        | none => rfl
        | some gr =>
          have hw := (ok.gw r.w).mp (by rw [e]; simp)
          obtain ⟨m', a, b, e2⟩ := ok.wn _ hw
          rw [h1] at e2
          have := nmL_inj ⟨by omega, m1⟩ ⟨a, by omega⟩ (ofC_inj e2)
          omega
      rw [hn, h4, if_pos rfl]
      exact ⟨rfl, fun f' e => by cases e⟩
    · cases e : D.g r.w with
      | none => exact absurd e ((ok.gw _).mpr h1)
      | some gr =>
        rw [h4, if_neg n5, if_pos (.inr rfl)]
        dsimp only
        by_cases c : (f r.w).isSome = true
        · rw [if_pos c]
          exact ⟨rfl, fun f' e => by cases e⟩
        · rw [if_neg c, h2, part_col (nw _ h1)]
          dsimp only
          rcases sm hy gr e with z | z
          · rw [z]
            exact ⟨rfl, fun f' e => by cases e⟩
          · rw [z]
            dsimp only
            rw [if_pos rfl]
            exact ⟨rfl, fun f' e => by cases e⟩
def txtW (rs : List W3) : Str := if rs = [] then Str.ofString "-" else Builtin.Str.glued (Str.ofString " ") (rs.map (·.t))
theorem rd_law {D : Dr} (ok : D.Ok) {rs : List W3} (hk : ∀ r ∈ rs, WK D r) (hc : Cov D rs) : resS (rdA D.g (txtW rs)) = dueW rs ∧ ∀ f', rdA D.g (txtW rs) = .ok f' → ∀ z, f' z = D.s z := by
  have fin : ∀ f' : Str → Option Int, (∀ z n, f' z = some n → D.s z = some n) → (∀ r ∈ rs, (f' r.w).isSome = true ∧ ¬ WTxt D r) → ∀ z, f' z = D.s z := fun f' a b z => by
    cases e : D.s z with
    | none =>
      cases e2 : f' z with
      | none => rfl
      | some n => rw [a z n e2] at e; cases e
    | some n =>
      rcases hc with ⟨r, hr, ht⟩ | hc
      · exact absurd ht (b r hr).2
      · obtain ⟨r, hr, rfl⟩ := hc z n e
        have := (b r hr).1
        cases e2 : f' r.w with
        | none => rw [e2] at this; cases this
        | some m => rw [← e, a _ _ e2]
  unfold txtW
  by_cases h0 : rs = []
  · subst h0
    have e1 : prs (Str.ofString "-") = some [] := by unfold prs; rw [if_pos rfl]
    have e2 : rdA D.g (Str.ofString "-") = .ok noF := by unfold rdA; rw [e1]; rfl
    rw [if_pos rfl, e2]
    refine ⟨?_, fun f' e => ?_⟩
    · unfold dueW
      rw [if_neg (by simp)]
      rfl
    · cases e
      exact fin noF (fun z n e => by cases e) (fun r h => absurd h (by simp))
  · rw [if_neg h0]
    unfold rdA dueW
    rw [prs_join ok h0 hk]
    by_cases c : ∃ r ∈ rs, r.f = Str.ofString "colon"
    · rw [if_pos c, if_pos c]
      exact ⟨rfl, fun f' e => by cases e⟩
    · rw [if_neg c, if_neg c]
      dsimp only
      obtain ⟨a, b⟩ := rd_due ok rs noF [] (fun r hr => ⟨hk r hr, fun e => c ⟨r, hr, e⟩⟩) (fun z => by simp [noF]) (fun z n e => by cases e)
      exact ⟨a, fun f' e => fin f' (b f' e).1 (b f' e).2.1⟩
def sp_cell (K : PySem.W.Frag) (d : Ad) : Sp := fun vs H Q _ => ∃ (a : Addr) (ns : List Int) (k : Int), vs = [.ref a, .int k] ∧ SqL K H a (ns.map V.int) ∧ 0 ≤ k ∧ k ≤ 1000 ∧ ns.length ≤ 63 ∧ ∀ H', Same H H' → Q (.int (cellE ns k)) H'
def sp_whole (K : PySem.W.Frag) (d : Ad) : Sp := fun vs H Q _ => ∃ i : Int, vs = [.int i] ∧ Q (.bl true) H
theorem ok_cell {P : Program} {w : World} {K : PySem.W.Frag} {mg : Str → Option Value} {base : Heap} {d : Ad} (T : Tx K mg d) : FnOk P w K mg base CX0 1 d.f_cell d.fd_cell ["_law_script", "_law_k"] (sp_cell K d) := by
  refine T.F_cell.ok sc_cell (fun vs H Q E h => ?_) (fun cdv A outer s H vs Q E hr h => ?_)
  · obtain ⟨a, ns, k, rfl, _⟩ := h; rfl
  obtain ⟨a, ns, k, rfl, hS, k0, k1, hn, q⟩ := h
  refine ⟨_, (pss_cons (ps_if (pt_cmpR op_lt (pv 1) (pe_callB My.call_lenN rfl T.z_len PySem.boot_len (pa_cons (pv 0) pa_nil)) (nomark _)) (pss_one (ps_ret (pe_ix ix_list (pv 0) (pv 1) (fun _ _ => rfl)))) pss_nil)
    (pss_cons (ps_if (pt_cmpR (My.op_eqD (My.hu8 hr)) (pv 0) (My.pe_lstF pa_nil) (nomark _)) (pss_one (ps_ret (pe_op My.op_mulB pe_int (pv 1)))) pss_nil)
    (pss_one (ps_ret (pe_op op_add (pe_op My.op_fdivB (pe_ix ix_list (pv 0) (pe_op op_mod (pv 1) (pe_callB My.call_lenN rfl T.z_len PySem.boot_len (pa_cons (pv 0) pa_nil))) (fun _ _ => rfl)) (pe_op op_add (pv 1) pe_int)) (pe_op My.op_mulB pe_int (pv 1))))))), ?_⟩
  try dsimp only [L2.cxOf, L2.Cx.nox, L2.Cx.wish, My.xw, My.pnd, My.suite]
  refine r_start (σ := [some (.ref a), some (.int k)]) rfl ?_
  have kb : k.natAbs < 2 ^ 600 := Nat.lt_of_le_of_lt (show k.natAbs ≤ 1000 by omega) (by decide)
  have kb2 : (k + 1).natAbs < 2 ^ 600 := Nat.lt_of_le_of_lt (show (k + 1).natAbs ≤ 1001 by omega) (by decide)
  unfold cellE at q
  walk_at "go"
  have hl : (ns.map V.int).length = ns.length := List.length_map _
  refine i_2 (fun c => ?_) (fun c => ?_)
  · rw [hl] at c
    rw [if_pos c] at q
    walk_at "go"
    refine r_ixL hS (cell_at k0 c) ?_
    walk_at "go"
    exact q _ (Same.refl _)
  · rw [hl] at c
    rw [if_neg c] at q
    walk_at "go"
    refine r_lstF ?_
    refine r_nil ⟨by decide, fun p hp kp => ?_⟩
    have sN : Same H (upd H p (.lst [])) := same_new hp _
    have hS1 := sN.seq hS
    have ne : a ≠ p := sqL_ne hS hp kp
    cases ns with
    | nil =>
      rw [if_pos rfl] at q
      refine r_eqD (n := 1) ne (by decide) (deq_list (n := 0) hS1 (SqL.of upd_same) ne trivial) ?_
      walk_at "go"
      exact q _ sN
    | cons n0 nr =>
      rw [if_neg (by simp)] at q
      refine r_eqD (n := 1) ne (by decide) (DEq.lsN (n := 0) hS1 (SqL.of upd_same) ne (by simp)) ?_
      walk_at "go"
      rw [hl]
      have h1 := Int.emod_nonneg k (show (((n0 :: nr).length : Nat) : Int) ≠ 0 by simp only [List.length_cons]; omega)
      have h2 := Int.emod_lt_of_pos k (show (0 : Int) < (((n0 :: nr).length : Nat) : Int) by simp only [List.length_cons]; omega)
      refine r_ixL hS1 (cell_at h1 h2) ?_
      walk_at "go"
      exact q _ sN
theorem ok_whole {P : Program} {w : World} {K : PySem.W.Frag} {mg : Str → Option Value} {base : Heap} {d : Ad} (T : Tx K mg d) : FnOk P w K mg base CX0 1 d.f_whole d.fd_whole ["_law_found"] (sp_whole K d) := by
  refine T.F_whole.ok sc_whole (fun vs H Q E h => ?_) (fun cdv A outer s H vs Q E hr h => ?_)
  · obtain ⟨i, rfl, _⟩ := h; rfl
  obtain ⟨i, rfl, q⟩ := h
  refine ⟨_, (pss_one (ps_ret (pe_and (pe_callB My.call_isi2 rfl T.z_isinstance PyProof.Rows.boot_isinstance (pa_cons (pv 0) (pa_cons (pe_bltn (v := .ty "int") rfl T.z_int PyProof.Rows.boot_int rfl) pa_nil))) (pe_one (pe_not (pe_callB My.call_isi2 rfl T.z_isinstance PyProof.Rows.boot_isinstance (pa_cons (pv 0) (pa_cons (pe_bltn (v := .ty "bool") rfl T.z_bool PyProof.Rows.boot_bool rfl) pa_nil)))))))), ?_⟩
  try dsimp only [L2.cxOf, L2.Cx.nox, L2.Cx.wish, My.xw, My.pnd, My.suite]
  refine r_start (σ := [some (.int i)]) rfl ?_
  walk_at "go"
  exact q
def sp_name (K : PySem.W.Frag) (d : Ad) : Sp := fun vs H Q _ => ∃ (a : Addr) (ns : List Int) (m : Int), vs = [.ref a, .int m] ∧ SqL K H a (ns.map V.int) ∧ ns.length ≤ 63 ∧ 0 ≤ m ∧ m ≤ 25 ∧ ∀ H', Same H H' → Q (.str (nmS ns m)) H'
theorem ofC_snoc (l : List Nat) (c : Nat) : ofC l ++ (⟨#[c]⟩ : Str) = ofC (l ++ [c]) := ofC_app l [c]
theorem ok_name {P : Program} {w : World} {K : PySem.W.Frag} {mg : Str → Option Value} {base : Heap} {d : Ad} (T : Tx K mg d) : FnOk P w K mg base CX0 2 d.f_name d.fd_name ["_law_script", "_law_number"] (sp_name K d) := by
  refine T.F_name.ok sc_name (fun vs H Q E h => ?_) (fun cdv A outer s H vs Q E hr h => ?_)
  · obtain ⟨a, ns, m, rfl, _⟩ := h; rfl
  obtain ⟨a, ns, m, rfl, hS, hn, m0, m1, q⟩ := h
  refine ⟨_, (pss_cons (ps_set (i := 2) sc_name.nd rfl (Or.inl rfl) pe_str)
    (pss_cons (ps_set (i := 3) sc_name.nd rfl (Or.inl rfl) (pe_call ((ok_cell T).mono (by decide)) hr rfl T.m_cell T.F_cell.kp T.b_cell .nil pass0 (pa_cons (pv 0) (pa_cons pe_int pa_nil))))
    (pss_cons (ps_set (i := 4) sc_name.nd rfl (Or.inl rfl) (pe_op op_add pe_int (pe_op op_mod (pv 3) (pe_op op_sub pe_int (pe_op op_mod (pe_op My.op_fdivB (pv 3) pe_int) pe_int)))))
    (pss_cons (ps_set (i := 5) sc_name.nd rfl (Or.inl rfl) (pe_op op_mod (pe_op My.op_fdivB (pv 3) pe_int) (pv 4)))
    (pss_cons (ps_set (i := 6) sc_name.nd rfl (Or.inl rfl) (pv 1))
    (pss_cons (ps_set (i := 7) sc_name.nd rfl (Or.inl rfl) pe_str)
    (pss_cons (My.ps_cut (ps_if (pt_cmpR op_eq (pe_op op_mod (pe_op My.op_fdivB (pv 3) pe_int) pe_int) pe_int (nomark _)) (pss_cons (ps_set (i := 6) sc_name.nd rfl (Or.inl rfl) (pe_op My.op_fdivB (pv 1) pe_int))
    (pss_one (ps_set (i := 7) sc_name.nd rfl (Or.inl rfl) (pe_op My.op_rep (pe_ix ix_str (pv 2) (pe_op op_mod (pe_call ((ok_cell T).mono (by decide)) hr rfl T.m_cell T.F_cell.kp T.b_cell .nil pass0 (pa_cons (pv 0) (pa_cons pe_int pa_nil))) pe_int) (fun _ _ => rfl)) (pe_op op_mod (pv 1) pe_int))))) pss_nil))
    (pss_cons (ps_set (i := 8) sc_name.nd rfl (Or.inl rfl) pe_str)
    (pss_cons (ps_for PassesOwn.never rfl (pi_range1 rfl T.z_range (pa_cons (pv 4) pa_nil)) (pg_name (i := 9) sc_name.nd rfl (Or.inl rfl)) (pss_one (ps_set (i := 8) sc_name.nd rfl (Or.inl rfl) (pe_op My.op_catS (pv 8) (pe_ix ix_str (pv 2) (pe_op op_mod (pe_op op_add (pe_op op_add (pe_op My.op_fdivB (pe_call ((ok_cell T).mono (by decide)) hr rfl T.m_cell T.F_cell.kp T.b_cell .nil pass0 (pa_cons (pv 0) (pa_cons pe_int pa_nil))) (pe_op op_add (pv 9) pe_int)) (pe_op My.op_mulB (pv 9) (pv 9))) (pe_op My.op_mulB (pv 6) (pe_callTy My.call_intB rfl T.z_int PyProof.Rows.boot_int (pa_cons (pe_cmpR op_eq (pv 9) (pv 5) (nomark _)) pa_nil)))) pe_int) (fun _ _ => rfl))))))
    (pss_one (ps_ret (pe_op My.op_catS (pv 8) (pv 7))))))))))))), ?_⟩
  try dsimp only [L2.cxOf, L2.Cx.nox, L2.Cx.wish, My.xw, My.pnd, My.suite]
  refine r_start (σ := [some (.ref a), some (.int m), none, none, none, none, none, none, none, none]) rfl ?_
  walk_at "go"
  refine ⟨a, ns, 0, rfl, hS, by decide, by decide, hn, fun H1 s1 => ?_⟩
  have hS1 := s1.seq hS
  unfold nmS at q
  generalize cellE ns 0 = c0 at *
  obtain ⟨z0, z1, e0, e1⟩ := nmZ_bd c0
  have ez : 0 < 8 - c0.fdiv 64 % 2 := by omega
  walk_at "go"
  have eZ : 1 + c0 % (8 - c0.fdiv 64 % 2) = nmZ c0 := rfl
  have eA : c0.fdiv 8 % nmZ c0 = nmA c0 := rfl
  rw [eZ]
  have zp : 0 < nmZ c0 := by omega
  walk_at "go"
  rw [eA]
  refine r_cut (fun σ H' => Same H H' ∧ σ = [some (.ref a), some (.int m), some (.str ABC), some (.int c0), some (.int (nmZ c0)), some (.int (nmA c0)), some (.int (nmSh c0 m)), some (.str (ofC (nmT c0 (cellE ns 1) m))), none, none]) ?_ ?_
  · unfold nmSh nmT
    walk_at "go"
    refine i_2 (fun c => ?_) (fun c => ?_)
    · rw [if_pos c, if_pos c]
      walk_at "go"
      refine ⟨a, ns, 1, rfl, hS1, by decide, by decide, hn, fun H2 s2 => ?_⟩
      walk_at "go"
      refine r_ixS (by decide) (letAt _) ?_
      walk_at "go"
      refine r_rep (by omega) (by omega) ?_
      walk_at "go"
      refine ⟨s1.trans s2, ?_⟩
      by_cases cc : m % 2 < 1
      · rw [if_pos cc, if_pos cc]; rfl
      · rw [if_neg cc, if_neg cc]; rfl
    · rw [if_neg c, if_neg c]
      walk_at "go"
      exact ⟨s1, rfl⟩
  rintro σ H2 ⟨s2, rfl⟩
  have hS2 := s2.seq hS
  have lt : (nmT c0 (cellE ns 1) m).length ≤ 1 := by rw [nmT_len]; split <;> (try split) <;> omega
  have esh : 0 ≤ nmSh c0 m ∧ nmSh c0 m ≤ 25 := by
    unfold nmSh
    split
    · rw [Int.fdiv_eq_ediv_of_nonneg _ (by decide)]; omega
    · omega
  unfold nmL at q
  unfold nmJ at q
  generalize nmT c0 (cellE ns 1) m = tl at *
  generalize nmSh c0 m = sh at *
  generalize nmA c0 = at_ at *
  generalize hLi : nmZ c0 = Li at *
  have zl : 0 ≤ Li ∧ Li ≤ 8 := by omega
  clear s1 hS1 ez e0 e1 z1 z0 zp eZ eA hLi
  have shs : sh.natAbs < 2 ^ 600 := Nat.lt_of_le_of_lt (show _ ≤ 25 by omega) (by decide)
  have Li1 : Li ≤ 8 := zl.2
  walk_at "go"
  refine f_range (fun i σ H' => Same H H' ∧ ∃ w : Option V, σ = [some (.ref a), some (.int m), some (.str ABC), some (.int c0), some (.int Li), some (.int at_), some (.int sh), some (.str (ofC tl)), some (.str (ofC ((List.range i).map fun j : Nat => letc ((cellE ns 1).fdiv (0 + (j : Int) + 1) + (0 + (j : Int)) * (0 + (j : Int)) + sh * if decide (0 + (j : Int) = at_) = true then 1 else 0)))), w]) ⟨s2, _, rfl⟩ ?_ ?_
  · rintro i σ H' hi ⟨sm, w, rfl⟩
    have hS3 := sm.seq hS
    have lz : (ofC ((List.range i).map fun j : Nat => letc ((cellE ns 1).fdiv (0 + (j : Int) + 1) + (0 + (j : Int)) * (0 + (j : Int)) + sh * if decide (0 + (j : Int) = at_) = true then 1 else 0))).length = i := by rw [ofC_len, List.length_map, List.length_range]
    have ee : ofC ((List.range (i + 1)).map fun j : Nat => letc ((cellE ns 1).fdiv (0 + (j : Int) + 1) + (0 + (j : Int)) * (0 + (j : Int)) + sh * if decide (0 + (j : Int) = at_) = true then 1 else 0)) = ofC ((List.range i).map fun j : Nat => letc ((cellE ns 1).fdiv (0 + (j : Int) + 1) + (0 + (j : Int)) * (0 + (j : Int)) + sh * if decide (0 + (j : Int) = at_) = true then 1 else 0)) ++ (⟨#[letc ((cellE ns 1).fdiv (0 + (i : Int) + 1) + (0 + (i : Int)) * (0 + (i : Int)) + sh * if decide (0 + (i : Int) = at_) = true then 1 else 0)]⟩ : Str) := by
      rw [ofC_snoc, List.range_succ, List.map_append]; rfl
    rw [ee]
    have ib : (0 + (i : Int)).natAbs < 2 ^ 600 := Nat.lt_of_le_of_lt (show _ ≤ 8 by omega) (by decide)
    have ib1 : (0 + (i : Int) + 1).natAbs < 2 ^ 600 := Nat.lt_of_le_of_lt (show _ ≤ 9 by omega) (by decide)
    generalize ofC ((List.range i).map fun j : Nat => letc ((cellE ns 1).fdiv (0 + (j : Int) + 1) + (0 + (j : Int)) * (0 + (j : Int)) + sh * if decide (0 + (j : Int) = at_) = true then 1 else 0)) = zw at *
    walk_at "go"
    refine ⟨a, ns, 1, rfl, hS3, by decide, by decide, hn, fun H3 s3 => ?_⟩
    walk_at "go"
    refine r_ixS (by decide) (letAt _) ?_
    refine r_catS ?_ ?_
    · rw [lz]; show _ + 1 ≤ 16777216; omega
    walk_at "go"
    exact ⟨sm.trans s3, _, rfl⟩
  · rintro σ H' ⟨sm, w, rfl⟩
    walk_at "go"
    refine r_catS ?_ ?_
    · rw [ofC_len, ofC_len, List.length_map, List.length_range]; show _ ≤ 16777216; omega
    rw [ofC_app]
    exact q _ sm
theorem sort_eq {ss ss' : List Str} (h : ss.Perm ss') (a : PyProof.Rows.sortedS ss = true) (b : PyProof.Rows.sortedS ss' = true) : ss = ss' :=
  List.Perm.eq_of_pairwise (le := leS) (fun x y _ _ h1 h2 => leS_anti h1 h2) (sorted_pw a) (sorted_pw b) h
def oN (o : Option Int) : Int := o.getD 0
def rowS (f g : Str → Option Int) (z : Str) : Str := z ++ Str.ofString ":" ++ SH (oN (f z)) (oN (g z))
def shAll (f g : Str → Option Int) (ss : List Str) : Str := if ss = [] then Str.ofString "-" else Builtin.Str.glued (Str.ofString " ") (ss.map (rowS f g))
structure Sh2 (ws : List Str) (f g : Str → Option Int) : Prop where
  len : ws.length ≤ 6
  nl : ∀ z ∈ ws, z.length ≤ 8
  fw : ∀ z, f z ≠ none → z ∈ ws
  fb : ∀ z n, f z = some n → 1 ≤ n ∧ n ≤ 10 ^ 30
  gb : ∀ z ∈ ws, ∃ gr, g z = some gr ∧ 1 ≤ gr ∧ gr ≤ 1000
theorem Sh2.row {ws : List Str} {f g : Str → Option Int} (h : Sh2 ws f g) {z : Str} (hz : f z ≠ none) : ∃ n gr, f z = some n ∧ g z = some gr ∧ 1 ≤ n ∧ n ≤ 10 ^ 30 ∧ 1 ≤ gr ∧ gr ≤ 1000 ∧ z.length ≤ 8 := by
  cases e : f z with
  | none => exact absurd e hz
  | some n =>
    obtain ⟨gr, a, b, c⟩ := h.gb z (h.fw z hz)
    exact ⟨n, gr, rfl, a, (h.fb z n e).1, (h.fb z n e).2, b, c, h.nl z (h.fw z hz)⟩
theorem SH_len2 {t b : Int} (t0 : 0 ≤ t) (t1 : t ≤ 10 ^ 30) (b0 : 0 < b) (b1 : b ≤ 1000) : (SH t b).length ≤ 6100 := by
  have w0 : 0 ≤ t / b := Int.ediv_nonneg t0 (by omega)
  have w1 : t / b ≤ t := Int.ediv_le_self _ t0
  have r0 : 0 ≤ t % b := Int.emod_nonneg _ (by omega)
  have r1 : t % b < b := Int.emod_lt_of_pos _ b0
  have gp := gcdI_pos (t := t) (show b ≠ 0 by omega)
  have x0 : 0 ≤ t % b / gcdI t b := Int.ediv_nonneg r0 (by omega)
  have x1 : t % b / gcdI t b ≤ t % b := Int.ediv_le_self _ r0
  have y0 : 0 ≤ b / gcdI t b := Int.ediv_nonneg (by omega) (by omega)
  have y1 : b / gcdI t b ≤ b := Int.ediv_le_self _ (by omega)
  have lw := shw_len (small (m := t / b) (n := 10 ^ 40) (by omega) (by omega) (by decide))
  have lt := tl_len (small (m := t % b / gcdI t b) (n := 10 ^ 23) (by omega) (by omega) (by decide)) (small (m := b / gcdI t b) (n := 10 ^ 23) (by omega) (by omega) (by decide))
  unfold SH
  split
  · omega
  · split
    · omega
    · rw [app_len, app_len, show (Str.ofString "+").length = 1 from rfl]
      omega
theorem Sh2.rowlen {ws : List Str} {f g : Str → Option Int} (h : Sh2 ws f g) {z : Str} (hz : f z ≠ none) : (rowS f g z).length ≤ 6109 := by
  obtain ⟨n, gr, a, b, c, d, e, k, l⟩ := h.row hz
  unfold rowS
  rw [app_len, app_len, a, b, show (Str.ofString ":").length = 1 from rfl]
  have := SH_len2 (t := n) (b := gr) (by omega) d (by omega) k
  show z.length + 1 + (SH n gr).length ≤ _
  omega
theorem sum_len {l : List Str} {k : Nat} (h : ∀ z ∈ l, z.length ≤ k) : (l.map (·.length)).sum ≤ l.length * k := by
  induction l with
  | nil => simp
  | cons a l ih =>
    rw [List.map_cons, List.sum_cons, List.length_cons, Nat.succ_mul]
    have := h a (List.mem_cons_self ..)
    have := ih fun z hz => h z (List.mem_cons_of_mem _ hz)
    omega
def sp_show_amounts (K : PySem.W.Frag) (d : Ad) : Sp := fun vs H Q _ => ∃ (a b : Addr) (ws : List Str) (ka kb : List (Key × V)) (f g : Str → Option Int), vs = [.ref a, .ref b] ∧ H a = some (.dK ka) ∧ H b = some (.dK kb) ∧ AD ka f ∧ AD kb g ∧ Sh2 ws f g ∧ ∀ (ss : List Str) H', Same H H' → ss.Perm (keysS ka) → PyProof.Rows.sortedS ss = true → Q (.str (shAll f g ss)) H'
theorem ok_show_amounts {P : Program} {w : World} {K : PySem.W.Frag} {mg : Str → Option Value} {base : Heap} {d : Ad} (T : Tx K mg d) : FnOk P w K mg base CX0 7 d.f_show_amounts d.fd_show_amounts ["amounts", "grains"] (sp_show_amounts K d) := by
  refine T.F_show_amounts.ok sc_show_amounts (fun vs H Q E h => ?_) (fun cdv A outer s H vs Q E hr h => ?_)
  · obtain ⟨a, b, ws, ka, kb, f, g, rfl, _⟩ := h; rfl
  obtain ⟨a, b, ws, ka, kb, f, g, rfl, ha, hb, hA, hB, h2, q⟩ := h
  refine ⟨_, (pss_cons (ps_if (pt_cmpR (My.op_eqD (My.hu8 hr)) (pv 0) pe_dnewK (nomark _)) (pss_one (ps_ret pe_str)) pss_nil)
    (pss_one (ps_ret (pe_bm PySem.F.plainAttrs_str PySem.F.slot_str_join PySem.F.type_str_join My.mt_joinG pe_str (pa_cons (My.pe_comp (caps := [0, 1]) (cn := ["amounts", "grains"]) (My.caps_of rfl rfl (by rfl) (by rfl) rfl ⟨rfl, ⟨rfl, trivial⟩⟩ (by rfl) rfl ⟨⟨rfl, rfl, rfl, rfl, _, rfl⟩, ⟨⟨rfl, rfl, rfl, rfl, _, rfl⟩, trivial⟩⟩ (by decide)) rfl (pi_list (pe_callB (My.call_sortD rfl) rfl T.z_sorted PyProof.Rows.boot_sorted (pa_cons (pv 0) pa_nil))) (fun _ _ _ _ => My.pf_nil) (fun _ _ _ _ => (pe_op My.op_catS (pe_op My.op_catS (pv 0) pe_str) (pe_call ((ok_show_measure T).mono (by decide)) hr rfl T.m_show_measure T.F_show_measure.kp T.b_show_measure .nil pass0 (pa_cons (pe_dget (hu_of hr) (pv 1) (pv 0) (fun _ _ => rfl)) (pa_cons (pe_dget (hu_of hr) (pv 2) (pv 0) (fun _ _ => rfl)) pa_nil)))))) pa_nil))))), ?_⟩
  try dsimp only [L2.cxOf, L2.Cx.nox, L2.Cx.wish, My.xw, My.pnd, My.suite]
  try dsimp only [My.cxC]
  refine r_start (σ := [some (.ref a), some (.ref b)]) rfl ?_
  have ke := hA.klen
  have kl : ka.length ≤ 6 := Nat.le_trans (hA.le h2.fw) h2.len
  walk_at "go"
  rename_i p hp
  have nap : a ≠ p := ne_of_none ha hp
  have de := DEq.dd (K := K) (n := 0) (.inl (look_new (o' := .dK []) ha hp)) (.inl (upd_same (H := H) (a := p) (o := .dK []))) nap hA.flat AD.nil.flat
  refine r_eqD nap (by decide) de ?_
  have s1 := same_new hp (.dK [])
  have ha1 := s1 _ _ ha
  have hb1 := s1 _ _ hb
  generalize upd H p (.dK []) = H1 at *
  clear de
  cases hka : ka with
  | nil =>
    subst hka
    walk_at "go"
    exact q [] _ s1 (List.Perm.refl _) rfl
  | cons k0 kr =>
    have kn : keysS ka ≠ [] := fun e => by rw [e, hka] at ke; simp at ke
    rw [← hka]
    have hne : ((ka.length == ([] : List (Key × V)).length) && ka.all fun p => (valV ([] : List (Key × V)) p.1).elim false (eqV p.2)) = false := by rw [hka]; rfl
    rw [hne]
    clear hka hne
    walk_at "go"
    refine r_sortD (.inl ha1) hA.keys (by omega) fun l ss hl hp2 hs => ?_
    have s2 := s1.trans (same_new hl (.lst (ss.map V.str)))
    have e2 : upd H1 l (.lst (ss.map V.str)) l = some (.lst (ss.map V.str)) := upd_same
    have ha2 := s2 _ _ ha
    have hb2 := s2 _ _ hb
    generalize upd H1 l (.lst (ss.map V.str)) = H2 at *
    have sl : ss.length ≤ 6 := by rw [hp2.length_eq]; omega
    have ssn : ss ≠ [] := fun e => kn (by rw [e] at hp2; exact List.Perm.nil_eq hp2 ▸ rfl)
    have sf : ∀ z ∈ ss, f z ≠ none := fun z hz => (hA.kin z).mp (hp2.mem_iff.mp hz)
    clear s1 ha1 hb1 hl ha hb nap hp
    walk_at "go"
    intro C s0 H0 fp acc hacc
    refine c_by ss.length (fun i H' => Same H2 H' ∧ H' acc = some (.lst (((ss.take i).map (rowS f g)).map V.str))) ⟨same_new hacc _, upd_same⟩ ?_ ?_ ?_ ?_
    · rintro i H' hi ⟨sm, _⟩
      exact ⟨_, .str ss[i], SqL.of (sm _ _ e2), by rw [List.getElem?_map, List.getElem?_eq_getElem hi]; rfl⟩
    · rintro H' ⟨sm, _⟩
      exact ⟨_, SqL.of (sm _ _ e2), by rw [List.length_map]; exact Nat.le_refl _⟩
    · rintro i H' v H'' hi ⟨sm, ea⟩ ⟨rfl, hv⟩
      have hv := hv _ (SqL.of (sm _ _ e2))
      rw [List.getElem?_map, List.getElem?_eq_getElem hi] at hv
      cases hv
      have tk : ss.take (i + 1) = ss.take i ++ [ss[i]] := by rw [List.take_add_one, List.getElem?_eq_getElem hi]; rfl
      obtain ⟨n, gr, fz, gz, n0, n1, g0, g1, zl⟩ := h2.row (sf _ (List.getElem_mem hi))
      have er : rowS f g ss[i] = ss[i] ++ Str.ofString ":" ++ SH n gr := by unfold rowS; rw [fz, gz]; rfl
      have tl : (ss.take i).length ≤ 6 := by rw [List.length_take]; omega
      generalize ss.take i = tk0 at *
      generalize ss[i] = z at *
      have hRa : Rd H'' a (.dK ka) := .inl (sm _ _ ha2)
      have hRb : Rd H'' b (.dK kb) := .inl (sm _ _ hb2)
      have e1 : (Str.ofString ":").length = 1 := rfl
      have sl2 := SH_len2 (t := n) (b := gr) (by omega) n1 (by omega) g1
      walk_at "go"
      refine ⟨n, gr, rfl, by omega, by omega, g0, g1, fun H3 s3 => ?_⟩
      walk_at "go"
      refine r_catS (by simp only [app_len]; show _ ≤ 16777216; omega) ?_
      walk_at "go"
      refine ⟨_, s3 _ _ ea, by rw [List.length_map, List.length_map]; show _ < 16777216; omega, same_put (sm.trans s3) hacc, ?_⟩
      rw [upd_same, tk, List.map_append, List.map_append, List.map_singleton, List.map_singleton, er]
    rintro H3 ⟨sm, ea⟩
    rw [List.take_length] at ea
    walk_at "go"
    refine r_joinG (ss := ss.map (rowS f g)) (SqL.of ea) (by decide) ?_ (by rw [List.length_map]; omega) ?_
    · have z1 := sum_len (l := ss.map (rowS f g)) (k := 6109) (fun y hy => by
        obtain ⟨z, hz, rfl⟩ := List.mem_map.mp hy
        exact h2.rowlen (sf z hz))
      rw [List.length_map] at z1
      omega
    · have z := q ss _ (s2.trans sm) hp2 hs
      unfold shAll at z
      rw [if_neg ssn] at z
      exact z
structure PsAt (H : Hp) (l : Addr) (rs : List (Addr × Str × Str)) : Prop where
  l : H l = some (.lst (rs.map fun r => V.ref r.1))
  row : ∀ r ∈ rs, H r.1 = some (.tup [.str r.2.1, .str r.2.2])
theorem PsAt.same {H H' : Hp} {l : Addr} {rs : List (Addr × Str × Str)} (h : PsAt H l rs) (s : Same H H') : PsAt H' l rs := ⟨s _ _ h.l, fun r hr => s _ _ (h.row r hr)⟩
def sp_read_pairs (K : PySem.W.Frag) (d : Ad) : Sp := fun vs H Q E => ∃ x : V, vs = [x] ∧ ((∃ z : Str, x = .str z ∧ z.length ≤ 100000 ∧ (∀ H', Same H H' → prs z = none → E (.ref d.c_NoText) none H') ∧ ∀ l rs H', Same H H' → H l = none → prs z = some (rs.map (·.2)) → rs.length ≤ z.length + 2 → (∀ r ∈ rs, r.2.2.length ≤ z.length) → PsAt H' l rs → Q (.ref l) H') ∨ NoTx K H x ∧ ∀ H', Same H H' → E (.ref d.c_NoText) none H')
theorem ok_read_pairs {P : Program} {w : World} {K : PySem.W.Frag} {mg : Str → Option Value} {base : Heap} {d : Ad} (T : Tx K mg d) : FnOk P w K mg base (My.CX1 P w) 2 d.f_read_pairs d.fd_read_pairs ["text"] (sp_read_pairs K d) := by
  refine My.okX T.F_read_pairs sc_read_pairs (fun vs H Q E h => ?_) (fun cdv A outer s H vs Q E hr h => ?_)
  · obtain ⟨x, rfl, _⟩ := h; rfl
  obtain ⟨x, rfl, h⟩ := h
  refine ⟨_, (pss_cons (ps_expr (My.pe_callX ((ok_check_text T).mono (by decide)) hr rfl T.m_check_text T.F_check_text.kp T.b_check_text .nil My.xes_xw (pa_cons (pv 0) pa_nil)))
    (pss_cons (ps_if (pt_cmpR op_eq (pv 0) pe_str (nomark _)) (pss_one (ps_ret (pe_lst pa_nil))) pss_nil)
    (pss_cons (ps_set (i := 1) sc_read_pairs.nd rfl (Or.inl rfl) (pe_lst pa_nil))
    (pss_cons (ps_for (My.pass_xw rfl rfl) rfl (pi_list (pe_bm PySem.F.plainAttrs_str PySem.F.slot_str_split PySem.F.type_str_split My.mt_split (pv 0) (pa_cons pe_str pa_nil))) (pg_name (i := 2) sc_read_pairs.nd rfl (Or.inl rfl)) (pss_cons (ps_if (pt_cmpR op_notIn_str pe_str (pv 2) (by rfl)) (pss_one (My.ps_raise rfl T.X_NoText rfl T.m_NoText My.xes_xw (pa_cons pe_str pa_nil))) pss_nil)
    (pss_cons (ps_set (i := 3) sc_read_pairs.nd rfl (Or.inl rfl) (pe_bm PySem.F.plainAttrs_str PySem.F.slot_str_partition PySem.F.type_str_partition My.mt_part (pv 2) (pa_cons pe_str pa_nil)))
    (pss_one (ps_expr (pe_bm PySem.F.plainAttrs_list PySem.F.slot_list_append PySem.F.type_list_append mt_append (pv 1) (pa_cons (pe_tup (pa_cons (pe_ix ix_tup (pv 3) pe_int (fun _ _ => rfl)) (pa_cons (pe_ix ix_tup (pv 3) pe_int (fun _ _ => rfl)) pa_nil))) pa_nil)))))))
    (pss_one (ps_ret (pv 1))))))), ?_⟩
  try dsimp only [L2.cxOf, L2.Cx.nox, L2.Cx.wish, My.xw, My.pnd, My.suite]
  refine r_start (σ := [some (x), none, none, none]) rfl ?_
  walk_at "go"
  rcases h with ⟨z, rfl, hz, qn, q⟩ | ⟨nt, q⟩
  rotate_left
  · exact ⟨_, rfl, .inr ⟨nt, q _ (Same.refl _)⟩⟩
  refine ⟨_, rfl, .inl ⟨z, rfl, ?_⟩⟩
  walk_at "go"
  refine i_2 (fun c => ?_) (fun c => ?_)
  · walk_at "go"
    rename_i l hl
    exact q l [] _ (same_new hl _) hl (by unfold prs; rw [if_pos c]; rfl) (by simp) (fun r h => absurd h (by simp)) ⟨upd_same, fun r h => absurd h (by simp)⟩
  obtain ⟨sl, sp⟩ := split_len z spcS
  unfold prs at q qn
  simp only [if_neg c] at q qn
  walk_at "go"
  rename_i l hl
  refine r_split (y := spcS) rfl (by omega) fun ls hls => ?_
  have s1 := same_upd (o := .lst ((Txt.split z spcS).map V.str)) (same_new hl (.lst [])) hls
  have el := look_new (o' := .lst ((Txt.split z spcS).map V.str)) (upd_same (H := H) (a := l) (o := .lst [])) hls
  have e1 : upd (upd H l (.lst [])) ls (.lst ((Txt.split z spcS).map V.str)) ls = some (.lst ((Txt.split z spcS).map V.str)) := upd_same
  have nl : ls ≠ l := fun e => by subst e; rw [upd_same] at hls; cases hls
  generalize upd (upd H l (.lst [])) ls (.lst ((Txt.split z spcS).map V.str)) = H1 at *
  generalize Txt.split z spcS = ps at *
  walk_at "go"
  refine f_list (xs := ps.map V.str) (fun i σ H' => ∃ (rs : List (Addr × Str × Str)) (w1 w2 : Option V), σ = [some (.str z), some (.ref l), w1, w2] ∧ Same H H' ∧ H' ls = some (.lst (ps.map V.str)) ∧ PsAt H' l rs ∧ rs.map (·.2) = (ps.take i).map (fun p => ((Txt.partition p colS).1, (Txt.partition p colS).2.2)) ∧ ∀ p ∈ ps.take i, 58 ∈ cds p)
    ⟨[], _, _, rfl, s1, e1, ⟨el, fun r h => absurd h (by simp)⟩, rfl, fun p h => absurd h (by simp)⟩ ?_ ?_ ?_
  · rintro i σ H' _ ⟨rs, w1, w2, rfl, sm, es, _⟩
    exact SqL.of es
  · rintro i v σ H' hv ⟨rs, w1, w2, rfl, sm, es, pa, hr, hc⟩
    rw [List.getElem?_map] at hv
    obtain ⟨y, hy, rfl⟩ := Option.map_eq_some_iff.mp hv
    have hm := List.mem_of_getElem? hy
    have yl := sp y hm
    have tk : ps.take (i + 1) = ps.take i ++ [y] := by rw [List.take_add_one, hy]; rfl
    have hi := (List.getElem?_eq_some_iff.mp hy).1
    have rl : rs.length ≤ i := by have := congrArg List.length hr; rw [List.length_map, List.length_map, List.length_take] at this; omega
    walk_at "go"
    refine ⟨_, _, rfl, rfl, ?_⟩
    rw [show Str.ofString ":" = colS from rfl, PySem.StrLaws.found_one]
    by_cases c2 : 58 ∈ cds y
    rotate_left
    · rw [show decide (58 ∈ y.cps.toList) = false from decide_eq_false c2]
      walk_at "go"
      exact qn _ sm (by rw [if_neg fun h => c2 (h y hm)])
    rw [show decide (58 ∈ y.cps.toList) = true from decide_eq_true c2]
    have pl := pa.l
    walk_at "go"
    refine r_partn (y := colS) rfl (by show _ ≤ 16777216; omega) fun p hp => ?_
    walk_at "go"
    rename_i p2 hp2
    have nr : ∀ r ∈ rs, r.1 ≠ l := fun r h e => by
      have := pa.row r h
      rw [e, pl] at this
      cases this
    have np : p2 ≠ l := (ne_of_none (look_new pl hp) hp2).symm
    refine ⟨rs ++ [(p2, (Txt.partition y colS).1, (Txt.partition y colS).2.2)], _, _, rfl, same_put (same_upd (same_upd sm hp) hp2) hl, ?_, ⟨?_, fun r h => ?_⟩, ?_, fun x hx => ?_⟩
    · rw [upd_ne nl]
      exact look_new (look_new es hp) hp2
    · rw [upd_same, List.map_append]; rfl
    · rcases List.mem_append.mp h with h | h
      · rw [upd_ne (nr r h)]
        exact look_new (look_new (pa.row r h) hp) hp2
      · rw [List.mem_singleton.mp h, upd_ne np]
        exact upd_same
    · rw [tk, List.map_append, List.map_append, hr]; rfl
    · rw [tk] at hx
      rcases List.mem_append.mp hx with h | h
      · exact hc x h
      · rw [List.mem_singleton.mp h]; exact c2
  · rintro σ H' ⟨rs, w1, w2, rfl, sm, es, pa, hr, hc⟩
    rw [List.length_map, List.take_length] at hr hc
    walk_at "go"
    have rl : rs.length = ps.length := by have := congrArg List.length hr; rwa [List.length_map, List.length_map] at this
    refine q l rs _ sm hl (by rw [if_pos hc, hr]) (by omega) (fun r h => ?_) pa
    have : r.2 ∈ ps.map (fun p => ((Txt.partition p colS).1, (Txt.partition p colS).2.2)) := by rw [← hr]; exact List.mem_map_of_mem h
    obtain ⟨p, hp, e⟩ := List.mem_map.mp this
    rw [← e]
    exact Nat.le_trans (part_len p colS).2 (sp p hp)
def rDNI (x y : V) (H : Hp) (Q : VK) : Prop := ∃ a o, x = .ref a ∧ DGet H a y o ∧ Q (.bl (!o.isSome)) H
theorem r_dni {ty td : TE} {σ : L2.St} {H : Hp} {Q : VK} (h : ty σ H fun y H1 => td σ H1 fun x H2 => rDNI x y H2 Q) : tDNotIn ty td σ H Q := h
theorem r_dnik {H : Hp} {Q : VK} {a : Addr} {kvs : List (Key × V)} {f : Str → Option Int} {z : Str} (d : Rd H a (.dK kvs)) (A : AD kvs f) (h : Q (.bl (!(f z).isSome)) H) : rDNI (.ref a) (.str z) H Q := by
  refine ⟨a, valV kvs (Sum.inr z), rfl, .inl ⟨kvs, Sum.inr z, d, rfl, rfl⟩, ?_⟩
  rw [A.get, Option.isSome_map]
  exact h
theorem ty_same {K : PySem.W.Frag} {H H' : Hp} {x : V} {t : Value} (h : TyOf K H x t) (s : Same H H') : TyOf K H' x t := by
  cases h with
  | non => exact .non
  | bl => exact .bl _
  | int => exact .int _
  | str => exact .str _
  | flt => exact .flt _
  | lst e => exact .lst (s _ _ e)
  | frz e => exact .frz (s _ _ e)
  | tup e => exact .tup (s _ _ e)
  | dK e => exact .dK (s _ _ e)
  | dT e => exact .dT (s _ _ e)
  | ins e a b c d f => exact .ins (s _ _ e) a b c d f
theorem notx_same {K : PySem.W.Frag} {H H' : Hp} {x : V} (h : NoTx K H x) (s : Same H H') : NoTx K H' x := by
  obtain ⟨t, a, b⟩ := h
  exact ⟨t, ty_same a s, b⟩
def sp_check_new (K : PySem.W.Frag) (d : Ad) : Sp := fun vs H Q E => ∃ (z : Str) (a : Addr) (ka : List (Key × V)) (f : Str → Option Int), vs = [.str z, .ref a] ∧ H a = some (.dK ka) ∧ AD ka f ∧ ((f z).isSome = false → Q .non H) ∧ ((f z).isSome = true → E (.ref d.c_NoText) none H)
theorem ok_check_new {P : Program} {w : World} {K : PySem.W.Frag} {mg : Str → Option Value} {base : Heap} {d : Ad} (T : Tx K mg d) : FnOk P w K mg base (My.CX1 P w) 1 d.f_check_new d.fd_check_new ["name", "ahead"] (sp_check_new K d) := by
  refine My.okX T.F_check_new sc_check_new (fun vs H Q E h => ?_) (fun cdv A outer s H vs Q E hr h => ?_)
  · obtain ⟨z, a, ka, f, rfl, _⟩ := h; rfl
  obtain ⟨z, a, ka, f, rfl, ha, hA, q, qn⟩ := h
  refine ⟨_, (pss_one (ps_if (pt_cmp (pc_din (hu_of hr) (pv 0) (pv 1))) (pss_one (My.ps_raise rfl T.X_NoText rfl T.m_NoText My.xes_xw (pa_cons pe_str pa_nil))) pss_nil)), ?_⟩
  try dsimp only [L2.cxOf, L2.Cx.nox, L2.Cx.wish, My.xw, My.pnd, My.suite]
  refine r_start (σ := [some (.str z), some (.ref a)]) rfl ?_
  walk_at "go"
  refine i_b2 (fun c => ?_) (fun c => ?_)
  · walk_at "go"
    exact qn c
  · walk_at "go"
    exact q (by simpa using c)
def Told (d : Ad) (H : Hp) (Q : VK) (E : XK) : Res → Prop
  | .ware => ∀ H', Same H H' → E (.ref d.c_NoWare) none H'
  | .text => ∀ H', Same H H' → E (.ref d.c_NoText) none H'
  | .ok f => ∀ l k' H', Same H H' → H l = none → H' l = some (.dK k') → AD k' f → Q (.ref l) H'
def sp_read_amounts (K : PySem.W.Frag) (d : Ad) : Sp := fun vs H Q E => ∃ (x : V) (b : Addr) (kb : List (Key × V)) (g : Str → Option Int), vs = [x, .ref b] ∧ H b = some (.dK kb) ∧ AD kb g ∧ (∀ z n, g z = some n → 1 ≤ n ∧ n ≤ 1000) ∧ ((∃ z : Str, x = .str z ∧ z.length ≤ 100000 ∧ Told d H Q E (rdA g z)) ∨ NoTx K H x ∧ Told d H Q E .text)
theorem ok_read_amounts {P : Program} {w : World} {K : PySem.W.Frag} {mg : Str → Option Value} {base : Heap} {d : Ad} (T : Tx K mg d) : FnOk P w K mg base (My.CX1 P w) 8 d.f_read_amounts d.fd_read_amounts ["text", "grains"] (sp_read_amounts K d) := by
  refine My.okX T.F_read_amounts sc_read_amounts (fun vs H Q E h => ?_) (fun cdv A outer s H vs Q E hr h => ?_)
  · obtain ⟨x, b, kb, g, rfl, _⟩ := h; rfl
  obtain ⟨x, b, kb, g, rfl, hb, hB, gb, h⟩ := h
  refine ⟨_, (pss_cons (ps_set (i := 2) sc_read_amounts.nd rfl (Or.inl rfl) pe_dnewK)
    (pss_cons (ps_for (My.pass_xw rfl rfl) rfl (pi_list (My.pe_callX ((ok_read_pairs T).mono (by decide)) hr rfl T.m_read_pairs T.F_read_pairs.kp T.b_read_pairs .nil My.xes_xw (pa_cons (pv 0) pa_nil))) (pg_name (i := 3) sc_read_amounts.nd rfl (Or.inl rfl)) (pss_cons (ps_set (i := 4) sc_read_amounts.nd rfl (Or.inl rfl) (pe_ix ix_tup (pv 3) pe_int (fun _ _ => rfl)))
    (pss_cons (ps_if (pt_cmp (pc_dnotin (hu_of hr) (pv 4) (pv 1))) (pss_one (My.ps_raise rfl T.X_NoWare rfl T.m_NoWare My.xes_xw (pa_cons pe_str pa_nil))) pss_nil)
    (pss_cons (ps_expr (My.pe_callX ((ok_check_new T).mono (by decide)) hr rfl T.m_check_new T.F_check_new.kp T.b_check_new .nil My.xes_xw (pa_cons (pv 4) (pa_cons (pv 2) pa_nil))))
    (pss_cons (ps_set (i := 5) sc_read_amounts.nd rfl (Or.inl rfl) (My.pe_callX ((ok_read_measure T).mono (by decide)) hr rfl T.m_read_measure T.F_read_measure.kp T.b_read_measure .nil My.xes_xw (pa_cons (pe_ix ix_tup (pv 3) pe_int (fun _ _ => rfl)) (pa_cons (pe_dget (hu_of hr) (pv 1) (pv 4) (fun _ _ => rfl)) pa_nil))))
    (pss_cons (ps_if (pt_cmpR op_eq (pv 5) pe_int (nomark _)) (pss_one (My.ps_raise rfl T.X_NoText rfl T.m_NoText My.xes_xw (pa_cons pe_str pa_nil))) pss_nil)
    (pss_one (ps_dput (hu_of hr) (pv 2) (pv 4) (pv 5) rfl))))))))
    (pss_one (ps_ret (pv 2))))), ?_⟩
  try dsimp only [L2.cxOf, L2.Cx.nox, L2.Cx.wish, My.xw, My.pnd, My.suite]
  refine r_start (σ := [some (x), some (.ref b), none, none, none, none]) rfl ?_
  walk_at "go"
  rename_i al hal
  have s1 := same_new hal (.dK [])
  have e1 : upd H al (.dK []) al = some (.dK []) := upd_same
  have hb1 := s1 _ _ hb
  generalize upd H al (.dK []) = H1 at *
  rcases h with ⟨z, rfl, hz, q⟩ | ⟨⟨t, nt, kt⟩, q⟩
  rotate_left
  · exact ⟨_, rfl, .inr ⟨⟨t, ty_same nt s1, kt⟩, fun H' s => q H' (s1.trans s)⟩⟩
  refine ⟨_, rfl, .inl ⟨z, rfl, hz, fun H' s e => ?_, fun l rs H2 s2 hl hp rl rb pa => ?_⟩⟩
  · unfold rdA at q
    rw [e] at q
    exact q H' (s1.trans s)
  unfold rdA at q
  rw [hp] at q
  dsimp only at q
  have e2 := s2 _ _ e1
  have hb2 := s2 _ _ hb1
  have sH := s1.trans s2
  clear hp s1 s2 e1 hb1 hl
  have pl := pa.l
  generalize hR : rdP g noF (rs.map (·.2)) = R0 at q
  walk_at "go"
  refine f_list (xs := rs.map fun r => V.ref r.1) (fun i σ H' => ∃ (k' : List (Key × V)) (f : Str → Option Int) (w1 w2 w3 : Option V), σ = [some (.str z), some (.ref b), some (.ref al), w1, w2, w3] ∧ Same H H' ∧ PsAt H' l rs ∧ H' al = some (.dK k') ∧ AD k' f ∧ k'.length ≤ i ∧ R0 = rdP g f ((rs.drop i).map (·.2)))
    ⟨[], noF, _, _, _, rfl, sH, pa, e2, AD.nil, Nat.le_refl _, hR.symm⟩ ?_ ?_ ?_
  · rintro i σ H' _ ⟨k', f, w1, w2, w3, rfl, sm, pa, _⟩
    exact SqL.of pa.l
  · rintro i v σ H' hv ⟨k', f, w1, w2, w3, rfl, sm, pa, ea, hA, kl, er⟩
    rw [List.getElem?_map] at hv
    obtain ⟨r, hr, rfl⟩ := Option.map_eq_some_iff.mp hv
    have hi := (List.getElem?_eq_some_iff.mp hr).1
    have hm := List.mem_of_getElem? hr
    have dr : rs.drop i = r :: rs.drop (i + 1) := by rw [List.drop_eq_getElem_cons hi, (List.getElem?_eq_some_iff.mp hr).2]
    rw [dr] at er
    obtain ⟨p, wr, y⟩ := r
    have hrow := pa.row _ hm
    have yl := rb _ hm
    dsimp only at hrow yl
    change R0 = rdP g f ((wr, y) :: (rs.drop (i + 1)).map (·.2)) at er
    unfold rdP at er
    have hbR : Rd H' b (.dK kb) := .inl (sm _ _ hb)
    walk_at "go"
    refine r_dni ?_
    walk_at "go"
    refine r_dnik hbR hB ?_
    cases eg : g wr with
    | none =>
      rw [eg] at er
      rw [er] at q
      rw [show (!(none : Option Int).isSome) = true from rfl]
      walk_at "go"
      exact q _ sm
    | some gr =>
    rw [eg] at er
    dsimp only at er
    rw [show (!(some gr).isSome) = false from rfl]
    obtain ⟨g0, g1⟩ := gb _ _ eg
    walk_at "go"
    refine ⟨wr, al, k', f, rfl, ea, hA, fun c => ?_, fun c => ?_⟩
    rotate_left
    · rw [if_pos c] at er
      rw [er] at q
      exact q _ sm
    rw [if_neg (by rw [c]; exact Bool.false_ne_true)] at er
    walk_at "go"
    refine ⟨_, gr, rfl, g0, g1, .inl ⟨y, rfl, by omega, fun H3 s3 => ⟨fun n hn => ?_, fun hn => ?_⟩⟩⟩
    rotate_left
    · rw [hn] at er
      rw [er] at q
      exact q _ (sm.trans s3)
    rw [hn] at er
    dsimp only at er
    have ea3 := s3 _ _ ea
    walk_at "go"
    refine i_2 (fun c2 => ?_) (fun c2 => ?_)
    · rw [if_pos c2] at er
      rw [er] at q
      walk_at "go"
      exact q _ (sm.trans s3)
    rw [if_neg c2] at er
    have ksz : k'.length < sizeLine := by show _ < 16777216; omega
    walk_at "go"
    have pa3 := pa.same s3
    refine ⟨_, _, _, _, _, rfl, same_put (sm.trans s3) hal, ⟨?_, fun r h => ?_⟩, upd_same, hA.put _ _, ?_, er⟩
    · rw [upd_ne fun e => by
        have := pa3.l
        rw [e, ea3] at this
        cases this]
      exact pa3.l
    · rw [upd_ne fun e => by
        have := pa3.row r h
        rw [e, ea3] at this
        cases this]
      exact pa3.row r h
    · have := length_putK k' (Sum.inr wr) (.int n); omega
  · rintro σ H' ⟨k', f, w1, w2, w3, rfl, sm, pa, ea, hA, kl, er⟩
    rw [List.length_map, List.drop_length] at er
    rw [er] at q
    walk_at "go"
    exact q al k' _ sm hal ea hA
theorem at_ws {ws : List Str} {i : Nat} {k : Int} (hi : i < ws.length) (e : k = (i : Int)) : atI (ws.map V.str) k = some (.str ws[i]) := by
  subst e
  exact atI_nat (by rw [List.getElem?_map, List.getElem?_eq_getElem hi]; rfl)
def sp_amounts (K : PySem.W.Frag) (d : Ad) : Sp := fun vs H Q _ => ∃ (a w : Addr) (ns : List Int) (ws : List Str), vs = [.ref a, .ref w] ∧ SqL K H a (ns.map V.int) ∧ ns.length ≤ 63 ∧ SqL K H w (ws.map V.str) ∧ ws.length ≤ 6 ∧
  ∀ l k' f H', Same H H' → H l = none → H' l = some (.dK k') → AD k' f → (∀ z n, f z = some n → 1 ≤ n ∧ n ≤ 10 ^ 30 ∧ z ∈ ws) → Q (.ref l) H'
theorem ok_amounts {P : Program} {w : World} {K : PySem.W.Frag} {mg : Str → Option Value} {base : Heap} {d : Ad} (T : Tx K mg d) : FnOk P w K mg base CX0 2 d.f_amounts d.fd_amounts ["_law_script", "_law_wares"] (sp_amounts K d) := by
  refine T.F_amounts.ok sc_amounts (fun vs H Q E h => ?_) (fun cdv A outer s H vs Q E hr h => ?_)
  · obtain ⟨a, w, ns, ws, rfl, _⟩ := h; rfl
  obtain ⟨a, w, ns, ws, rfl, hS, hn, hW, hw, q⟩ := h
  refine ⟨_, (pss_cons (ps_set (i := 2) sc_amounts.nd rfl (Or.inl rfl) pe_dnewK)
    (pss_cons (ps_for PassesOwn.never rfl (pi_range1 rfl T.z_range (pa_cons (pe_callB My.call_lenN rfl T.z_len PySem.boot_len (pa_cons (pv 1) pa_nil)) pa_nil)) (pg_name (i := 3) sc_amounts.nd rfl (Or.inl rfl)) (pss_cons (ps_set (i := 4) sc_amounts.nd rfl (Or.inl rfl) (pe_call ((ok_cell T).mono (by decide)) hr rfl T.m_cell T.F_cell.kp T.b_cell .nil pass0 (pa_cons (pv 0) (pa_cons (pe_op op_add pe_int (pv 3)) pa_nil))))
    (pss_one (My.ps_cut (ps_if (pt_cmpR op_gt (pe_op op_mod (pv 4) pe_int) pe_int (nomark _)) (pss_one (ps_dput (hu_of hr) (pv 2) (pe_ix ix_list (pv 1) (pv 3) (fun _ _ => rfl)) (pe_op op_add pe_int (pe_op op_mod (pe_op My.op_fdivB (pv 4) pe_int) (pe_ix ix_list (pe_lst (pa_cons pe_int (pa_cons pe_int (pa_cons pe_int (pa_cons (pe_op op_pow pe_int pe_int) pa_nil))))) (pe_op op_mod (pv 4) pe_int) (fun _ _ => rfl)))) rfl)) pss_nil)))))
    (pss_one (ps_ret (pv 2))))), ?_⟩
  try dsimp only [L2.cxOf, L2.Cx.nox, L2.Cx.wish, My.xw, My.pnd, My.suite]
  refine r_start (σ := [some (.ref a), some (.ref w), none, none, none]) rfl ?_
  walk_at "go"
  rename_i l hl
  simp only [List.length_map, Int.toNat_natCast]
  refine f_range (fun i σ H' => ∃ (k' : List (Key × V)) (f : Str → Option Int) (w1 w2 : Option V), σ = [some (.ref a), some (.ref w), some (.ref l), w1, w2] ∧ Same H H' ∧ H' l = some (.dK k') ∧ k'.length ≤ i ∧ AD k' f ∧ ∀ z n, f z = some n → 1 ≤ n ∧ n ≤ 10 ^ 30 ∧ z ∈ ws)
    ⟨[], noF, none, none, rfl, same_new hl _, upd_same, Nat.le_refl _, AD.nil, fun z n e => by cases e⟩ ?_ ?_
  · rintro i σ H' hi ⟨k', f, w1, w2, rfl, sm, hl', hlen, hA, hP⟩
    have hS' := sm.seq hS
    walk_at "go"
    refine ⟨a, ns, 8 + (0 + (i : Int)), rfl, hS', by omega, by omega, hn, fun H1 s1 => ?_⟩
    have sm1 := sm.trans s1
    have hW' := sm1.seq hW
    have hl1 := s1 _ _ hl'
    walk_at "go"
    refine r_cut0 ?_
    generalize cellE ns (8 + (0 + (i : Int))) = ce
    walk_at "go"
    refine i_2 (fun c => ?_) (fun c => ?_)
    · walk_at "go"
      rename_i p hp
      refine r_menu (xs := [50, 50, 50, 10 ^ Int.toNat 30]) (SqL.of upd_same) (Int.emod_nonneg _ (by decide)) (Int.emod_lt_of_pos _ (by decide)) fun m hm => ?_
      have m0 : 0 < m ∧ m ≤ 10 ^ 30 := by
        have : m = 50 ∨ m = 10 ^ Int.toNat 30 := by simpa using hm
        rcases this with e | e <;> subst e <;> decide
      have mp := m0.1
      walk_at "go"
      refine r_ixL (sqL_new hW' hp) (at_ws hi (by omega)) ?_
      have ksz : k'.length < sizeLine := by show _ < 16777216; omega
      walk_at "go"
      have hm0 := Int.emod_nonneg (ce.fdiv 4) (show m ≠ 0 by omega)
      have hm1 := Int.emod_lt_of_pos (ce.fdiv 4) mp
      refine ⟨_, _, _, _, rfl, same_put (same_upd sm1 hp) hl, upd_same, ?_, hA.put _ _, fun z n e => ?_⟩
      · have := length_putK k' (Sum.inr ws[i]) (.int (1 + ce.fdiv 4 % m)); omega
      · unfold putF' at e
        split at e
        · rename_i ez; cases e; subst ez; exact ⟨by omega, by omega, List.getElem_mem hi⟩
        · exact hP z n e
    · walk_at "go"
      exact ⟨k', f, _, _, rfl, sm1, hl1, by omega, hA, hP⟩
  · rintro σ H' ⟨k', f, w1, w2, rfl, sm, hl', hlen, hA, hP⟩
    walk_at "go"
    exact q l k' f H' sm hl hl' hA hP
structure WsAt (H : Hp) (l : Addr) (rs : List (Addr × W3)) : Prop where
  l : H l = some (.lst (rs.map fun r => V.ref r.1))
  row : ∀ r ∈ rs, H r.1 = some (.tup [.str r.2.w, .str r.2.t, .str r.2.f])
theorem WsAt.same {H H' : Hp} {l : Addr} {rs : List (Addr × W3)} (h : WsAt H l rs) (s : Same H H') : WsAt H' l rs := ⟨s _ _ h.l, fun r hr => s _ _ (h.row r hr)⟩
structure DrAt (K : PySem.W.Frag) (H : Hp) (D : Dr) (a w g s : Addr) (kg ks : List (Key × V)) : Prop where
  ok : D.Ok
  n : D.ns.length ≤ 63
  m : D.ws.length ≤ 6
  m0 : 1 ≤ D.ws.length
  a : SqL K H a (D.ns.map V.int)
  w : SqL K H w (D.ws.map V.str)
  g : H g = some (.dK kg)
  s : H s = some (.dK ks)
  ga : AD kg D.g
  sa : AD ks D.s
theorem DrAt.same {K : PySem.W.Frag} {H H' : Hp} {D : Dr} {a w g s : Addr} {kg ks : List (Key × V)} (h : DrAt K H D a w g s kg ks) (e : Same H H') : DrAt K H' D a w g s kg ks := ⟨h.ok, h.n, h.m, h.m0, e.seq h.a, e.seq h.w, e _ _ h.g, e _ _ h.s, h.ga, h.sa⟩
theorem Dr.Ok.len {D : Dr} (h : D.Ok) {z : Str} (hz : z ∈ D.ws) : z.length ≤ 8 := by
  obtain ⟨m, _, _, rfl⟩ := h.wn z hz
  unfold nmS
  rw [ofC_len]
  exact (nmL_len _ _ _).2
theorem WK.len {D : Dr} (ok : D.Ok) {r : W3} (h : WK D r) : r.t.length ≤ 6109 := by
  rcases h with ⟨n, gr, h1, h2, h3, _⟩ | ⟨h, _⟩ | ⟨m, _, _, h1, h2, _⟩ | ⟨h1, y, hy, h2, _⟩
  · obtain ⟨s0, s1, s2⟩ := ok.sb _ _ h1
    obtain ⟨g0, g1⟩ := ok.gb _ _ h2
    rw [h3, app_len, app_len, show (Str.ofString ":").length = 1 from rfl]
    have := ok.len s2
    have := SH_len2 (t := n) (b := gr) (by omega) s1 (by omega) g1
    omega
  · rcases h with h | h <;> rw [h] <;> decide
  · rw [h2, h1, app_len, show (Str.ofString ":1").length = 2 from rfl]
    unfold nmS
    rw [ofC_len]
    have := (nmL_len (cellE D.ns 0) (cellE D.ns 1) m).2
    omega
  · rw [h2, app_len, app_len, show (Str.ofString ":").length = 1 from rfl]
    have := ok.len h1
    have z : ∀ y ∈ badT, y.length ≤ 10 := by unfold badT; decide +kernel
    have := z y hy
    omega
def sp_words (K : PySem.W.Frag) (d : Ad) : Sp := fun vs H Q _ => ∃ (a w g s : Addr) (D : Dr) (kg ks : List (Key × V)), vs = [.ref a, .ref w, .ref g, .ref s] ∧ DrAt K H D a w g s kg ks ∧
  ∀ l rs H', Same H H' → WsAt H' l rs → rs.length ≤ 6 → (∀ r ∈ rs, WK D r.2) → Cov D (rs.map (·.2)) → Q (.ref l) H'
theorem ok_words {P : Program} {w : World} {K : PySem.W.Frag} {mg : Str → Option Value} {base : Heap} {d : Ad} (T : Tx K mg d) : FnOk P w K mg base CX0 3 d.f_words d.fd_words ["_law_script", "_law_wares", "_law_grains", "_law_some"] (sp_words K d) := by
  refine T.F_words.ok sc_words (fun vs H Q E h => ?_) (fun cdv A outer s H vs Q E hr h => ?_)
  · obtain ⟨a, w, g, s, D, kg, ks, rfl, _⟩ := h; rfl
  obtain ⟨a, w, g, s', D, kg, ks, rfl, hD, q⟩ := h
  refine ⟨_, (pss_cons (ps_set (i := 4) sc_words.nd rfl (Or.inl rfl) (pe_lst pa_nil))
    (pss_cons (ps_for PassesOwn.never rfl (pi_range1 rfl T.z_range (pa_cons (pe_callB My.call_lenN rfl T.z_len PySem.boot_len (pa_cons (pv 1) pa_nil)) pa_nil)) (pg_name (i := 5) sc_words.nd rfl (Or.inl rfl)) (pss_cons (ps_set (i := 6) sc_words.nd rfl (Or.inl rfl) (pe_ix ix_list (pv 1) (pe_op op_mod (pe_op op_add (pe_call ((ok_cell T).mono (by decide)) hr rfl T.m_cell T.F_cell.kp T.b_cell .nil pass0 (pa_cons (pv 0) (pa_cons pe_int pa_nil))) (pv 5)) (pe_callB My.call_lenN rfl T.z_len PySem.boot_len (pa_cons (pv 1) pa_nil))) (fun _ _ => rfl)))
    (pss_one (My.ps_cut (ps_if (pt_cmp (pc_din (hu_of hr) (pv 6) (pv 3))) (pss_one (ps_expr (pe_bm PySem.F.plainAttrs_list PySem.F.slot_list_append PySem.F.type_list_append mt_append (pv 4) (pa_cons (pe_tup (pa_cons (pv 6) (pa_cons (pe_op My.op_catS (pe_op My.op_catS (pv 6) pe_str) (pe_call ((ok_shown T).mono (by decide)) hr rfl T.m_shown T.F_shown.kp T.b_shown .nil pass0 (pa_cons (pe_dget (hu_of hr) (pv 3) (pv 6) (fun _ _ => rfl)) (pa_cons (pe_dget (hu_of hr) (pv 2) (pv 6) (fun _ _ => rfl)) pa_nil)))) (pa_cons pe_str pa_nil)))) pa_nil)))) pss_nil)))))
    (pss_one (ps_ret (pv 4))))), ?_⟩
  try dsimp only [L2.cxOf, L2.Cx.nox, L2.Cx.wish, My.xw, My.pnd, My.suite]
  refine r_start (σ := [some (.ref a), some (.ref w), some (.ref g), some (.ref s'), none, none, none]) rfl ?_
  have hW := hD.w
  have mm := hD.m
  walk_at "go"
  rename_i l hl
  simp only [List.length_map, Int.toNat_natCast]
  have lp : (0 : Int) < (D.ws.length : Int) := by have := hD.m0; omega
  refine f_range (fun i σ H' => ∃ (rs : List (Addr × W3)) (w1 w2 : Option V), σ = [some (.ref a), some (.ref w), some (.ref g), some (.ref s'), some (.ref l), w1, w2] ∧ Same H H' ∧ WsAt H' l rs ∧ rs.length ≤ i ∧ (∀ r ∈ rs, WK D r.2) ∧ ∀ j : Nat, j < i → ∀ z, D.ws[((cellE D.ns 3 + (0 + (j : Int))) % (D.ws.length : Int)).toNat]? = some z → D.s z ≠ none → ∃ r ∈ rs, r.2.w = z)
    ⟨[], _, _, rfl, same_new hl _, ⟨upd_same, fun r h => absurd h (by simp)⟩, Nat.le_refl _, fun r h => absurd h (by simp), fun j hj => absurd hj (by omega)⟩ ?_ ?_
  · rintro i σ H' hi ⟨rs, w1, w2, rfl, sm, wa, rl, hk, hc⟩
    have hD1 := hD.same sm
    walk_at "go"
    refine ⟨a, D.ns, 3, rfl, hD1.a, by decide, by decide, hD.n, fun H1 s1 => ?_⟩
    have sm1 := sm.trans s1
    have hD2 := hD.same sm1
    have hW2 := hD2.w
    have wa1 := wa.same s1
    walk_at "go"
    rw [List.length_map]
    have k0 := Int.emod_nonneg (cellE D.ns 3 + (0 + (i : Int))) (show (D.ws.length : Int) ≠ 0 by omega)
    have k1 := Int.emod_lt_of_pos (cellE D.ns 3 + (0 + (i : Int))) lp
    have hj : ((cellE D.ns 3 + (0 + (i : Int))) % (D.ws.length : Int)).toNat < D.ws.length := by omega
    refine r_ixL hW2 (at_ws hj (by omega)) ?_
    have hz := List.getElem?_eq_getElem hj
    have hzm := List.getElem_mem hj
    generalize D.ws[((cellE D.ns 3 + (0 + (i : Int))) % (D.ws.length : Int)).toNat] = z at *
    have hRs : Rd H1 s' (.dK ks) := .inl hD2.s
    have hAs := hD.sa
    walk_at "go"
    refine r_cut0 ?_
    walk_at "go"
    have same : ∀ (rs' : List (Addr × W3)), (∀ r ∈ rs, r ∈ rs') → (D.s z ≠ none → ∃ r ∈ rs', r.2.w = z) → ∀ j : Nat, j < i + 1 → ∀ z, D.ws[((cellE D.ns 3 + (0 + (j : Int))) % (D.ws.length : Int)).toNat]? = some z → D.s z ≠ none → ∃ r ∈ rs', r.2.w = z := fun rs' h1 h2 j hj y hy hs => by
      by_cases e : j = i
      · subst e
        rw [hz] at hy
        cases hy
        exact h2 hs
      · obtain ⟨r, hr, e⟩ := hc j (by omega) y hy hs
        exact ⟨r, h1 r hr, e⟩
    refine i_b2 (fun c => ?_) (fun c => ?_)
    rotate_left
    · walk_at "go"
      exact ⟨rs, _, _, rfl, sm1, wa1, by omega, hk, same rs (fun r h => h) fun h => by
        cases e : D.s z with
        | none => exact absurd e h
        | some n => rw [e] at c; cases c⟩
    obtain ⟨n, en⟩ := Option.isSome_iff_exists.mp c
    cases eg : D.g z with
    | none => exact absurd eg ((hD.ok.gw z).mpr hzm)
    | some gr =>
    obtain ⟨g0, g1⟩ := hD.ok.gb _ _ eg
    obtain ⟨n0, n1, _⟩ := hD.ok.sb _ _ en
    have zl := hD.ok.len hzm
    have e1 : (Str.ofString ":").length = 1 := rfl
    have sl2 := SH_len2 (t := n) (b := gr) (by omega) n1 (by omega) g1
    have hRg : Rd H1 g (.dK kg) := .inl hD2.g
    have hAg := hD.ga
    have pl := wa1.l
    walk_at "go"
    refine ⟨n, gr, rfl, by omega, by omega, by omega, by omega, ?_⟩
    walk_at "go"
    refine r_catS (by simp only [app_len]; show _ ≤ 16777216; omega) ?_
    walk_at "go"
    rename_i p hp
    have nr : ∀ r ∈ rs, r.1 ≠ l := fun r h e => by
      have := wa1.row r h
      rw [e, pl] at this
      cases this
    have np : p ≠ l := (ne_of_none pl hp).symm
    refine ⟨rs ++ [(p, ⟨z, z ++ Str.ofString ":" ++ SH n gr, Str.ofString ""⟩)], _, _, rfl, same_put (same_upd sm1 hp) hl, ⟨?_, fun r h => ?_⟩, by rw [List.length_append, List.length_singleton]; omega, fun r h => ?_, same _ (fun r h => List.mem_append_left _ h) fun _ => ⟨_, List.mem_append_right _ (List.mem_singleton.mpr rfl), rfl⟩⟩
    · rw [upd_same, List.map_append]; rfl
    · rcases List.mem_append.mp h with h | h
      · rw [upd_ne (nr r h)]
        exact look_new (wa1.row r h) hp
      · rw [List.mem_singleton.mp h, upd_ne np]
        exact upd_same
    · rcases List.mem_append.mp h with h | h
      · exact hk r h
      · rw [List.mem_singleton.mp h]
        exact .inl ⟨n, gr, en, eg, rfl, rfl⟩
  · rintro σ H' ⟨rs, w1, w2, rfl, sm, wa, rl, hk, hc⟩
    walk_at "go"
    refine q l rs _ sm wa (by omega) hk (.inr fun z n e => ?_)
    obtain ⟨_, _, hm⟩ := hD.ok.sb _ _ e
    obtain ⟨j, hj, rfl⟩ := List.getElem_of_mem hm
    have k0 := Int.emod_nonneg ((j : Int) - cellE D.ns 3) (show (D.ws.length : Int) ≠ 0 by omega)
    have k1 := Int.emod_lt_of_pos ((j : Int) - cellE D.ns 3) lp
    have ek : (cellE D.ns 3 + (0 + ((((j : Int) - cellE D.ns 3) % (D.ws.length : Int)).toNat : Int))) % (D.ws.length : Int) = (j : Int) := by
      rw [Int.toNat_of_nonneg k0, Int.zero_add, Int.add_comm, Int.emod_add_emod, Int.sub_add_cancel]
      exact Int.emod_eq_of_lt (by omega) (by omega)
    obtain ⟨r, hr, e2⟩ := hc (((j : Int) - cellE D.ns 3) % (D.ws.length : Int)).toNat (by omega) D.ws[j] (by rw [ek, Int.toNat_natCast]; exact List.getElem?_eq_getElem hj) (by rw [e]; simp)
    exact ⟨r.2, List.mem_map_of_mem hr, e2⟩
theorem cut_take {xs : List V} {k : Nat} (h : k ≤ xs.length) : cutV xs none (some (k : Int)) = xs.take k := by
  unfold cutV
  rw [HT.sIx_none, HT.sIx_nat, List.drop_zero, Nat.sub_zero, Nat.min_eq_left h]
theorem cut_drop {xs : List V} {k : Nat} (h : k ≤ xs.length) : cutV xs (some (k : Int)) none = xs.drop k := by
  unfold cutV
  rw [HT.sIx_none, HT.sIx_nat, Nat.min_eq_left h]
  exact List.take_of_length_le (by rw [List.length_drop]; exact Nat.le_refl _)
theorem Cov.mono {D : Dr} {rs rs' : List W3} (h : Cov D rs) (s : ∀ r ∈ rs, r ∈ rs') : Cov D rs' := by
  rcases h with ⟨r, hr, t⟩ | h
  · exact .inl ⟨r, s r hr, t⟩
  · refine .inr fun z n e => ?_
    obtain ⟨r, hr, w⟩ := h z n e
    exact ⟨r, s r hr, w⟩
theorem put_in {D : Dr} {H : Hp} {p q : Addr} {x : W3} {rs : List (Addr × W3)} {k k' : Nat} (hk : ∀ r ∈ rs, WK D r.2) (hx : WK D x) (hl : H p = some (.lst ((rs.map fun r => V.ref r.1).take k ++ [V.ref q] ++ (rs.map fun r => V.ref r.1).drop k'))) (hq : H q = some (.tup [.str x.w, .str x.t, .str x.f])) (hr : ∀ r ∈ rs, H r.1 = some (.tup [.str r.2.w, .str r.2.t, .str r.2.f])) (le : k ≤ k') :
    WsAt H p (rs.take k ++ [(q, x)] ++ rs.drop k') ∧ (rs.take k ++ [(q, x)] ++ rs.drop k').length ≤ rs.length + 1 ∧ ∀ r ∈ rs.take k ++ [(q, x)] ++ rs.drop k', WK D r.2 := by
  have mem : ∀ r ∈ rs.take k ++ [(q, x)] ++ rs.drop k', r = (q, x) ∨ r ∈ rs := fun r h => by
    rcases List.mem_append.mp h with h | h
    · rcases List.mem_append.mp h with h | h
      · exact .inr (List.mem_of_mem_take h)
      · exact .inl (List.mem_singleton.mp h)
    · exact .inr (List.mem_of_mem_drop h)
  refine ⟨⟨?_, fun r h => ?_⟩, ?_, fun r h => ?_⟩
  · rw [hl, List.map_append, List.map_append, List.map_take, List.map_drop]; rfl
  · rcases mem r h with rfl | h
    · exact hq
    · exact hr r h
  · rw [List.length_append, List.length_append, List.length_take, List.length_drop, List.length_singleton]; omega
  · rcases mem r h with rfl | h
    · exact hx
    · exact hk r h
theorem cov_put {D : Dr} {rs : List (Addr × W3)} {q : Addr × W3} {k : Nat} (h : Cov D (rs.map (·.2))) : Cov D ((rs.take k ++ [q] ++ rs.drop k).map (·.2)) := by
  refine h.mono fun r hr => ?_
  obtain ⟨x, hx, rfl⟩ := List.mem_map.mp hr
  refine List.mem_map_of_mem ?_
  rw [← List.take_append_drop k rs] at hx
  rcases List.mem_append.mp hx with h | h
  · exact List.mem_append_left _ (List.mem_append_left _ h)
  · exact List.mem_append_right _ h
def sp_fault (K : PySem.W.Frag) (d : Ad) : Sp := fun vs H Q _ => ∃ (a l : Addr) (D : Dr) (rs : List (Addr × W3)) (c : Int), vs = [.ref a, .ref l, .int c] ∧ D.Ok ∧ D.ns.length ≤ 63 ∧ SqL K H a (D.ns.map V.int) ∧ WsAt H l rs ∧ rs.length ≤ 20 ∧ (∀ r ∈ rs, WK D r.2) ∧ Cov D (rs.map (·.2)) ∧
  ∀ l' rs' H', Same H H' → WsAt H' l' rs' → rs'.length ≤ rs.length + 1 → (∀ r ∈ rs', WK D r.2) → Cov D (rs'.map (·.2)) → Q (.ref l') H'
theorem fin_ins {D : Dr} {H Hf : Hp} {Q : VK} {l p q0 : Addr} {x : W3} {rs : List (Addr × W3)} {k : Nat} (q : ∀ l' rs' H', Same H H' → WsAt H' l' rs' → rs'.length ≤ rs.length + 1 → (∀ r ∈ rs', WK D r.2) → Cov D (rs'.map (·.2)) → Q (.ref l') H') (wa : WsAt H l rs) (hk : ∀ r ∈ rs, WK D r.2) (hc : Cov D (rs.map (·.2))) (hx : WK D x) (sf : Same H Hf)
    (hl : Hf p = some (.lst ((rs.map fun r => V.ref r.1).take k ++ [V.ref q0] ++ (rs.map fun r => V.ref r.1).drop k))) (hq : Hf q0 = some (.tup [.str x.w, .str x.t, .str x.f])) : Q (.ref p) Hf := by
  obtain ⟨w1, w2, w3⟩ := put_in hk hx hl hq (fun r h => sf _ _ (wa.row r h)) (Nat.le_refl k)
  exact q _ _ _ sf w1 w2 w3 (cov_put hc)
theorem fin_rep {D : Dr} {H Hf : Hp} {Q : VK} {l p q0 : Addr} {x : W3} {rs : List (Addr × W3)} {k : Nat} (q : ∀ l' rs' H', Same H H' → WsAt H' l' rs' → rs'.length ≤ rs.length + 1 → (∀ r ∈ rs', WK D r.2) → Cov D (rs'.map (·.2)) → Q (.ref l') H') (wa : WsAt H l rs) (hk : ∀ r ∈ rs, WK D r.2) (hx : WTxt D x) (sf : Same H Hf)
    (hl : Hf p = some (.lst ((rs.map fun r => V.ref r.1).take k ++ [V.ref q0] ++ (rs.map fun r => V.ref r.1).drop (k + 1)))) (hq : Hf q0 = some (.tup [.str x.w, .str x.t, .str x.f])) : Q (.ref p) Hf := by
  obtain ⟨w1, w2, w3⟩ := put_in hk (.inr (.inr (.inr hx))) hl hq (fun r h => sf _ _ (wa.row r h)) (Nat.le_succ k)
  exact q _ _ _ sf w1 w2 w3 (.inl ⟨x, List.mem_map.mpr ⟨(q0, x), List.mem_append_left _ (List.mem_append_right _ (List.mem_singleton.mpr rfl)), rfl⟩, hx⟩)
theorem r_slTk {K : PySem.W.Frag} {H : Hp} {Q : VK} {a : Addr} {xs : List V} {k : Nat} (e : SqL K H a xs) (hk : k ≤ xs.length) (h : ∀ p, H p = none → Q (.ref p) (upd H p (.lst (xs.take k)))) : rSlL K (.ref a) none (some (k : Int)) H Q := ⟨a, xs, rfl, e, by rw [cut_take hk]; exact h⟩
theorem r_slDk {K : PySem.W.Frag} {H : Hp} {Q : VK} {a : Addr} {xs : List V} {k : Nat} (e : SqL K H a xs) (hk : k ≤ xs.length) (h : ∀ p, H p = none → Q (.ref p) (upd H p (.lst (xs.drop k)))) : rSlL K (.ref a) (some (k : Int)) none H Q := ⟨a, xs, rfl, e, by rw [cut_drop hk]; exact h⟩
theorem r_slD1 {K : PySem.W.Frag} {H : Hp} {Q : VK} {a : Addr} {xs : List V} {k : Nat} (e : SqL K H a xs) (hk : k < xs.length) (h : ∀ p, H p = none → Q (.ref p) (upd H p (.lst (xs.drop (k + 1))))) : rSlL K (.ref a) (some ((k : Int) + 1)) none H Q := ⟨a, xs, rfl, e, by rw [show (k : Int) + 1 = ((k + 1 : Nat) : Int) by omega, cut_drop hk]; exact h⟩
theorem r_in2' {K : PySem.W.Frag} {H : Hp} {Q : VK} {p : Addr} {x i j : Int} (h : SqT K H p [.int i, .int j]) (q : ∀ b : Bool, Q (.bl b) H) : rIn K false (.int x) (.ref p) H Q := ⟨p, _, rfl, .inr h, rfl, rfl, q _⟩
local macro_rules | `(tactic| walk_at "sp") => `(tactic| first
  | ((with_reducible refine' r_slTk ?e ?k ?_); (case e => walk_at "sqL"); (case k => walk_at "side"); intro p hp) | ((with_reducible refine' r_slDk ?e ?k ?_); (case e => walk_at "sqL"); (case k => walk_at "side"); intro p hp) | ((with_reducible refine' r_slD1 ?e ?k ?_); (case e => walk_at "sqL"); (case k => walk_at "side"); intro p hp)
  | ((with_reducible refine' r_cat ?a ?b ?z ?_); (case a => walk_at "heap"); (case b => walk_at "heap"); (case z => walk_at "size"); intro p hp))
local macro_rules | `(tactic| walk_at "size") => `(tactic| (simp only [List.length_append, List.length_take, List.length_drop, List.length_cons, List.length_nil, List.length_map]; show _ ≤ 16777216; omega))
theorem ok_fault {P : Program} {w : World} {K : PySem.W.Frag} {mg : Str → Option Value} {base : Heap} {d : Ad} (T : Tx K mg d) : FnOk P w K mg base CX0 4 d.f_fault d.fd_fault ["_law_script", "_law_words_here", "_law_cell_here"] (sp_fault K d) := by
  refine T.F_fault.ok sc_fault (fun vs H Q E h => ?_) (fun cdv A outer s H vs Q E hr h => ?_)
  · obtain ⟨a, l, D, rs, c, rfl, _⟩ := h; rfl
  obtain ⟨a, l, D, rs, c, rfl, ok, hn, hS, wa, rl, hk, hc, q⟩ := h
  refine ⟨_, (pss_cons (ps_set (i := 3) sc_fault.nd rfl (Or.inl rfl) (pe_op op_mod (pe_op My.op_fdivB (pv 2) pe_int) (pe_op op_add (pe_callB My.call_lenN rfl T.z_len PySem.boot_len (pa_cons (pv 1) pa_nil)) pe_int)))
    (pss_cons (ps_if (pt_cmpR op_eq (pe_op op_mod (pv 2) pe_int) pe_int (nomark _)) (pss_one (ps_ret (pe_op op_cat (pe_op op_cat (pe_slice sl_list (pv 1) po_none (po_some (pv 3))) (pe_lst (pa_cons (pe_tup (pa_cons pe_str (pa_cons (pe_ix ix_list (pe_lst (pa_cons pe_str (pa_cons pe_str pa_nil))) (pe_op op_mod (pe_op My.op_fdivB (pv 2) pe_int) pe_int) (fun _ _ => rfl)) (pa_cons pe_str pa_nil)))) pa_nil))) (pe_slice sl_list (pv 1) (po_some (pv 3)) po_none)))) pss_nil)
    (pss_cons (ps_if (pt_cmpR op_eq (pe_op op_mod (pv 2) pe_int) pe_int (nomark _)) (pss_cons (ps_set (i := 4) sc_fault.nd rfl (Or.inl rfl) (pe_call ((ok_name T).mono (by decide)) hr rfl T.m_name T.F_name.kp T.b_name .nil pass0 (pa_cons (pv 0) (pa_cons (pe_op op_add pe_int (pe_op op_mod (pe_op My.op_fdivB (pv 2) pe_int) pe_int)) pa_nil))))
    (pss_one (ps_ret (pe_op op_cat (pe_op op_cat (pe_slice sl_list (pv 1) po_none (po_some (pv 3))) (pe_lst (pa_cons (pe_tup (pa_cons (pv 4) (pa_cons (pe_op My.op_catS (pv 4) pe_str) (pa_cons pe_str pa_nil)))) pa_nil))) (pe_slice sl_list (pv 1) (po_some (pv 3)) po_none))))) pss_nil)
    (pss_cons (ps_if (PW.pt (pw_and (pt_cmpR op_eq (pe_op op_mod (pv 2) pe_int) pe_int (nomark _)) (pw_and1 (pt_cmpR (My.op_neD (My.hu8 hr)) (pv 1) (pe_lst pa_nil) (nomark _))))) (pss_cons (ps_set (i := 5) sc_fault.nd rfl (Or.inl rfl) (pe_ix ix_list (pv 1) (pe_op op_mod (pe_op My.op_fdivB (pv 2) pe_int) (pe_callB My.call_lenN rfl T.z_len PySem.boot_len (pa_cons (pv 1) pa_nil))) (fun _ _ => rfl)))
    (pss_one (ps_ret (pe_op op_cat (pe_op op_cat (pe_slice sl_list (pv 1) po_none (po_some (pv 3))) (pe_lst (pa_cons (pv 5) pa_nil))) (pe_slice sl_list (pv 1) (po_some (pv 3)) po_none))))) pss_nil)
    (pss_cons (ps_if (PW.pt (pw_and (pt_cmpR op_in_seq (pe_op op_mod (pv 2) pe_int) (pe_tup (pa_cons pe_int (pa_cons pe_int pa_nil))) (by rfl)) (pw_and (pt_cmpR op_lt (pv 3) (pe_callB My.call_lenN rfl T.z_len PySem.boot_len (pa_cons (pv 1) pa_nil)) (nomark _)) (pw_and1 (pt_cmpR op_eq (pe_ix ix_tup (pe_ix ix_list (pv 1) (pv 3) (fun _ _ => rfl)) pe_int (fun _ _ => rfl)) pe_str (nomark _)))))) (pss_cons (ps_set (i := 6) sc_fault.nd rfl (Or.inl rfl) (pe_ix ix_list (pe_lst (pa_cons pe_str (pa_cons pe_str (pa_cons pe_str (pa_cons pe_str (pa_cons pe_str (pa_cons pe_str (pa_cons pe_str (pa_cons pe_str pa_nil))))))))) (pe_op op_mod (pe_op My.op_fdivB (pv 2) pe_int) pe_int) (fun _ _ => rfl)))
    (pss_one (ps_ret (pe_op op_cat (pe_op op_cat (pe_slice sl_list (pv 1) po_none (po_some (pv 3))) (pe_lst (pa_cons (pe_tup (pa_cons (pe_ix ix_tup (pe_ix ix_list (pv 1) (pv 3) (fun _ _ => rfl)) pe_int (fun _ _ => rfl)) (pa_cons (pe_op My.op_catS (pe_op My.op_catS (pe_ix ix_tup (pe_ix ix_list (pv 1) (pv 3) (fun _ _ => rfl)) pe_int (fun _ _ => rfl)) pe_str) (pv 6)) (pa_cons pe_str pa_nil)))) pa_nil))) (pe_slice sl_list (pv 1) (po_some (pe_op op_add (pv 3) pe_int)) po_none))))) pss_nil)
    (pss_one (ps_ret (pv 1)))))))), ?_⟩
  try dsimp only [L2.cxOf, L2.Cx.nox, L2.Cx.wish, My.xw, My.pnd, My.suite]
  refine r_start (σ := [some (.ref a), some (.ref l), some (.int c), none, none, none, none]) rfl ?_
  have pl := wa.l
  have hL : (rs.map fun r => V.ref r.1).length = rs.length := List.length_map _
  have zp : (0 : Int) < ((rs.map fun r => V.ref r.1).length : Int) + 1 := by omega
  walk_at "go"
  have k0 := Int.emod_nonneg (c.fdiv 6) (show ((rs.map fun r => V.ref r.1).length : Int) + 1 ≠ 0 by omega)
  have k1 := Int.emod_lt_of_pos (c.fdiv 6) zp
  generalize c.fdiv 6 % (((rs.map fun r => V.ref r.1).length : Int) + 1) = at0 at *
  obtain ⟨k, rfl⟩ := Int.eq_ofNat_of_zero_le k0
  have kl : k ≤ rs.length := by omega
  clear k0 k1 zp
  have kx : k ≤ (rs.map fun r => V.ref r.1).length := by omega
  have nmb : ∀ m : Int, (nmS D.ns m).length ≤ 8 := fun m => by unfold nmS; rw [ofC_len]; exact (nmL_len _ _ _).2
  refine i_2 (fun c1 => ?_) (fun c1 => ?_)
  · walk_at "go"
    refine r_menuS (xs := [Str.ofString "abc", Str.ofString ""]) (SqL.of upd_same) (Int.emod_nonneg _ (by decide)) (show c.fdiv 60 % 2 < 2 from Int.emod_lt_of_pos _ (by decide)) fun m hm => ?_
    have hm : m = Str.ofString "abc" ∨ m = Str.ofString "" := by simpa using hm
    walk_at "go"
    refine fin_ins (x := ⟨Str.ofString "", m, Str.ofString "colon"⟩) q wa hk hc (.inr (.inl ⟨hm, rfl⟩)) ?_ upd_same ?_
    · walk_at "same"
    · walk_at "heap"
  walk_at "go"
  refine i_2 (fun c2 => ?_) (fun c2 => ?_)
  · walk_at "go"
    have m0 := Int.emod_nonneg (c.fdiv 6) (show (20 : Int) ≠ 0 by decide)
    have m1 := Int.emod_lt_of_pos (c.fdiv 6) (show (0 : Int) < 20 by decide)
    refine ⟨a, D.ns, _, rfl, hS, hn, by omega, by omega, fun H1 s1 => ?_⟩
    have pl1 := s1 _ _ pl
    have nl := nmb (6 + c.fdiv 6 % 20)
    have e2 : (Str.ofString ":1").length = 2 := rfl
    walk_at "go"
    refine fin_ins (x := ⟨nmS D.ns (6 + c.fdiv 6 % 20), nmS D.ns (6 + c.fdiv 6 % 20) ++ Str.ofString ":1", Str.ofString "ware"⟩) q wa hk hc (.inr (.inr (.inl ⟨_, by omega, by omega, rfl, rfl, rfl⟩))) ?_ upd_same ?_
    · walk_at "same"
    · walk_at "heap"
  walk_at "go"
  have back : ∀ H', Same H H' → Q (.ref l) H' := fun H' s => q l rs H' s (wa.same s) (by omega) hk hc
  by_cases c3 : c % 6 = 3
  · rw [decide_eq_true c3]
    walk_at "go"
    rename_i p hp
    have ne : l ≠ p := ne_of_none pl hp
    have s1 := same_new hp (.lst [])
    cases hrs : rs with
    | nil =>
      subst hrs
      refine r_neD (n := 1) ne (by decide) (deq_list (n := 0) (SqL.of (look_new pl hp)) (SqL.of upd_same) ne trivial) ?_
      have pl1 := s1 _ _ pl
      generalize upd H p (.lst []) = H1 at *
      walk_at "go"
      rename_i p2 hp2
      refine r_in2' (SqT.of upd_same) fun b => ?_
      cases b with
      | false =>
        walk_at "go"
        exact back _ (same_upd s1 hp2)
      | true =>
        walk_at "go"
        exact back _ (same_upd s1 hp2)
    | cons r0 rr =>
      have rp : 0 < rs.length := by rw [hrs]; simp
      refine r_neD (n := 1) ne (by decide) (DEq.lsN (n := 0) (SqL.of (look_new pl hp)) (SqL.of upd_same) ne (by rw [List.length_map, hrs]; simp)) ?_
      have pl1 := s1 _ _ pl
      generalize upd H p (.lst []) = H1 at *
      clear hrs
      have lp : (0 : Int) < ((rs.map fun r => V.ref r.1).length : Int) := by omega
      walk_at "go"
      have j0 := Int.emod_nonneg (c.fdiv 36) (show ((rs.map fun r => V.ref r.1).length : Int) ≠ 0 by omega)
      have j1 := Int.emod_lt_of_pos (c.fdiv 36) lp
      generalize c.fdiv 36 % ((rs.map fun r => V.ref r.1).length : Int) = j2 at *
      obtain ⟨j, rfl⟩ := Int.eq_ofNat_of_zero_le j0
      have hj : j < rs.length := by omega
      refine r_ixL (v := V.ref rs[j].1) (SqL.of pl1) (atI_nat (by rw [List.getElem?_map, List.getElem?_eq_getElem hj]; rfl)) ?_
      walk_at "go"
      have sf : ∀ {H' : Hp}, Same H1 H' → Same H H' := fun s => s1.trans s
      refine fin_ins (x := rs[j].2) q wa hk hc (hk _ (List.getElem_mem hj)) ?_ upd_same ?_
      · walk_at "same"
      · have hrow := s1 _ _ (wa.row _ (List.getElem_mem hj))
        walk_at "heap"
  rw [decide_eq_false c3]
  walk_at "go"
  rename_i p2 hp2
  have s1 := same_new hp2 (.tup [.int 4, .int 5])
  refine r_in2' (SqT.of upd_same) fun b => ?_
  have pl1 := s1 _ _ pl
  generalize upd H p2 (.tup [.int 4, .int 5]) = H1 at *
  cases b with
  | false =>
    walk_at "go"
    exact back _ s1
  | true =>
  walk_at "go"
  by_cases c4 : k < rs.length
  rotate_left
  · rw [decide_eq_false (by omega)]
    walk_at "go"
    exact back _ s1
  rw [decide_eq_true (by omega)]
  have hrow := s1 _ _ (wa.row _ (List.getElem_mem c4))
  have hwk := hk _ (List.getElem_mem c4)
  have iat : atI (rs.map fun r => V.ref r.1) (k : Int) = some (V.ref rs[k].1) := atI_nat (by rw [List.getElem?_map, List.getElem?_eq_getElem c4]; rfl)
  generalize rs[k] = r at *
  walk_at "go"
  refine r_ixL (SqL.of pl1) iat ?_
  walk_at "go"
  refine i_2 (fun c5 => ?_) (fun c5 => ?_)
  rotate_left
  · walk_at "go"
    exact back _ s1
  have hw : r.2.w ∈ D.ws := by
    obtain ⟨_, _, _, n4, _, n6⟩ := f_ne
    rcases hwk with ⟨n, gr, h1, _⟩ | ⟨_, h⟩ | ⟨m, _, _, _, _, h⟩ | ⟨h, _⟩
    · exact (ok.sb _ _ h1).2.2
    · rw [h] at c5; exact absurd (congrArg Str.length c5) (by decide)
    · rw [h] at c5; exact absurd (congrArg Str.length c5) (by decide)
    · exact h
  have hwl := ok.len hw
  walk_at "go"
  refine r_menuS (xs := badT) (SqL.of upd_same) (Int.emod_nonneg _ (by decide)) (show c.fdiv 42 % 8 < 8 from Int.emod_lt_of_pos _ (by decide)) fun m hm => ?_
  rename_i p3 hp3
  have s2 := same_new hp3 (.lst (badT.map V.str))
  have s3 := s1.trans s2
  have pl3 := s3 _ _ pl
  have hrow3 := s2 _ _ hrow
  have ml : m.length ≤ 10 := (show ∀ y ∈ badT, y.length ≤ 10 by unfold badT; decide +kernel) m hm
  have kx1 : k < (rs.map fun r => V.ref r.1).length := by omega
  have e1 : (Str.ofString ":").length = 1 := rfl
  generalize hH2 : upd H1 p3 (.lst (badT.map V.str)) = H2 at *
  rw [show upd H1 p3 (.lst [V.str (Str.ofString "0"), V.str (Str.ofString ""), V.str (Str.ofString "x"), V.str (Str.ofString "1/1"), V.str (Str.ofString "+1/2"), V.str (Str.ofString "01"), V.str (Str.ofString "1\n"), V.str (Str.ofString "\t1")]) = H2 from hH2]
  clear hH2 hrow pl1 s2 hp3
  walk_at "go"
  rename_i p4 hp4
  refine r_ixL (sqL_new (SqL.of pl3) hp4) iat ?_
  walk_at "go"
  refine r_ixL (sqL_new (SqL.of pl3) hp4) iat ?_
  walk_at "go"
  refine r_catS (by simp only [app_len]; show _ ≤ 16777216; omega) ?_
  walk_at "go"
  refine fin_rep (x := ⟨r.2.w, r.2.w ++ Str.ofString ":" ++ m, Str.ofString "text"⟩) q wa hk ⟨hw, m, hm, rfl, rfl⟩ ?_ upd_same ?_
  · walk_at "same"
  · walk_at "heap"
def sp_due (K : PySem.W.Frag) (d : Ad) : Sp := fun vs H Q _ => ∃ (l : Addr) (rs : List (Addr × W3)), vs = [.ref l] ∧ WsAt H l rs ∧ rs.length ≤ 20 ∧ ∀ H', Same H H' → Q (.str (dueW (rs.map (·.2)))) H'
theorem ok_due {P : Program} {w : World} {K : PySem.W.Frag} {mg : Str → Option Value} {base : Heap} {d : Ad} (T : Tx K mg d) : FnOk P w K mg base CX0 1 d.f_due d.fd_due ["_law_words_here"] (sp_due K d) := by
  refine T.F_due.ok sc_due (fun vs H Q E h => ?_) (fun cdv A outer s H vs Q E hr h => ?_)
  · obtain ⟨l, rs, rfl, _⟩ := h; rfl
  obtain ⟨l, rs, rfl, wa, rl, q⟩ := h
  refine ⟨_, (pss_cons (ps_if (pt_cmpR (My.op_neD (My.hu8 hr)) (My.pe_comp (caps := []) (cn := []) (My.caps_of rfl rfl (by rfl) (by rfl) rfl trivial (by rfl) rfl trivial (by decide)) rfl (pi_list (pv 0)) (fun _ _ _ _ => (My.pf_one (pt_cmpR op_eq (pe_ix ix_tup (pv 0) pe_int (fun _ _ => rfl)) pe_str (nomark _)))) (fun _ _ _ _ => (pv 0))) (pe_lst pa_nil) (nomark _)) (pss_one (ps_ret pe_str)) pss_nil)
    (pss_cons (ps_set (i := 1) sc_due.nd rfl (Or.inl rfl) (pe_lst pa_nil))
    (pss_cons (ps_for PassesOwn.never rfl (pi_list (pv 0)) (pg_tup rfl (pgs_cons (pg_name (i := 2) sc_due.nd rfl (Or.inl rfl)) (pgs_cons (pg_name (i := 3) sc_due.nd rfl (Or.inl rfl)) (pgs_cons (pg_name (i := 4) sc_due.nd rfl (Or.inl rfl)) pgs_nil)))) (pss_cons (ps_if (pt_cmpR op_eq (pv 4) pe_str (nomark _)) (pss_one (ps_ret pe_str)) pss_nil)
    (pss_cons (ps_if (PW.pt (pw_or (pt_cmpR op_in_seq (pv 2) (pv 1) (by rfl)) (pw_or1 (pt_cmpR op_eq (pv 4) pe_str (nomark _))))) (pss_one (ps_ret pe_str)) pss_nil)
    (pss_one (ps_expr (pe_bm PySem.F.plainAttrs_list PySem.F.slot_list_append PySem.F.type_list_append mt_append (pv 1) (pa_cons (pv 2) pa_nil)))))))
    (pss_one (ps_ret pe_str))))), ?_⟩
  try dsimp only [L2.cxOf, L2.Cx.nox, L2.Cx.wish, My.xw, My.pnd, My.suite]
  try dsimp only [My.cxC]
  refine r_start (σ := [some (.ref l), none, none, none, none]) rfl ?_
  have pl := wa.l
  walk_at "go"
  intro C s0 H0 fp acc hacc
  refine c_by rs.length (fun i H' => ∃ ms : List Addr, Same H H' ∧ H' acc = some (.lst (ms.map V.ref)) ∧ ms.length ≤ i ∧ (ms ≠ [] ↔ ∃ r ∈ rs.take i, r.2.f = Str.ofString "colon")) ⟨[], same_new hacc _, upd_same, Nat.le_refl _, by simp⟩ ?_ ?_ ?_ ?_
  · rintro i H' hi ⟨ms, sm, _⟩
    exact ⟨_, .ref rs[i].1, SqL.of (sm _ _ pl), by rw [List.getElem?_map, List.getElem?_eq_getElem hi]; rfl⟩
  · rintro H' ⟨ms, sm, _⟩
    exact ⟨_, SqL.of (sm _ _ pl), by rw [List.length_map]; exact Nat.le_refl _⟩
  · rintro i H' v H'' hi ⟨ms, sm, ea, hl, hz⟩ ⟨rfl, hv⟩
    have hv := hv _ (SqL.of (sm _ _ pl))
    rw [List.getElem?_map, List.getElem?_eq_getElem hi] at hv
    cases hv
    have tk : rs.take (i + 1) = rs.take i ++ [rs[i]] := by rw [List.take_add_one, List.getElem?_eq_getElem hi]; rfl
    have hrow := sm _ _ (wa.row _ (List.getElem_mem hi))
    generalize rs[i] = r at *
    walk_at "go"
    refine i_2 (fun c => ?_) (fun c => ?_)
    · walk_at "go"
      refine ⟨ms ++ [r.1], same_put sm hacc, by rw [upd_same, List.map_append]; rfl, by rw [List.length_append]; simp; omega, ?_⟩
      exact ⟨fun _ => ⟨r, by rw [tk]; exact List.mem_append_right _ (List.mem_singleton.mpr rfl), c⟩, fun _ => by simp⟩
    · walk_at "go"
      refine ⟨ms, sm, ea, by omega, hz.trans ?_⟩
      rw [tk]
      exact ⟨fun ⟨x, hx, e⟩ => ⟨x, List.mem_append_left _ hx, e⟩, fun ⟨x, hx, e⟩ => (List.mem_append.mp hx).elim (fun h => ⟨x, h, e⟩) fun h => by rw [List.mem_singleton.mp h] at e; exact absurd e c⟩
  rintro H1 ⟨ms, s1, ea, ml, hz⟩
  rw [List.take_length] at hz
  have hc : (∃ r ∈ rs.map (·.2), r.f = Str.ofString "colon") ↔ ms ≠ [] := by
    rw [hz]
    exact ⟨fun ⟨x, hx, e⟩ => by
      obtain ⟨r, hr, rfl⟩ := List.mem_map.mp hx
      exact ⟨r, hr, e⟩, fun ⟨r, hr, e⟩ => ⟨r.2, List.mem_map_of_mem hr, e⟩⟩
  unfold dueW at q
  walk_at "go"
  rename_i p hp
  have ne : acc ≠ p := ne_of_none ea hp
  have s2 := s1.trans (same_new hp (.lst []))
  by_cases cm : ms = []
  rotate_left
  · rw [if_pos (hc.mpr cm)] at q
    refine r_neD (n := 1) ne (by decide) (DEq.lsN (n := 0) (SqL.of (look_new ea hp)) (SqL.of upd_same) ne (by rw [List.length_map]; intro h; exact cm (List.eq_nil_of_length_eq_zero h))) ?_
    walk_at "go"
    exact q _ s2
  rw [if_neg fun h => hc.mp h cm] at q
  subst cm
  refine r_neD (n := 1) ne (by decide) (deq_list (n := 0) (SqL.of (look_new ea hp)) (SqL.of upd_same) ne trivial) ?_
  have wa2 := wa.same s2
  generalize upd H1 p (.lst []) = H2 at *
  clear hz hc ea ne hp
  have pl2 := wa2.l
  walk_at "go"
  rename_i sn hsn
  have hsn0 : H sn = none := s2.free hsn
  generalize hD0 : dueL [] (rs.map (·.2)) = D0 at *
  refine f_list (xs := rs.map fun r => V.ref r.1) (fun i σ H' => ∃ (ss : List Str) (w1 w2 w3 : Option V), σ = [some (.ref l), some (.ref sn), w1, w2, w3] ∧ Same H H' ∧ H' sn = some (.lst (ss.map V.str)) ∧ ss.length ≤ i ∧ D0 = dueL ss ((rs.drop i).map (·.2)))
    ⟨[], _, _, _, rfl, same_upd s2 hsn, upd_same, Nat.le_refl _, hD0.symm⟩ ?_ ?_ ?_
  · rintro i σ H' _ ⟨ss, w1, w2, w3, rfl, sm, _⟩
    exact SqL.of (sm _ _ pl)
  · rintro i v σ H' hv ⟨ss, w1, w2, w3, rfl, sm, es, sl, ed⟩
    rw [List.getElem?_map] at hv
    obtain ⟨r, hr, rfl⟩ := Option.map_eq_some_iff.mp hv
    have hi := (List.getElem?_eq_some_iff.mp hr).1
    have hm := List.mem_of_getElem? hr
    have dr : rs.drop i = r :: rs.drop (i + 1) := by rw [List.drop_eq_getElem_cons hi, (List.getElem?_eq_some_iff.mp hr).2]
    rw [dr, List.map_cons] at ed
    unfold dueL at ed
    have hrow := sm _ _ (wa.row _ hm)
    walk_at "go"
    refine i_2 (fun c => ?_) (fun c => ?_)
    · rw [if_pos c] at ed
      rw [ed] at q
      walk_at "go"
      exact q _ sm
    rw [if_neg c] at ed
    walk_at "go"
    refine r_inSs (SqL.of es) ?_
    by_cases c2 : r.2.w ∈ ss
    · rw [decide_eq_true c2]
      rw [if_pos (.inl c2)] at ed
      rw [ed] at q
      walk_at "go"
      exact q _ sm
    rw [decide_eq_false c2]
    walk_at "go"
    refine i_2 (fun c3 => ?_) (fun c3 => ?_)
    · rw [if_pos (.inr c3)] at ed
      rw [ed] at q
      walk_at "go"
      exact q _ sm
    rw [if_neg fun h => h.elim c2 c3] at ed
    have szs : (ss.map V.str).length < sizeLine := by rw [List.length_map]; show _ < 16777216; omega
    walk_at "go"
    exact ⟨ss ++ [r.2.w], _, _, _, rfl, same_put sm hsn0, by rw [upd_same, List.map_append]; rfl, by rw [List.length_append]; simp; omega, ed⟩
  · rintro σ H' ⟨ss, w1, w2, w3, rfl, sm, es, sl, ed⟩
    rw [List.length_map, List.drop_length] at ed
    rw [ed] at q
    walk_at "go"
    exact q _ sm
def Fnd (H : Hp) (Q : VK) : Res → Prop
  | .ok f => ∀ p l k' H', Same H H' → H p = none → H' p = some (.tup [.str (Str.ofString ""), .ref l]) → H l = none → H' l = some (.dK k') → AD k' f → Q (.ref p) H'
  | R => ∀ p H', Same H H' → H p = none → H' p = some (.tup [.str (resS R), .non]) → Q (.ref p) H'
def sp_read (K : PySem.W.Frag) (d : Ad) : Sp := fun vs H Q _ => ∃ (x : V) (b : Addr) (kb : List (Key × V)) (g : Str → Option Int), vs = [x, .ref b] ∧ H b = some (.dK kb) ∧ AD kb g ∧ (∀ z n, g z = some n → 1 ≤ n ∧ n ≤ 1000) ∧ ((∃ z : Str, x = .str z ∧ z.length ≤ 100000 ∧ Fnd H Q (rdA g z)) ∨ NoTx K H x ∧ Fnd H Q .text)
theorem ok_read {P : Program} {w : World} {K : PySem.W.Frag} {mg : Str → Option Value} {base : Heap} {d : Ad} (T : Tx K mg d) : FnOk P w K mg base CX0 9 d.f_read d.fd_read ["_law_text", "_law_grains"] (sp_read K d) := by
  refine T.F_read.ok sc_read (fun vs H Q E h => ?_) (fun cdv A outer s H vs Q E hr h => ?_)
  · obtain ⟨x, b, kb, g, rfl, _⟩ := h; rfl
  obtain ⟨x, b, kb, g, rfl, hb, hB, gb, h⟩ := h
  refine ⟨_, (pss_cons (ps_set (i := 2) sc_read.nd rfl (Or.inl rfl) pe_str)
    (pss_cons (ps_set (i := 3) sc_read.nd rfl (Or.inl rfl) pe_non)
    (pss_cons (My.ps_try rfl rfl (fun _ _ => (pss_one (ps_set (i := 3) sc_read.nd rfl (Or.inl rfl) (My.pe_callX ((ok_read_amounts T).mono (by decide)) hr rfl T.m_read_amounts T.F_read_amounts.kp T.b_read_amounts .nil My.xes_xw (pa_cons (pv 0) (pa_cons (pv 1) pa_nil))))))
    (My.ph_own T.B_NoWare rfl T.m_NoWare (fun _ => (pss_one (ps_set (i := 2) sc_read.nd rfl (Or.inl rfl) pe_str)))
    (My.ph_own T.B_NoText rfl T.m_NoText (fun _ => (pss_one (ps_set (i := 2) sc_read.nd rfl (Or.inl rfl) pe_str)))
    My.ph_none)) pss_nil)
    (pss_one (ps_ret (pe_tup (pa_cons (pv 2) (pa_cons (pv 3) pa_nil)))))))), ?_⟩
  try dsimp only [L2.cxOf, L2.Cx.nox, L2.Cx.wish, My.xw, My.pnd, My.suite]
  refine r_start (σ := [some (x), some (.ref b), none, none]) rfl ?_
  walk_at "go"
  refine ⟨x, b, kb, g, rfl, hb, hB, gb, ?_⟩
  rcases h with ⟨z, rfl, hz, q⟩ | ⟨nt, q⟩
  · refine .inl ⟨z, rfl, hz, ?_⟩
    generalize rdA g z = R at q ⊢
    cases R with
    | ware =>
      intro H1 s1
      refine r_cl T.kcW (iteT ?_)
      intro ae hae
      walk_at "go"
      rename_i p1 hp1
      exact q p1 _ (same_upd s1 hp1) (s1.free hp1) upd_same
    | text =>
      intro H1 s1
      refine r_cl T.kcX (iteF ?_)
      refine r_cl T.kcT (iteT ?_)
      intro ae hae
      walk_at "go"
      rename_i p1 hp1
      exact q p1 _ (same_upd s1 hp1) (s1.free hp1) upd_same
    | ok f =>
      intro l k' H1 s1 hl el hA
      walk_at "go"
      rename_i p1 hp1
      exact q p1 l k' _ (same_upd s1 hp1) (s1.free hp1) upd_same hl (look_new el hp1) hA
  · refine .inr ⟨nt, fun H1 s1 => ?_⟩
    refine r_cl T.kcX (iteF ?_)
    refine r_cl T.kcT (iteT ?_)
    intro ae hae
    walk_at "go"
    rename_i p1 hp1
    exact q p1 _ (same_upd s1 hp1) (s1.free hp1) upd_same
def sp_alike (K : PySem.W.Frag) (d : Ad) : Sp := fun vs H Q _ => ∃ (a b : Addr) (ka kb : List (Key × V)) (f : Str → Option Int), vs = [.ref a, .ref b] ∧ a ≠ b ∧ H a = some (.dK ka) ∧ Rd H b (.dK kb) ∧ AD ka f ∧ AD kb f ∧ ∀ H', Same H H' → Q (.bl true) H'
theorem ok_alike {P : Program} {w : World} {K : PySem.W.Frag} {mg : Str → Option Value} {base : Heap} {d : Ad} (T : Tx K mg d) : FnOk P w K mg base CX0 2 d.f_alike d.fd_alike ["_law_found", "_law_due_here"] (sp_alike K d) := by
  refine T.F_alike.ok sc_alike (fun vs H Q E h => ?_) (fun cdv A outer s H vs Q E hr h => ?_)
  · obtain ⟨a, b, ka, kb, f, rfl, _⟩ := h; rfl
  obtain ⟨a, b, ka, kb, f, rfl, ne, ha, hRb, hA, hB, q⟩ := h
  refine ⟨_, (pss_cons (ps_if (PW.pt (pw_or (pt_not (pt_val (pe_callB My.call_isi2 rfl T.z_isinstance PyProof.Rows.boot_isinstance (pa_cons (pv 0) (pa_cons (pe_bltn (v := .ty "dict") rfl T.z_dict PyProof.Rows.boot_dict rfl) pa_nil))))) (pw_or1 (pt_cmpR (My.op_neD (My.hu8 hr)) (pv 0) (pv 1) (nomark _))))) (pss_one (ps_ret pe_bl)) pss_nil)
    (pss_cons (My.ps_thA (ps_for PassesOwn.never rfl (My.pi_dict (pv 0)) (pg_name (i := 2) sc_alike.nd rfl (Or.inl rfl)) (pss_one (ps_if (pt_not (pt_val (pe_call ((ok_whole T).mono (by decide)) hr rfl T.m_whole T.F_whole.kp T.b_whole .nil pass0 (pa_cons (pe_dget (hu_of hr) (pv 0) (pv 2) (fun _ _ => rfl)) pa_nil)))) (pss_one (ps_ret pe_bl)) pss_nil))))
    (pss_one (ps_ret pe_bl)))), ?_⟩
  try dsimp only [L2.cxOf, L2.Cx.nox, L2.Cx.wish, My.xw, My.pnd, My.suite]
  refine r_start (σ := [some (.ref a), some (.ref b), none]) rfl ?_
  walk_at "go"
  have de := DEq.dd (K := K) (n := 0) (.inl ha) hRb ne hA.flat hB.flat
  rw [hA.eq hB] at de
  refine r_neD ne (by decide) de ?_
  walk_at "go"
  refine r_itD ha fun o => ?_
  refine f_dict (fun i σ H' => H' = upd H a (.frz o (.dK ka)) ∧ ∃ w, σ = [some (.ref a), some (.ref b), w]) ⟨rfl, _, rfl⟩ ?_ ?_ ?_
  · rintro i σ H' _ ⟨rfl, _⟩; exact upd_same
  · rintro i k v σ H' hk ⟨rfl, w, rfl⟩
    obtain ⟨z, n, rfl, rfl, hf, hzi⟩ := hA.at hk
    have hRd : Rd (upd H a (.frz o (.dK ka))) a (.dK ka) := .inr ⟨o, upd_same⟩
    show gName _ (.str z) _ _ _
    walk_at "go"
    refine ⟨n, rfl, ?_⟩
    walk_at "go"
    exact ⟨rfl, _, rfl⟩
  · rintro σ H' ⟨rfl, w, rfl⟩
    refine r_thNx (thaw1 upd_same (noFrz_dK ha)) ?_
    walk_at "go"
    exact q _ (same_thaw ha (sb_frz ha))
theorem rd_empty (g : Str → Option Int) : rdA g (Str.ofString "") = .text := by
  have e : prs (Str.ofString "") = none := by
    unfold prs
    rw [if_neg fun h => absurd (congrArg Str.length h) (by decide)]
    have e2 : Txt.split (Str.ofString "") spcS = [Str.ofString ""] := split_no (l := []) (c := 32) (by decide)
    rw [e2, if_neg fun h => absurd (h _ (List.mem_singleton.mpr rfl)) (by decide)]
  unfold rdA
  rw [e]
theorem deq_tup {K : PySem.W.Frag} {H : Hp} {n : Nat} {a b : Addr} {xs ys : List V} (ha : SqT K H a xs) (hb : SqT K H b ys) (ne : a ≠ b) (h : DEqs K H n xs ys) : DEq K H (n + 1) (.ref a) (.ref b) true := by
  have z := DEq.ts (n := n) (e := fun _ => true) ha hb ne h.get
  have e : ((List.range (min xs.length ys.length)).all (fun _ => true) && xs.length == ys.length) = true := by rw [h.len]; simp
  rw [e] at z
  exact z
theorem deq_dd {K : PySem.W.Frag} {H : Hp} {n : Nat} {a b : Addr} {ka kb : List (Key × V)} {f : Str → Option Int} (ha : H a = some (.dK ka)) (hb : H b = some (.dK kb)) (ne : a ≠ b) (hA : AD ka f) (hB : AD kb f) : DEq K H (n + 1) (.ref a) (.ref b) true := by
  have de := DEq.dd (K := K) (n := n) (.inl ha) (.inl hb) ne hA.flat hB.flat
  rw [hA.eq hB] at de
  exact de
theorem txt_len {D : Dr} (ok : D.Ok) {rs : List W3} (hk : ∀ r ∈ rs, WK D r) (h : rs.length ≤ 8) : (txtW rs).length ≤ 100000 := by
  unfold txtW
  split
  · decide
  · rw [size_glued]
    have z1 := sum_len (l := rs.map (·.t)) (k := 6109) (fun y hy => by
      obtain ⟨r, hr, rfl⟩ := List.mem_map.mp hy
      exact (hk r hr).len ok)
    rw [List.length_map] at z1 ⊢
    rw [show (Str.ofString " ").length = 1 from rfl]
    omega
def sp_law0 (K : PySem.W.Frag) : Sp := fun vs H Q _ => ∃ (a : Addr) (ns : List Int), vs = [.ref a] ∧ SqL K H a (ns.map V.int) ∧ ns.length ≤ 63 ∧ ∀ H', Q (.bl true) H'
def sp_law (K : PySem.W.Frag) (d : Ad) : Sp := sp_law0 K
theorem nm_ws {ns : List Int} {n : Nat} (h : n ≤ 6) : ∀ z ∈ (List.range n).map (fun k : Nat => nmS ns (0 + (k : Int))), ∃ m : Int, 0 ≤ m ∧ m ≤ 5 ∧ z = nmS ns m := fun z hz => by
  obtain ⟨k, hk, rfl⟩ := List.mem_map.mp hz
  have := List.mem_range.mp hk
  exact ⟨0 + (k : Int), by omega, by omega, rfl⟩
theorem ok_law {P : Program} {w : World} {K : PySem.W.Frag} {mg : Str → Option Value} {base : Heap} {d : Ad} (T : Tx K mg d) : FnOk P w K mg base CX0 10 d.f_law d.fd_law ["_law_script"] (sp_law K d) := by
  refine T.F_law.ok sc_law (fun vs H Q E h => ?_) (fun cdv A outer s H vs Q E hr h => ?_)
  · obtain ⟨a, ns, rfl, _⟩ := h; rfl
  obtain ⟨a, ns, rfl, hS, h63, q⟩ := h
  refine ⟨_, (pss_cons (My.ps_comp (j := 1) (caps := [0]) (cn := ["_law_script"]) (My.caps_of rfl rfl (by rfl) (by rfl) rfl ⟨rfl, trivial⟩ (by rfl) rfl ⟨⟨rfl, rfl, rfl, rfl, _, rfl⟩, trivial⟩ (by decide)) rfl sc_law.nd rfl rfl (pi_range1 rfl T.z_range (pa_cons (pe_op op_add pe_int (pe_op op_mod (pe_call ((ok_cell T).mono (by decide)) hr rfl T.m_cell T.F_cell.kp T.b_cell .nil pass0 (pa_cons (pv 0) (pa_cons pe_int pa_nil))) pe_int)) pa_nil)) (fun _ _ _ _ => My.pf_nil) (fun _ _ _ _ => (pe_call ((ok_name T).mono (by decide)) hr rfl T.m_name T.F_name.kp T.b_name .nil pass0 (pa_cons (pv 1) (pa_cons (pv 0) pa_nil)))))
    (pss_cons (ps_set (i := 2) sc_law.nd rfl (Or.inr rfl) pe_dnewK)
    (pss_cons (ps_for PassesOwn.never rfl (pi_range1 rfl T.z_range (pa_cons (pe_callB My.call_lenN rfl T.z_len PySem.boot_len (pa_cons (pv 1) pa_nil)) pa_nil)) (pg_name (i := 3) sc_law.nd rfl (Or.inl rfl)) (pss_one (ps_dput (hu_of hr) (pv 2) (pe_ix ix_list (pv 1) (pv 3) (fun _ _ => rfl)) (pe_call ((ok_grain T).mono (by decide)) hr rfl T.m_grain T.F_grain.kp T.b_grain .nil pass0 (pa_cons (pe_call ((ok_cell T).mono (by decide)) hr rfl T.m_cell T.F_cell.kp T.b_cell .nil pass0 (pa_cons (pv 0) (pa_cons (pe_op op_add pe_int (pv 3)) pa_nil))) pa_nil)) rfl)))
    (pss_cons (ps_set (i := 4) sc_law.nd rfl (Or.inr rfl) (pe_call ((ok_amounts T).mono (by decide)) hr rfl T.m_amounts T.F_amounts.kp T.b_amounts .nil pass0 (pa_cons (pv 0) (pa_cons (pv 1) pa_nil))))
    (pss_cons (ps_set (i := 5) sc_law.nd rfl (Or.inl rfl) (pe_bm PySem.F.plainAttrs_str PySem.F.slot_str_join PySem.F.type_str_join My.mt_joinG pe_str (pa_cons (My.pe_comp (caps := [2, 4]) (cn := ["_law_grains", "_law_some"]) (My.caps_of rfl rfl (by rfl) (by rfl) rfl ⟨rfl, ⟨rfl, trivial⟩⟩ (by rfl) rfl ⟨⟨rfl, rfl, rfl, rfl, _, rfl⟩, ⟨⟨rfl, rfl, rfl, rfl, _, rfl⟩, trivial⟩⟩ (by decide)) rfl (pi_list (pe_callB (My.call_sortD rfl) rfl T.z_sorted PyProof.Rows.boot_sorted (pa_cons (pv 4) pa_nil))) (fun _ _ _ _ => My.pf_nil) (fun _ _ _ _ => (pe_op My.op_catS (pe_op My.op_catS (pv 0) pe_str) (pe_call ((ok_shown T).mono (by decide)) hr rfl T.m_shown T.F_shown.kp T.b_shown .nil pass0 (pa_cons (pe_dget (hu_of hr) (pv 2) (pv 0) (fun _ _ => rfl)) (pa_cons (pe_dget (hu_of hr) (pv 1) (pv 0) (fun _ _ => rfl)) pa_nil)))))) pa_nil)))
    (pss_cons (My.ps_cut (ps_if (pt_cmpR (My.op_eqD (My.hu8 hr)) (pv 4) pe_dnewK (nomark _)) (pss_one (ps_set (i := 5) sc_law.nd rfl (Or.inl rfl) pe_str)) pss_nil))
    (pss_cons (ps_set (i := 6) sc_law.nd rfl (Or.inl rfl) (pe_lst (pa_cons (pe_callTy My.call_dictR rfl T.z_dict PyProof.Rows.boot_dict (pa_cons (pv 4) pa_nil)) (pa_cons (pe_callTy My.call_dictR rfl T.z_dict PyProof.Rows.boot_dict (pa_cons (pv 2) pa_nil)) pa_nil))))
    (pss_cons (ps_set (i := 7) sc_law.nd rfl (Or.inl rfl) (pe_call ((ok_show_amounts T).mono (by decide)) hr rfl T.m_show_amounts T.F_show_amounts.kp T.b_show_amounts .nil pass0 (pa_cons (pe_ix ix_list (pv 6) pe_int (fun _ _ => rfl)) (pa_cons (pe_ix ix_list (pv 6) pe_int (fun _ _ => rfl)) pa_nil))))
    (pss_cons (ps_if (PW.pt (pw_or (pt_not (pt_val (pe_callB My.call_isi2 rfl T.z_isinstance PyProof.Rows.boot_isinstance (pa_cons (pv 7) (pa_cons (pe_bltn (v := .ty "str") rfl T.z_str PyProof.Rows.boot_str rfl) pa_nil))))) (pw_or (pt_cmpR op_ne (pv 7) (pv 5) (nomark _)) (pw_or1 (pt_cmpR (My.op_neD (My.hu8 hr)) (pv 6) (pe_lst (pa_cons (pv 4) (pa_cons (pv 2) pa_nil))) (nomark _)))))) (pss_one (ps_ret pe_bl)) pss_nil)
    (pss_cons (ps_set (i := 8) sc_law.nd rfl (Or.inl rfl) (pe_call ((ok_words T).mono (by decide)) hr rfl T.m_words T.F_words.kp T.b_words .nil pass0 (pa_cons (pv 0) (pa_cons (pv 1) (pa_cons (pv 2) (pa_cons (pv 4) pa_nil))))))
    (pss_cons (ps_set (i := 8) sc_law.nd rfl (Or.inl rfl) (pe_call ((ok_fault T).mono (by decide)) hr rfl T.m_fault T.F_fault.kp T.b_fault .nil pass0 (pa_cons (pv 0) (pa_cons (pe_call ((ok_fault T).mono (by decide)) hr rfl T.m_fault T.F_fault.kp T.b_fault .nil pass0 (pa_cons (pv 0) (pa_cons (pv 8) (pa_cons (pe_call ((ok_cell T).mono (by decide)) hr rfl T.m_cell T.F_cell.kp T.b_cell .nil pass0 (pa_cons (pv 0) (pa_cons pe_int pa_nil))) pa_nil)))) (pa_cons (pe_call ((ok_cell T).mono (by decide)) hr rfl T.m_cell T.F_cell.kp T.b_cell .nil pass0 (pa_cons (pv 0) (pa_cons pe_int pa_nil))) pa_nil)))))
    (pss_cons (ps_set (i := 9) sc_law.nd rfl (Or.inl rfl) (pe_bm PySem.F.plainAttrs_str PySem.F.slot_str_join PySem.F.type_str_join My.mt_joinG pe_str (pa_cons (My.pe_comp (caps := []) (cn := []) (My.caps_of rfl rfl (by rfl) (by rfl) rfl trivial (by rfl) rfl trivial (by decide)) rfl (pi_list (pv 8)) (fun _ _ _ _ => My.pf_nil) (fun _ _ _ _ => (pe_ix ix_tup (pv 0) pe_int (fun _ _ => rfl)))) pa_nil)))
    (pss_cons (My.ps_cut (ps_if (pt_cmpR (My.op_eqD (My.hu8 hr)) (pv 8) (pe_lst pa_nil) (nomark _)) (pss_one (ps_set (i := 9) sc_law.nd rfl (Or.inl rfl) pe_str)) pss_nil))
    (pss_cons (ps_asg (pe_call ((ok_read T).mono (by decide)) hr rfl T.m_read T.F_read.kp T.b_read .nil pass0 (pa_cons (pv 9) (pa_cons (pe_ix ix_list (pv 6) pe_int (fun _ _ => rfl)) pa_nil))) (pg_tup rfl (pgs_cons (pg_name (i := 10) sc_law.nd rfl (Or.inl rfl)) (pgs_cons (pg_name (i := 11) sc_law.nd rfl (Or.inl rfl)) pgs_nil))))
    (pss_cons (ps_if (PW.pt (pw_or (pt_cmpR op_ne (pv 10) (pe_call ((ok_due T).mono (by decide)) hr rfl T.m_due T.F_due.kp T.b_due .nil pass0 (pa_cons (pv 8) pa_nil)) (nomark _)) (pw_or (pt_cmpR (My.op_neD (My.hu8 hr)) (pe_ix ix_list (pv 6) pe_int (fun _ _ => rfl)) (pv 2) (nomark _)) (pw_or1 (PW.pt (pw_and (pt_cmpR op_eq (pv 10) pe_str (nomark _)) (pw_and1 (pt_not (pt_val (pe_call ((ok_alike T).mono (by decide)) hr rfl T.m_alike T.F_alike.kp T.b_alike .nil pass0 (pa_cons (pv 11) (pa_cons (pv 4) pa_nil)))))))))))) (pss_one (ps_ret pe_bl)) pss_nil)
    (pss_cons (ps_for PassesOwn.never rfl (pi_list (pe_lst (pa_cons pe_non (pa_cons pe_int (pa_cons pe_bl (pa_cons (pe_lst (pa_cons pe_str pa_nil)) (pa_cons (pe_tup (pa_cons pe_str pa_nil)) (pa_cons pe_dnewK pa_nil)))))))) (pg_name (i := 12) sc_law.nd rfl (Or.inl rfl)) (pss_one (ps_if (pt_cmpR (My.op_neD (My.hu8 hr)) (pe_call ((ok_read T).mono (by decide)) hr rfl T.m_read T.F_read.kp T.b_read .nil pass0 (pa_cons (pv 12) (pa_cons (pe_ix ix_list (pv 6) pe_int (fun _ _ => rfl)) pa_nil))) (pe_tup (pa_cons pe_str (pa_cons pe_non pa_nil))) (nomark _)) (pss_one (ps_ret pe_bl)) pss_nil)))
    (pss_one (ps_ret (pe_cmpR (My.op_eqD (My.hu8 hr)) (pe_call ((ok_read T).mono (by decide)) hr rfl T.m_read T.F_read.kp T.b_read .nil pass0 (pa_cons pe_str (pa_cons (pe_ix ix_list (pv 6) pe_int (fun _ _ => rfl)) pa_nil))) (pe_tup (pa_cons pe_str (pa_cons pe_non pa_nil))) (nomark _)))))))))))))))))))), ?_⟩
  try dsimp only [L2.cxOf, L2.Cx.nox, L2.Cx.wish, My.xw, My.pnd, My.suite]
  try dsimp only [My.cxC]
  refine r_start (σ := [some (.ref a), none, none, none, none, none, none, none, none, none, none, none, none]) rfl ?_
  walk_at "go"
  refine ⟨a, ns, 2, rfl, hS, by decide, by decide, h63, fun H1 s1 => ?_⟩
  have hS1 := s1.seq hS
  have c0 := Int.emod_nonneg (cellE ns 2) (show (6 : Int) ≠ 0 by decide)
  have c1 := Int.emod_lt_of_pos (cellE ns 2) (show (0 : Int) < 6 by decide)
  walk_at "go"
  obtain ⟨n, hn⟩ : ∃ n : Nat, (1 + cellE ns 2 % 6).toNat = n := ⟨_, rfl⟩
  have n1 : 1 ≤ n := by omega
  have n6 : n ≤ 6 := by omega
  rw [hn]
  clear hn c0 c1
  intro C s0 H0 fp acc hacc
  refine c_by n (fun i H' => Same H1 H' ∧ H' acc = some (.lst (((List.range i).map fun k : Nat => nmS ns (0 + (k : Int))).map V.str))) ⟨same_new hacc _, upd_same⟩ ?_ ?_ ?_ ?_
  · rintro i H' hi _
    exact hi
  · rintro H' _
    exact Nat.le_refl _
  · rintro i H' v H'' hi ⟨sm, ea⟩ ⟨rfl, rfl⟩
    have hS2 := sm.seq hS1
    walk_at "go"
    refine ⟨a, ns, _, rfl, hS2, h63, by omega, by omega, fun H2 s2 => ?_⟩
    walk_at "go"
    refine ⟨_, s2 _ _ ea, by rw [List.length_map, List.length_map, List.length_range]; show _ < 16777216; omega, same_put (sm.trans s2) hacc, ?_⟩
    rw [upd_same, List.range_succ, List.map_append, List.map_append]; rfl
  rintro H2 ⟨sm, ea⟩
  have s2 := s1.trans sm
  have hS2 := s2.seq hS
  have hwn := nm_ws (ns := ns) n6
  have hwl : ((List.range n).map fun k : Nat => nmS ns (0 + (k : Int))).length = n := by rw [List.length_map, List.length_range]
  have hnd : ((List.range n).map fun k : Nat => nmS ns (0 + (k : Int))).Nodup := by
    show List.Pairwise _ _
    rw [List.pairwise_map]
    refine List.Pairwise.imp_of_mem (R := fun a b => a < b) (fun {x y} hx hy lt e => ?_) List.pairwise_lt_range
    have h1 := List.mem_range.mp hx
    have h2 := List.mem_range.mp hy
    have := nmL_inj ⟨by omega, by omega⟩ ⟨by omega, by omega⟩ (ofC_inj e)
    omega
  generalize (List.range n).map (fun k : Nat => nmS ns (0 + (k : Int))) = ws at *
  subst hwl
  clear s1 hS1 hacc sm
  have hW := SqL.of (K := K) ea
  have l6 : (ws.map V.str).length ≤ 6 := by rw [List.length_map]; exact n6
  walk_at "go"
  rename_i gd hgd
  have hgd0 := s2.free hgd
  simp only [List.length_map, Int.toNat_natCast]
  refine f_range (fun i σ H' => ∃ (kg : List (Key × V)) (g : Str → Option Int) (w1 : Option V), σ = [some (V.ref a), some (V.ref acc), some (V.ref gd), w1, none, none, none, none, none, none, none, none, none] ∧ Same H2 H' ∧ H' gd = some (.dK kg) ∧ AD kg g ∧ kg.length ≤ i ∧ (∀ z, g z ≠ none ↔ z ∈ ws.take i) ∧ ∀ z n, g z = some n → 1 ≤ n ∧ n ≤ 1000)
    ⟨[], noF, _, rfl, same_new hgd _, upd_same, AD.nil, Nat.le_refl _, fun z => by simp [noF], fun z n e => by cases e⟩ ?_ ?_
  · rintro i σ H' hi ⟨kg, g, w1, rfl, sm, eg, hA, kl, gi, gb⟩
    have hS3 := sm.seq hS2
    walk_at "go"
    refine ⟨a, ns, _, rfl, hS3, by omega, by omega, h63, fun H3 s3 => ?_⟩
    walk_at "go"
    refine ⟨_, rfl, fun gr H4 s4 g0 g1 => ?_⟩
    have sm4 := (sm.trans s3).trans s4
    have eg4 := s4 _ _ (s3 _ _ eg)
    have hW4 := sm4.seq hW
    have ksz : kg.length < sizeLine := by show _ < 16777216; omega
    walk_at "go"
    refine r_ixL hW4 (at_ws hi (by omega)) ?_
    walk_at "go"
    have tk : ws.take (i + 1) = ws.take i ++ [ws[i]] := by rw [List.take_add_one, List.getElem?_eq_getElem hi]; rfl
    refine ⟨_, _, _, rfl, same_put sm4 hgd, upd_same, hA.put _ _, ?_, fun z => ?_, fun z m e => ?_⟩
    · have := length_putK kg (Sum.inr ws[i]) (.int gr); omega
    · rw [tk, List.mem_append, List.mem_singleton]
      unfold putF'
      by_cases e : z = ws[i]
      · rw [if_pos e]
        exact ⟨fun _ => .inr e, fun _ => by simp⟩
      · rw [if_neg e, gi]
        exact ⟨.inl, fun h => h.resolve_right e⟩
    · unfold putF' at e
      split at e
      · cases e; exact ⟨g0, g1⟩
      · exact gb z m e
  rintro σ H3 ⟨kg, g, w1, rfl, sm, eg, hAg, kl, gi, gb⟩
  rw [List.take_length] at gi
  have s3 := s2.trans sm
  have hS3 := s3.seq hS
  have hW3 := sm.seq hW
  have ng0 : H gd = none := hgd0
  clear hgd sm s2 hS2 hW ea
  walk_at "go"
  refine ⟨a, acc, ns, ws, rfl, hS3, h63, hW3, n6, fun sd ks f H4 s4 hsd es hAs fb => ?_⟩
  have DO : Dr.Ok ⟨ns, ws, g, f⟩ := ⟨hwn, gi, gb, fb⟩
  have hD : DrAt K H4 ⟨ns, ws, g, f⟩ a acc gd sd kg ks := ⟨DO, h63, n6, n1, s4.seq hS3, s4.seq hW3, s4 _ _ eg, es, hAg, hAs⟩
  have gs : gd ≠ sd := fun e => by subst e; rw [eg] at hsd; cases hsd
  clear hsd s4 s3 eg hS3 hW3 gi gb fb hwn hnd es ng0 hgd0
  have s2w : Sh2 ws f g := ⟨n6, fun z hz => DO.len hz, fun z hz => by
      cases e : f z with
      | none => exact absurd e hz
      | some m => exact (DO.sb z m e).2.2, fun z m e => ⟨(DO.sb z m e).1, (DO.sb z m e).2.1⟩, fun z hz => by
      cases e : g z with
      | none => exact absurd e ((DO.gw z).mpr hz)
      | some m => exact ⟨m, rfl, (DO.gb z m e).1, (DO.gb z m e).2⟩⟩
  have ek := hAs.klen
  have kl6 : ks.length ≤ 6 := Nat.le_trans (hAs.le s2w.fw) n6
  walk_at "go"
  refine r_sortD (.inl hD.s) hAs.keys (by omega) fun l ss hl hp2 hs => ?_
  have sH5 := same_new hl (.lst (ss.map V.str))
  have e2 : upd H4 l (.lst (ss.map V.str)) l = some (.lst (ss.map V.str)) := upd_same
  have hD5 := hD.same sH5
  generalize upd H4 l (.lst (ss.map V.str)) = H5 at *
  have sl : ss.length ≤ 6 := by rw [hp2.length_eq]; omega
  have sf : ∀ z ∈ ss, f z ≠ none := fun z hz => (hAs.kin z).mp (hp2.mem_iff.mp hz)
  clear hD hl sH5
  walk_at "go"
  intro C s0 H0 fp acc2 hacc
  refine c_by ss.length (fun i H' => Same H5 H' ∧ H' acc2 = some (.lst (((ss.take i).map (rowS f g)).map V.str))) ⟨same_new hacc _, upd_same⟩ ?_ ?_ ?_ ?_
  · rintro i H' hi ⟨sm, _⟩
    exact ⟨_, .str ss[i], SqL.of (sm _ _ e2), by rw [List.getElem?_map, List.getElem?_eq_getElem hi]; rfl⟩
  · rintro H' ⟨sm, _⟩
    exact ⟨_, SqL.of (sm _ _ e2), by rw [List.length_map]; exact Nat.le_refl _⟩
  · rintro i H' v H'' hi ⟨sm, ea⟩ ⟨rfl, hv⟩
    have hv := hv _ (SqL.of (sm _ _ e2))
    rw [List.getElem?_map, List.getElem?_eq_getElem hi] at hv
    cases hv
    have tk : ss.take (i + 1) = ss.take i ++ [ss[i]] := by rw [List.take_add_one, List.getElem?_eq_getElem hi]; rfl
    obtain ⟨m, gr, fz, gz, m0, m1, g0, g1, zl⟩ := s2w.row (sf _ (List.getElem_mem hi))
    have er : rowS f g ss[i] = ss[i] ++ Str.ofString ":" ++ SH m gr := by unfold rowS; rw [fz, gz]; rfl
    have tl : (ss.take i).length ≤ 6 := by rw [List.length_take]; omega
    generalize ss.take i = tk0 at *
    generalize ss[i] = z at *
    have hRa : Rd H'' sd (.dK ks) := .inl (sm _ _ hD5.s)
    have hRb : Rd H'' gd (.dK kg) := .inl (sm _ _ hD5.g)
    have e1 : (Str.ofString ":").length = 1 := rfl
    have sl2 := SH_len2 (t := m) (b := gr) (by omega) m1 (by omega) g1
    walk_at "go"
    refine ⟨m, gr, rfl, by omega, by omega, by omega, by omega, ?_⟩
    walk_at "go"
    refine r_catS (by simp only [app_len]; show _ ≤ 16777216; omega) ?_
    walk_at "go"
    refine ⟨same_put sm hacc, ?_⟩
    rw [upd_same, tk, List.map_append, List.map_append, List.map_singleton, List.map_singleton, er]
  rintro H6 ⟨sm, ea⟩
  rw [List.take_length] at ea
  have hD6 := hD5.same sm
  clear hD5 sm hacc e2
  walk_at "go"
  refine r_joinG (ss := ss.map (rowS f g)) (SqL.of ea) (by decide) ?_ (by rw [List.length_map]; omega) ?_
  · have z1 := sum_len (l := ss.map (rowS f g)) (k := 6109) (fun y hy => by
      obtain ⟨z, hz, rfl⟩ := List.mem_map.mp hy
      exact s2w.rowlen (sf z hz))
    rw [List.length_map] at z1
    omega
  walk_at "go"
  refine r_cut (fun σ H' => Same H6 H' ∧ ∃ w1 : Option V, σ = [some (V.ref a), some (V.ref acc), some (V.ref gd), w1, some (V.ref sd), some (V.str (shAll f g ss)), none, none, none, none, none, none, none]) ?_ ?_
  · walk_at "go"
    rename_i p hp
    have ha := hD6.s
    have nap : sd ≠ p := ne_of_none ha hp
    have de := DEq.dd (K := K) (n := 0) (.inl (look_new (o' := .dK []) ha hp)) (.inl (upd_same (H := H6) (a := p) (o := .dK []))) nap hAs.flat AD.nil.flat
    refine r_eqD nap (by decide) de ?_
    have s7 := same_new hp (.dK [])
    generalize upd H6 p (.dK []) = H7 at *
    clear de
    unfold shAll
    cases hka : ks with
    | nil =>
      have s0 : ss = [] := by rw [hka] at hp2; exact List.Perm.eq_nil hp2
      rw [if_pos s0]
      walk_at "go"
      exact ⟨s7, _, rfl⟩
    | cons k0 kr =>
      have sn : ss ≠ [] := fun e => by
        have := hp2.length_eq
        rw [e, ek, hka] at this
        simp at this
      rw [if_neg sn]
      rw [show (((k0 :: kr).length == ([] : List (Key × V)).length) && (k0 :: kr).all fun p => (valV ([] : List (Key × V)) p.1).elim false (eqV p.2)) = false from rfl]
      walk_at "go"
      exact ⟨s7, _, rfl⟩
  rintro σ H7 ⟨s7, w1, rfl⟩
  have hD7 := hD6.same s7
  clear hD6 s7 ea
  have hs7 := hD7.s
  have hg7 := hD7.g
  have l2 : (2 : Nat) ≤ 6 := by decide
  walk_at "go"
  rename_i d1 h1 d2 h2 hh h3
  have x1 := look_new (o' := .lst [V.ref d1, V.ref d2]) (look_new (o' := .dK kg) (upd_same (H := H7) (a := d1) (o := .dK ks)) h2) h3
  have x2 := look_new (o' := .lst [V.ref d1, V.ref d2]) (upd_same (H := upd H7 d1 (.dK ks)) (a := d2) (o := .dK kg)) h3
  have x3 : upd (upd (upd H7 d1 (.dK ks)) d2 (.dK kg)) hh (.lst [V.ref d1, V.ref d2]) hh = some (.lst [V.ref d1, V.ref d2]) := upd_same
  have s8 := same_upd (o := .lst [V.ref d1, V.ref d2]) (same_upd (o := .dK kg) (same_new h1 (.dK ks)) h2) h3
  have nd1 : d1 ≠ sd := (ne_of_none hs7 h1).symm
  have nd2 : d2 ≠ gd := (ne_of_none (look_new hg7 h1) h2).symm
  have hD8 := hD7.same s8
  generalize upd (upd (upd H7 d1 (.dK ks)) d2 (.dK kg)) hh (.lst [V.ref d1, V.ref d2]) = H8 at *
  clear h1 h2 h3 s8 hD7 hs7 hg7 l2
  refine ⟨d1, d2, ws, ks, kg, f, g, rfl, x1, x2, hAs, hAg, s2w, fun ss' H9 s9 hp9 hs9 => ?_⟩
  have ess : ss' = ss := sort_eq (hp9.trans hp2.symm) hs9 hs
  subst ess
  have hD9 := hD8.same s9
  have y1 := s9 _ _ x1
  have y2 := s9 _ _ x2
  have y3 := s9 _ _ x3
  clear s9 hp9 hs9 hp2 hs x1 x2 x3 hD8 sl sf ek kl6
  walk_at "go"
  rename_i p hp
  have nh : hh ≠ p := ne_of_none y3 hp
  refine r_neD (n := 2) nh (by decide) (deq_list (n := 1) (SqL.of (look_new y3 hp)) (SqL.of upd_same) nh ⟨deq_dd (n := 0) (look_new y1 hp) (look_new hD9.s hp) nd1 hAs hAs, deq_dd (n := 0) (look_new y2 hp) (look_new hD9.g hp) nd2 hAg hAg, trivial⟩) ?_
  have s10 := same_new hp (.lst [V.ref sd, V.ref gd])
  have hDa := hD9.same s10
  have z2 := s10 _ _ y2
  have z3 := s10 _ _ y3
  generalize upd H9 p (.lst [V.ref sd, V.ref gd]) = Ha at *
  clear hp nh s10 hD9 y1 y2 y3
  walk_at "go"
  refine ⟨a, acc, gd, sd, _, kg, ks, rfl, hDa, fun l rs Hb sb wa rl hk hc => ?_⟩
  have hDb := hDa.same sb
  have z2 := sb _ _ z2
  have z3 := sb _ _ z3
  clear hDa
  walk_at "go"
  refine ⟨a, ns, 4, rfl, hDb.a, by decide, by decide, h63, fun Hc sc => ?_⟩
  have hDc := hDb.same sc
  walk_at "go"
  refine ⟨a, l, ⟨ns, ws, g, f⟩, rs, _, rfl, DO, h63, hDc.a, wa.same sc, by omega, hk, hc, fun l' rs' Hd sd' wa' rl' hk' hc' => ?_⟩
  have hDd := hDc.same sd'
  have z2 := sd' _ _ (sc _ _ z2)
  have z3 := sd' _ _ (sc _ _ z3)
  clear hDb hDc wa hk hc sc sd' sb
  walk_at "go"
  refine ⟨a, ns, 5, rfl, hDd.a, by decide, by decide, h63, fun He se => ?_⟩
  have hDe := hDd.same se
  walk_at "go"
  refine ⟨a, l', ⟨ns, ws, g, f⟩, rs', _, rfl, DO, h63, hDe.a, wa'.same se, by omega, hk', hc', fun l2 rs2 Hf sf2 wa2 rl2 hk2 hc2 => ?_⟩
  have hDf := hDe.same sf2
  have z2 := sf2 _ _ (se _ _ z2)
  have z3 := sf2 _ _ (se _ _ z3)
  clear hDd hDe wa' hk' hc' se sf2
  have r8 : rs2.length ≤ 8 := by omega
  clear rl rl' rl2
  have pl := wa2.l
  walk_at "go"
  intro C2 s02 H02 fp2 acc3 hacc3
  refine c_by rs2.length (fun i H' => Same Hf H' ∧ H' acc3 = some (.lst (((rs2.take i).map (·.2.t)).map V.str))) ⟨same_new hacc3 _, upd_same⟩ ?_ ?_ ?_ ?_
  · rintro i H' hi ⟨sm, _⟩
    exact ⟨_, .ref rs2[i].1, SqL.of (sm _ _ pl), by rw [List.getElem?_map, List.getElem?_eq_getElem hi]; rfl⟩
  · rintro H' ⟨sm, _⟩
    exact ⟨_, SqL.of (sm _ _ pl), by rw [List.length_map]; exact Nat.le_refl _⟩
  · rintro i H' v H'' hi ⟨sm, ea⟩ ⟨rfl, hv⟩
    have hv := hv _ (SqL.of (sm _ _ pl))
    rw [List.getElem?_map, List.getElem?_eq_getElem hi] at hv
    cases hv
    have tk : rs2.take (i + 1) = rs2.take i ++ [rs2[i]] := by rw [List.take_add_one, List.getElem?_eq_getElem hi]; rfl
    have hrow := sm _ _ (wa2.row _ (List.getElem_mem hi))
    have tl : (((rs2.take i).map (·.2.t)).map V.str).length < sizeLine := by rw [List.length_map, List.length_map, List.length_take]; show _ < 16777216; omega
    generalize rs2.take i = tk0 at *
    generalize rs2[i] = r at *
    walk_at "go"
    refine ⟨same_put sm hacc3, ?_⟩
    rw [upd_same, tk, List.map_append, List.map_append]; rfl
  rintro Hg ⟨sg, eag⟩
  rw [List.take_length] at eag
  have hDg := hDf.same sg
  have waG := wa2.same sg
  have z2 := sg _ _ z2
  have z3 := sg _ _ z3
  have plg := sg _ _ pl
  clear hDf wa2 sg pl hacc3
  have hkW : ∀ r ∈ rs2.map (·.2), WK ⟨ns, ws, g, f⟩ r := fun r h => by
    obtain ⟨x, hx, rfl⟩ := List.mem_map.mp h
    exact hk2 x hx
  have tlen := txt_len DO hkW (by rw [List.length_map]; exact r8)
  obtain ⟨law1, law2⟩ := rd_law DO hkW hc2
  walk_at "go"
  refine r_joinG (ss := rs2.map (·.2.t)) (SqL.of eag) (by decide) ?_ (by rw [List.length_map]; omega) ?_
  · have z1 := sum_len (l := rs2.map (·.2.t)) (k := 6109) (fun y hy => by
      obtain ⟨r, hr, rfl⟩ := List.mem_map.mp hy
      exact (hk2 r hr).len DO)
    rw [List.length_map] at z1
    omega
  walk_at "go"
  refine r_cut (fun σ H' => Same Hg H' ∧ σ = [some (V.ref a), some (V.ref acc), some (V.ref gd), w1, some (V.ref sd), some (V.str (shAll f g ss')), some (V.ref hh), some (V.str (shAll f g ss')), some (V.ref l2), some (V.str (txtW (rs2.map (·.2)))), none, none, none]) ?_ ?_
  · have et : (rs2.map (·.2)).map (·.t) = rs2.map (·.2.t) := by rw [List.map_map]; rfl
    clear law1 law2 tlen
    walk_at "go"
    rename_i p hp
    have nap : l2 ≠ p := ne_of_none plg hp
    have s7 := same_new hp (.lst [])
    unfold txtW
    rw [et]
    by_cases h0 : rs2 = []
    · rw [if_pos (by rw [h0]; rfl)]
      refine r_eqD (n := 1) nap (by decide) (deq_list (n := 0) (SqL.of (look_new plg hp)) (SqL.of upd_same) nap (by rw [h0]; trivial)) ?_
      walk_at "go"
      exact ⟨s7, rfl⟩
    · rw [if_neg (by simpa using h0)]
      refine r_eqD (n := 1) nap (by decide) (DEq.lsN (n := 0) (SqL.of (look_new plg hp)) (SqL.of upd_same) nap (by rw [List.length_map]; intro h; exact h0 (List.eq_nil_of_length_eq_zero h))) ?_
      walk_at "go"
      exact ⟨s7, rfl⟩
  rintro σ Hh ⟨sh, rfl⟩
  have hDh := hDg.same sh
  have waH := waG.same sh
  have z2 := sh _ _ z2
  have z3 := sh _ _ z3
  clear hDg waG sh plg eag
  walk_at "go"
  refine ⟨_, d2, kg, g, rfl, z2, hAg, DO.gb, .inl ⟨_, rfl, tlen, ?_⟩⟩
  generalize rdA g (txtW (rs2.map (·.2))) = R at law1 law2 ⊢
  generalize txtW (rs2.map (·.2)) = tx at *
  cases R
  case' ware =>
    intro p1 Hi si n1' e1
    have hDi := hDh.same si
    have waI := waH.same si
    have z2 := si _ _ z2
    have z3 := si _ _ z3
    have law1 : Str.ofString "ware" = dueW (rs2.map (·.2)) := law1
    have e1 : Hi p1 = some (.tup [.str (Str.ofString "ware"), .non]) := e1
    walk_at "go"
    refine ⟨l2, rs2, rfl, waI, by omega, fun HX sj => ?_⟩
    rw [← law1]
    have y2 := sj _ _ z2
    have y3 := sj _ _ z3
    walk_at "go"
    refine r_neD (n := 1) nd2 (by decide) (deq_dd (n := 0) y2 (sj _ _ hDi.g) nd2 hAg hAg) ?_
    clear hDi waI z2 z3 law1 e1 si sj law2 hDh waH tlen
    walk_at "go"
  case' text =>
    intro p1 Hi si n1' e1
    have hDi := hDh.same si
    have waI := waH.same si
    have z2 := si _ _ z2
    have z3 := si _ _ z3
    have law1 : Str.ofString "text" = dueW (rs2.map (·.2)) := law1
    have e1 : Hi p1 = some (.tup [.str (Str.ofString "text"), .non]) := e1
    walk_at "go"
    refine ⟨l2, rs2, rfl, waI, by omega, fun HX sj => ?_⟩
    rw [← law1]
    have y2 := sj _ _ z2
    have y3 := sj _ _ z3
    walk_at "go"
    refine r_neD (n := 1) nd2 (by decide) (deq_dd (n := 0) y2 (sj _ _ hDi.g) nd2 hAg hAg) ?_
    clear hDi waI z2 z3 law1 e1 si sj law2 hDh waH tlen
    walk_at "go"
  case' ok f' =>
    intro p1 lf kf Hi si n1' e1 nlf elf hAf
    have hDi := hDh.same si
    have waI := waH.same si
    have z2 := si _ _ z2
    have z3 := si _ _ z3
    have law1 : Str.ofString "" = dueW (rs2.map (·.2)) := law1
    have nls : lf ≠ sd := (ne_of_none hDh.s nlf).symm
    walk_at "go"
    refine ⟨l2, rs2, rfl, waI, by omega, fun Hj sj => ?_⟩
    rw [← law1]
    have y2 := sj _ _ z2
    have y3 := sj _ _ z3
    walk_at "go"
    refine r_neD (n := 1) nd2 (by decide) (deq_dd (n := 0) y2 (sj _ _ hDi.g) nd2 hAg hAg) ?_
    walk_at "go"
    refine ⟨lf, sd, kf, ks, f, rfl, nls, sj _ _ elf, .inl (sj _ _ hDi.s), hAf.cast (law2 f' rfl), hAs, fun HX sk => ?_⟩
    have y2 := sk _ _ y2
    have y3 := sk _ _ y3
    clear hDi waI z2 z3 law1 e1 si sj law2 hDh waH tlen
    walk_at "go"
  all_goals
    rename_i q1 g1 q2 g2 q3 g3 q4 g4
    have i1 := look_new (o' := .lst [V.non, V.int 5, V.bl true, V.ref q1, V.ref q2, V.ref q3]) (look_new (o' := .dK []) (look_new (o' := .tup [V.str (Str.ofString "-")]) (upd_same (H := HX) (a := q1) (o := .lst [V.str (Str.ofString "-")])) g2) g3) g4
    have i2 := look_new (o' := .lst [V.non, V.int 5, V.bl true, V.ref q1, V.ref q2, V.ref q3]) (look_new (o' := .dK []) (upd_same (H := upd HX q1 (.lst [V.str (Str.ofString "-")])) (a := q2) (o := .tup [V.str (Str.ofString "-")])) g3) g4
    have i3 := look_new (o' := .lst [V.non, V.int 5, V.bl true, V.ref q1, V.ref q2, V.ref q3]) (upd_same (H := upd (upd HX q1 (.lst [V.str (Str.ofString "-")])) q2 (.tup [V.str (Str.ofString "-")])) (a := q3) (o := .dK [])) g4
    have i4 : upd (upd (upd (upd HX q1 (.lst [V.str (Str.ofString "-")])) q2 (.tup [V.str (Str.ofString "-")])) q3 (.dK [])) q4 (.lst [V.non, V.int 5, V.bl true, V.ref q1, V.ref q2, V.ref q3]) q4 = some (.lst [V.non, V.int 5, V.bl true, V.ref q1, V.ref q2, V.ref q3]) := upd_same
    have sY := same_upd (o := .lst [V.non, V.int 5, V.bl true, V.ref q1, V.ref q2, V.ref q3]) (same_upd (o := .dK []) (same_upd (o := .tup [V.str (Str.ofString "-")]) (same_new g1 (.lst [V.str (Str.ofString "-")])) g2) g3) g4
    generalize upd (upd (upd (upd HX q1 (.lst [V.str (Str.ofString "-")])) q2 (.tup [V.str (Str.ofString "-")])) q3 (.dK [])) q4 (.lst [V.non, V.int 5, V.bl true, V.ref q1, V.ref q2, V.ref q3]) = HY at *
    have y2 := sY _ _ y2
    have y3 := sY _ _ y3
    have nx : ∀ x ∈ [V.non, V.int 5, V.bl true, V.ref q1, V.ref q2, V.ref q3], NoTx K HY x := fun x hx => by
      simp only [List.mem_cons, List.not_mem_nil, or_false] at hx
      rcases hx with rfl | rfl | rfl | rfl | rfl | rfl
      · exact ⟨_, TyOf.non, My.kit_non_str⟩
      · exact ⟨_, TyOf.int _, My.kit_int_str⟩
      · exact ⟨_, TyOf.bl _, My.kit_bool_str⟩
      · exact ⟨_, TyOf.lst i1, My.kit_lst_str⟩
      · exact ⟨_, TyOf.tup i2, My.kit_tup_str⟩
      · exact ⟨_, TyOf.dK i3, My.kit_dct_str⟩
    clear i1 i2 i3 g1 g2 g3 g4 sY
    refine f_list (xs := [V.non, V.int 5, V.bl true, V.ref q1, V.ref q2, V.ref q3]) (fun i σ H' => Same HY H' ∧ ∃ (x3 x5 x7 x8 x9 x10 x11 w : Option V), σ = [some (V.ref a), some (V.ref acc), some (V.ref gd), x3, some (V.ref sd), x5, some (V.ref hh), x7, x8, x9, x10, x11, w]) ⟨Same.refl _, _, _, _, _, _, _, _, _, rfl⟩ ?_ ?_ ?_
    · rintro i σ H' _ ⟨sm, _⟩
      exact SqL.of (sm _ _ i4)
    · rintro i x σ H' hx ⟨sm, x3, x5, x7, x8, x9, x10, x11, w, rfl⟩
      have nt := notx_same (nx x (List.mem_of_getElem? hx)) sm
      have v2 := sm _ _ y2
      have v3 := sm _ _ y3
      walk_at "go"
      refine ⟨x, d2, kg, g, rfl, v2, hAg, DO.gb, .inr ⟨nt, fun p' H8 s8 f8 e8 => ?_⟩⟩
      have e8 : H8 p' = some (.tup [.str (Str.ofString "text"), .non]) := e8
      walk_at "go"
      rename_i p9 hp9
      have n9 : p' ≠ p9 := ne_of_none e8 hp9
      refine r_neD n9 (by decide) (deq_tup (n := 0) (SqT.of (look_new e8 hp9)) (SqT.of upd_same) n9 ⟨deq_str _, DEq.flat (x := .non) (y := .non) rfl rfl, trivial⟩) ?_
      walk_at "go"
      exact ⟨same_upd (sm.trans s8) hp9, _, _, _, _, _, _, _, _, rfl⟩
    · rintro σ H' ⟨sm, x3, x5, x7, x8, x9, x10, x11, w, rfl⟩
      have v2 := sm _ _ y2
      have v3 := sm _ _ y3
      walk_at "go"
      refine ⟨_, d2, kg, g, rfl, v2, hAg, DO.gb, .inl ⟨_, rfl, by decide, ?_⟩⟩
      rw [rd_empty]
      intro p' H8 s8 f8 e8
      have e8 : H8 p' = some (.tup [.str (Str.ofString "text"), .non]) := e8
      walk_at "go"
      rename_i p9 hp9
      have n9 : p' ≠ p9 := ne_of_none e8 hp9
      refine r_eqD n9 (by decide) (deq_tup (n := 0) (SqT.of (look_new e8 hp9)) (SqT.of upd_same) n9 ⟨deq_str _, DEq.flat (x := .non) (y := .non) rfl rfl, trivial⟩) ?_
      walk_at "go"
      exact q _
theorem txt_mk {K : PySem.W.Frag} {h : Heap} {mg : Str → Option Value} {fa : Addr} {f_z0 f_z1 f_z2 f_z3 f_z4 f_z5 f_z6 f_z7 f_z8 f_z9 f_z10 f_z11 f_z12 f_z13 f_z14 f_z15 f_z16 f_z17 f_z18 f_z19 f_z20 f_z21 f_z22 f_z23 f_z24 f_z25 f_z26 f_z27 f_z28 f_z29 f_law c_NoAmount c_NoText c_NoWare : Addr} (X : K.In h) (G : h.Ns mainGlobals mg) (hfa : mg "law" = some (.ref fa))
    {od_z0 an_z0 : Option Addr} {sl_z0 : Array (Option Value)} {oc_z0 kV_z0 dc_z0 pm_z0 cd_z0 ct_z0 : Value}
    (a_z0 : PySem.W.nsIn K mainGlobals "is_whole" = some (some (.ref f_z0))) (l_z0 : K.lookup f_z0 = some ⟨oc_z0, od_z0, .func (PySem.W.fnOf "is_whole" "is_whole" (defArgs s_is_whole) (defBody s_is_whole) (defScope s_is_whole) .none kV_z0 dc_z0 pm_z0 an_z0 cd_z0 ct_z0), sl_z0⟩) (c_z0 : PySem.W.codeIn K cd_z0 "is_whole" = true) (k_z0 : PySem.W.keepIn K (.ref f_z0) = true)
    {od_z1 an_z1 : Option Addr} {sl_z1 : Array (Option Value)} {oc_z1 kV_z1 dc_z1 pm_z1 cd_z1 ct_z1 : Value}
    (a_z1 : PySem.W.nsIn K mainGlobals "is_whole_from" = some (some (.ref f_z1))) (l_z1 : K.lookup f_z1 = some ⟨oc_z1, od_z1, .func (PySem.W.fnOf "is_whole_from" "is_whole_from" (defArgs s_is_whole_from) (defBody s_is_whole_from) (defScope s_is_whole_from) .none kV_z1 dc_z1 pm_z1 an_z1 cd_z1 ct_z1), sl_z1⟩) (c_z1 : PySem.W.codeIn K cd_z1 "is_whole_from" = true) (k_z1 : PySem.W.keepIn K (.ref f_z1) = true)
    {od_z2 an_z2 : Option Addr} {sl_z2 : Array (Option Value)} {oc_z2 kV_z2 dc_z2 pm_z2 cd_z2 ct_z2 : Value}
    (a_z2 : PySem.W.nsIn K mainGlobals "is_amount" = some (some (.ref f_z2))) (l_z2 : K.lookup f_z2 = some ⟨oc_z2, od_z2, .func (PySem.W.fnOf "is_amount" "is_amount" (defArgs s_is_amount) (defBody s_is_amount) (defScope s_is_amount) .none kV_z2 dc_z2 pm_z2 an_z2 cd_z2 ct_z2), sl_z2⟩) (c_z2 : PySem.W.codeIn K cd_z2 "is_amount" = true) (k_z2 : PySem.W.keepIn K (.ref f_z2) = true)
    {od_z3 an_z3 : Option Addr} {sl_z3 : Array (Option Value)} {oc_z3 kV_z3 dc_z3 pm_z3 cd_z3 ct_z3 : Value}
    (a_z3 : PySem.W.nsIn K mainGlobals "divisor" = some (some (.ref f_z3))) (l_z3 : K.lookup f_z3 = some ⟨oc_z3, od_z3, .func (PySem.W.fnOf "divisor" "divisor" (defArgs s_divisor) (defBody s_divisor) (defScope s_divisor) .none kV_z3 dc_z3 pm_z3 an_z3 cd_z3 ct_z3), sl_z3⟩) (c_z3 : PySem.W.codeIn K cd_z3 "divisor" = true) (k_z3 : PySem.W.keepIn K (.ref f_z3) = true)
    {od_z4 an_z4 : Option Addr} {sl_z4 : Array (Option Value)} {oc_z4 kV_z4 dc_z4 pm_z4 cd_z4 ct_z4 : Value}
    (a_z4 : PySem.W.nsIn K mainGlobals "fraction" = some (some (.ref f_z4))) (l_z4 : K.lookup f_z4 = some ⟨oc_z4, od_z4, .func (PySem.W.fnOf "fraction" "fraction" (defArgs s_fraction) (defBody s_fraction) (defScope s_fraction) .none kV_z4 dc_z4 pm_z4 an_z4 cd_z4 ct_z4), sl_z4⟩) (c_z4 : PySem.W.codeIn K cd_z4 "fraction" = true) (k_z4 : PySem.W.keepIn K (.ref f_z4) = true)
    {od_z5 an_z5 : Option Addr} {sl_z5 : Array (Option Value)} {oc_z5 kV_z5 dc_z5 pm_z5 cd_z5 ct_z5 : Value}
    (a_z5 : PySem.W.nsIn K mainGlobals "divided" = some (some (.ref f_z5))) (l_z5 : K.lookup f_z5 = some ⟨oc_z5, od_z5, .func (PySem.W.fnOf "divided" "divided" (defArgs s_divided) (defBody s_divided) (defScope s_divided) .none kV_z5 dc_z5 pm_z5 an_z5 cd_z5 ct_z5), sl_z5⟩) (c_z5 : PySem.W.codeIn K cd_z5 "divided" = true) (k_z5 : PySem.W.keepIn K (.ref f_z5) = true)
    {od_z6 an_z6 : Option Addr} {sl_z6 : Array (Option Value)} {oc_z6 kV_z6 dc_z6 pm_z6 cd_z6 ct_z6 : Value}
    (a_z6 : PySem.W.nsIn K mainGlobals "parted" = some (some (.ref f_z6))) (l_z6 : K.lookup f_z6 = some ⟨oc_z6, od_z6, .func (PySem.W.fnOf "parted" "parted" (defArgs s_parted) (defBody s_parted) (defScope s_parted) .none kV_z6 dc_z6 pm_z6 an_z6 cd_z6 ct_z6), sl_z6⟩) (c_z6 : PySem.W.codeIn K cd_z6 "parted" = true) (k_z6 : PySem.W.keepIn K (.ref f_z6) = true)
    {od_z7 an_z7 : Option Addr} {sl_z7 : Array (Option Value)} {oc_z7 kV_z7 dc_z7 pm_z7 cd_z7 ct_z7 : Value}
    (a_z7 : PySem.W.nsIn K mainGlobals "show_share" = some (some (.ref f_z7))) (l_z7 : K.lookup f_z7 = some ⟨oc_z7, od_z7, .func (PySem.W.fnOf "show_share" "show_share" (defArgs s_show_share) (defBody s_show_share) (defScope s_show_share) .none kV_z7 dc_z7 pm_z7 an_z7 cd_z7 ct_z7), sl_z7⟩) (c_z7 : PySem.W.codeIn K cd_z7 "show_share" = true) (k_z7 : PySem.W.keepIn K (.ref f_z7) = true)
    {od_z8 an_z8 : Option Addr} {sl_z8 : Array (Option Value)} {oc_z8 kV_z8 dc_z8 pm_z8 cd_z8 ct_z8 : Value}
    (a_z8 : PySem.W.nsIn K mainGlobals "show_measure" = some (some (.ref f_z8))) (l_z8 : K.lookup f_z8 = some ⟨oc_z8, od_z8, .func (PySem.W.fnOf "show_measure" "show_measure" (defArgs s_show_measure) (defBody s_show_measure) (defScope s_show_measure) .none kV_z8 dc_z8 pm_z8 an_z8 cd_z8 ct_z8), sl_z8⟩) (c_z8 : PySem.W.codeIn K cd_z8 "show_measure" = true) (k_z8 : PySem.W.keepIn K (.ref f_z8) = true)
    {od_z9 an_z9 : Option Addr} {sl_z9 : Array (Option Value)} {oc_z9 kV_z9 dc_z9 pm_z9 cd_z9 ct_z9 : Value}
    (a_z9 : PySem.W.nsIn K mainGlobals "check_text" = some (some (.ref f_z9))) (l_z9 : K.lookup f_z9 = some ⟨oc_z9, od_z9, .func (PySem.W.fnOf "check_text" "check_text" (defArgs s_check_text) (defBody s_check_text) (defScope s_check_text) .none kV_z9 dc_z9 pm_z9 an_z9 cd_z9 ct_z9), sl_z9⟩) (c_z9 : PySem.W.codeIn K cd_z9 "check_text" = true) (k_z9 : PySem.W.keepIn K (.ref f_z9) = true)
    {od_z10 an_z10 : Option Addr} {sl_z10 : Array (Option Value)} {oc_z10 kV_z10 dc_z10 pm_z10 cd_z10 ct_z10 : Value}
    (a_z10 : PySem.W.nsIn K mainGlobals "is_number" = some (some (.ref f_z10))) (l_z10 : K.lookup f_z10 = some ⟨oc_z10, od_z10, .func (PySem.W.fnOf "is_number" "is_number" (defArgs s_is_number) (defBody s_is_number) (defScope s_is_number) .none kV_z10 dc_z10 pm_z10 an_z10 cd_z10 ct_z10), sl_z10⟩) (c_z10 : PySem.W.codeIn K cd_z10 "is_number" = true) (k_z10 : PySem.W.keepIn K (.ref f_z10) = true)
    {od_z11 an_z11 : Option Addr} {sl_z11 : Array (Option Value)} {oc_z11 kV_z11 dc_z11 pm_z11 cd_z11 ct_z11 : Value}
    (a_z11 : PySem.W.nsIn K mainGlobals "read_number" = some (some (.ref f_z11))) (l_z11 : K.lookup f_z11 = some ⟨oc_z11, od_z11, .func (PySem.W.fnOf "read_number" "read_number" (defArgs s_read_number) (defBody s_read_number) (defScope s_read_number) .none kV_z11 dc_z11 pm_z11 an_z11 cd_z11 ct_z11), sl_z11⟩) (c_z11 : PySem.W.codeIn K cd_z11 "read_number" = true) (k_z11 : PySem.W.keepIn K (.ref f_z11) = true)
    {od_z12 an_z12 : Option Addr} {sl_z12 : Array (Option Value)} {oc_z12 kV_z12 dc_z12 pm_z12 cd_z12 ct_z12 : Value}
    (a_z12 : PySem.W.nsIn K mainGlobals "pieces_in" = some (some (.ref f_z12))) (l_z12 : K.lookup f_z12 = some ⟨oc_z12, od_z12, .func (PySem.W.fnOf "pieces_in" "pieces_in" (defArgs s_pieces_in) (defBody s_pieces_in) (defScope s_pieces_in) .none kV_z12 dc_z12 pm_z12 an_z12 cd_z12 ct_z12), sl_z12⟩) (c_z12 : PySem.W.codeIn K cd_z12 "pieces_in" = true) (k_z12 : PySem.W.keepIn K (.ref f_z12) = true)
    {od_z13 an_z13 : Option Addr} {sl_z13 : Array (Option Value)} {oc_z13 kV_z13 dc_z13 pm_z13 cd_z13 ct_z13 : Value}
    (a_z13 : PySem.W.nsIn K mainGlobals "read_measure" = some (some (.ref f_z13))) (l_z13 : K.lookup f_z13 = some ⟨oc_z13, od_z13, .func (PySem.W.fnOf "read_measure" "read_measure" (defArgs s_read_measure) (defBody s_read_measure) (defScope s_read_measure) .none kV_z13 dc_z13 pm_z13 an_z13 cd_z13 ct_z13), sl_z13⟩) (c_z13 : PySem.W.codeIn K cd_z13 "read_measure" = true) (k_z13 : PySem.W.keepIn K (.ref f_z13) = true)
    {od_z14 an_z14 : Option Addr} {sl_z14 : Array (Option Value)} {oc_z14 kV_z14 dc_z14 pm_z14 cd_z14 ct_z14 : Value}
    (a_z14 : PySem.W.nsIn K mainGlobals "show_amounts" = some (some (.ref f_z14))) (l_z14 : K.lookup f_z14 = some ⟨oc_z14, od_z14, .func (PySem.W.fnOf "show_amounts" "show_amounts" (defArgs s_show_amounts) (defBody s_show_amounts) (defScope s_show_amounts) .none kV_z14 dc_z14 pm_z14 an_z14 cd_z14 ct_z14), sl_z14⟩) (c_z14 : PySem.W.codeIn K cd_z14 "show_amounts" = true) (k_z14 : PySem.W.keepIn K (.ref f_z14) = true)
    {od_z15 an_z15 : Option Addr} {sl_z15 : Array (Option Value)} {oc_z15 kV_z15 dc_z15 pm_z15 cd_z15 ct_z15 : Value}
    (a_z15 : PySem.W.nsIn K mainGlobals "read_pairs" = some (some (.ref f_z15))) (l_z15 : K.lookup f_z15 = some ⟨oc_z15, od_z15, .func (PySem.W.fnOf "read_pairs" "read_pairs" (defArgs s_read_pairs) (defBody s_read_pairs) (defScope s_read_pairs) .none kV_z15 dc_z15 pm_z15 an_z15 cd_z15 ct_z15), sl_z15⟩) (c_z15 : PySem.W.codeIn K cd_z15 "read_pairs" = true) (k_z15 : PySem.W.keepIn K (.ref f_z15) = true)
    {od_z16 an_z16 : Option Addr} {sl_z16 : Array (Option Value)} {oc_z16 kV_z16 dc_z16 pm_z16 cd_z16 ct_z16 : Value}
    (a_z16 : PySem.W.nsIn K mainGlobals "check_new" = some (some (.ref f_z16))) (l_z16 : K.lookup f_z16 = some ⟨oc_z16, od_z16, .func (PySem.W.fnOf "check_new" "check_new" (defArgs s_check_new) (defBody s_check_new) (defScope s_check_new) .none kV_z16 dc_z16 pm_z16 an_z16 cd_z16 ct_z16), sl_z16⟩) (c_z16 : PySem.W.codeIn K cd_z16 "check_new" = true) (k_z16 : PySem.W.keepIn K (.ref f_z16) = true)
    {od_z17 an_z17 : Option Addr} {sl_z17 : Array (Option Value)} {oc_z17 kV_z17 dc_z17 pm_z17 cd_z17 ct_z17 : Value}
    (a_z17 : PySem.W.nsIn K mainGlobals "read_amounts" = some (some (.ref f_z17))) (l_z17 : K.lookup f_z17 = some ⟨oc_z17, od_z17, .func (PySem.W.fnOf "read_amounts" "read_amounts" (defArgs s_read_amounts) (defBody s_read_amounts) (defScope s_read_amounts) .none kV_z17 dc_z17 pm_z17 an_z17 cd_z17 ct_z17), sl_z17⟩) (c_z17 : PySem.W.codeIn K cd_z17 "read_amounts" = true) (k_z17 : PySem.W.keepIn K (.ref f_z17) = true)
    {od_z18 an_z18 : Option Addr} {sl_z18 : Array (Option Value)} {oc_z18 kV_z18 dc_z18 pm_z18 cd_z18 ct_z18 : Value}
    (a_z18 : PySem.W.nsIn K mainGlobals "_law_cell" = some (some (.ref f_z18))) (l_z18 : K.lookup f_z18 = some ⟨oc_z18, od_z18, .func (PySem.W.fnOf "_law_cell" "_law_cell" (defArgs s_cell) (defBody s_cell) (defScope s_cell) .none kV_z18 dc_z18 pm_z18 an_z18 cd_z18 ct_z18), sl_z18⟩) (c_z18 : PySem.W.codeIn K cd_z18 "_law_cell" = true) (k_z18 : PySem.W.keepIn K (.ref f_z18) = true)
    {od_z19 an_z19 : Option Addr} {sl_z19 : Array (Option Value)} {oc_z19 kV_z19 dc_z19 pm_z19 cd_z19 ct_z19 : Value}
    (a_z19 : PySem.W.nsIn K mainGlobals "_law_whole" = some (some (.ref f_z19))) (l_z19 : K.lookup f_z19 = some ⟨oc_z19, od_z19, .func (PySem.W.fnOf "_law_whole" "_law_whole" (defArgs s_whole) (defBody s_whole) (defScope s_whole) .none kV_z19 dc_z19 pm_z19 an_z19 cd_z19 ct_z19), sl_z19⟩) (c_z19 : PySem.W.codeIn K cd_z19 "_law_whole" = true) (k_z19 : PySem.W.keepIn K (.ref f_z19) = true)
    {od_z20 an_z20 : Option Addr} {sl_z20 : Array (Option Value)} {oc_z20 kV_z20 dc_z20 pm_z20 cd_z20 ct_z20 : Value}
    (a_z20 : PySem.W.nsIn K mainGlobals "_law_name" = some (some (.ref f_z20))) (l_z20 : K.lookup f_z20 = some ⟨oc_z20, od_z20, .func (PySem.W.fnOf "_law_name" "_law_name" (defArgs s_name) (defBody s_name) (defScope s_name) .none kV_z20 dc_z20 pm_z20 an_z20 cd_z20 ct_z20), sl_z20⟩) (c_z20 : PySem.W.codeIn K cd_z20 "_law_name" = true) (k_z20 : PySem.W.keepIn K (.ref f_z20) = true)
    {od_z21 an_z21 : Option Addr} {sl_z21 : Array (Option Value)} {oc_z21 kV_z21 dc_z21 pm_z21 cd_z21 ct_z21 : Value}
    (a_z21 : PySem.W.nsIn K mainGlobals "_law_common" = some (some (.ref f_z21))) (l_z21 : K.lookup f_z21 = some ⟨oc_z21, od_z21, .func (PySem.W.fnOf "_law_common" "_law_common" (defArgs s_common) (defBody s_common) (defScope s_common) .none kV_z21 dc_z21 pm_z21 an_z21 cd_z21 ct_z21), sl_z21⟩) (c_z21 : PySem.W.codeIn K cd_z21 "_law_common" = true) (k_z21 : PySem.W.keepIn K (.ref f_z21) = true)
    {od_z22 an_z22 : Option Addr} {sl_z22 : Array (Option Value)} {oc_z22 kV_z22 dc_z22 pm_z22 cd_z22 ct_z22 : Value}
    (a_z22 : PySem.W.nsIn K mainGlobals "_law_shown" = some (some (.ref f_z22))) (l_z22 : K.lookup f_z22 = some ⟨oc_z22, od_z22, .func (PySem.W.fnOf "_law_shown" "_law_shown" (defArgs s_shown) (defBody s_shown) (defScope s_shown) .none kV_z22 dc_z22 pm_z22 an_z22 cd_z22 ct_z22), sl_z22⟩) (c_z22 : PySem.W.codeIn K cd_z22 "_law_shown" = true) (k_z22 : PySem.W.keepIn K (.ref f_z22) = true)
    {od_z23 an_z23 : Option Addr} {sl_z23 : Array (Option Value)} {oc_z23 kV_z23 dc_z23 pm_z23 cd_z23 ct_z23 : Value}
    (a_z23 : PySem.W.nsIn K mainGlobals "_law_grain" = some (some (.ref f_z23))) (l_z23 : K.lookup f_z23 = some ⟨oc_z23, od_z23, .func (PySem.W.fnOf "_law_grain" "_law_grain" (defArgs s_grain) (defBody s_grain) (defScope s_grain) .none kV_z23 dc_z23 pm_z23 an_z23 cd_z23 ct_z23), sl_z23⟩) (c_z23 : PySem.W.codeIn K cd_z23 "_law_grain" = true) (k_z23 : PySem.W.keepIn K (.ref f_z23) = true)
    {od_z24 an_z24 : Option Addr} {sl_z24 : Array (Option Value)} {oc_z24 kV_z24 dc_z24 pm_z24 cd_z24 ct_z24 : Value}
    (a_z24 : PySem.W.nsIn K mainGlobals "_law_amounts" = some (some (.ref f_z24))) (l_z24 : K.lookup f_z24 = some ⟨oc_z24, od_z24, .func (PySem.W.fnOf "_law_amounts" "_law_amounts" (defArgs s_amounts) (defBody s_amounts) (defScope s_amounts) .none kV_z24 dc_z24 pm_z24 an_z24 cd_z24 ct_z24), sl_z24⟩) (c_z24 : PySem.W.codeIn K cd_z24 "_law_amounts" = true) (k_z24 : PySem.W.keepIn K (.ref f_z24) = true)
    {od_z25 an_z25 : Option Addr} {sl_z25 : Array (Option Value)} {oc_z25 kV_z25 dc_z25 pm_z25 cd_z25 ct_z25 : Value}
    (a_z25 : PySem.W.nsIn K mainGlobals "_law_words" = some (some (.ref f_z25))) (l_z25 : K.lookup f_z25 = some ⟨oc_z25, od_z25, .func (PySem.W.fnOf "_law_words" "_law_words" (defArgs s_words) (defBody s_words) (defScope s_words) .none kV_z25 dc_z25 pm_z25 an_z25 cd_z25 ct_z25), sl_z25⟩) (c_z25 : PySem.W.codeIn K cd_z25 "_law_words" = true) (k_z25 : PySem.W.keepIn K (.ref f_z25) = true)
    {od_z26 an_z26 : Option Addr} {sl_z26 : Array (Option Value)} {oc_z26 kV_z26 dc_z26 pm_z26 cd_z26 ct_z26 : Value}
    (a_z26 : PySem.W.nsIn K mainGlobals "_law_fault" = some (some (.ref f_z26))) (l_z26 : K.lookup f_z26 = some ⟨oc_z26, od_z26, .func (PySem.W.fnOf "_law_fault" "_law_fault" (defArgs s_fault) (defBody s_fault) (defScope s_fault) .none kV_z26 dc_z26 pm_z26 an_z26 cd_z26 ct_z26), sl_z26⟩) (c_z26 : PySem.W.codeIn K cd_z26 "_law_fault" = true) (k_z26 : PySem.W.keepIn K (.ref f_z26) = true)
    {od_z27 an_z27 : Option Addr} {sl_z27 : Array (Option Value)} {oc_z27 kV_z27 dc_z27 pm_z27 cd_z27 ct_z27 : Value}
    (a_z27 : PySem.W.nsIn K mainGlobals "_law_due" = some (some (.ref f_z27))) (l_z27 : K.lookup f_z27 = some ⟨oc_z27, od_z27, .func (PySem.W.fnOf "_law_due" "_law_due" (defArgs s_due) (defBody s_due) (defScope s_due) .none kV_z27 dc_z27 pm_z27 an_z27 cd_z27 ct_z27), sl_z27⟩) (c_z27 : PySem.W.codeIn K cd_z27 "_law_due" = true) (k_z27 : PySem.W.keepIn K (.ref f_z27) = true)
    {od_z28 an_z28 : Option Addr} {sl_z28 : Array (Option Value)} {oc_z28 kV_z28 dc_z28 pm_z28 cd_z28 ct_z28 : Value}
    (a_z28 : PySem.W.nsIn K mainGlobals "_law_read" = some (some (.ref f_z28))) (l_z28 : K.lookup f_z28 = some ⟨oc_z28, od_z28, .func (PySem.W.fnOf "_law_read" "_law_read" (defArgs s_read) (defBody s_read) (defScope s_read) .none kV_z28 dc_z28 pm_z28 an_z28 cd_z28 ct_z28), sl_z28⟩) (c_z28 : PySem.W.codeIn K cd_z28 "_law_read" = true) (k_z28 : PySem.W.keepIn K (.ref f_z28) = true)
    {od_z29 an_z29 : Option Addr} {sl_z29 : Array (Option Value)} {oc_z29 kV_z29 dc_z29 pm_z29 cd_z29 ct_z29 : Value}
    (a_z29 : PySem.W.nsIn K mainGlobals "_law_alike" = some (some (.ref f_z29))) (l_z29 : K.lookup f_z29 = some ⟨oc_z29, od_z29, .func (PySem.W.fnOf "_law_alike" "_law_alike" (defArgs s_alike) (defBody s_alike) (defScope s_alike) .none kV_z29 dc_z29 pm_z29 an_z29 cd_z29 ct_z29), sl_z29⟩) (c_z29 : PySem.W.codeIn K cd_z29 "_law_alike" = true) (k_z29 : PySem.W.keepIn K (.ref f_z29) = true)
    {od_law an_law : Option Addr} {sl_law : Array (Option Value)} {oc_law kV_law dc_law pm_law cd_law ct_law : Value}
    (a_law : PySem.W.nsIn K mainGlobals "law" = some (some (.ref f_law))) (l_law : K.lookup f_law = some ⟨oc_law, od_law, .func (PySem.W.fnOf "law" "law" (defArgs s_law) (defBody s_law) (defScope s_law) .none kV_law dc_law pm_law an_law cd_law ct_law), sl_law⟩) (c_law : PySem.W.codeIn K cd_law "law" = true) (k_law : PySem.W.keepIn K (.ref f_law) = true)
    (a_NoAmount : PySem.W.nsIn K mainGlobals "NoAmount" = some (some (.ref c_NoAmount)))
    (a_NoText : PySem.W.nsIn K mainGlobals "NoText" = some (some (.ref c_NoText)))
    (a_NoWare : PySem.W.nsIn K mainGlobals "NoWare" = some (some (.ref c_NoWare)))
    {u_FIGURES : Value} (a_FIGURES : PySem.W.nsIn K mainGlobals "FIGURES" = some (some u_FIGURES)) (r_FIGURES : RelV (.str "0123456789") u_FIGURES)
    {u_MOST_FIGURES : Value} (a_MOST_FIGURES : PySem.W.nsIn K mainGlobals "MOST_FIGURES" = some (some u_MOST_FIGURES)) (r_MOST_FIGURES : RelV (.int 31) u_MOST_FIGURES)
    (q_NoAmount : PySem.W.excIn K c_NoAmount [.type "ValueError", .type "Exception", .type "BaseException", .type "object"] "ValueError.__new__" = true)
    (q_NoText : PySem.W.excIn K c_NoText [.type "ValueError", .type "Exception", .type "BaseException", .type "object"] "ValueError.__new__" = true)
    (q_NoWare : PySem.W.excIn K c_NoWare [.type "ValueError", .type "Exception", .type "BaseException", .type "object"] "ValueError.__new__" = true)
    (B_NoText : PySem.W.kitCls K (.ref c_NoText) (.type "BaseException") = some true)
    (B_NoWare : PySem.W.kitCls K (.ref c_NoWare) (.type "BaseException") = some true)
    (kcT : PySem.W.kitCls K (.ref c_NoText) (.ref c_NoText) = some true)
    (kcW : PySem.W.kitCls K (.ref c_NoWare) (.ref c_NoWare) = some true)
    (kcX : PySem.W.kitCls K (.ref c_NoText) (.ref c_NoWare) = some false)
    (y_abs : PySem.W.nsIn K mainGlobals "abs" = some none)
    (y_all : PySem.W.nsIn K mainGlobals "all" = some none)
    (y_bool : PySem.W.nsIn K mainGlobals "bool" = some none)
    (y_dict : PySem.W.nsIn K mainGlobals "dict" = some none)
    (y_int : PySem.W.nsIn K mainGlobals "int" = some none)
    (y_isinstance : PySem.W.nsIn K mainGlobals "isinstance" = some none)
    (y_len : PySem.W.nsIn K mainGlobals "len" = some none)
    (y_range : PySem.W.nsIn K mainGlobals "range" = some none)
    (y_sorted : PySem.W.nsIn K mainGlobals "sorted" = some none)
    (y_str : PySem.W.nsIn K mainGlobals "str" = some none)
    (y_sum : PySem.W.nsIn K mainGlobals "sum" = some none)
    : ∃ d : Ad, Tx K mg d ∧ fa = d.f_law ∧ ∀ (s : Shared) (v : Value), BindsTo s d.fd_law ⟨[v], []⟩ [("_law_script", v)] := by
  have e := hfa.symm.trans (PySem.W.mg_of X G a_law)
  cases e
  have F_z0 := fun_mk (st := s_is_whole) l_z0 c_z0 k_z0
  have b_z0 := F_z0.binds (ps := ["thing"]) fun _ _ _ _ _ _ us hl => match us, hl with | [_], _ => rfl
  have F_z1 := fun_mk (st := s_is_whole_from) l_z1 c_z1 k_z1
  have b_z1 := F_z1.binds (ps := ["thing", "least", "most"]) fun _ _ _ _ _ _ us hl => match us, hl with | [_, _, _], _ => rfl
  have F_z2 := fun_mk (st := s_is_amount) l_z2 c_z2 k_z2
  have b_z2 := F_z2.binds (ps := ["thing"]) fun _ _ _ _ _ _ us hl => match us, hl with | [_], _ => rfl
  have F_z3 := fun_mk (st := s_divisor) l_z3 c_z3 k_z3
  have b_z3 := F_z3.binds (ps := ["one", "other"]) fun _ _ _ _ _ _ us hl => match us, hl with | [_, _], _ => rfl
  have F_z4 := fun_mk (st := s_fraction) l_z4 c_z4 k_z4
  have b_z4 := F_z4.binds (ps := ["top", "bottom"]) fun _ _ _ _ _ _ us hl => match us, hl with | [_, _], _ => rfl
  have F_z5 := fun_mk (st := s_divided) l_z5 c_z5 k_z5
  have b_z5 := F_z5.binds (ps := ["one", "other"]) fun _ _ _ _ _ _ us hl => match us, hl with | [_, _], _ => rfl
  have F_z6 := fun_mk (st := s_parted) l_z6 c_z6 k_z6
  have b_z6 := F_z6.binds (ps := ["one"]) fun _ _ _ _ _ _ us hl => match us, hl with | [_], _ => rfl
  have F_z7 := fun_mk (st := s_show_share) l_z7 c_z7 k_z7
  have b_z7 := F_z7.binds (ps := ["share", "grain"]) fun _ _ _ _ _ _ us hl => match us, hl with | [_, _], _ => rfl
  have F_z8 := fun_mk (st := s_show_measure) l_z8 c_z8 k_z8
  have b_z8 := F_z8.binds (ps := ["pieces", "grain"]) fun _ _ _ _ _ _ us hl => match us, hl with | [_, _], _ => rfl
  have F_z9 := fun_mk (st := s_check_text) l_z9 c_z9 k_z9
  have b_z9 := F_z9.binds (ps := ["thing"]) fun _ _ _ _ _ _ us hl => match us, hl with | [_], _ => rfl
  have F_z10 := fun_mk (st := s_is_number) l_z10 c_z10 k_z10
  have b_z10 := F_z10.binds (ps := ["text"]) fun _ _ _ _ _ _ us hl => match us, hl with | [_], _ => rfl
  have F_z11 := fun_mk (st := s_read_number) l_z11 c_z11 k_z11
  have b_z11 := F_z11.binds (ps := ["text"]) fun _ _ _ _ _ _ us hl => match us, hl with | [_], _ => rfl
  have F_z12 := fun_mk (st := s_pieces_in) l_z12 c_z12 k_z12
  have b_z12 := F_z12.binds (ps := ["text", "grain"]) fun _ _ _ _ _ _ us hl => match us, hl with | [_, _], _ => rfl
  have F_z13 := fun_mk (st := s_read_measure) l_z13 c_z13 k_z13
  have b_z13 := F_z13.binds (ps := ["text", "grain"]) fun _ _ _ _ _ _ us hl => match us, hl with | [_, _], _ => rfl
  have F_z14 := fun_mk (st := s_show_amounts) l_z14 c_z14 k_z14
  have b_z14 := F_z14.binds (ps := ["amounts", "grains"]) fun _ _ _ _ _ _ us hl => match us, hl with | [_, _], _ => rfl
  have F_z15 := fun_mk (st := s_read_pairs) l_z15 c_z15 k_z15
  have b_z15 := F_z15.binds (ps := ["text"]) fun _ _ _ _ _ _ us hl => match us, hl with | [_], _ => rfl
  have F_z16 := fun_mk (st := s_check_new) l_z16 c_z16 k_z16
  have b_z16 := F_z16.binds (ps := ["name", "ahead"]) fun _ _ _ _ _ _ us hl => match us, hl with | [_, _], _ => rfl
  have F_z17 := fun_mk (st := s_read_amounts) l_z17 c_z17 k_z17
  have b_z17 := F_z17.binds (ps := ["text", "grains"]) fun _ _ _ _ _ _ us hl => match us, hl with | [_, _], _ => rfl
  have F_z18 := fun_mk (st := s_cell) l_z18 c_z18 k_z18
  have b_z18 := F_z18.binds (ps := ["_law_script", "_law_k"]) fun _ _ _ _ _ _ us hl => match us, hl with | [_, _], _ => rfl
  have F_z19 := fun_mk (st := s_whole) l_z19 c_z19 k_z19
  have b_z19 := F_z19.binds (ps := ["_law_found"]) fun _ _ _ _ _ _ us hl => match us, hl with | [_], _ => rfl
  have F_z20 := fun_mk (st := s_name) l_z20 c_z20 k_z20
  have b_z20 := F_z20.binds (ps := ["_law_script", "_law_number"]) fun _ _ _ _ _ _ us hl => match us, hl with | [_, _], _ => rfl
  have F_z21 := fun_mk (st := s_common) l_z21 c_z21 k_z21
  have b_z21 := F_z21.binds (ps := ["_law_one", "_law_other"]) fun _ _ _ _ _ _ us hl => match us, hl with | [_, _], _ => rfl
  have F_z22 := fun_mk (st := s_shown) l_z22 c_z22 k_z22
  have b_z22 := F_z22.binds (ps := ["_law_top", "_law_bottom"]) fun _ _ _ _ _ _ us hl => match us, hl with | [_, _], _ => rfl
  have F_z23 := fun_mk (st := s_grain) l_z23 c_z23 k_z23
  have b_z23 := F_z23.binds (ps := ["_law_cell_here"]) fun _ _ _ _ _ _ us hl => match us, hl with | [_], _ => rfl
  have F_z24 := fun_mk (st := s_amounts) l_z24 c_z24 k_z24
  have b_z24 := F_z24.binds (ps := ["_law_script", "_law_wares"]) fun _ _ _ _ _ _ us hl => match us, hl with | [_, _], _ => rfl
  have F_z25 := fun_mk (st := s_words) l_z25 c_z25 k_z25
  have b_z25 := F_z25.binds (ps := ["_law_script", "_law_wares", "_law_grains", "_law_some"]) fun _ _ _ _ _ _ us hl => match us, hl with | [_, _, _, _], _ => rfl
  have F_z26 := fun_mk (st := s_fault) l_z26 c_z26 k_z26
  have b_z26 := F_z26.binds (ps := ["_law_script", "_law_words_here", "_law_cell_here"]) fun _ _ _ _ _ _ us hl => match us, hl with | [_, _, _], _ => rfl
  have F_z27 := fun_mk (st := s_due) l_z27 c_z27 k_z27
  have b_z27 := F_z27.binds (ps := ["_law_words_here"]) fun _ _ _ _ _ _ us hl => match us, hl with | [_], _ => rfl
  have F_z28 := fun_mk (st := s_read) l_z28 c_z28 k_z28
  have b_z28 := F_z28.binds (ps := ["_law_text", "_law_grains"]) fun _ _ _ _ _ _ us hl => match us, hl with | [_, _], _ => rfl
  have F_z29 := fun_mk (st := s_alike) l_z29 c_z29 k_z29
  have b_z29 := F_z29.binds (ps := ["_law_found", "_law_due_here"]) fun _ _ _ _ _ _ us hl => match us, hl with | [_, _], _ => rfl
  have F_law := fun_mk (st := s_law) l_law c_law k_law
  refine ⟨⟨_, _, _, _, _, _, _, _, _, _, _, _, _, _, _, _, _, _, _, _, _, _, _, _, _, _, _, _, _, _, _, _, _, _, _, _, _, _, _, _, _, _, _, _, _, _, _, _, _, _, _, _, _, _, _, _, _, _, _, _, _, _, c_NoAmount, c_NoText, c_NoWare, u_FIGURES, u_MOST_FIGURES⟩, ⟨F_z0, PySem.W.mg_of X G a_z0, b_z0, F_z1, PySem.W.mg_of X G a_z1, b_z1, F_z2, PySem.W.mg_of X G a_z2, b_z2, F_z3, PySem.W.mg_of X G a_z3, b_z3, F_z4, PySem.W.mg_of X G a_z4, b_z4, F_z5, PySem.W.mg_of X G a_z5, b_z5, F_z6, PySem.W.mg_of X G a_z6, b_z6, F_z7, PySem.W.mg_of X G a_z7, b_z7, F_z8, PySem.W.mg_of X G a_z8, b_z8, F_z9, PySem.W.mg_of X G a_z9, b_z9, F_z10, PySem.W.mg_of X G a_z10, b_z10, F_z11, PySem.W.mg_of X G a_z11, b_z11, F_z12, PySem.W.mg_of X G a_z12, b_z12, F_z13, PySem.W.mg_of X G a_z13, b_z13, F_z14, PySem.W.mg_of X G a_z14, b_z14, F_z15, PySem.W.mg_of X G a_z15, b_z15, F_z16, PySem.W.mg_of X G a_z16, b_z16, F_z17, PySem.W.mg_of X G a_z17, b_z17, F_z18, PySem.W.mg_of X G a_z18, b_z18, F_z19, PySem.W.mg_of X G a_z19, b_z19, F_z20, PySem.W.mg_of X G a_z20, b_z20, F_z21, PySem.W.mg_of X G a_z21, b_z21, F_z22, PySem.W.mg_of X G a_z22, b_z22, F_z23, PySem.W.mg_of X G a_z23, b_z23, F_z24, PySem.W.mg_of X G a_z24, b_z24, F_z25, PySem.W.mg_of X G a_z25, b_z25, F_z26, PySem.W.mg_of X G a_z26, b_z26, F_z27, PySem.W.mg_of X G a_z27, b_z27, F_z28, PySem.W.mg_of X G a_z28, b_z28, F_z29, PySem.W.mg_of X G a_z29, b_z29, F_law, PySem.W.mg_of X G a_law, PySem.W.mg_of X G a_NoAmount, PySem.W.mg_of X G a_NoText, PySem.W.mg_of X G a_NoWare, PySem.W.mg_of X G a_FIGURES, r_FIGURES, PySem.W.mg_of X G a_MOST_FIGURES, r_MOST_FIGURES, PySem.W.mg_none_of X G y_abs, PySem.W.mg_none_of X G y_all, PySem.W.mg_none_of X G y_bool, PySem.W.mg_none_of X G y_dict, PySem.W.mg_none_of X G y_int, PySem.W.mg_none_of X G y_isinstance, PySem.W.mg_none_of X G y_len, PySem.W.mg_none_of X G y_range, PySem.W.mg_none_of X G y_sorted, PySem.W.mg_none_of X G y_str, PySem.W.mg_none_of X G y_sum, kcT, kcW, kcX, My.xcls_of q_NoAmount, My.xcls_of q_NoText, My.xcls_of q_NoWare, B_NoText, B_NoWare⟩, rfl, fun s v => .of_eq rfl⟩
theorem walk {l : PySem.W.OpenLaw} {q : Program} {loose : List Str} {XP : (Str → Option Value) → Heap → Prop} {YP : World → Heap → Prop} {e : DefRec} {K : Params → PySem.W.Frag} (hn : l.most = some 63) (hdf : e.params.defaults = []) (hlaw : e.name = "law")
    (hY : ∀ (w : World) (h : Heap), YP w h → (K w.params).In h)
    (F : ∀ (w : World) (mg : Str → Option Value) (fa : Addr) (h : Heap), (K w.params).In h → h.Ns mainGlobals mg → mg "law" = some (.ref fa) → ∃ d : Ad, Tx (K w.params) mg d ∧ fa = d.f_law ∧ ∀ (s : Shared) (v : Value), BindsTo s d.fd_law ⟨[v], []⟩ [("_law_script", v)]) :
    PySem.W.WalkO q loose XP YP l.row.toRowW e [] (fun f vs => PySem.call f vs) := by
  refine L2.walk_of (n := 63) (k := 10) (x := "_law_script") (CX := fun _ => CX0) (sp := fun w => sp_law0 (K w.params)) hn (by decide) hdf ⟨rfl, by decide, by decide⟩ hY (fun w mg fa h KX G hm => ?_) (fun _ _ a ns hl _ hS => ⟨a, ns, rfl, hS, hl, fun _ => rfl⟩) fun _ _ _ _ _ z => z
  rw [hlaw] at hm
  obtain ⟨d, T, rfl, hb⟩ := F w mg fa h KX G hm
  exact ⟨d.fd_law, hb, fun base _ _ => (ok_law (P := l.prog) (w := w) (base := base) T).imp fun vs H Q E q => q⟩
end Our
open PySem PySem.W PyProof.Rows
set_option maxRecDepth 100000 in
set_option maxHeartbeats 0 in
theorem PySem.Challenge.cw_quotatree_k83_amounts_written_holds : PySem.Challenge.rw_quotatree_k83_amounts_written.Holds := by
  w_on; o_law; k_head; (case hw => w_witness2)
  k_fill
  refine Our.walk (l := PySem.Challenge.rw_quotatree_k83_amounts_written) rfl rfl rfl (fun w h Y => PySem.W.kIn_of Y) ?F
  case F =>
    intro w mg fa h KX G hmg
    refine' Our.txt_mk KX G hmg ?a_z0 ?l_z0 ?c_z0 ?k_z0 ?a_z1 ?l_z1 ?c_z1 ?k_z1 ?a_z2 ?l_z2 ?c_z2 ?k_z2 ?a_z3 ?l_z3 ?c_z3 ?k_z3 ?a_z4 ?l_z4 ?c_z4 ?k_z4 ?a_z5 ?l_z5 ?c_z5 ?k_z5 ?a_z6 ?l_z6 ?c_z6 ?k_z6 ?a_z7 ?l_z7 ?c_z7 ?k_z7 ?a_z8 ?l_z8 ?c_z8 ?k_z8 ?a_z9 ?l_z9 ?c_z9 ?k_z9 ?a_z10 ?l_z10 ?c_z10 ?k_z10 ?a_z11 ?l_z11 ?c_z11 ?k_z11 ?a_z12 ?l_z12 ?c_z12 ?k_z12 ?a_z13 ?l_z13 ?c_z13 ?k_z13 ?a_z14 ?l_z14 ?c_z14 ?k_z14 ?a_z15 ?l_z15 ?c_z15 ?k_z15 ?a_z16 ?l_z16 ?c_z16 ?k_z16 ?a_z17 ?l_z17 ?c_z17 ?k_z17 ?a_z18 ?l_z18 ?c_z18 ?k_z18 ?a_z19 ?l_z19 ?c_z19 ?k_z19 ?a_z20 ?l_z20 ?c_z20 ?k_z20 ?a_z21 ?l_z21 ?c_z21 ?k_z21 ?a_z22 ?l_z22 ?c_z22 ?k_z22 ?a_z23 ?l_z23 ?c_z23 ?k_z23 ?a_z24 ?l_z24 ?c_z24 ?k_z24 ?a_z25 ?l_z25 ?c_z25 ?k_z25 ?a_z26 ?l_z26 ?c_z26 ?k_z26 ?a_z27 ?l_z27 ?c_z27 ?k_z27 ?a_z28 ?l_z28 ?c_z28 ?k_z28 ?a_z29 ?l_z29 ?c_z29 ?k_z29 ?a_law ?l_law ?c_law ?k_law ?a_NoAmount ?a_NoText ?a_NoWare ?a_FIGURES ?r_FIGURES ?a_MOST_FIGURES ?r_MOST_FIGURES ?q_NoAmount ?q_NoText ?q_NoWare ?B_NoText ?B_NoWare ?kcT ?kcW ?kcX ?y_abs ?y_all ?y_bool ?y_dict ?y_int ?y_isinstance ?y_len ?y_range ?y_sorted ?y_str ?y_sum
    (case a_NoAmount => k_is)
    (case a_NoText => k_is)
    (case a_NoWare => k_is)
    (case a_z0 => k_is); (case l_z0 => k_is); (case c_z0 => k_is); (case k_z0 => k_is)
    (case a_z1 => k_is); (case l_z1 => k_is); (case c_z1 => k_is); (case k_z1 => k_is)
    (case a_z2 => k_is); (case l_z2 => k_is); (case c_z2 => k_is); (case k_z2 => k_is)
    (case a_z3 => k_is); (case l_z3 => k_is); (case c_z3 => k_is); (case k_z3 => k_is)
    (case a_z4 => k_is); (case l_z4 => k_is); (case c_z4 => k_is); (case k_z4 => k_is)
    (case a_z5 => k_is); (case l_z5 => k_is); (case c_z5 => k_is); (case k_z5 => k_is)
    (case a_z6 => k_is); (case l_z6 => k_is); (case c_z6 => k_is); (case k_z6 => k_is)
    (case a_z7 => k_is); (case l_z7 => k_is); (case c_z7 => k_is); (case k_z7 => k_is)
    (case a_z8 => k_is); (case l_z8 => k_is); (case c_z8 => k_is); (case k_z8 => k_is)
    (case a_z9 => k_is); (case l_z9 => k_is); (case c_z9 => k_is); (case k_z9 => k_is)
    (case a_z10 => k_is); (case l_z10 => k_is); (case c_z10 => k_is); (case k_z10 => k_is)
    (case a_z11 => k_is); (case l_z11 => k_is); (case c_z11 => k_is); (case k_z11 => k_is)
    (case a_z12 => k_is); (case l_z12 => k_is); (case c_z12 => k_is); (case k_z12 => k_is)
    (case a_z13 => k_is); (case l_z13 => k_is); (case c_z13 => k_is); (case k_z13 => k_is)
    (case a_z14 => k_is); (case l_z14 => k_is); (case c_z14 => k_is); (case k_z14 => k_is)
    (case a_z15 => k_is); (case l_z15 => k_is); (case c_z15 => k_is); (case k_z15 => k_is)
    (case a_z16 => k_is); (case l_z16 => k_is); (case c_z16 => k_is); (case k_z16 => k_is)
    (case a_z17 => k_is); (case l_z17 => k_is); (case c_z17 => k_is); (case k_z17 => k_is)
    (case a_z18 => k_is); (case l_z18 => k_is); (case c_z18 => k_is); (case k_z18 => k_is)
    (case a_z19 => k_is); (case l_z19 => k_is); (case c_z19 => k_is); (case k_z19 => k_is)
    (case a_z20 => k_is); (case l_z20 => k_is); (case c_z20 => k_is); (case k_z20 => k_is)
    (case a_z21 => k_is); (case l_z21 => k_is); (case c_z21 => k_is); (case k_z21 => k_is)
    (case a_z22 => k_is); (case l_z22 => k_is); (case c_z22 => k_is); (case k_z22 => k_is)
    (case a_z23 => k_is); (case l_z23 => k_is); (case c_z23 => k_is); (case k_z23 => k_is)
    (case a_z24 => k_is); (case l_z24 => k_is); (case c_z24 => k_is); (case k_z24 => k_is)
    (case a_z25 => k_is); (case l_z25 => k_is); (case c_z25 => k_is); (case k_z25 => k_is)
    (case a_z26 => k_is); (case l_z26 => k_is); (case c_z26 => k_is); (case k_z26 => k_is)
    (case a_z27 => k_is); (case l_z27 => k_is); (case c_z27 => k_is); (case k_z27 => k_is)
    (case a_z28 => k_is); (case l_z28 => k_is); (case c_z28 => k_is); (case k_z28 => k_is)
    (case a_z29 => k_is); (case l_z29 => k_is); (case c_z29 => k_is); (case k_z29 => k_is)
    (case a_law => k_is); (case l_law => k_is); (case c_law => k_is); (case k_law => k_is)
    (case a_FIGURES => k_is)
    (case r_FIGURES => exact ⟨_, rfl⟩)
    (case a_MOST_FIGURES => k_is)
    (case r_MOST_FIGURES => exact ⟨_, rfl⟩)
    (case q_NoAmount => k_exc)
    (case q_NoText => k_exc)
    (case q_NoWare => k_exc)
    (case B_NoText => kernel_rfl)
    (case B_NoWare => kernel_rfl)
    (case kcT => kernel_rfl)
    (case kcW => kernel_rfl)
    (case kcX => kernel_rfl)
    (case y_abs => k_is)
    (case y_all => k_is)
    (case y_bool => k_is)
    (case y_dict => k_is)
    (case y_int => k_is)
    (case y_isinstance => k_is)
    (case y_len => k_is)
    (case y_range => k_is)
    (case y_sorted => k_is)
    (case y_str => k_is)
    (case y_sum => k_is)
