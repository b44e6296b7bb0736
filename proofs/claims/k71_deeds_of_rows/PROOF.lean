import PyProof.Rows.All
import Wide.All
import OpenK.AllK
import Wide.FinOn
import Lean
import PyProof.EqAt
import PyProof.EqKinds
import PyProof.TupleCall
import PyProof.NeKinds
import KE.KEqDict
import KE.KRevIter
import PyProof.FactsAll.range_2
import PyProof.ZipIter
import PyProof.FitsReplace
import PyProof.MeetsStr
import PyProof.ListRange
import PyProof.CollectWalk
import PyProof.DictItems
import PyProof.DictItemsLoops
import PyProof.DictValues
import PyProof.DictWalks
import PyProof.StrCalls
import KE.KIsAll
import PyProof.Rows.Range3
import PySem.Challenge.RW_quotatree_k71_deeds_of_rows
set_option Elab.async false
set_option linter.all false
set_option maxRecDepth 100000
namespace L2
open PySem PySem.Spec PyProof.Rows
abbrev Key := Sum Int Str
def keyIs : Key → Value → Bool
  | .inl k, v => Value.isInt k v
  | .inr x, v => Value.isStrOf x v
def keyH (w : World) : Key → Int
  | .inl k => hashInt k
  | .inr x => hashStr w x
theorem keyIs_shape : ∀ {k : Key} {v : Value}, keyIs k v = true → (∃ i t, k = Sum.inl i ∧ v = Value.int i t) ∨ (∃ x t, k = Sum.inr x ∧ v = Value.str x t)
  | .inl i, v, h => by
    obtain ⟨t, e⟩ := Value.isInt_shape (k := i) (v := v) h
    exact .inl ⟨i, t, rfl, e⟩
  | .inr x, v, h => by
    obtain ⟨t, e⟩ := Value.isStrOf_shape (x := x) (v := v) h
    exact .inr ⟨x, t, rfl, e⟩
theorem keyIs_int (i : Int) (t : Tok) : keyIs (.inl i) (.int i t) = true := by simp [keyIs, Value.isInt]
theorem keyIs_str (x : Str) (t : Tok) : keyIs (.inr x) (.str x t) = true := by simp [keyIs, Value.isStrOf]
theorem key_ll (a b : Int) : decide ((Sum.inl a : Key) = Sum.inl b) = (a == b) := by
  by_cases e : a = b
  · subst e; simp
  · have h : ¬ (Sum.inl a : Key) = Sum.inl b := fun q => e (Sum.inl.inj q)
    rw [decide_eq_false h]
    exact (beq_eq_false_iff_ne.mpr e).symm
theorem key_rr (a b : Str) : decide ((Sum.inr a : Key) = Sum.inr b) = decide (a = b) := by
  by_cases e : a = b
  · subst e; simp
  · have h : ¬ (Sum.inr a : Key) = Sum.inr b := fun q => e (Sum.inr.inj q)
    rw [decide_eq_false h, decide_eq_false e]
theorem key_lr (a : Int) (b : Str) : decide ((Sum.inl a : Key) = Sum.inr b) = false := decide_eq_false (fun q => nomatch q)
theorem key_rl (a : Str) (b : Int) : decide ((Sum.inr a : Key) = Sum.inl b) = false := decide_eq_false (fun q => nomatch q)
def mixKind (prog : Program) (w : World) : PySem.KeyKind prog w Key where
  is := keyIs
  hash := keyH w
  inj := fun v a b ha hb => by
    rcases keyIs_shape ha with ⟨i, t, rfl, rfl⟩ | ⟨x, t, rfl, rfl⟩
    · rcases keyIs_shape hb with ⟨j, u, rfl, e⟩ | ⟨y, u, rfl, e⟩
      · injection e with e1 _; rw [e1]
      · exact nomatch e
    · rcases keyIs_shape hb with ⟨j, u, rfl, e⟩ | ⟨y, u, rfl, e⟩
      · exact nomatch e
      · injection e with e1 _; rw [e1]
  byValue := fun k v h => by
    rcases keyIs_shape h with ⟨i, t, rfl, rfl⟩ | ⟨x, t, rfl, rfl⟩ <;> rfl
  pyHash := fun hv h => by
    rcases keyIs_shape hv with ⟨i, t, rfl, rfl⟩ | ⟨x, t, rfl, rfl⟩
    · exact wpAny_pyHash_int h
    · exact wpAny_pyHash_str h
  eqBool := fun hu hv h => by
    rcases keyIs_shape hu with ⟨i, t, rfl, rfl⟩ | ⟨x, t, rfl, rfl⟩
    · rcases keyIs_shape hv with ⟨j, u, rfl, rfl⟩ | ⟨y, u, rfl, rfl⟩
      · rw [key_ll] at h; exact wpAny_eqBool_int h
      · rw [key_lr] at h; exact SeqAt.EqAt.int_str i t y u _ _ _ _ h
    · rcases keyIs_shape hv with ⟨j, u, rfl, rfl⟩ | ⟨y, u, rfl, rfl⟩
      · rw [key_rl] at h; exact SeqAt.EqAt.str_int x t j u _ _ _ _ h
      · rw [key_rr] at h; exact wpAny_eqBool_str h
  «strs» := fun k x t v h => by
    rcases keyIs_shape h with ⟨i, u, rfl, e⟩ | ⟨y, u, rfl, e⟩
    · exact nomatch e
    · injection e with e1 _
      subst e1
      cases v <;> rfl
theorem mixKind_int (prog : Program) (w : World) (i : Int) (t : Tok) : (mixKind prog w).is (.inl i) (.int i t) = true := keyIs_int i t
theorem mixKind_str (prog : Program) (w : World) (x : Str) (t : Tok) : (mixKind prog w).is (.inr x) (.str x t) = true := keyIs_str x t
end L2
namespace L2
open PySem PySem.Spec PyProof.Rows
inductive V where
  | non | bl (b : Bool) | int (i : Int) | str (x : Str) | byt (b : Array UInt8) | flt (b : UInt64) | ref (a : Addr) | ty (n : String)
  deriving DecidableEq
def RelV : V → Value → Prop
  | .non, u => u = Value.none
  | .bl b, u => u = Value.bool b
  | .int i, u => ∃ t, u = Value.int i t
  | .str x, u => ∃ t, u = Value.str x t
  | .byt b, u => ∃ t, u = Value.bytes b t
  | .flt b, u => ∃ t, u = Value.float b t
  | .ref a, u => u = Value.ref a
  | .ty n, u => u = Value.type n
abbrev Vals : List V → List Value → Prop := Paired RelV
theorem Vals.length {xs : List V} {us : List Value} (r : Vals xs us) : xs.length = us.length := Paired.length r
theorem Vals.get : ∀ {xs : List V} {us : List Value} {i : Nat} {x : V}, Vals xs us → xs[i]? = some x → ∃ u, us[i]? = some u ∧ RelV x u
  | _, _, _, _, .nil, e => by simp at e
  | _, _, 0, _, .cons r _, e => by simp at e; subst e; exact ⟨_, rfl, r⟩
  | _, _, i + 1, x, .cons _ t, e => by
    obtain ⟨u, h1, h2⟩ := Vals.get (i := i) (x := x) t (by simpa using e)
    exact ⟨u, by simpa using h1, h2⟩
theorem Vals.set {x : V} {u : Value} (r : RelV x u) : ∀ {xs : List V} {us : List Value} (i : Nat), Vals xs us → Vals (xs.set i x) (us.set i u)
  | _, _, _, .nil => .nil
  | _, _, 0, .cons _ t => .cons r t
  | _, _, i + 1, .cons q t => .cons q (Vals.set r i t)
theorem Vals.append : ∀ {xs ys : List V} {us ws : List Value}, Vals xs us → Vals ys ws → Vals (xs ++ ys) (us ++ ws)
  | _, _, _, _, .nil, s => s
  | _, _, _, _, .cons r t, s => .cons r (Vals.append t s)
theorem Vals.take : ∀ {xs : List V} {us : List Value} (n : Nat), Vals xs us → Vals (xs.take n) (us.take n)
  | _, _, 0, _ => .nil
  | _, _, _ + 1, .nil => .nil
  | _, _, n + 1, .cons r t => .cons r (Vals.take n t)
theorem Vals.drop : ∀ {xs : List V} {us : List Value} (n : Nat), Vals xs us → Vals (xs.drop n) (us.drop n)
  | _, _, 0, r => r
  | _, _, _ + 1, .nil => .nil
  | _, _, n + 1, .cons _ t => Vals.drop n t
def RelO : Option V → Option Value → Prop
  | some v, some u => RelV v u
  | none, none => True
  | _, _ => False
def KV {κ : Type} : List (κ × V) → List (κ × Value) → Prop := Paired fun (p : κ × V) (q : κ × Value) => p.1 = q.1 ∧ RelV p.2 q.2
def kV : Key → V
  | .inl i => .int i
  | .inr x => .str x
inductive HO where
  /-- a list -/
  | lst (xs : List V)
  /-- a tuple (never changes) -/
  | tup (xs : List V)
  /-- a dict whose keys are ints and texts; one whose keys are tuples of ints and texts (the empty one is both) -/
  | dK (kvs : List (Key × V)) | dT (kvs : List (List Key × V))
  /-- a set of ints: its members, its size -/
  | set (S : Int → Bool) (n : Nat)
  /-- an instance of the class at C, its dict at dx, its attributes -/
  | ins (C dx : Addr) (fs : List (Str × V))
  /-- the dict of the instance at x -/
  | own (x : Addr)
  /-- the dict of an exception -/
  | xd (fs : List (Str × V))
  /-- a bound method, f of x -/
  | met (f x : Addr)
  /-- a range object lo, lo + 1, .. below hi -/
  | rng (lo hi : Int)
  /-- a thing that is known to the object (the script; a dict while a loop walks it): read, never written while it is so -/
  | frz (o : Obj) (u : HO)
  /-- a code object's table -/
  | tbl (ps : Array Value)
  /-- any other thing, by what is true of its one object (a def of one's own: SetO a S n := HO.ext fun h => ..) -/
  | ext (φ : Heap → Prop)
abbrev Hp := Addr → Option HO
def upd (H : Hp) (a : Addr) (o : HO) : Hp := fun b => if b = a then some o else H b
theorem upd_same {H : Hp} {a : Addr} {o : HO} : upd H a o a = some o := by unfold upd; rw [if_pos rfl]
theorem upd_ne {H : Hp} {a b : Addr} {o : HO} (h : b ≠ a) : upd H a o b = H b := by unfold upd; rw [if_neg h]
theorem upd_upd {H : Hp} {a : Addr} {o u : HO} : upd (upd H a o) a u = upd H a u := by
  funext b; unfold upd; split <;> rfl
theorem ne_of {H : Hp} {a b : Addr} {o u : HO} (h : H a = some o) (h' : H b = some u) (d : o ≠ u) : a ≠ b := by
  intro e; subst e; rw [h] at h'; exact d (Option.some.inj h')
theorem ne_of_none {H : Hp} {a b : Addr} {o : HO} (h : H a = some o) (h' : H b = none) : a ≠ b := by
  intro e; subst e; rw [h] at h'; cases h'
section
variable (P : Program) (w : World)
def ObjOk (H : Hp) (h : Heap) (a : Addr) : HO → Prop
  | .lst xs => xs.length ≤ sizeLine ∧ ∃ (its : List Value) (n : Nat), Vals xs its ∧ h.get? a = some { cls := .type "list", data := .seq its.toArray n }
  | .tup xs => xs.length ≤ sizeLine ∧ ∃ its : List Value, Vals xs its ∧ IsTup h a its.toArray
  | .dK kvs => kvs.length ≤ sizeLine ∧ (a == sysModules) = false ∧ ∃ vs, KV kvs vs ∧ h.DictOf (mixKind P w) a vs
  | .dT kvs => kvs.length ≤ sizeLine ∧ (a == sysModules) = false ∧ ∃ xs : List (List Key × Addr × Value),
      Paired (fun (p : List Key × V) (q : List Key × Addr × Value) => p.1 = q.1 ∧ H q.2.1 = some (.tup (p.1.map kV)) ∧ RelV p.2 q.2.2) kvs xs ∧
      ∃ o es ep, h.get? a = some o ∧ o.ExactDict ∧ o.data = .dict es ep ∧ es.toList = xs.map (entryOfKey (tupleKind (mixKind P w))) ∧ (xs.map (·.1)).Nodup
  | .set S n => h.SetOf (intKind P w) a S n
  | .ins C dx fs => H dx = some (.own a) ∧ fs.length ≤ 1000 ∧ dx ≠ a ∧ h.get? a = some (PySem.W.instObj C dx) ∧
      ∃ mA, h.Ns1 dx mA ∧ (∀ f, RelO (fs.lookup f) (mA f)) ∧ PySem.Within mA (fs.map (·.1))
  | .own _ => ∃ o, h.get? a = some o
  | .xd fs => ∃ mA, h.Ns1 a mA ∧ ∀ f, RelO (fs.lookup f) (mA f)
  | .rng lo hi => ∃ t u v, h.get? a = some { cls := .type "range", data := .fields #[.int lo t, .int hi u, .int 1 v] }
  | .frz o u => h.get? a = some o ∧ ObjOk H h a u
  | .tbl ps => h.get? a = some { cls := .none, data := .fields ps }
  | .met f x => h.get? a = some (PySem.W.methodObj (.ref f) (.ref x))
  | .ext φ => φ h ∧ (∃ o, h.get? a = some o) ∧ ∀ h1 h2 : Heap, φ h1 → (∀ o, h1.get? a = some o → h2.get? a = some o) → φ h2
def HOk (H : Hp) (h : Heap) : Prop := ∀ a o, H a = some o → ObjOk P w H h a o
end
section
variable {P : Program} {w : World} {H H' : Hp} {h h' : Heap} {a : Addr} {o : HO}
theorem ObjOk.lt (x : ObjOk P w H h a o) : a < h.objs.size := by
  cases o with
  | lst xs => obtain ⟨_, _, _, _, e⟩ := x; exact Heap.lt_size e
  | tup xs => obtain ⟨_, _, _, p⟩ := x; exact p.lt
  | dK kvs => obtain ⟨_, _, _, _, o, _, _, e, _⟩ := x; exact Heap.lt_size e
  | dT kvs => obtain ⟨_, _, _, _, o, _, _, e, _⟩ := x; exact Heap.lt_size e
  | set S n => obtain ⟨o, _, _, _, e, _⟩ := x; exact Heap.lt_size e
  | ins C dx fs => obtain ⟨_, _, _, e, _⟩ := x; exact Heap.lt_size e
  | own y => obtain ⟨_, e⟩ := x; exact Heap.lt_size e
  | xd fs => obtain ⟨_, ⟨_, _, _, e, _⟩, _⟩ := x; exact Heap.lt_size e
  | rng lo hi => obtain ⟨_, _, _, e⟩ := x; exact Heap.lt_size e
  | frz ob u => obtain ⟨e, _⟩ := x; exact Heap.lt_size e
  | tbl ps => exact Heap.lt_size (show h.get? a = some _ from x)
  | met f y => exact Heap.lt_size (show h.get? a = some _ from x)
  | ext φ => obtain ⟨_, ⟨_, e⟩, _⟩ := x; exact Heap.lt_size e
theorem Paired.mapP {α β : Type} {F G : α → β → Prop} : ∀ {l₁ : List α} {l₂ : List β}, Paired F l₁ l₂ → (∀ a b, F a b → G a b) → Paired G l₁ l₂
  | _, _, .nil, _ => .nil
  | _, _, .cons r t, f => .cons (f _ _ r) (Paired.mapP t f)
theorem ObjOk.stay (x : ObjOk P w H h a o) (k : ∀ b u, (b = a ∨ H b = some (.own a)) → h.get? b = some u → h'.get? b = some u)
    (ho : ∀ b, H b = some (.own a) → H' b = some (.own a)) (ht : ∀ b xs, H b = some (.tup xs) → H' b = some (.tup xs)) : ObjOk P w H' h' a o := by
  induction o with
  | lst xs => obtain ⟨z, its, n, r, e⟩ := x; exact ⟨z, its, n, r, k _ _ (.inl rfl) e⟩
  | tup xs => obtain ⟨z, its, r, ob, e, c⟩ := x; exact ⟨z, its, r, ob, k _ _ (.inl rfl) e, c⟩
  | dK kvs => obtain ⟨z, y, vs, r, ob, es, ep, e, c⟩ := x; exact ⟨z, y, vs, r, ob, es, ep, k _ _ (.inl rfl) e, c⟩
  | dT kvs =>
    obtain ⟨z, y, xs, r, ob, es, ep, e, c⟩ := x
    exact ⟨z, y, xs, Paired.mapP r fun p q z => ⟨z.1, ht _ _ z.2.1, z.2.2⟩, ob, es, ep, k _ _ (.inl rfl) e, c⟩
  | set S n => obtain ⟨ob, es, ep, t, e, c⟩ := x; exact ⟨ob, es, ep, t, k _ _ (.inl rfl) e, c⟩
  | ins C dx fs =>
    obtain ⟨d, z, ne, e, mA, ⟨od, es, ep, e2, c⟩, r⟩ := x
    exact ⟨ho _ d, z, ne, k _ _ (.inl rfl) e, mA, ⟨od, es, ep, k _ _ (.inr d) e2, c⟩, r⟩
  | own y => obtain ⟨ob, e⟩ := x; exact ⟨ob, k _ _ (.inl rfl) e⟩
  | xd fs => obtain ⟨mA, ⟨od, es, ep, e, c⟩, r⟩ := x; exact ⟨mA, ⟨od, es, ep, k _ _ (.inl rfl) e, c⟩, r⟩
  | rng lo hi => obtain ⟨t, u, v, e⟩ := x; exact ⟨t, u, v, k _ _ (.inl rfl) e⟩
  | frz ob u ih => obtain ⟨e, q⟩ := x; exact ⟨k _ _ (.inl rfl) e, ih q⟩
  | tbl ps =>
    have e : h.get? a = some { cls := .none, data := .fields ps } := x
    show h'.get? a = some { cls := .none, data := .fields ps }
    exact k a _ (.inl rfl) e
  | met f y =>
    have e : h.get? a = some (PySem.W.methodObj (.ref f) (.ref y)) := x
    show h'.get? a = some (PySem.W.methodObj (.ref f) (.ref y))
    exact k a _ (.inl rfl) e
  | ext φ => obtain ⟨p, ⟨o, e⟩, st⟩ := x; exact ⟨st _ _ p fun o q => k _ _ (.inl rfl) q, ⟨o, k _ _ (.inl rfl) e⟩, st⟩
theorem HOk.lt (x : HOk P w H h) (e : H a = some o) : a < h.objs.size := (x a o e).lt
theorem HOk.fresh (x : HOk P w H h) (e : h.objs.size ≤ a) : H a = none := by
  cases q : H a with
  | none => rfl
  | some u => exact absurd (Nat.lt_of_lt_of_le (x.lt q) e) (Nat.lt_irrefl _)
theorem HOk.kept (x : HOk P w H h) (k : ∀ b u, h.get? b = some u → h'.get? b = some u) : HOk P w H h' := fun a o e =>
  (x a o e).stay (fun b u _ q => k b u q) (fun _ q => q) fun _ _ q => q
theorem HOk.laid (x : HOk P w H h) (k : ∀ b u, h.get? b = some u → h'.get? b = some u) (hp : h.objs.size ≤ a) (new : ObjOk P w (upd H a o) h' a o) : HOk P w (upd H a o) h' := fun b u e => by
  have hn := x.fresh hp
  by_cases hb : b = a
  · subst hb; rw [upd_same] at e; cases e; exact new
  · rw [upd_ne hb] at e
    exact (x b u e).stay (fun c v _ q => k c v q) (fun c q => by rw [upd_ne (ne_of_none q hn)]; exact q) fun c xs q => by rw [upd_ne (ne_of_none q hn)]; exact q
end
def Rd (H : Hp) (a : Addr) (u : HO) : Prop := H a = some u ∨ ∃ o, H a = some (.frz o u)
theorem Rd.of {H : Hp} {a : Addr} {u : HO} (h : H a = some u) : Rd H a u := .inl h
theorem Rd.ok {P : Program} {w : World} {H : Hp} {h : Heap} {a : Addr} {u : HO} (r : Rd H a u) (x : HOk P w H h) : ObjOk P w H h a u := by
  rcases r with r | ⟨o, r⟩
  · exact x a u r
  · obtain ⟨_, q⟩ := x a _ r
    exact q
def Mut : Option HO → Prop
  | some (.lst _) => True
  | some (.dK _) => True
  | some (.dT _) => True
  | some (.set _ _) => True
  | some (.ins _ _ _) => True
  | some (.ext _) => True
  | _ => False
section
variable {P : Program} {w : World} {H : Hp} {h h' : Heap} {x e : Addr} {o' : HO}
theorem HOk.write (ok : HOk P w H h) (mu : Mut (H x)) (he : e = x ∨ H e = some (.own x)) (k : ∀ b u, b ≠ e → h.get? b = some u → h'.get? b = some u) (heo : ∃ u, h'.get? e = some u)
    (new : ObjOk P w (upd H x o') h' x o') : HOk P w (upd H x o') h' := fun b u q => by
  have nown : ∀ c y, H c = some (.own y) → c ≠ x := fun c y r z => by subst z; rw [r] at mu; exact mu
  have ntup : ∀ c xs, H c = some (.tup xs) → c ≠ x := fun c xs r z => by subst z; rw [r] at mu; exact mu
  by_cases hb : b = x
  · subst hb; rw [upd_same] at q; cases q; exact new
  · rw [upd_ne hb] at q
    by_cases hbe : b = e
    · have q' : H b = some (.own x) := by
        rcases he with z | z
        · exact absurd (hbe.trans z) hb
        · rw [hbe]; exact z
      rw [q] at q'; cases q'
      obtain ⟨v, hv⟩ := heo
      exact ⟨v, by rw [hbe]; exact hv⟩
    · refine (ok b u q).stay (fun c v hc r => k c v ?_ r) (fun c r => by rw [upd_ne (nown c b r)]; exact r) fun c xs r => by rw [upd_ne (ntup c xs r)]; exact r
      rcases hc with rfl | hc
      · exact hbe
      · rintro rfl
        rcases he with z | z
        · exact nown c b hc z
        · rw [hc] at z; cases z; exact hb rfl
end
structure Un (fs ex : List Addr) (H H' : Hp) (h h' : Heap) : Prop where
  keep : ∀ b o, h.get? b = some o → H b = none → b ∉ fs → b ∉ ex → h'.get? b = some o
  slot : ∀ b o, h.get? b = some o → H b = none → b ∈ fs → b ∉ ex → ∃ sl, h'.get? b = some { o with slots := sl }
  free : ∀ b o, h.get? b = some o → H b = none → b ∉ ex → H' b = none
  there : ∀ b o, h.get? b = some o → b ∉ ex → ∃ o', h'.get? b = some o'
  tups : ∀ b xs, H b = some (.tup xs) → H' b = some (.tup xs)
  frzs : ∀ b o u, H b = some (.frz o u) → H' b = some (.frz o u)
  tbls : ∀ b ps, H b = some (.tbl ps) → ∃ more, H' b = some (.tbl (ps ++ more))
section
variable {fs fs' ex ex' : List Addr} {H H1 H2 : Hp} {h h1 h2 h' : Heap} {a x e : Addr} {o : HO}
theorem Un.any (u : Un fs ex H H1 h h1) {b : Addr} {ob : Obj} (q : h.get? b = some ob) (n : H b = none) (hx : b ∉ ex) : ∃ sl, h1.get? b = some { ob with slots := sl } := by
  by_cases hb : b ∈ fs
  · exact u.slot b ob q n hb hx
  · exact ⟨ob.slots, u.keep b ob q n hb hx⟩
theorem Un.kept (k : ∀ b u, h.get? b = some u → h'.get? b = some u) : Un fs ex H H h h' :=
  ⟨fun b ob q _ _ _ => k b ob q, fun b ob q _ _ _ => ⟨ob.slots, k b ob q⟩, fun _ _ _ n _ => n, fun b ob q _ => ⟨ob, k b ob q⟩, fun _ _ q => q, fun _ _ _ q => q, fun _ ps q => ⟨#[], by rw [q]; simp⟩⟩
theorem Un.refl : Un fs ex H H h h := Un.kept fun _ _ q => q
theorem Un.laid (k : ∀ b u, h.get? b = some u → h'.get? b = some u) (hp : h.objs.size ≤ a) (hn : H a = none) : Un fs ex H (upd H a o) h h' where
  keep := fun b u q _ _ _ => k b u q
  slot := fun b u q _ _ _ => ⟨u.slots, k b u q⟩
  free := fun b u q n _ => by rw [upd_ne (Nat.ne_of_lt (Nat.lt_of_lt_of_le (Heap.lt_size q) hp))]; exact n
  there := fun b u q _ => ⟨u, k b u q⟩
  tups := fun b xs q => by rw [upd_ne (ne_of_none q hn)]; exact q
  frzs := fun b u xs q => by rw [upd_ne (ne_of_none q hn)]; exact q
  tbls := fun b ps q => ⟨#[], by rw [upd_ne (ne_of_none q hn), q]; simp⟩
theorem Un.write (mu : Mut (H x)) (he : e = x ∨ H e = some (.own x)) (k : ∀ b u, b ≠ e → h.get? b = some u → h'.get? b = some u) (heo : ∃ u, h'.get? e = some u) : Un fs ex H (upd H x o) h h' := by
  have hx : ∀ b, H b = none → b ≠ x := fun b n z => by subst z; rw [n] at mu; exact mu
  have hb : ∀ b, H b = none → b ≠ e := fun b n z => by
    subst z
    rcases he with r | r
    · exact hx b n r
    · rw [n] at r; cases r
  have hm : ∀ b u, H b = some u → ¬ Mut (some u) → b ≠ x := fun b u q nm z => by subst z; rw [q] at mu; exact nm mu
  refine ⟨fun b u q n _ _ => k b u (hb b n) q, fun b u q n _ _ => ⟨u.slots, k b u (hb b n) q⟩, fun b u q n _ => by rw [upd_ne (hx b n)]; exact n, fun b u q _ => ?_,
    fun b xs q => by rw [upd_ne (hm b _ q fun z => z)]; exact q, fun b u xs q => by rw [upd_ne (hm b _ q fun z => z)]; exact q, fun b ps q => ⟨#[], by rw [upd_ne (hm b _ q fun z => z), q]; simp⟩⟩
  by_cases hbe : b = e
  · subst hbe; exact heo
  · exact ⟨u, k b u hbe q⟩
end
def trk (h : Heap) (H : Hp) : List Addr := (List.range h.objs.size).filter fun a => (H a).isSome
def hidT (h : Heap) (H : Hp) : Heap := PySem.W.hideAll h (trk h H)
theorem hidT_size (h : Heap) (H : Hp) : (hidT h H).objs.size = h.objs.size := PySem.W.hideAll_size _ _
theorem hidT_get {h : Heap} {H : Hp} {b : Addr} {o : Obj} (e : h.get? b = some o) (n : H b = none) : (hidT h H).get? b = some o :=
  PySem.W.hideAll_get _ e fun hm => by
    have q : (H b).isSome = true := (List.mem_filter.mp hm).2
    rw [n] at q; simp at q
theorem of_hidT {h : Heap} {H : Hp} {b : Addr} {o : Obj} (e : (hidT h H).get? b = some o) : h.get? b = some o ∧ H b = none := by
  have e' : h.get? b = some o := PySem.W.of_hideAll (trk h H) e
  refine ⟨e', ?_⟩
  cases q : H b with
  | none => rfl
  | some x =>
    have hm : b ∈ trk h H := List.mem_filter.mpr ⟨List.mem_range.mpr (Heap.lt_size e'), by simp [q]⟩
    have z : (hidT h H).get? b = none := PySem.W.hideAll_none (trk h H) hm
    rw [z] at e; cases e
def allNews (g h : Heap) (L : Addr) : List (Addr × Obj) := (List.range h.objs.size).filterMap fun a => if a = L ∨ (g.get? a).isSome = true then none else (h.get? a).map fun o => (a, o)
def rest (g h : Heap) (L d : Addr) : List (Addr × Obj) := (allNews g h L).filter fun p => decide (p.1 ≠ d)
end L2
namespace L2
open PySem PySem.Spec PyProof.Rows
structure Mod (K : PySem.W.Frag) (mg : Str → Option Value) (base : Heap) : Prop where
  kin : K.In base
  glob : base.Ns mainGlobals mg
  blt : ∃ mb, base.Ns builtinsNs mb ∧ ∀ x : Str, x ≠ "__name__" → mb x = bootBuiltins x
  nolimit : base.NoLimit
structure Cx where
  prog : Program
  w : World
  K : PySem.W.Frag
  mg : Str → Option Value
  base : Heap
  A : Around
  N : List Str
  s₀ : Shared
  H₀ : Hp
  env : Env
  outer : List Env
  stack : List Env
  ex : List Addr
  fn : Str → Bool
  calm : Bool
  pn : List (Addr × Obj)
  xe : Value → Shared → Prop
def frs (l : List Env) : List Addr := l.filterMap (·.frame)
abbrev Cx.fs (X : Cx) : List Addr := frs X.outer
def Vis (sc : Scope) (x : Str) : Prop := sc.names.lookup x = some .local ∨ sc.names.lookup x = some .cell ∨ sc.names.lookup x = some .free
def Loc (sc : Scope) (x : Str) : Prop := sc.names.lookup x = some .local ∨ sc.names.lookup x = some .cell
def Look (env : Env) (h : Heap) (m : Str → Option Value) (x : Str) (u : Value) : Prop :=
  (env.kindOf x = some .local ∧ m x = some u) ∨ ((env.kindOf x = some .cell ∨ env.kindOf x = some .free) ∧ ∃ c, env.cells.lookup x = some c ∧ h.IsCell c (some u))
structure Cx.Ok (X : Cx) : Prop where
  mod : Mod X.K X.mg X.base
  kind : X.env.scope.kind = .function
  glob : X.env.globals = mainGlobals
  blt : X.env.builtins = builtinsNs
  above : X.s₀.heap.objs.size ≤ X.env.locals
  inj : ∀ x y c, X.env.cells.lookup x = some c → X.env.cells.lookup y = some c → x = y
  has : ∀ x, (X.env.kindOf x = some .cell ∨ X.env.kindOf x = some .free) → ∃ c, X.env.cells.lookup x = some c
  cab : ∀ x c, X.fn x = true → X.env.cells.lookup x = some c → X.s₀.heap.objs.size ≤ c
  hd : X.calm = true → X.A.handled = none
  frames : X.A.frames = some X.stack
  stk : X.stack = X.outer ∨ (X.stack = X.env :: X.outer ∧ X.env.frame = some X.env.locals)
  exf : ∀ b ∈ X.ex, b ≠ X.env.locals ∧ ∀ x c, X.env.cells.lookup x = some c → c ≠ b
  bs : ∀ b o, X.base.get? b = some o → X.s₀.heap.get? b = some o ∧ X.H₀ b = none
  bsz : X.base.objs.size ≤ X.s₀.heap.objs.size
  noex : ∀ b o, X.base.get? b = some o → b ∉ X.ex
  exfs : ∀ b ∈ X.ex, b ∉ X.fs
  funs : X.s₀.heap.FunFrames X.base X.outer
  frf : ∀ b ∈ X.fs, X.H₀ b = none
structure Inv (X : Cx) (pins : List (Addr × Obj)) (σ : List (Option V)) (H : Hp) (s : Shared) : Prop where
  ok : X.Ok
  os : s.os = X.s₀.os
  bare : AllBare s.gens
  base : Un X.fs X.ex X.H₀ H X.s₀.heap s.heap
  loc : ∃ m, s.heap.Ns X.env.locals m ∧ ∀ (i : Nat) (x : Str) (v : V), X.N[i]? = some x → σ[i]? = some (some v) → Vis X.env.scope x → ∃ u, RelV v u ∧ Look X.env s.heap m x u
  cell : ∀ x c, X.env.cells.lookup x = some c → ∃ v, s.heap.IsCell c v
  free : H X.env.locals = none
  freeC : ∀ x c, X.env.cells.lookup x = some c → H c = none
  pin : ∀ p ∈ X.pn ++ pins, s.heap.get? p.1 = some p.2 ∧ H p.1 = none ∧ p.1 ≠ X.env.locals ∧ p.1 ∉ X.fs ∧ ∀ v, p.2.data ≠ .cell v
  hok : HOk X.prog X.w H s.heap
  len : σ.length = X.N.length
section
variable {X : Cx} {pins : List (Addr × Obj)} {σ : List (Option V)} {H H' : Hp} {s : Shared} {h' : Heap}
theorem Cx.Ok.nofr (ok : X.Ok) {b : Addr} {o : Obj} (e : X.base.get? b = some o) : b ∉ X.fs := fun hb => by
  have := (ok.funs.mem hb).1
  rw [e] at this; cases this
theorem Inv.bs (I : Inv X pins σ H s) : ∀ b o, X.base.get? b = some o → s.heap.get? b = some o ∧ H b = none := fun b o e =>
  ⟨I.base.keep b o (I.ok.bs b o e).1 (I.ok.bs b o e).2 (I.ok.nofr e) (I.ok.noex b o e), I.base.free b o (I.ok.bs b o e).1 (I.ok.bs b o e).2 (I.ok.noex b o e)⟩
theorem Inv.bk (I : Inv X pins σ H s) : ∀ b o, X.base.get? b = some o → s.heap.get? b = some o := fun b o e => (I.bs b o e).1
theorem Inv.mod (I : Inv X pins σ H s) : Mod X.K X.mg X.base := I.ok.mod
theorem Inv.kIn (I : Inv X pins σ H s) : X.K.In s.heap := I.ok.mod.kin.keeps I.bk
theorem Inv.lt (I : Inv X pins σ H s) : X.env.locals < s.heap.objs.size := let ⟨_, hn, _⟩ := I.loc; hn.lt
theorem Inv.sz (I : Inv X pins σ H s) : X.s₀.heap.objs.size ≤ s.heap.objs.size := Nat.le_trans I.ok.above (Nat.le_of_lt I.lt)
theorem Inv.nofs (I : Inv X pins σ H s) {a : Addr} (h : s.heap.objs.size ≤ a) : a ∉ X.fs := fun hb => by
  obtain ⟨_, o, ho, _⟩ := I.ok.funs.mem hb
  exact absurd (Nat.lt_of_lt_of_le (Heap.lt_size ho) (Nat.le_trans I.sz h)) (Nat.lt_irrefl _)
theorem Inv.cne (I : Inv X pins σ H s) : ∀ x c, X.env.cells.lookup x = some c → c ≠ X.env.locals := fun x c e z => by
  obtain ⟨v, o, ho, hd⟩ := I.cell x c e
  obtain ⟨m, ⟨o', es, ep, ho', hd', _⟩, _⟩ := I.loc
  rw [z, ho'] at ho; cases ho; rw [hd'] at hd; cases hd
theorem Inv.funs (I : Inv X pins σ H s) : s.heap.FunFrames X.base X.outer := by
  have all : ∀ (l : List Env), (∀ b ∈ frs l, b ∈ X.fs) → X.s₀.heap.FunFrames X.base l → s.heap.FunFrames X.base l := by
    intro l
    induction l with
    | nil => intro _ _; trivial
    | cons env r ih =>
      intro hs hl
      obtain ⟨hk, ⟨L, o, hf, hn, ho, hd⟩, hr⟩ := hl
      have hL : L ∈ X.fs := hs L (by unfold frs; rw [List.filterMap_cons, hf]; exact List.mem_cons_self)
      obtain ⟨sl, e⟩ := I.base.slot L o ho (I.ok.frf L hL) hL fun z => I.ok.exfs L z hL
      exact ⟨hk, ⟨L, _, hf, hn, e, hd⟩, ih (fun b hb => hs b (by unfold frs; rw [List.filterMap_cons, hf]; exact List.mem_cons_of_mem _ hb)) hr⟩
  exact all X.outer (fun _ hb => hb) I.ok.funs
theorem Inv.stack (I : Inv X pins σ H s) : s.heap.FunFrames X.base X.stack := by
  rcases I.ok.stk with e | ⟨e, hf⟩
  · rw [e]; exact I.funs
  · rw [e]
    obtain ⟨m, hn, _⟩ := I.loc
    refine .cons (by rw [I.ok.kind]; decide) hf hn ?_ I.funs
    exact Heap.get?_none_of_le (Nat.le_trans I.ok.bsz I.ok.above)
theorem Inv.stkSub (I : Inv X pins σ H s) : ∀ b ∈ frs X.stack, b ∈ X.env.locals :: X.fs := fun b hb => by
  rcases I.ok.stk with e | ⟨e, hf⟩
  · rw [e] at hb; exact List.mem_cons_of_mem _ hb
  · rw [e] at hb
    unfold frs at hb
    rw [List.filterMap_cons, hf] at hb
    exact hb
theorem Inv.stkFree (I : Inv X pins σ H s) : ∀ b ∈ frs X.stack, H b = none := fun b hb => by
  rcases List.mem_cons.mp (I.stkSub b hb) with e | hb
  · rw [e]; exact I.free
  · obtain ⟨_, o, ho, _⟩ := I.ok.funs.mem hb
    exact I.base.free b o ho (I.ok.frf b hb) fun z => I.ok.exfs b z hb
theorem Inv.step {g' : Array GenState} {t' : Nat} {d' : Drawn} {ch : List Addr} (I : Inv X pins σ H s)
    (hch : ∀ b ∈ ch, (b ∈ X.ex ∨ X.s₀.heap.objs.size ≤ b) ∧ b ≠ X.env.locals ∧ (∀ x c, X.env.cells.lookup x = some c → c ≠ b) ∧ ∀ p ∈ X.pn ++ pins, p.1 ≠ b)
    (keep : ∀ b o, b ≠ X.env.locals → b ∉ X.fs → b ∉ ch → s.heap.get? b = some o → H b = none → h'.get? b = some o)
    (slot : ∀ b o, b ≠ X.env.locals → b ∈ X.fs → b ∉ ch → s.heap.get? b = some o → H b = none → ∃ sl, h'.get? b = some { o with slots := sl }) (free : ∀ b o, b ∉ ch → s.heap.get? b = some o → H b = none → H' b = none)
    (there : ∀ b o, b ∉ ch → s.heap.get? b = some o → ∃ o', h'.get? b = some o')
    (tups : ∀ b xs, H b = some (.tup xs) → H' b = some (.tup xs)) (frzs : ∀ b o u, H b = some (.frz o u) → H' b = some (.frz o u)) (tbls : ∀ b ps, H b = some (.tbl ps) → ∃ more, H' b = some (.tbl (ps ++ more)))
    (ns : ∀ m, s.heap.Ns X.env.locals m → h'.Ns X.env.locals m) (hok : HOk X.prog X.w H' h') (hg : AllBare g') :
    Inv X pins σ H' { s with heap := h', gens := g', drawn := d', toks := t' } := by
  have neL : ∀ b o, X.s₀.heap.get? b = some o → b ≠ X.env.locals := fun b o e => Nat.ne_of_lt (Nat.lt_of_lt_of_le (Heap.lt_size e) I.ok.above)
  have neC : ∀ b o, X.s₀.heap.get? b = some o → b ∉ X.ex → b ∉ ch := fun b o e hx hb => by
    rcases (hch b hb).1 with z | z
    · exact hx z
    · exact absurd (Nat.lt_of_lt_of_le (Heap.lt_size e) z) (Nat.lt_irrefl _)
  have cellK : ∀ x c, X.env.cells.lookup x = some c → ∀ v, s.heap.IsCell c v → h'.IsCell c v := fun x c e v ⟨o, ho, hd⟩ => by
    have nch : c ∉ ch := fun z => (hch c z).2.2.1 x c e rfl
    by_cases hc : c ∈ X.fs
    · obtain ⟨sl, q⟩ := slot c o (I.cne x c e) hc nch ho (I.freeC x c e)
      exact ⟨_, q, hd⟩
    · exact ⟨o, keep c o (I.cne x c e) hc nch ho (I.freeC x c e), hd⟩
  refine ⟨I.ok, I.os, hg, ⟨fun b o e n hb hx => ?_, fun b o e n hb hx => ?_, fun b o e n hx => ?_, fun b o e hx => ?_, fun b xs e => tups b xs (I.base.tups b xs e), fun b o xs e => frzs b o xs (I.base.frzs b o xs e), fun b ps e => ?_⟩, ?_, fun x c e => ?_, ?_, fun x c e => ?_, fun p hp => ?_, hok, I.len⟩
  · exact keep b o (neL b o e) hb (neC b o e hx) (I.base.keep b o e n hb hx) (I.base.free b o e n hx)
  · obtain ⟨sl, e1⟩ := I.base.slot b o e n hb hx
    obtain ⟨sl', e2⟩ := slot b _ (neL b o e) hb (neC b o e hx) e1 (I.base.free b o e n hx)
    exact ⟨sl', e2⟩
  · obtain ⟨o', e1⟩ := I.base.there b o e hx
    exact free b o' (neC b o e hx) e1 (I.base.free b o e n hx)
  · obtain ⟨o', e1⟩ := I.base.there b o e hx
    exact there b o' (neC b o e hx) e1
  · obtain ⟨m1, e1⟩ := I.base.tbls b ps e
    obtain ⟨m2, e2⟩ := tbls b _ e1
    exact ⟨m1 ++ m2, by rw [e2, Array.append_assoc]⟩
  · obtain ⟨m, hn, hl⟩ := I.loc
    refine ⟨m, ns m hn, fun i x v e1 e2 e3 => ?_⟩
    obtain ⟨u, r, l⟩ := hl i x v e1 e2 e3
    refine ⟨u, r, ?_⟩
    rcases l with l | ⟨k, c, e, z⟩
    · exact .inl l
    · exact .inr ⟨k, c, e, cellK x c e _ z⟩
  · obtain ⟨v, z⟩ := I.cell x c e
    exact ⟨v, cellK x c e v z⟩
  · obtain ⟨m, ⟨o, _, _, ho, _⟩, _⟩ := I.loc
    exact free _ o (fun z => (hch _ z).2.1 rfl) ho I.free
  · obtain ⟨v, o, ho, hd⟩ := I.cell x c e
    exact free c o (fun z => (hch c z).2.2.1 x c e rfl) ho (I.freeC x c e)
  · obtain ⟨e, n, ne, nf, d⟩ := I.pin p hp
    have nch : p.1 ∉ ch := fun z => (hch p.1 z).2.2.2 p hp rfl
    exact ⟨keep p.1 p.2 ne nf nch e n, free p.1 p.2 nch e n, ne, nf, d⟩
theorem Inv.un {t' : Nat} (I : Inv X pins σ H s) (u : Un X.fs [] H H' s.heap h') (hok : HOk X.prog X.w H' h') : Inv X pins σ H' { s with heap := h', toks := t' } := by
  obtain ⟨m, ⟨o, es, ep, ho, r⟩, _⟩ := id I.loc
  obtain ⟨sl, hL⟩ := u.any ho I.free (by simp)
  exact I.step (g' := s.gens) (d' := s.drawn) (ch := []) (fun _ z => nomatch z) (fun b o _ hb _ e n => u.keep b o e n hb (by simp)) (fun b o _ hb _ e n => u.slot b o e n hb (by simp)) (fun b o _ e n => u.free b o e n (by simp)) (fun b o _ e => u.there b o e (by simp)) u.tups u.frzs u.tbls (fun m' hm => by
    obtain ⟨o', es', ep', ho', r'⟩ := hm
    rw [ho] at ho'; cases ho'
    exact ⟨_, es', ep', hL, r'⟩) hok I.bare
theorem Inv.call {g' : Array GenState} {t' : Nat} {d' : Drawn} {ch : List Addr} (I : Inv X pins σ H s) (u : Un (frs X.stack) ch H H' s.heap h') (hok : HOk X.prog X.w H' h') (hg : AllBare g')
    (hch : ∀ b ∈ ch, (b ∈ X.ex ∨ X.s₀.heap.objs.size ≤ b) ∧ b ≠ X.env.locals ∧ (∀ x c, X.env.cells.lookup x = some c → c ≠ b) ∧ ∀ p ∈ X.pn ++ pins, p.1 ≠ b) :
    Inv X pins σ H' { s with heap := h', gens := g', drawn := d', toks := t' } := by
  obtain ⟨m, ⟨o, es, ep, ho, r⟩, _⟩ := id I.loc
  obtain ⟨sl, hL⟩ := u.any ho I.free fun z => (hch _ z).2.1 rfl
  exact I.step (ch := ch) hch (fun b o hL hb hc e n => u.keep b o e n (fun z => (List.mem_cons.mp (I.stkSub b z)).elim hL hb) hc) (fun b o _ _ hc e n => u.any e n hc) (fun b o hc e n => u.free b o e n hc) (fun b o hc e => u.there b o e hc) u.tups u.frzs u.tbls (fun m' hm => by
    obtain ⟨o', es', ep', ho', r'⟩ := hm
    rw [ho] at ho'; cases ho'
    exact ⟨_, es', ep', hL, r'⟩) hok hg
theorem Inv.turned {t' : Nat} {it : Addr} (I : Inv X pins σ H s) (k : ∀ b o, b ≠ it → s.heap.get? b = some o → h'.get? b = some o) (hn : H it = none) (hL : it ≠ X.env.locals)
    (h1 : it ∈ X.ex ∨ X.s₀.heap.objs.size ≤ it) (h2 : ∀ x c, X.env.cells.lookup x = some c → c ≠ it) (h3 : ∀ p ∈ X.pn ++ pins, p.1 ≠ it) : Inv X pins σ H { s with heap := h', toks := t' } := by
  have nit : ∀ b u, H b = some u → b ≠ it := fun b u e z => by rw [z, hn] at e; cases e
  refine I.step (g' := s.gens) (d' := s.drawn) (ch := [it]) (fun b hb => ?_) (fun b o _ _ hc e _ => k b o (fun z => hc (by simp [z])) e) (fun b o _ _ hc e _ => ⟨o.slots, k b o (fun z => hc (by simp [z])) e⟩) (fun _ _ _ _ n => n)
    (fun b o hc e => ⟨o, k b o (fun z => hc (by simp [z])) e⟩) (fun _ _ e => e) (fun _ _ _ e => e) (fun b ps e => ⟨#[], by rw [e]; simp⟩) (fun m hm => ?_) (fun b u e => ?_) I.bare
  · have e : b = it := by simpa using hb
    subst e
    exact ⟨h1, hL, h2, h3⟩
  · obtain ⟨o, es, ep, ho, r⟩ := hm
    exact ⟨o, es, ep, k _ o (Ne.symm hL) ho, r⟩
  · refine (I.hok b u e).stay (fun c v hc q => k c v ?_ q) (fun _ q => q) fun _ _ q => q
    rcases hc with z | z
    · rw [z]; exact nit b u e
    · exact nit c _ z
theorem Inv.tok (I : Inv X pins σ H s) (t : Nat) : Inv X pins σ H { s with toks := t } := I.un (h' := s.heap) (t' := t) Un.refl I.hok
theorem Inv.kept {t' : Nat} (I : Inv X pins σ H s) (k : ∀ b u, s.heap.get? b = some u → h'.get? b = some u) : Inv X pins σ H { s with heap := h', toks := t' } := I.un (Un.kept k) (I.hok.kept k)
theorem Inv.laid {a : Addr} {o : HO} {t' : Nat} (I : Inv X pins σ H s) (k : ∀ b u, s.heap.get? b = some u → h'.get? b = some u) (hp : s.heap.objs.size ≤ a) (new : ObjOk X.prog X.w (upd H a o) h' a o) :
    Inv X pins σ (upd H a o) { s with heap := h', toks := t' } := I.un (Un.laid k hp (I.hok.fresh hp)) (I.hok.laid k hp new)
theorem Inv.write {x e : Addr} {o : HO} {t' : Nat} (I : Inv X pins σ H s) (mu : Mut (H x)) (he : e = x ∨ H e = some (.own x)) (k : ∀ b u, b ≠ e → s.heap.get? b = some u → h'.get? b = some u) (heo : ∃ u, h'.get? e = some u)
    (new : ObjOk X.prog X.w (upd H x o) h' x o) : Inv X pins σ (upd H x o) { s with heap := h', toks := t' } := I.un (Un.write mu he k heo) (I.hok.write mu he k heo new)
theorem Inv.pins_of {pins' : List (Addr × Obj)} (I : Inv X pins σ H s) (h : ∀ p ∈ pins', s.heap.get? p.1 = some p.2 ∧ H p.1 = none ∧ p.1 ≠ X.env.locals ∧ p.1 ∉ X.fs ∧ ∀ v, p.2.data ≠ .cell v) : Inv X pins' σ H s :=
  ⟨I.ok, I.os, I.bare, I.base, I.loc, I.cell, I.free, I.freeC, fun p hp => (List.mem_append.mp hp).elim (fun z => I.pin p (List.mem_append_left _ z)) (h p), I.hok, I.len⟩
theorem nodup_ix {N : List Str} (hN : N.Nodup) {i j : Nat} {x : Str} (a : N[i]? = some x) (b : N[j]? = some x) : i = j := by
  obtain ⟨h1, e1⟩ := List.getElem?_eq_some_iff.mp a
  obtain ⟨h2, e2⟩ := List.getElem?_eq_some_iff.mp b
  exact (List.getElem_inj hN).mp (e1.trans e2.symm)
theorem store_ok2 {M : Model} {A : Around} {E : Value → Shared → Prop} {i : Nat} {x : Str} {v : V} {u : Value} {Q : Unit → Shared → Prop} (I : Inv X pins σ H s) (hN : X.N.Nodup) (hi : X.N[i]? = some x) (hx : Loc X.env.scope x) (r : RelV v u)
    (h : ∀ s', Inv X pins (σ.set i (some v)) H s' → (∃ a, Heap.SameBut a s.heap s'.heap ∧ (a = X.env.locals ∨ X.env.cells.lookup x = some a)) → Q () s') (hf : X.fn x = true ∨ X.env.scope.names.lookup x = some .local := by first | exact .inl rfl | exact .inr rfl | assumption) : wpAny M A (storeName X.env x u) Q E s := by
  obtain ⟨m, hn, hl⟩ := id I.loc
  have hcls : (X.env.scope.kind == .class || (X.env.scope.kind == .module && X.env.locals != X.env.globals)) = false := by rw [I.ok.kind]; rfl
  have hiσ : i < σ.length := by rw [I.len]; exact (List.getElem?_eq_some_iff.mp hi).1
  have cne := I.cne
  have tracked : ∀ {a : Addr} {h' : Heap}, (∃ o, s.heap.get? a = some o ∧ H a = none) → Heap.SameBut a s.heap h' → HOk X.prog X.w H h' := fun {a h'} ha hs b ob e => by
    obtain ⟨_, _, hfree⟩ := ha
    refine (I.hok b ob e).stay (fun c w' hc q => (hs.2 c ?_).trans q) (fun _ q => q) fun _ _ q => q
    rintro rfl
    rcases hc with rfl | hc
    · rw [hfree] at e; cases e
    · rw [hfree] at hc; cases hc
  rcases hx with hk | hk
  · refine wpAny_storeName_local hk hn (fun h' hn' hs => ?_) hcls
    obtain ⟨oL, _, _, hoL, _⟩ := id hn
    refine h _ ⟨I.ok, I.os, I.bare, ⟨fun b o e n hb hx => ?_, fun b o e n hb hx => ?_, I.base.free, fun b o e hx => ?_, I.base.tups, I.base.frzs, I.base.tbls⟩, ⟨_, hn', fun j y v' e1 e2 e3 => ?_⟩, fun y c e => ?_, I.free, I.freeC, fun p hp => ?_, tracked ⟨oL, hoL, I.free⟩ hs, by simpa using I.len⟩ ⟨_, hs, .inl rfl⟩
    · exact (hs.2 b (Nat.ne_of_lt (Nat.lt_of_lt_of_le (Heap.lt_size e) I.ok.above))).trans (I.base.keep b o e n hb hx)
    · obtain ⟨sl, e1⟩ := I.base.slot b o e n hb hx
      exact ⟨sl, (hs.2 b (Nat.ne_of_lt (Nat.lt_of_lt_of_le (Heap.lt_size e) I.ok.above))).trans e1⟩
    · obtain ⟨o', e1⟩ := I.base.there b o e hx
      exact ⟨o', (hs.2 b (Nat.ne_of_lt (Nat.lt_of_lt_of_le (Heap.lt_size e) I.ok.above))).trans e1⟩
    · by_cases hj : j = i
      · subst hj
        rw [hi] at e1; cases e1
        rw [List.getElem?_set_self hiσ] at e2
        cases e2
        exact ⟨u, r, .inl ⟨hk, by simp⟩⟩
      · rw [List.getElem?_set_ne (Ne.symm hj)] at e2
        obtain ⟨u', r', q⟩ := hl j y v' e1 e2 e3
        refine ⟨u', r', ?_⟩
        rcases q with ⟨k, e⟩ | ⟨k, c, e, z⟩
        · refine .inl ⟨k, ?_⟩
          have : y ≠ x := fun e => hj (nodup_ix hN e1 (e ▸ hi))
          simp [this, e]
        · exact .inr ⟨k, c, e, z.sameBut hs (cne y c e)⟩
    · obtain ⟨w', z⟩ := I.cell y c e
      exact ⟨w', z.sameBut hs (cne y c e)⟩
    · obtain ⟨e, n, ne, nf, d⟩ := I.pin p hp
      exact ⟨(hs.2 p.1 ne).trans e, n, ne, nf, d⟩
  · have hfn : X.fn x = true := by
      rcases hf with z | z
      · exact z
      · rw [z] at hk; cases hk
    obtain ⟨c, hc⟩ := I.ok.has x (.inl hk)
    obtain ⟨w', z⟩ := I.cell x c hc
    refine wpAny_storeName_cell I.ok.kind hk hc z (fun h' hc' hs => ?_)
    obtain ⟨oc, hoc, hocd⟩ := id z
    refine h { s with heap := h' } ⟨I.ok, I.os, I.bare, ⟨fun b o e n hb hx => ?_, fun b o e n hb hx => ?_, I.base.free, fun b o e hx => ?_, I.base.tups, I.base.frzs, I.base.tbls⟩, ⟨m, hn.sameBut hs (Ne.symm (cne x c hc)), fun j y v' e1 e2 e3 => ?_⟩, fun y c' e => ?_, I.free, I.freeC, fun p hp => ?_, tracked ⟨oc, hoc, I.freeC x c hc⟩ hs, by simpa using I.len⟩ ⟨c, hs, .inr hc⟩
    · exact (hs.2 b (Nat.ne_of_lt (Nat.lt_of_lt_of_le (Heap.lt_size e) (I.ok.cab x c hfn hc)))).trans (I.base.keep b o e n hb hx)
    · obtain ⟨sl, e1⟩ := I.base.slot b o e n hb hx
      exact ⟨sl, (hs.2 b (Nat.ne_of_lt (Nat.lt_of_lt_of_le (Heap.lt_size e) (I.ok.cab x c hfn hc)))).trans e1⟩
    · obtain ⟨o', e1⟩ := I.base.there b o e hx
      exact ⟨o', (hs.2 b (Nat.ne_of_lt (Nat.lt_of_lt_of_le (Heap.lt_size e) (I.ok.cab x c hfn hc)))).trans e1⟩
    · by_cases hj : j = i
      · subst hj
        rw [hi] at e1; cases e1
        rw [List.getElem?_set_self hiσ] at e2
        cases e2
        exact ⟨u, r, .inr ⟨.inl hk, c, hc, hc'⟩⟩
      · rw [List.getElem?_set_ne (Ne.symm hj)] at e2
        obtain ⟨u', r', q⟩ := hl j y v' e1 e2 e3
        refine ⟨u', r', ?_⟩
        rcases q with q | ⟨k, c', e, z'⟩
        · exact .inl q
        · refine .inr ⟨k, c', e, z'.sameBut hs ?_⟩
          rintro rfl
          exact hj (nodup_ix hN e1 (I.ok.inj _ _ _ e hc ▸ hi))
    · by_cases hcc : c' = c
      · subst hcc; exact ⟨_, hc'⟩
      · obtain ⟨w2, z2⟩ := I.cell y c' e
        exact ⟨w2, z2.sameBut hs hcc⟩
    · obtain ⟨e, n, ne, nf, d⟩ := I.pin p hp
      refine ⟨(hs.2 p.1 ?_).trans e, n, ne, nf, d⟩
      intro q
      rw [q, hoc] at e
      have q' : oc = p.2 := Option.some.inj e
      exact d w' (by rw [← q']; exact hocd)
theorem store_ok {M : Model} {A : Around} {E : Value → Shared → Prop} {i : Nat} {x : Str} {v : V} {u : Value} {Q : Unit → Shared → Prop} (I : Inv X pins σ H s) (hN : X.N.Nodup) (hi : X.N[i]? = some x) (hx : Loc X.env.scope x) (r : RelV v u)
    (h : ∀ s', Inv X pins (σ.set i (some v)) H s' → Q () s') (hf : X.fn x = true ∨ X.env.scope.names.lookup x = some .local := by first | exact .inl rfl | exact .inr rfl | assumption) : wpAny M A (storeName X.env x u) Q E s :=
  store_ok2 I hN hi hx r (fun s' I' _ => h s' I') hf
theorem Inv.call' {s' : Shared} {ch : List Addr} (I : Inv X pins σ H s) (ho : s'.os = s.os) (u : Un (frs X.stack) ch H H' s.heap s'.heap) (hok : HOk X.prog X.w H' s'.heap) (hg : AllBare s'.gens)
    (hch : ∀ b ∈ ch, (b ∈ X.ex ∨ X.s₀.heap.objs.size ≤ b) ∧ b ≠ X.env.locals ∧ (∀ x c, X.env.cells.lookup x = some c → c ≠ b) ∧ ∀ p ∈ X.pn ++ pins, p.1 ≠ b) : Inv X pins σ H' s' := by
  obtain ⟨h', g', d', t', o'⟩ := s'
  have e : o' = s.os := ho
  subst e
  exact I.call (g' := g') (t' := t') (d' := d') u hok hg hch
end
abbrev XK := Value → Option Addr → Hp → Prop
abbrev St := List (Option V)
abbrev VK := V → Hp → Prop
abbrev TE := St → Hp → VK → Prop
abbrev TT := St → Hp → (Bool → Hp → Prop) → Prop
abbrev TA := St → Hp → (List V → Hp → Prop) → Prop
structure Ends where
  nx : St → Hp → Prop
  rt : VK
  bk : St → Hp → Prop := fun _ _ => False
  ct : St → Hp → Prop := fun _ _ => False
abbrev TS := Ends → St → Hp → Prop
def EP (X : Cx) (pins : List (Addr × Obj)) (σ : St) (Q : VK) (u : Value) (s' : Shared) : Prop := ∃ v H', Inv X pins σ H' s' ∧ RelV v u ∧ Q v H'
def TP (X : Cx) (pins : List (Addr × Obj)) (σ : St) (Q : Bool → Hp → Prop) (b : Bool) (s' : Shared) : Prop := ∃ H', Inv X pins σ H' s' ∧ Q b H'
def AP (X : Cx) (pins : List (Addr × Obj)) (σ : St) (Q : List V → Hp → Prop) (us : List Value) (s' : Shared) : Prop := ∃ vs H', Inv X pins σ H' s' ∧ Vals vs us ∧ Q vs H'
def SP (X : Cx) (pins : List (Addr × Obj)) (D : Ends) (f : Flow) (s' : Shared) : Prop :=
  match f with
  | .next => ∃ σ' H', Inv X pins σ' H' s' ∧ D.nx σ' H'
  | .brk => ∃ σ' H', Inv X pins σ' H' s' ∧ D.bk σ' H'
  | .cont => ∃ σ' H', Inv X pins σ' H' s' ∧ D.ct σ' H'
  | .ret u => ∃ v σ' H', Inv X pins σ' H' s' ∧ RelV v u ∧ D.rt v H'
def PE (X : Cx) (e : Expr) (t : TE) : Prop :=
  ∀ (pins : List (Addr × Obj)) (s : Shared) (σ : St) (H : Hp) (Q : VK), Inv X pins σ H s → t σ H Q → wpAny (model X.prog X.w) X.A (eval e X.env) (EP X pins σ Q) X.xe s
def PT (X : Cx) (e : Expr) (t : TT) : Prop :=
  ∀ (pins : List (Addr × Obj)) (s : Shared) (σ : St) (H : Hp) (Q : Bool → Hp → Prop), Inv X pins σ H s → t σ H Q → wpAny (model X.prog X.w) X.A (isTrue e X.env (eval e X.env)) (TP X pins σ Q) X.xe s
def PW (X : Cx) (e : Expr) (t : TT) : Prop :=
  ∀ (whole : Sem Value) (pins : List (Addr × Obj)) (s : Shared) (σ : St) (H : Hp) (Q : Bool → Hp → Prop), Inv X pins σ H s → t σ H Q → wpAny (model X.prog X.w) X.A (isTrue e X.env whole) (TP X pins σ Q) X.xe s
theorem PW.pt {X : Cx} {e : Expr} {t : TT} (h : PW X e t) : PT X e t := h _
def PA (X : Cx) (es : List Expr) (t : TA) : Prop :=
  ∀ (pos : Pos) (pins : List (Addr × Obj)) (s : Shared) (σ : St) (H : Hp) (Q : List V → Hp → Prop), Inv X pins σ H s → t σ H Q → wpAny (model X.prog X.w) X.A (spliced (backTo pos (starEach es X.env))) (AP X pins σ Q) X.xe s
def PS (X : Cx) (st : Stmt) (t : TS) : Prop :=
  ∀ (pins : List (Addr × Obj)) (s : Shared) (σ : St) (H : Hp) (D : Ends), Inv X pins σ H s → t D σ H → wpAny (model X.prog X.w) X.A (exec st X.env) (SP X pins D) X.xe s
def PSs (X : Cx) (st : List Stmt) (t : TS) : Prop :=
  ∀ (pins : List (Addr × Obj)) (s : Shared) (σ : St) (H : Hp) (D : Ends), Inv X pins σ H s → t D σ H → wpAny (model X.prog X.w) X.A (execs st X.env) (SP X pins D) X.xe s
theorem thn {α : Type} {t : Sem α} {Q Q' : α → Shared → Prop} {M : Model} {A : Around} {E : Value → Shared → Prop} {s : Shared} (h : wpAny M A t Q E s) (hQ : ∀ a s, Q a s → Q' a s) : wpAny M A t Q' E s := wpAny_mono h hQ fun _ _ x => x
end L2
namespace L2
open PySem PySem.Spec PyProof.Rows
section
variable {X : Cx}
theorem bin {a b : Expr} {ta tb : TE} (ha : PE X a ta) (hb : PE X b tb) {pins : List (Addr × Obj)} {s : Shared} {σ : St} {H : Hp} {R : V → V → Hp → Prop} (I : Inv X pins σ H s) (h : ta σ H fun x H1 => tb σ H1 fun y H2 => R x y H2)
    {α : Type} {Q : α → Shared → Prop} {f : Value → Value → Sem α}
    (hf : ∀ v u s2 x y H2, Inv X pins σ H2 s2 → RelV x v → RelV y u → R x y H2 → wpAny (model X.prog X.w) X.A (f v u) Q X.xe s2) :
    wpAny (model X.prog X.w) X.A (eval a X.env) (fun v s₁ => wpAny (model X.prog X.w) X.A (eval b X.env) (fun u s₂ => wpAny (model X.prog X.w) X.A (f v u) Q X.xe s₂) X.xe s₁) X.xe s := by
  refine thn (ha pins s σ H _ I h) fun v s1 ⟨x, H1, I1, r1, q1⟩ => ?_
  refine thn (hb pins s1 σ H1 _ I1 q1) fun u s2 ⟨y, H2, I2, r2, q2⟩ => ?_
  exact hf v u s2 x y H2 I2 r1 r2 q2
def tVar (i : Nat) : TE := fun σ H Q => ∃ v, σ[i]? = some (some v) ∧ Q v H
def tC (v : V) : TE := fun _ H Q => Q v H
theorem pe_var {i : Nat} {x : Str} {pos : Pos} (hN : X.N[i]? = some x) (hv : Vis X.env.scope x) (hd : (x == ("__debug__" : Str)) = false := by decide) (hcd : (x == ("__classdict__" : Str)) = false := by decide) : PE X (.Name x pos) (tVar i) := by
  intro pins s σ H Q I h
  obtain ⟨v, e, h⟩ := h
  obtain ⟨m, hn, hl⟩ := I.loc
  obtain ⟨u, r, l⟩ := hl i x v hN e hv
  have fin : EP X pins σ Q u s := ⟨v, H, I, r, h⟩
  rcases l with ⟨hk, hm⟩ | ⟨hk, c, hc, hcell⟩
  · exact wpAny_Name (wpAny_loadName_local I.ok.kind hk hn hm fin) hd
  · rcases hk with hk | hk
    · exact wpAny_Name (wpAny_loadName_cell I.ok.kind hk hc hcell fin) hd
    · exact wpAny_Name (wpAny_loadName_free I.ok.kind hk hc hcell fin hcd) hd
theorem pe_int {i j pos} : PE X (.Constant (.int i) j pos) (tC (.int i)) := fun _ _ _ H _ I h => wpAny_Constant_int ⟨.int i, H, I.tok _, ⟨_, rfl⟩, h⟩
theorem pe_bl {b j pos} : PE X (.Constant (.bool b) j pos) (tC (.bl b)) := fun _ _ _ H _ I h => Constant_bool ⟨.bl b, H, I, rfl, h⟩
theorem pe_non {j pos} : PE X (.Constant .none j pos) (tC .non) := fun _ _ _ H _ I h => Constant_none ⟨.non, H, I, rfl, h⟩
theorem pe_str {x j pos} : PE X (.Constant (.str x) j pos) (tC (.str x)) := fun _ _ _ H _ I h => Calls.Constant_str ⟨.str x, H, I.tok _, ⟨_, rfl⟩, h⟩
def Gl (X : Cx) (x : Str) : Prop := X.env.kindOf x = some .globalImplicit
theorem ld_glob {E : Value → Shared → Prop} {pins : List (Addr × Obj)} {s : Shared} {σ : St} {H : Hp} {x : Str} {u : Value} {pos : Pos} {Q : Value → Shared → Prop} (I : Inv X pins σ H s) (hg : Gl X x) (hm : X.mg x = some u) (h : Q u s)
    (hd : (x == ("__debug__" : Str)) = false := by decide) : wpAny (model X.prog X.w) X.A (eval (.Name x pos) X.env) Q E s :=
  Calls.Name_function_global I.ok.kind hg (Calls.loadGlobal_global (by rw [I.ok.glob]; exact I.mod.glob.keeps I.bk) hm h) hd
theorem ld_blt {E : Value → Shared → Prop} {pins : List (Addr × Obj)} {s : Shared} {σ : St} {H : Hp} {x : Str} {u : Value} {pos : Pos} {Q : Value → Shared → Prop} (I : Inv X pins σ H s) (hg : Gl X x) (hm : X.mg x = none) (hv : bootBuiltins x = some u) (h : Q u s)
    (hn : x ≠ "__name__" := by decide) (hd : (x == ("__debug__" : Str)) = false := by decide) : wpAny (model X.prog X.w) X.A (eval (.Name x pos) X.env) Q E s := by
  obtain ⟨mb, h1, h2⟩ := I.mod.blt
  exact Calls.Name_function_global I.ok.kind hg (Calls.loadGlobal_builtin (by rw [I.ok.glob]; exact I.mod.glob.keeps I.bk) hm (by rw [I.ok.blt]; exact h1.keeps I.bk) ((h2 x hn).trans hv) h) hd
theorem pe_bltn {x : Str} {v : V} {u : Value} {pos : Pos} (hg : Gl X x) (hm : X.mg x = none) (hv : bootBuiltins x = some u) (r : RelV v u) (hn : x ≠ "__name__" := by decide) (hd : (x == ("__debug__" : Str)) = false := by decide) : PE X (.Name x pos) (tC v) :=
  fun _ _ _ H _ I h => ld_blt I hg hm hv ⟨v, H, I, r, h⟩ hn hd
variable {a b : Expr} {ta tb : TE} {pos : Pos}
def PC (X : Cx) (op : CmpOp) (a b : Expr) (t : TE) : Prop :=
  ∀ (pins : List (Addr × Obj)) (s : Shared) (σ : St) (H : Hp) (Q : VK), Inv X pins σ H s → t σ H Q →
    wpAny (model X.prog X.w) X.A (eval a X.env) (fun v s₁ => wpAny (model X.prog X.w) X.A (eval b X.env) (fun u s₂ => wpAny (model X.prog X.w) X.A (compareOp op v u) (EP X pins σ Q) X.xe s₂) X.xe s₁) X.xe s
def tB (t : TE) : TT := fun σ H Q => t σ H fun x H1 => ∃ c, x = .bl c ∧ Q c H1
theorem pt_cmp {op : CmpOp} {t : TE} (h : PC X op a b t) (h1 : behindInMarks op b = false := by first | exact nobehind _ (by decide) (by decide) | rfl) : PT X (.Compare a [op] [b] pos) (tB t) := by
  intro pins s σ H Q I hw
  refine wpAny_isTrue_Compare1 (thn (h pins s σ H _ I hw) fun v s1 h1 => thn h1 fun u s2 h2 => thn h2 fun c s3 ⟨x, H1, I1, r1, q1⟩ => ?_) h1
  obtain ⟨d, rfl, q⟩ := q1
  cases r1
  exact wpAny_truthy_bool ⟨H1, I1, q⟩
theorem pt_val {e : Expr} {t : TE} (h : PE X e t) (he : ∀ whole, isTrue e X.env whole = (do let v ← whole; standAt e.pos; holding [v] (truthy v)) := by intro _; rfl) : PT X e (tB t) := by
  intro pins s σ H Q I hw
  refine isTrue_plain (thn (h pins s σ H _ I hw) fun v s1 ⟨x, H1, I1, r1, q1⟩ => ?_) (he _)
  obtain ⟨d, rfl, q⟩ := q1
  cases r1
  exact wpAny_truthy_bool ⟨H1, I1, q⟩
variable {tA tB' : TT} {rest : List Expr}
def tAnd (t u : TT) : TT := fun σ H Q => t σ H fun c H1 => if c = true then u σ H1 Q else Q false H1
def tOr (t u : TT) : TT := fun σ H Q => t σ H fun c H1 => if c = true then Q true H1 else u σ H1 Q
def tNot (t : TT) : TT := fun σ H Q => t σ H fun c H1 => Q (!c) H1
theorem pw_and1 (ha : PT X a tA) : PW X (.BoolOp .And [a] pos) tA := by
  intro wh pins s σ H Q I h
  refine isTrue_and (thn (ha pins s σ H Q I h) fun c s1 e => ?_)
  cases c with
  | true => exact isTrue_and_nil e
  | false => exact e
theorem pw_or1 (ha : PT X a tA) : PW X (.BoolOp .Or [a] pos) tA := by
  intro wh pins s σ H Q I h
  refine isTrue_or (thn (ha pins s σ H Q I h) fun c s1 e => ?_)
  cases c with
  | false => exact isTrue_or_nil e
  | true => exact e
theorem pw_and (ha : PT X a tA) (hb : PW X (.BoolOp .And (b :: rest) pos) tB') : PW X (.BoolOp .And (a :: b :: rest) pos) (tAnd tA tB') := by
  intro wh pins s σ H Q I h
  refine isTrue_and (thn (ha pins s σ H _ I h) fun c s1 ⟨H1, I1, q1⟩ => ?_)
  cases c with
  | true => exact hb wh pins s1 σ H1 Q I1 q1
  | false => exact ⟨H1, I1, q1⟩
theorem pw_or (ha : PT X a tA) (hb : PW X (.BoolOp .Or (b :: rest) pos) tB') : PW X (.BoolOp .Or (a :: b :: rest) pos) (tOr tA tB') := by
  intro wh pins s σ H Q I h
  refine isTrue_or (thn (ha pins s σ H _ I h) fun c s1 ⟨H1, I1, q1⟩ => ?_)
  cases c with
  | true => exact ⟨H1, I1, q1⟩
  | false => exact hb wh pins s1 σ H1 Q I1 q1
theorem pt_not (ha : PT X a tA) : PT X (.UnaryOp .Not a pos) (tNot tA) := by
  intro pins s σ H Q I h
  exact isTrue_not (ha pins s σ H (fun c H1 => Q (!c) H1) I h)
def tAndV (ta tb : TE) : TE := fun σ H Q => ta σ H fun x H1 => ∃ c, x = .bl c ∧ if c = true then tb σ H1 Q else Q (.bl false) H1
theorem pe_one {op} {t : TE} (h : PE X a t) : PE X (.BoolOp op [a] pos) t := fun pins s σ H Q I hw => BoolOp_one (h pins s σ H Q I hw)
theorem pe_and (ha : PE X a ta) (hb : PE X (.BoolOp .And (b :: rest) pos) tb) : PE X (.BoolOp .And (a :: b :: rest) pos) (tAndV ta tb) := by
  intro pins s σ H Q I h
  refine BoolOp_and (thn (ha pins s σ H _ I h) fun v s1 ⟨x, H1, I1, r1, q1⟩ => ?_)
  obtain ⟨c, rfl, q1⟩ := q1
  cases r1
  refine wpAny_truthy_bool ?_
  cases c with
  | true => exact hb pins s1 σ H1 Q I1 q1
  | false => exact ⟨.bl false, H1, I1, rfl, q1⟩
end
end L2
namespace L2
open PySem PySem.Spec PyProof.Rows
def SqL (K : PySem.W.Frag) (H : Hp) (a : Addr) (xs : List V) : Prop :=
  Rd H a (.lst xs) ∨
    ∃ (o : Obj) (its : Array Value) (n : Nat), K.lookup a = some o ∧ o.cls = .type "list" ∧ o.dict = none ∧ o.data = .seq its n ∧ its.size ≤ sizeLine ∧ Vals xs its.toList
def SqT (K : PySem.W.Frag) (H : Hp) (a : Addr) (xs : List V) : Prop :=
  Rd H a (.tup xs) ∨
    ∃ (o : Obj) (its : Array Value) (n : Nat), K.lookup a = some o ∧ o.cls = .type "tuple" ∧ o.data = .seq its n ∧ its.size ≤ sizeLine ∧ Vals xs its.toList
def absV : Value → Option V
  | .none => some .non
  | .bool b => some (.bl b)
  | .int i _ => some (.int i)
  | .str x _ => some (.str x)
  | .bytes b _ => some (.byt b)
  | .float b _ => some (.flt b)
  | .ref a => some (.ref a)
  | .type n => some (.ty n)
  | _ => none
theorem RelV.abs {x : V} {u : Value} (r : RelV x u) : absV u = some x := by
  cases x with
  | non => cases r; rfl
  | bl _ => cases r; rfl
  | int _ => obtain ⟨t, rfl⟩ := r; rfl
  | str _ => obtain ⟨t, rfl⟩ := r; rfl
  | byt _ => obtain ⟨t, rfl⟩ := r; rfl
  | flt _ => obtain ⟨t, rfl⟩ := r; rfl
  | ref _ => cases r; rfl
  | ty _ => cases r; rfl
theorem RelV.inj {x y : V} {u : Value} (r : RelV x u) (q : RelV y u) : x = y := Option.some.inj (r.abs.symm.trans q.abs)
theorem Vals.inj : ∀ {xs ys : List V} {us : List Value}, Vals xs us → Vals ys us → xs = ys
  | _, _, _, .nil, .nil => rfl
  | _, _, _, .cons r t, .cons r' t' => by rw [r.inj r', Vals.inj t t']
section
variable {X : Cx} {pins : List (Addr × Obj)} {σ : St} {H : Hp} {s : Shared} {a : Addr} {xs ys : List V}
theorem SqL.of {K : PySem.W.Frag} (h : H a = some (.lst xs)) : SqL K H a xs := .inl (.inl h)
theorem SqT.of {K : PySem.W.Frag} (h : H a = some (.tup xs)) : SqT K H a xs := .inl (.inl h)
theorem Inv.list (I : Inv X pins σ H s) (h : SqL X.K H a xs) : ∃ its : List Value, Vals xs its ∧ PlainL s.heap a its.toArray ∧ xs.length ≤ sizeLine := by
  rcases h with h | ⟨o, its, n, hk, hc, hd, hs, hz, r⟩
  · obtain ⟨z, its, n, r, e⟩ := h.ok I.hok
    exact ⟨its, r, ⟨_, n, e, rfl, rfl, rfl⟩, z⟩
  · refine ⟨its.toList, r, ⟨o, n, I.kIn a o hk, hc, hd, by simpa using hs⟩, ?_⟩
    have e := r.length
    simp only [Array.length_toList] at e
    omega
theorem Inv.tuple (I : Inv X pins σ H s) (h : SqT X.K H a xs) : ∃ its : List Value, Vals xs its ∧ IsTup s.heap a its.toArray ∧ xs.length ≤ sizeLine := by
  rcases h with h | ⟨o, its, n, hk, hc, hs, hz, r⟩
  · obtain ⟨z, its, r, p⟩ := h.ok I.hok
    exact ⟨its, r, p, z⟩
  · refine ⟨its.toList, r, ⟨o, I.kIn a o hk, hc, n, by simpa using hs⟩, ?_⟩
    have e := r.length
    simp only [Array.length_toList] at e
    omega
theorem Inv.list_inj (I : Inv X pins σ H s) (h : SqL X.K H a xs) (h' : SqL X.K H a ys) : xs = ys := by
  obtain ⟨its, r, ⟨o, n, e, _, _, d⟩, _⟩ := I.list h
  obtain ⟨its', r', ⟨o', n', e', _, _, d'⟩, _⟩ := I.list h'
  rw [e] at e'; cases e'
  rw [d] at d'
  injection d' with d1 _
  have : its = its' := by simpa using congrArg Array.toList d1
  subst this
  exact r.inj r'
theorem Inv.tuple_inj (I : Inv X pins σ H s) (h : SqT X.K H a xs) (h' : SqT X.K H a ys) : xs = ys := by
  obtain ⟨its, r, ⟨o, e, _, n, d⟩, _⟩ := I.tuple h
  obtain ⟨its', r', ⟨o', e', _, n', d'⟩, _⟩ := I.tuple h'
  rw [e] at e'; cases e'
  rw [d] at d'
  injection d' with d1 _
  have : its = its' := by simpa using congrArg Array.toList d1
  subst this
  exact r.inj r'
end
abbrev Cx.wish (X : Cx) (E : Value → Shared → Prop) : Cx := { X with xe := E }
abbrev Cx.nox (X : Cx) : Cx := X.wish fun _ _ => False
theorem Cx.Ok.wish {X : Cx} (ok : X.Ok) (E : Value → Shared → Prop) : (X.wish E).Ok :=
  ⟨ok.mod, ok.kind, ok.glob, ok.blt, ok.above, ok.inj, ok.has, ok.cab, ok.hd, ok.frames, ok.stk, ok.exf, ok.bs, ok.bsz, ok.noex, ok.exfs, ok.funs, ok.frf⟩
theorem Cx.Ok.unwish {X : Cx} {E : Value → Shared → Prop} (ok : (X.wish E).Ok) : X.Ok :=
  ⟨ok.mod, ok.kind, ok.glob, ok.blt, ok.above, ok.inj, ok.has, ok.cab, ok.hd, ok.frames, ok.stk, ok.exf, ok.bs, ok.bsz, ok.noex, ok.exfs, ok.funs, ok.frf⟩
section
variable {X : Cx} {pins : List (Addr × Obj)} {σ : St} {H : Hp} {s : Shared} {E : Value → Shared → Prop}
theorem Inv.wish (I : Inv X pins σ H s) (E : Value → Shared → Prop) : Inv (X.wish E) pins σ H s := ⟨I.ok.wish E, I.os, I.bare, I.base, I.loc, I.cell, I.free, I.freeC, I.pin, I.hok, I.len⟩
theorem Inv.unwish (I : Inv (X.wish E) pins σ H s) : Inv X pins σ H s := ⟨I.ok.unwish, I.os, I.bare, I.base, I.loc, I.cell, I.free, I.freeC, I.pin, I.hok, I.len⟩
theorem SP.unwish {D : Ends} {f : Flow} {s' : Shared} (h : SP (X.wish E) pins D f s') : SP X pins D f s' := by
  cases f with
  | next => obtain ⟨σ', H', I, q⟩ := h; exact ⟨σ', H', I.unwish, q⟩
  | brk => obtain ⟨σ', H', I, q⟩ := h; exact ⟨σ', H', I.unwish, q⟩
  | cont => obtain ⟨σ', H', I, q⟩ := h; exact ⟨σ', H', I.unwish, q⟩
  | ret u => obtain ⟨v, σ', H', I, r, q⟩ := h; exact ⟨v, σ', H', I.unwish, r, q⟩
theorem PSs.nox {st : List Stmt} {t : TS} (h : PSs X.nox st t) : PSs X st t := fun pins s σ H D I hw =>
  wpAny_mono (h pins s σ H D (I.wish _) hw) (fun _ _ q => q.unwish) fun _ _ z => False.elim z
end
section
variable {X : Cx} {st : Stmt} {rest : List Stmt} {t u : TS} {e : Expr} {te : TE} {pos : Pos}
def tNext : TS := fun D σ H => D.nx σ H
def tSeq (t u : TS) : TS := fun D σ H => t { D with nx := u D } σ H
theorem pss_nil : PSs X [] tNext := fun _ _ σ H _ I h => wpAny_execs_nil ⟨σ, H, I, h⟩
theorem pss_cons (h1 : PS X st t) (h2 : PSs X rest u) : PSs X (st :: rest) (tSeq t u) := by
  intro pins s σ H D I h
  refine wpAny_execs_cons (thn (h1 pins s σ H { D with nx := u D } I h) fun f s1 q => ?_)
  cases f with
  | next =>
    obtain ⟨σ', H', I', q⟩ := q
    exact h2 pins s1 σ' H' D I' q
  | ret v => exact q
  | brk => exact q
  | cont => exact q
theorem pss_one (h1 : PS X st t) : PSs X [st] t := by
  intro pins s σ H D I h
  refine wpAny_execs_cons (thn (h1 pins s σ H D I h) fun f s1 q => ?_)
  cases f with
  | next => exact wpAny_execs_nil q
  | ret v => exact q
  | brk => exact q
  | cont => exact q
theorem Inv.quiet {pins : List (Addr × Obj)} {σ : St} {H : Hp} {s : Shared} (I : Inv X pins σ H s) : interactive X.env = false := by simp [interactive, I.ok.kind]
def tDrop (te : TE) : TS := fun D σ H => te σ H fun _ H1 => D.nx σ H1
theorem ps_expr (he : PE X e te) (hs : swapsWith e none pos.line X.env = pure false := by rfl) : PS X (.Expr e pos) (tDrop te) := by
  intro pins s σ H D I h
  exact wpAny_Expr_any (thn (he pins s σ H _ I h) fun v s1 ⟨x, H1, I1, r1, q1⟩ => ⟨σ, H1, I1, q1⟩) I.quiet hs
def tRet (te : TE) : TS := fun D σ H => te σ H D.rt
theorem ps_ret (he : PE X e te) : PS X (.Return (some e) pos) (tRet te) := by
  intro pins s σ H D I h
  exact wpAny_Return_some (thn (he pins s σ H _ I h) fun v s1 ⟨x, H1, I1, r1, q1⟩ => ⟨x, σ, H1, I1, r1, q1⟩)
def tIfS (c : TT) (t u : TS) : TS := fun D σ H => c σ H fun b H1 => if b = true then t D σ H1 else u D σ H1
theorem ps_if {c : Expr} {a b : List Stmt} {tc : TT} (hc : PT X c tc) (ha : PSs X a t) (hb : PSs X b u) : PS X (.If c a b pos) (tIfS tc t u) := by
  intro pins s σ H D I h
  refine wpAny_If (thn (hc pins s σ H _ I h) fun d s1 ⟨H1, I1, q1⟩ => ?_)
  cases d with
  | true => exact ha pins s1 σ H1 D I1 q1
  | false => exact hb pins s1 σ H1 D I1 q1
end
abbrev TG := V → St → Hp → (St → Hp → Prop) → Prop
abbrev TGs := List V → St → Hp → (St → Hp → Prop) → Prop
def PG (X : Cx) (target : Expr) (t : TG) : Prop :=
  ∀ (pins : List (Addr × Obj)) (s : Shared) (σ : St) (H : Hp) (v : V) (u : Value) (Q : St → Hp → Prop), Inv X pins σ H s → RelV v u → t v σ H Q →
    wpAny (model X.prog X.w) X.A (assign target X.env u) (fun _ s' => ∃ σ' H', Inv X pins σ' H' s' ∧ Q σ' H') X.xe s
def PGs (X : Cx) (ts : List Expr) (t : TGs) : Prop :=
  ∀ (pins : List (Addr × Obj)) (s : Shared) (σ : St) (H : Hp) (vs : List V) (us : List Value) (Q : St → Hp → Prop), Inv X pins σ H s → Vals vs us → t vs σ H Q →
    wpAny (model X.prog X.w) X.A (assignInOrder ((assignEach ts X.env).map (·.2)) us) (fun _ s' => ∃ σ' H', Inv X pins σ' H' s' ∧ Q σ' H') X.xe s
section
variable {X : Cx} {pos : Pos}
def gName (i : Nat) : TG := fun v σ H Q => Q (σ.set i (some v)) H
theorem pg_name {i : Nat} {x : Str} (hN : X.N.Nodup) (hi : X.N[i]? = some x) (hx : Loc X.env.scope x) (hf : X.fn x = true ∨ X.env.scope.names.lookup x = some .local := by first | exact .inl rfl | exact .inr rfl | assumption) : PG X (.Name x pos) (gName i) := by
  intro pins s σ H v u Q I r h
  exact wpAny_assign_Name (store_ok I hN hi hx r (fun s' I' => ⟨_, H, I', h⟩) hf)
def gNil : TGs := fun vs σ H Q => vs = [] ∧ Q σ H
def gCons (t : TG) (u : TGs) : TGs := fun vs σ H Q => ∃ v r, vs = v :: r ∧ t v σ H fun σ' H' => u r σ' H' Q
theorem pgs_nil : PGs X [] gNil := by
  intro pins s σ H vs us Q I r h
  obtain ⟨e, h⟩ := h
  subst e
  cases r
  exact assignInOrder_nil ⟨σ, H, I, h⟩
theorem pgs_cons {e : Expr} {es : List Expr} {t : TG} {u : TGs} (h1 : PG X e t) (h2 : PGs X es u)
    (hs : (assignEach (e :: es) X.env).map (·.2) = assign e X.env :: (assignEach es X.env).map (·.2) := by rfl) : PGs X (e :: es) (gCons t u) := by
  intro pins s σ H vs us Q I r h
  obtain ⟨v, vr, e1, h⟩ := h
  subst e1
  cases r with
  | cons r rr =>
    rw [hs]
    refine assignInOrder_cons (thn (h1 pins s σ H _ _ _ I r h) fun _ s1 ⟨σ1, H1, I1, q1⟩ => ?_)
    exact h2 pins s1 σ1 H1 _ _ Q I1 rr q1
def tAsg (te : TE) (g : TG) : TS := fun D σ H => te σ H fun x H1 => g x σ H1 D.nx
theorem ps_asg {tg e : Expr} {te : TE} {g : TG} (he : PE X e te) (hg : PG X tg g) (hs : swapsWithSole [tg] e pos.line X.env = pure false := by rfl) (hw : swappedStores [tg] e X.env = pure none := by rfl)
    (h1 : (assignEach [tg] X.env).map (·.2) = [assign tg X.env] := by rfl) : PS X (.Assign [tg] e pos) (tAsg te g) := by
  intro pins s σ H D I h
  refine wpAny_Assign_stores (thn (he pins s σ H _ I h) fun v s1 ⟨x, H1, I1, r1, q1⟩ => ?_) hs hw
  rw [h1]
  exact thn (hg pins s1 σ H1 x v _ I1 r1 q1) fun _ s2 q => q
theorem ps_set {i : Nat} {x : Str} {e : Expr} {te : TE} {pos' : Pos} (hN : X.N.Nodup) (hi : X.N[i]? = some x) (hx : Loc X.env.scope x) (he : PE X e te) (hs : swapsWith e (some (.Name x pos')) pos.line X.env = pure false := by rfl) (hf : X.fn x = true ∨ X.env.scope.names.lookup x = some .local := by first | exact .inl rfl | exact .inr rfl | assumption) :
    PS X (.Assign [.Name x pos'] e pos) (tAsg te (gName i)) := by
  intro pins s σ H D I h
  refine wpAny_Assign_Name (thn (he pins s σ H _ I h) fun v s1 ⟨y, H1, I1, r1, q1⟩ => ?_) hs
  exact store_ok I1 hN hi hx r1 (fun s2 I2 => ⟨_, H1, I2, q1⟩) hf
end
section
variable {X : Cx} {pos : Pos}
end
structure It where
  go : Nat → Hp → Prop
  yld : Nat → Hp → V → Hp → Prop
  stop : Nat → Hp → Prop
def FpOk (X : Cx) (pins : List (Addr × Obj)) (H : Hp) (b : Addr) : Prop :=
  H b = none ∧ b ≠ X.env.locals ∧ b ∉ X.fs ∧ (b ∈ X.ex ∨ X.s₀.heap.objs.size ≤ b) ∧ (∀ x c, X.env.cells.lookup x = some c → c ≠ b) ∧ ∀ p ∈ X.pn ++ pins, p.1 ≠ b
theorem Inv.fpOk {X : Cx} {pins : List (Addr × Obj)} {σ : St} {H H' : Hp} {s : Shared} {b : Addr} (I : Inv X pins σ H s) (hb : s.heap.objs.size ≤ b) (hn : H' b = none) : FpOk X pins H' b := by
  refine ⟨hn, Nat.ne_of_gt (Nat.lt_of_lt_of_le I.lt hb), I.nofs hb, .inr (Nat.le_trans I.sz hb), fun x c e z => ?_, fun p hp z => ?_⟩
  · obtain ⟨v, q⟩ := I.cell x c e
    exact absurd (Nat.lt_of_lt_of_le q.lt (by rw [z]; exact hb)) (Nat.lt_irrefl _)
  · exact absurd (Nat.lt_of_lt_of_le (Heap.lt_size (I.pin p hp).1) (by rw [z]; exact hb)) (Nat.lt_irrefl _)
structure Turn (P : Program) (w : World) (K : PySem.W.Frag) (tg : Expr) (J : It) (fp : List Addr) (it : Addr) (tn : Nat → Heap → Prop) : Prop where
  mem : it ∈ fp
  obj : ∀ i h, tn i h → ∀ b ∈ fp, ∃ o, h.get? b = some o ∧ ∀ v, o.data ≠ .cell v
  keep : ∀ i h h', tn i h → (∀ b ∈ fp, ∀ o, h.get? b = some o → h'.get? b = some o) → tn i h'
  item : ∀ (X : Cx), X.prog = P → X.w = w → X.K = K → X.calm = true → ∀ (i : Nat) (pins : List (Addr × Obj)) (s : Shared) (σ : St) (H : Hp) (E : Value → Shared → Prop), Inv X pins σ H s → (∀ b ∈ fp, FpOk X pins H b) → tn i s.heap → J.go i H →
    wpAny (model P w) X.A (pyNext (.ref it)) (fun r s1 => ∃ u, r = some u ∧
      wpAny (model P w) X.A (letOwnedTupleGo tg (.ref it) u) (fun _ s2 => ∃ x H', Inv X pins σ H' s2 ∧ RelV x u ∧ J.yld i H x H' ∧ tn (i + 1) s2.heap ∧ ∀ b ∈ fp, H' b = none) E s1) E s
  done : ∀ (X : Cx), X.prog = P → X.w = w → X.K = K → X.calm = true → ∀ (i : Nat) (pins : List (Addr × Obj)) (s : Shared) (σ : St) (H : Hp) (E : Value → Shared → Prop), Inv X pins σ H s → (∀ b ∈ fp, FpOk X pins H b) → tn i s.heap → J.stop i H →
    wpAny (model P w) X.A (pyNext (.ref it)) (fun r s1 => r = none ∧ Inv X pins σ H s1) E s
  self : ∀ (A : Around) (i : Nat) (s : Shared) (Q : Value → Shared → Prop) (E : Value → Shared → Prop), tn i s.heap → Q (.ref it) s → wpAny (model P w) A (pyIter (.ref it)) Q E s
abbrev TI := St → Hp → (It → Hp → Prop) → Prop
def PIE (X : Cx) (pins : List (Addr × Obj)) (σ : St) (tg : Expr) (R : It → Hp → Prop) (itv : Value) (s2 : Shared) : Prop :=
  ∃ (it : Addr) (fp : List Addr) (tn : Nat → Heap → Prop) (J : It) (H' : Hp), itv = .ref it ∧ Inv X pins σ H' s2 ∧ Turn X.prog X.w X.K tg J fp it tn ∧ tn 0 s2.heap ∧ (∀ b ∈ fp, FpOk X pins H' b) ∧ R J H'
def PI (X : Cx) (tg iter : Expr) (wi : TI) : Prop :=
  ∀ (pins : List (Addr × Obj)) (s : Shared) (σ : St) (H : Hp) (R : It → Hp → Prop), Inv X pins σ H s → wi σ H R →
    wpAny (model X.prog X.w) X.A (eval iter X.env) (fun v s1 => wpAny (model X.prog X.w) X.A (pyIter v) (PIE X pins σ tg R) X.xe s1) X.xe s
theorem go_of {M : Model} {A : Around} {E : Value → Shared → Prop} {s : Shared} {tg : Expr} {it : Addr} {u : Value} {o : Obj} {n : String} {vs : Array Value} {Q : Unit → Shared → Prop} (ho : s.heap.get? it = some o) (hc : o.cls = .type n) (hd : o.data = .fields vs)
    (hn : ["enumerate", "zip", "dict_itemiterator", "dict_reverseitemiterator", "odict_iterator", "itertools.zip_longest", "itertools.pairwise"].contains n = false) (hQ : Q () s) : wpAny M A (letOwnedTupleGo tg (.ref it) u) Q E s := by
  unfold letOwnedTupleGo
  cases tg <;> first
    | exact wpAny_pure hQ
    | (cases u <;> first
        | exact wpAny_pure hQ
        | (refine wpAny_bind (wpAny_load ho ?_)
           rw [hc, hd]
           show wpAny M A (if (["enumerate", "zip", "dict_itemiterator", "dict_reverseitemiterator", "odict_iterator", "itertools.zip_longest", "itertools.pairwise"].contains n && vs[0]? == some (rawInt _)) = true then _ else _) Q E s
           rw [if_neg (by intro h; rw [hn, Bool.false_and] at h; cases h)]
           exact wpAny_pure hQ))
def Itl (K : PySem.W.Frag) (a : Addr) : It :=
  ⟨fun i H => ∃ xs x, SqL K H a xs ∧ xs[i]? = some x, fun i H x H' => H' = H ∧ ∀ xs, SqL K H a xs → xs[i]? = some x, fun i H => ∃ xs, SqL K H a xs ∧ xs.length ≤ i⟩
def Itt (K : PySem.W.Frag) (a : Addr) : It :=
  ⟨fun i H => ∃ xs x, SqT K H a xs ∧ xs[i]? = some x, fun i H x H' => H' = H ∧ ∀ xs, SqT K H a xs → xs[i]? = some x, fun i H => ∃ xs, SqT K H a xs ∧ xs.length ≤ i⟩
def Itr (lo : Int) (n : Nat) : It := ⟨fun i _ => i < n, fun i H x H' => H' = H ∧ x = .int (lo + i), fun i _ => n ≤ i⟩
theorem turn_list {P : Program} {w : World} {K : PySem.W.Frag} {tg : Expr} (a it : Addr) : Turn P w K tg (Itl K a) [it] it (fun i h => h.IsListIter it a i) where
  mem := by simp
  obj := fun i h st b hb => by
    have e : b = it := by simpa using hb
    subst e
    obtain ⟨o, e, c, d⟩ := st
    exact ⟨o, e, fun v z => by rw [d] at z; cases z⟩
  keep := fun i h h' st k => st.at fun o e => k it (by simp) o e
  item := by
    intro X hP hw hK hc i pins s σ H E I hf st hg
    subst hP hw hK
    obtain ⟨xs, x, hq, hx⟩ := hg
    obtain ⟨its, rv, p, hz⟩ := I.list hq
    obtain ⟨u, hu, ru⟩ := rv.get hx
    obtain ⟨f0, f1, f2, f3, f4, f5⟩ := hf it (by simp)
    refine wpAny_pyNext_list_item st p.isList (x := u) (by simpa using hu) fun h' st' sb => ?_
    have I1 : Inv X pins σ H { s with heap := h' } := I.turned (t' := s.toks) (fun b o hb e => (sb.2 b hb).trans e) f0 f1 f3 f4 f5
    obtain ⟨o, e, c, d⟩ := id st'
    exact ⟨u, rfl, go_of (s := { s with heap := h' }) e c d (by decide) ⟨x, H, I1, ru, ⟨rfl, fun ys hy => by rw [I.list_inj hy hq]; exact hx⟩, st', fun b hb => (hf b hb).1⟩⟩
  done := by
    intro X hP hw hK hc i pins s σ H E I hf st hg
    subst hP hw hK
    obtain ⟨xs, hq, hx⟩ := hg
    obtain ⟨its, rv, p, hz⟩ := I.list hq
    obtain ⟨f0, f1, f2, f3, f4, f5⟩ := hf it (by simp)
    have hl := rv.length
    exact wpAny_pyNext_list_end (I.ok.hd hc) st p.isList (by simp; omega) fun h' eb => ⟨rfl, I.turned (t' := s.toks) (fun b o hb e => eb b o hb e) f0 f1 f3 f4 f5⟩
  self := fun _ _ _ _ _ st h => wpAny_pyIter_listiter st h
theorem turn_tuple {P : Program} {w : World} {K : PySem.W.Frag} {tg : Expr} (a it : Addr) : Turn P w K tg (Itt K a) [it] it (fun i h => h.IsTupleIter it a i) where
  mem := by simp
  obj := fun i h st b hb => by
    have e : b = it := by simpa using hb
    subst e
    obtain ⟨o, e, c, d⟩ := st
    exact ⟨o, e, fun v z => by rw [d] at z; cases z⟩
  keep := fun i h h' st k => st.at fun o e => k it (by simp) o e
  item := by
    intro X hP hw hK hc i pins s σ H E I hf st hg
    subst hP hw hK
    obtain ⟨xs, x, hq, hx⟩ := hg
    obtain ⟨its, rv, p, hz⟩ := I.tuple hq
    obtain ⟨u, hu, ru⟩ := rv.get hx
    obtain ⟨f0, f1, f2, f3, f4, f5⟩ := hf it (by simp)
    refine wpAny_pyNext_tuple_item st (show s.heap.IsTuple a its.toArray from p) (x := u) (by simpa using hu) fun h' st' sb => ?_
    have I1 : Inv X pins σ H { s with heap := h' } := I.turned (t' := s.toks) (fun b o hb e => (sb.2 b hb).trans e) f0 f1 f3 f4 f5
    obtain ⟨o, e, c, d⟩ := id st'
    exact ⟨u, rfl, go_of (s := { s with heap := h' }) e c d (by decide) ⟨x, H, I1, ru, ⟨rfl, fun ys hy => by rw [I.tuple_inj hy hq]; exact hx⟩, st', fun b hb => (hf b hb).1⟩⟩
  done := by
    intro X hP hw hK hc i pins s σ H E I hf st hg
    subst hP hw hK
    obtain ⟨xs, hq, hx⟩ := hg
    obtain ⟨its, rv, p, hz⟩ := I.tuple hq
    obtain ⟨f0, f1, f2, f3, f4, f5⟩ := hf it (by simp)
    have hl := rv.length
    exact wpAny_pyNext_tuple_end (I.ok.hd hc) st (show s.heap.IsTuple a its.toArray from p) (by simp; omega) fun h' eb => ⟨rfl, I.turned (t' := s.toks) (fun b o hb e => eb b o hb e) f0 f1 f3 f4 f5⟩
  self := fun _ _ _ _ _ st h => wpAny_pyIter_tupleiter st h
theorem turn_range {P : Program} {w : World} {K : PySem.W.Frag} {tg : Expr} (it : Addr) (lo : Int) (n : Nat) : Turn P w K tg (Itr lo n) [it] it (fun i h => IsRangeIter h it (lo + (i : Nat) * 1) ((n : Int) - (i : Nat)) 1) where
  mem := by simp
  obj := fun i h st b hb => by
    have e : b = it := by simpa using hb
    subst e
    exact ⟨_, st, fun v z => by
      have z' : Data.fields _ = Data.cell v := z
      cases z'⟩
  keep := fun i h h' st k => k it (by simp) _ st
  item := by
    intro X hP hw hK hc i pins s σ H E I hf st hg
    subst hP hw hK
    obtain ⟨f0, f1, f2, f3, f4, f5⟩ := hf it (by simp)
    have W := Walks.range (prog := X.prog) (w := X.w) (I.ok.hd hc) it lo 1 n
    refine W.item i s _ _ hg st fun v h' tk hv st' kk => ?_
    obtain ⟨t, rfl⟩ := hv
    have I1 : Inv X pins σ H { s with heap := h', toks := tk } := I.turned (fun b o hb e => kk b o (by simpa using hb) e) f0 f1 f3 f4 f5
    refine ⟨_, rfl, go_of (s := { s with heap := h', toks := tk }) (n := "range_iterator") st' rfl rfl (by decide) ⟨.int (lo + i), H, I1, ⟨t, ?_⟩, ⟨rfl, rfl⟩, st', fun b hb => (hf b hb).1⟩⟩
    rw [Int.mul_one]
  done := by
    intro X hP hw hK hc i pins s σ H E I hf st hg
    subst hP hw hK
    obtain ⟨f0, f1, f2, f3, f4, f5⟩ := hf it (by simp)
    exact wpAny_pyNext_range_end (I.ok.hd hc) st (by have : n ≤ i := hg; omega) fun h' eb => ⟨rfl, I.turned (t' := s.toks) (fun b o hb e => eb b o hb e) f0 f1 f3 f4 f5⟩
  self := fun _ _ _ _ _ st h => wpAny_pyIter_rangeiter st h
end L2
namespace L2
open PySem PySem.Spec PyProof.Rows
section
variable {X : Cx} {tg : Expr}
def iList (K : PySem.W.Frag) (tl : TE) : TI := fun σ H R => tl σ H fun x H1 => ∃ a, x = .ref a ∧ (∃ xs, SqL K H1 a xs) ∧ R (Itl K a) H1
def iTup (K : PySem.W.Frag) (tl : TE) : TI := fun σ H R => tl σ H fun x H1 => ∃ a, x = .ref a ∧ (∃ xs, SqT K H1 a xs) ∧ R (Itt K a) H1
theorem pi_list {l : Expr} {tl : TE} (hl : PE X l tl) : PI X tg l (iList X.K tl) := by
  intro pins s σ H R I h
  refine thn (hl pins s σ H _ I h) fun v s1 ⟨x, H1, I1, r1, q1⟩ => ?_
  obtain ⟨a, e, ⟨xs, hq⟩, q⟩ := q1
  subst e
  cases r1
  obtain ⟨its, rv, p, hz⟩ := I1.list hq
  refine wpAny_pyIter_list p.isList ?_
  refine ⟨s1.heap.objs.size, [s1.heap.objs.size], _, _, H1, rfl, I1.kept (t' := s1.toks) fun b o e => Heap.get?_push_of_some _ e, turn_list a _, ⟨_, Heap.get?_push_size _ rfl, rfl, rfl⟩, fun b hb => ?_, q⟩
  have e : b = s1.heap.objs.size := by simpa using hb
  subst e
  exact I1.fpOk (Nat.le_refl _) (I1.hok.fresh (Nat.le_refl _))
theorem pi_tup {l : Expr} {tl : TE} (hl : PE X l tl) : PI X tg l (iTup X.K tl) := by
  intro pins s σ H R I h
  refine thn (hl pins s σ H _ I h) fun v s1 ⟨x, H1, I1, r1, q1⟩ => ?_
  obtain ⟨a, e, ⟨xs, hq⟩, q⟩ := q1
  subst e
  cases r1
  obtain ⟨its, rv, p, hz⟩ := I1.tuple hq
  refine wpAny_pyIter_tuple (show s1.heap.IsTuple a its.toArray from p) ?_
  refine ⟨s1.heap.objs.size, [s1.heap.objs.size], _, _, H1, rfl, I1.kept (t' := s1.toks) fun b o e => Heap.get?_push_of_some _ e, turn_tuple a _, ⟨_, Heap.get?_push_size _ rfl, rfl, rfl⟩, fun b hb => ?_, q⟩
  have e : b = s1.heap.objs.size := by simpa using hb
  subst e
  exact I1.fpOk (Nat.le_refl _) (I1.hok.fresh (Nat.le_refl _))
theorem range_it {pins : List (Addr × Obj)} {σ : St} {H : Hp} {s : Shared} {R : It → Hp → Prop} {E : Value → Shared → Prop} {lo hi : Int} {t u v : Tok} {tk : Nat} (I : Inv X pins σ H s) (h1 : -(2 ^ 62) ≤ lo) (h2 : lo < 2 ^ 62) (h3 : -(2 ^ 62) ≤ hi) (h4 : hi < 2 ^ 62)
    (q : R (Itr lo (hi - lo).toNat) H) : wpAny (model X.prog X.w) X.A (pyIter (.ref s.heap.objs.size)) (PIE X pins σ tg R) E { s with heap := s.heap.push { cls := .type "range", data := .fields #[.int lo t, .int hi u, .int 1 v] }, toks := tk } := by
  refine wpAny_pyIter_range (IsRange.new ..) (small_one h1 h2 h3 h4) ?_
  have I1 : Inv X pins σ H { s with heap := s.heap.push { cls := .type "range", data := .fields #[.int lo t, .int hi u, .int 1 v] }, toks := tk } := I.kept fun b o e => Heap.get?_push_of_some _ e
  refine ⟨(s.heap.push { cls := .type "range", data := .fields #[.int lo t, .int hi u, .int 1 v] }).objs.size, [(s.heap.push { cls := .type "range", data := .fields #[.int lo t, .int hi u, .int 1 v] }).objs.size], _, _, H, rfl,
    I1.kept (t' := tk) fun b o e => Heap.get?_push_of_some _ e, turn_range _ lo (hi - lo).toNat, ?_, fun b hb => ?_, q⟩
  · have e1 : lo + ((0 : Nat) : Int) * 1 = lo := by simp
    have e2 : (((hi - lo).toNat : Nat) : Int) - ((0 : Nat) : Int) = Builtin.Range.rangeSize lo hi 1 := by rw [rangeSize_one]; split <;> omega
    show IsRangeIter _ _ (lo + ((0 : Nat) : Int) * 1) ((((hi - lo).toNat : Nat) : Int) - ((0 : Nat) : Int)) 1
    rw [e1, e2]
    exact Heap.get?_push_size _ rfl
  · have e : b = (s.heap.push { cls := .type "range", data := .fields #[.int lo t, .int hi u, .int 1 v] }).objs.size := by simpa using hb
    subst e
    exact I1.fpOk (Nat.le_refl _) (I1.hok.fresh (Nat.le_refl _))
def iRng1 (ta : TA) : TI := fun σ H R => ta σ H fun vs H1 => ∃ j : Int, vs = [.int j] ∧ -(2 ^ 62) ≤ j ∧ j < 2 ^ 62 ∧ R (Itr 0 j.toNat) H1
def iRng2 (ta : TA) : TI := fun σ H R => ta σ H fun vs H1 => ∃ i j : Int, vs = [.int i, .int j] ∧ (-(2 ^ 62) ≤ i ∧ i < 2 ^ 62 ∧ -(2 ^ 62) ≤ j ∧ j < 2 ^ 62) ∧ R (Itr i (j - i).toNat) H1
theorem pi_range1 {a : Expr} {ta : TA} {p pos : Pos} (hg : Gl X "range") (hm : X.mg "range" = none) (ha : PA X [a] ta) (hs : starEach [a] X.env = [(false, eval a X.env)] := by rfl) : PI X tg (.Call (.Name "range" p) [a] [] pos) (iRng1 ta) := by
  intro pins s σ H R I h
  refine Call_ (ld_blt I hg hm boot_range (PyProof.Rows.callWith_type1 (thn (ha pos pins s σ H _ I h) fun us s1 ⟨vs, H1, I1, r1, q1⟩ => ?_) hs rfl))
  obtain ⟨j, e, q1, q2, q⟩ := q1
  subst e
  cases r1 with
  | cons r rr =>
    cases rr
    obtain ⟨t, rfl⟩ := r
    exact call_range_1 (range_it I1 (by omega) (by omega) q1 q2 (by simpa using q))
theorem pi_range2 {a b : Expr} {ta : TA} {p pos : Pos} (hg : Gl X "range") (hm : X.mg "range" = none) (ha : PA X [a, b] ta) (hs : starEach [a, b] X.env = [(false, eval a X.env), (false, eval b X.env)] := by rfl) (hs2 : starEach [b] X.env = [(false, eval b X.env)] := by rfl) :
    PI X tg (.Call (.Name "range" p) [a, b] [] pos) (iRng2 ta) := by
  intro pins s σ H R I h
  refine Call_ (ld_blt I hg hm boot_range (PyProof.Rows.callWith_type1 (thn (ha pos pins s σ H _ I h) fun us s1 ⟨vs, H1, I1, r1, q1⟩ => ?_) (by rw [hs, hs2]) (by rw [hs2]; rfl)))
  obtain ⟨i, j, e, ⟨q1, q2, q3, q4⟩, q⟩ := q1
  subst e
  cases r1 with
  | cons r rr =>
    cases rr with
    | cons r' rr =>
      cases rr
      obtain ⟨t, rfl⟩ := r
      obtain ⟨t', rfl⟩ := r'
      exact call_range_2 (range_it I1 q1 q2 q3 q4 q)
def tFor (wi : TI) (g : TG) (tb : TS) : TS := fun D σ H => wi σ H fun J H1 => ∃ W : Nat → Nat → St → Hp → Prop, (∃ m, W 0 m σ H1) ∧ ∀ i m σ H, W i m σ H →
  (J.stop i H ∧ D.nx σ H) ∨ (J.go i H ∧ ∃ N : St → Hp → Prop, (∀ σ' H', N σ' H' → ∃ m', m' < m ∧ W (i + 1) m' σ' H') ∧ ∀ x H', J.yld i H x H' → g x σ H' fun σ2 H2 => tb { D with nx := N, ct := N, bk := D.nx } σ2 H2)
def pinsAt (fp : List Addr) (h : Heap) : List (Addr × Obj) := fp.filterMap fun b => (h.get? b).map fun o => (b, o)
theorem mem_pinsAt {fp : List Addr} {h : Heap} {b : Addr} {o : Obj} (hb : b ∈ fp) (e : h.get? b = some o) : (b, o) ∈ pinsAt fp h := List.mem_filterMap.mpr ⟨b, hb, by rw [e]; rfl⟩
theorem of_pinsAt {fp : List Addr} {h : Heap} {p : Addr × Obj} (hp : p ∈ pinsAt fp h) : p.1 ∈ fp ∧ h.get? p.1 = some p.2 := by
  obtain ⟨b, hb, e⟩ := List.mem_filterMap.mp hp
  cases q : h.get? b with
  | none => rw [q] at e; cases e
  | some o =>
    rw [q] at e
    have e' : (b, o) = p := Option.some.inj e
    subst e'
    exact ⟨hb, q⟩
theorem Inv.pinned {pins : List (Addr × Obj)} {σ : St} {H : Hp} {s : Shared} {fp : List Addr} (I : Inv X pins σ H s) (hf : ∀ b ∈ fp, FpOk X pins H b) (ho : ∀ b ∈ fp, ∃ o, s.heap.get? b = some o ∧ ∀ v, o.data ≠ .cell v) : Inv X (pins ++ pinsAt fp s.heap) σ H s :=
  I.pins_of fun p hp => (List.mem_append.mp hp).elim (fun z => I.pin p (List.mem_append_right _ z)) fun z => by
    obtain ⟨hb, e⟩ := of_pinsAt z
    obtain ⟨f0, f1, f2, _⟩ := hf p.1 hb
    obtain ⟨o, e', d⟩ := ho p.1 hb
    rw [e] at e'; cases e'
    exact ⟨e, f0, f1, f2, d⟩
theorem Inv.unpinned {pins pl : List (Addr × Obj)} {σ : St} {H : Hp} {s : Shared} (I : Inv X (pins ++ pl) σ H s) : Inv X pins σ H s := I.pins_of fun p hp => I.pin p (List.mem_append_right _ (List.mem_append_left _ hp))
theorem ps_for {iter : Expr} {body : List Stmt} {wi : TI} {g : TG} {tb : TS} {pos : Pos} (hp : PassesOwn (model X.prog X.w) X.A X.env X.xe) (hc : X.calm = true) (hi : PI X tg iter wi) (hg : PG X tg g) (hb : PSs X body tb)
    (hs : ∀ x, foldedSetIterable iter X.env x = pure x := by intro _; rfl) : PS X (.For tg iter body [] pos) (tFor wi g tb) := by
  intro pins s σ H D I h
  refine wpAny_For (thn (hi pins s σ H _ I h) fun v s1 h1 => thn h1 fun itv s2 h2 => ?_) hs
  obtain ⟨it, fp, tn, J, H2, e, I2, T, st2, f2, W, ⟨m0, w0⟩, turn⟩ := h2
  subst e
  -- what stays true of the iterator's objects through the loop
  have stat : ∀ {H' : Hp}, (∀ b ∈ fp, H' b = none) → ∀ b ∈ fp, FpOk X pins H' b := fun hn b hb => ⟨hn b hb, (f2 b hb).2⟩
  refine codeAny_forLoop_any (fun n s' => ∃ i σ' H', Inv X pins σ' H' s' ∧ tn i s'.heap ∧ (∀ b ∈ fp, H' b = none) ∧ W i n σ' H') ?_ m0 ⟨0, σ, H2, I2, st2, fun b hb => (f2 b hb).1, w0⟩
  rintro n s3 ⟨i, σ3, H3, I3, st3, fr3, w3⟩
  rcases turn i n σ3 H3 w3 with ⟨stop, qn⟩ | ⟨go, N, hN, step⟩
  · refine wpAny_passesOwn hp (thn (T.done X rfl rfl rfl hc i pins s3 σ3 H3 X.xe I3 (stat fr3) st3 stop) fun r s4 ⟨hr, I4⟩ => ?_)
    subst hr
    exact wpAny_execs_nil ⟨σ3, H3, I4, qn⟩
  · refine wpAny_passesOwn hp (thn (T.item X rfl rfl rfl hc i pins s3 σ3 H3 X.xe I3 (stat fr3) st3 go) fun r s4 ⟨u, hr, h4⟩ => ?_)
    subst hr
    refine wpAny_passesOwn hp (thn h4 fun _ s5 ⟨x, H5, I5, r5, y5, st5, fr5⟩ => ?_)
    have I5' := I5.pinned (stat fr5) (T.obj _ _ st5)
    refine wpAny_passesOwn hp (thn (hg _ s5 σ3 H5 x u _ I5' r5 (step x H5 y5)) fun _ s6 ⟨σ6, H6, I6, q6⟩ => ?_)
    refine wpAny_passesOwn hp (thn (hb _ s6 σ6 H6 _ I6 q6) fun f s7 q7 => ?_)
    have again : ∀ {σ7 : St} {H7 : Hp}, Inv X (pins ++ pinsAt fp s5.heap) σ7 H7 s7 → N σ7 H7 → ∃ m, m < n ∧ ∃ i σ' H', Inv X pins σ' H' s7 ∧ tn i s7.heap ∧ (∀ b ∈ fp, H' b = none) ∧ W i m σ' H' := fun {σ7 H7} I7 n7 => by
      obtain ⟨m', hm, w7⟩ := hN σ7 H7 n7
      refine ⟨m', hm, i + 1, σ7, H7, I7.unpinned, T.keep _ _ _ st5 fun b hb o e => (I7.pin (b, o) (List.mem_append_right _ (List.mem_append_right _ (mem_pinsAt hb e)))).1, fun b hb => ?_, w7⟩
      obtain ⟨o, e, d⟩ := T.obj _ _ st5 b hb
      exact (I7.pin (b, o) (List.mem_append_right _ (List.mem_append_right _ (mem_pinsAt hb e)))).2.1
    cases f with
    | next => obtain ⟨σ7, H7, I7, n7⟩ := q7; exact again I7 n7
    | cont => obtain ⟨σ7, H7, I7, n7⟩ := q7; exact again I7 n7
    | brk => obtain ⟨σ7, H7, I7, q7⟩ := q7; exact ⟨σ7, H7, I7.unpinned, q7⟩
    | ret v => obtain ⟨x7, σ7, H7, I7, r7, q7⟩ := q7; exact ⟨x7, σ7, H7, I7.unpinned, r7, q7⟩
end
theorem for_tup {K : PySem.W.Frag} {a : Addr} {xs : List V} {g : TG} {tb : TS} {D : Ends} {σ : St} {H : Hp} (Pv : Nat → St → Hp → Prop) (h0 : Pv 0 σ H) (hl : ∀ i σ H, i ≤ xs.length → Pv i σ H → SqT K H a xs)
    (hs : ∀ i x σ H, xs[i]? = some x → Pv i σ H → g x σ H fun σ2 H2 => tb { D with nx := Pv (i + 1), ct := Pv (i + 1), bk := D.nx } σ2 H2) (hd : ∀ σ H, Pv xs.length σ H → D.nx σ H) :
    ∃ W : Nat → Nat → St → Hp → Prop, (∃ m, W 0 m σ H) ∧ ∀ i m σ H, W i m σ H →
      ((Itt K a).stop i H ∧ D.nx σ H) ∨ ((Itt K a).go i H ∧ ∃ N : St → Hp → Prop, (∀ σ' H', N σ' H' → ∃ m', m' < m ∧ W (i + 1) m' σ' H') ∧ ∀ x H', (Itt K a).yld i H x H' → g x σ H' fun σ2 H2 => tb { D with nx := N, ct := N, bk := D.nx } σ2 H2) := by
  refine ⟨fun i m σ H => m = xs.length - i ∧ i ≤ xs.length ∧ Pv i σ H, ⟨xs.length, by simp, Nat.zero_le _, h0⟩, ?_⟩
  rintro i m σ H ⟨rfl, hi, p⟩
  have q := hl i σ H hi p
  by_cases hlt : i < xs.length
  · refine .inr ⟨⟨xs, xs[i], q, by simp [hlt]⟩, Pv (i + 1), fun σ' H' p' => ⟨xs.length - (i + 1), by omega, rfl, hlt, p'⟩, fun x H' y => ?_⟩
    obtain ⟨e, y⟩ := y
    subst e
    exact hs i x σ _ (y xs q) p
  · have e : i = xs.length := by omega
    subst e
    exact .inl ⟨⟨xs, q, Nat.le_refl _⟩, hd σ H p⟩
theorem for_range {lo : Int} {n : Nat} {g : TG} {tb : TS} {D : Ends} {σ : St} {H : Hp} (Pv : Nat → St → Hp → Prop) (h0 : Pv 0 σ H)
    (hs : ∀ i σ H, i < n → Pv i σ H → g (.int (lo + i)) σ H fun σ2 H2 => tb { D with nx := Pv (i + 1), ct := Pv (i + 1), bk := D.nx } σ2 H2) (hd : ∀ σ H, Pv n σ H → D.nx σ H) :
    ∃ W : Nat → Nat → St → Hp → Prop, (∃ m, W 0 m σ H) ∧ ∀ i m σ H, W i m σ H →
      ((Itr lo n).stop i H ∧ D.nx σ H) ∨ ((Itr lo n).go i H ∧ ∃ N : St → Hp → Prop, (∀ σ' H', N σ' H' → ∃ m', m' < m ∧ W (i + 1) m' σ' H') ∧ ∀ x H', (Itr lo n).yld i H x H' → g x σ H' fun σ2 H2 => tb { D with nx := N, ct := N, bk := D.nx } σ2 H2) := by
  refine ⟨fun i m σ H => m = n - i ∧ i ≤ n ∧ Pv i σ H, ⟨n, by simp, Nat.zero_le _, h0⟩, ?_⟩
  rintro i m σ H ⟨rfl, hi, p⟩
  by_cases hlt : i < n
  · refine .inr ⟨hlt, Pv (i + 1), fun σ' H' p' => ⟨n - (i + 1), by omega, rfl, hlt, p'⟩, fun x H' y => ?_⟩
    obtain ⟨e, y⟩ := y
    subst e y
    exact hs i σ _ hlt p
  · have e : i = n := by omega
    subst e
    exact .inl ⟨Nat.le_refl _, hd σ H p⟩
end L2
namespace L2
open PySem PySem.Spec PyProof.Rows
abbrev R2 := V → V → Hp → VK → Prop
def OpR (X : Cx) (f : Value → Value → Sem Value) (r : R2) : Prop :=
  ∀ (pins : List (Addr × Obj)) (s : Shared) (σ : St) (H : Hp) (x y : V) (v u : Value) (Q : VK), Inv X pins σ H s → RelV x v → RelV y u → r x y H Q →
    wpAny (model X.prog X.w) X.A (f v u) (EP X pins σ Q) X.xe s
def CallR (X : Cx) (f : Value) (r : List V → Hp → VK → Prop) : Prop :=
  ∀ (pins : List (Addr × Obj)) (s : Shared) (σ : St) (H : Hp) (xs : List V) (us : List Value) (Q : VK), Inv X pins σ H s → Vals xs us → r xs H Q →
    wpAny (model X.prog X.w) X.A (call f us) (EP X pins σ Q) X.xe s
def tOp (r : R2) (ta tb : TE) : TE := fun σ H Q => ta σ H fun x H1 => tb σ H1 fun y H2 => r x y H2 Q
def rI (C : Int → Int → Prop) (g : Int → Int → V) : R2 := fun x y H Q => ∃ i j, x = .int i ∧ y = .int j ∧ C i j ∧ Q (g i j) H
def rI0 (g : Int → Int → V) : R2 := fun x y H Q => ∃ i j, x = .int i ∧ y = .int j ∧ Q (g i j) H
section
variable {X : Cx} {a b c : Expr} {ta tb tc : TE} {pos : Pos}
theorem binT (ha : PE X a ta) (hb : PE X b tb) {pins : List (Addr × Obj)} {s : Shared} {σ : St} {H : Hp} {R : V → V → Hp → Prop} (I : Inv X pins σ H s)
    (h : ta σ H fun x H1 => tb σ H1 fun y H2 => R x y H2) {Q : Value → Shared → Prop} {f : Value → Value → Sem Value}
    (hf : ∀ v u s2 x y H2, Inv X pins σ H2 s2 → RelV x v → RelV y u → R x y H2 → wpAny (model X.prog X.w) X.A (f v u) Q X.xe s2) :
    wpAny (model X.prog X.w) X.A (eval a X.env) (fun v s₁ => wpAny (model X.prog X.w) X.A (eval b X.env) (fun u s₂ => wpAny (model X.prog X.w) X.A (f v u) Q X.xe s₂) X.xe s₁) X.xe s := by
  refine thn (ha pins s σ H _ I h) fun v s1 ⟨x, H1, I1, r1, q1⟩ => ?_
  refine thn (hb pins s1 σ H1 _ I1 q1) fun u s2 ⟨y, H2, I2, r2, q2⟩ => ?_
  exact hf v u s2 x y H2 I2 r1 r2 q2
theorem pe_op {op : Operator} {r : R2} (ho : OpR X (binaryOp op) r) (ha : PE X a ta) (hb : PE X b tb) : PE X (.BinOp a op b pos) (tOp r ta tb) := by
  intro pins s σ H Q I h
  exact wpAny_BinOp (binT ha hb I h fun v u s2 x y H2 I2 rx ry q => ho pins s2 σ H2 x y v u Q I2 rx ry q)
theorem opI {f : Value → Value → Sem Value} {C : Int → Int → Prop} {g : Int → Int → Int}
    (rule : ∀ (i j : Int) (t u : Tok) (s : Shared) (Q : Value → Shared → Prop) (E : Value → Shared → Prop), C i j → Q (.int (g i j) s.toks) { s with toks := s.toks + 1 } → wpAny (model X.prog X.w) X.A (f (.int i t) (.int j u)) Q E s) :
    OpR X f (rI C fun i j => .int (g i j)) := by
  intro pins s σ H x y v u Q I rx ry h
  obtain ⟨i, j, rfl, rfl, hc, q⟩ := h
  obtain ⟨t, rfl⟩ := rx
  obtain ⟨t', rfl⟩ := ry
  exact rule i j t t' s _ _ hc ⟨.int (g i j), H, I.tok _, ⟨_, rfl⟩, q⟩
theorem opI0 {f : Value → Value → Sem Value} {g : Int → Int → Int}
    (rule : ∀ (i j : Int) (t u : Tok) (s : Shared) (Q : Value → Shared → Prop) (E : Value → Shared → Prop), Q (.int (g i j) s.toks) { s with toks := s.toks + 1 } → wpAny (model X.prog X.w) X.A (f (.int i t) (.int j u)) Q E s) :
    OpR X f (rI0 fun i j => .int (g i j)) := by
  intro pins s σ H x y v u Q I rx ry h
  obtain ⟨i, j, rfl, rfl, q⟩ := h
  obtain ⟨t, rfl⟩ := rx
  obtain ⟨t', rfl⟩ := ry
  exact rule i j t t' s _ _ ⟨.int (g i j), H, I.tok _, ⟨_, rfl⟩, q⟩
theorem opB0 {f : Value → Value → Sem Value} {g : Int → Int → Bool}
    (rule : ∀ (i j : Int) (t u : Tok) (s : Shared) (Q : Value → Shared → Prop) (E : Value → Shared → Prop), Q (.bool (g i j)) s → wpAny (model X.prog X.w) X.A (f (.int i t) (.int j u)) Q E s) :
    OpR X f (rI0 fun i j => .bl (g i j)) := by
  intro pins s σ H x y v u Q I rx ry h
  obtain ⟨i, j, rfl, rfl, q⟩ := h
  obtain ⟨t, rfl⟩ := rx
  obtain ⟨t', rfl⟩ := ry
  exact rule i j t t' s _ _ ⟨.bl (g i j), H, I, rfl, q⟩
def CPow (i j : Int) : Prop := 0 ≤ j ∧ j ≤ 1000000 ∧ i.natAbs < 2 ^ 64
theorem op_add : OpR X (binaryOp .Add) (rI0 fun i j => .int (i + j)) := opI0 fun _ _ _ _ _ _ _ q => add_int q
theorem op_sub : OpR X (binaryOp .Sub) (rI0 fun i j => .int (i - j)) := opI0 fun _ _ _ _ _ _ _ q => sub_int q
theorem op_mod : OpR X (binaryOp .Mod) (rI (fun _ j => 0 < j) fun i j => .int (i % j)) := opI fun i j _ _ _ _ _ hc q => by
  have h1 : (0 : Int) < j := hc
  exact mod_int' (by omega) (by rw [Int.fmod_eq_emod_of_nonneg i (by omega)]; exact q)
theorem op_pow : OpR X (binaryOp .Pow) (rI CPow fun i j => .int (i ^ j.toNat)) := opI fun _ _ _ _ _ _ _ hc q => pow_int_small hc.1 hc.2.1 hc.2.2 q
end
def scal : V → V → Bool
  | .non, .non => true | .non, .int _ => true | .int _, .non => true | .non, .bl _ => true | .bl _, .non => true | .non, .str _ => true | .str _, .non => true
  | .int _, .int _ => true | .bl _, .bl _ => true | .str _, .str _ => true | .byt _, .byt _ => true
  | .int _, .str _ => true | .str _, .int _ => true | .bl _, .str _ => true | .str _, .bl _ => true
  | _, _ => false
def rEq : R2 := fun x y H Q => scal x y = true ∧ Q (.bl (decide (x = y))) H
theorem dec_int {i j : Int} : decide (V.int i = V.int j) = (i == j) := by
  rw [Bool.eq_iff_iff]
  simp
theorem dec_bl {i j : Bool} : decide (V.bl i = V.bl j) = (i == j) := by
  rw [Bool.eq_iff_iff]
  simp
theorem dec_str {i j : Str} : decide (V.str i = V.str j) = (i == j) := by
  rw [Bool.eq_iff_iff]
  simp
theorem dec_byt {i j : Array UInt8} : decide (V.byt i = V.byt j) = (i.toList == j.toList) := by
  rw [Bool.eq_iff_iff]
  cases i
  cases j
  simp
section
variable {X : Cx} {a b c : Expr} {ta tb tc : TE} {pos : Pos}
theorem fin_bl {pins : List (Addr × Obj)} {σ : St} {H : Hp} {s : Shared} {Q : VK} {k k' : Bool} (I : Inv X pins σ H s) (q : Q (.bl k) H) (e : k = k') : EP X pins σ Q (.bool k') s := by
  subst e
  exact ⟨.bl k, H, I, rfl, q⟩
theorem op_eq : OpR X (compareOp .Eq) rEq := by
  intro pins s σ H x y v u Q I rx ry h
  obtain ⟨hs, q⟩ := h
  cases x with
  | non =>
    cases rx
    cases y with
    | non => cases ry; exact PySem.EqNone.eq_none_none (fin_bl I q (by simp))
    | bl j => cases ry; exact PySem.EqNone.eq_none_bool (fin_bl I q (by simp))
    | int j => obtain ⟨t', rfl⟩ := ry; exact PySem.EqNone.eq_none_int (fin_bl I q (by simp))
    | str j => obtain ⟨t', rfl⟩ := ry; exact PySem.EqNone.eq_none_str (fin_bl I q (by simp))
    | _ => exact absurd (show false = true from hs) Bool.false_ne_true
  | bl i =>
    cases rx
    cases y with
    | non => cases ry; exact PySem.EqNone.eq_bool_none (fin_bl I q (by simp))
    | bl j => cases ry; exact eq_bool (fin_bl I q dec_bl)
    | str j => obtain ⟨t', rfl⟩ := ry; exact PySem.EqMixed.eq_bool_str (fin_bl I q (by simp))
    | _ => exact absurd (show false = true from hs) Bool.false_ne_true
  | int i =>
    obtain ⟨t, rfl⟩ := rx
    cases y with
    | non => cases ry; exact PySem.EqNone.eq_int_none (fin_bl I q (by simp))
    | int j => obtain ⟨t', rfl⟩ := ry; exact eq_int (fin_bl I q dec_int)
    | str j => obtain ⟨t', rfl⟩ := ry; exact PySem.EqMixed.eq_int_str (fin_bl I q (by simp))
    | _ => exact absurd (show false = true from hs) Bool.false_ne_true
  | str i =>
    obtain ⟨t, rfl⟩ := rx
    cases y with
    | non => cases ry; exact PySem.EqNone.eq_str_none (fin_bl I q (by simp))
    | bl j => cases ry; exact PySem.EqMixed.eq_str_bool (fin_bl I q (by simp))
    | int j => obtain ⟨t', rfl⟩ := ry; exact PySem.EqMixed.eq_str_int (fin_bl I q (by simp))
    | str j => obtain ⟨t', rfl⟩ := ry; exact eq_str (fin_bl I q dec_str)
    | _ => exact absurd (show false = true from hs) Bool.false_ne_true
  | byt i =>
    obtain ⟨t, rfl⟩ := rx
    cases y with
    | byt j => obtain ⟨t', rfl⟩ := ry; exact PySem.W.eq_bytes (fin_bl I q dec_byt)
    | _ => exact absurd (show false = true from hs) Bool.false_ne_true
  | _ => cases y <;> exact absurd (show false = true from hs) Bool.false_ne_true
theorem op_lt : OpR X (compareOp .Lt) (rI0 fun i j => .bl (decide (i < j))) := opB0 fun _ _ _ _ _ _ _ q => lt_int q
theorem op_le : OpR X (compareOp .LtE) (rI0 fun i j => .bl (decide (i ≤ j))) := opB0 fun _ _ _ _ _ _ _ q => le_int q
theorem op_gt : OpR X (compareOp .Gt) (rI0 fun i j => .bl (decide (j < i))) := opB0 fun _ _ _ _ _ _ _ q => gt_int q
theorem op_isN : OpR X (compareOp .Is) (fun x y H Q => y = .non ∧ Q (.bl (decide (x = .non))) H) := by
  intro pins s σ H x y v u Q I rx ry h
  obtain ⟨rfl, q⟩ := h
  cases ry
  refine is_none_gen (fin_bl I q ?_)
  cases x <;> first
    | (cases rx; rfl)
    | (obtain ⟨t, rfl⟩ := rx; rfl)
theorem nomark (b : Expr) {op : CmpOp} (h : op ≠ .In := by decide) (h2 : op ≠ .NotIn := by decide) : behindInMarks op b = false := by
  have e1 : (op == CmpOp.In) = false := by cases op <;> first | rfl | exact absurd rfl h
  have e2 : (op == CmpOp.NotIn) = false := by cases op <;> first | rfl | exact absurd rfl h2
  cases b <;> simp [behindInMarks, e1, e2]
theorem pe_cmpR {op : CmpOp} {r : R2} (ho : OpR X (compareOp op) r) (ha : PE X a ta) (hb : PE X b tb) (hm : behindInMarks op b = false) : PE X (.Compare a [op] [b] pos) (tOp r ta tb) := by
  intro pins s σ H Q I h
  exact wpAny_Compare1 (binT ha hb I h fun v u s2 x y H2 I2 rx ry q => ho pins s2 σ H2 x y v u Q I2 rx ry q) hm
def tTest (t : TE) : TT := fun σ H Q => t σ H fun x H' => ∃ k, x = .bl k ∧ Q k H'
theorem pt_cmpR {op : CmpOp} {r : R2} (ho : OpR X (compareOp op) r) (ha : PE X a ta) (hb : PE X b tb) (hm : behindInMarks op b = false) : PT X (.Compare a [op] [b] pos) (tTest (tOp r ta tb)) := by
  intro pins s σ H Q I h
  refine wpAny_isTrue_Compare1 (thn (ha pins s σ H _ I h) fun v s1 ⟨x, H1, I1, r1, q1⟩ => thn (hb pins s1 σ H1 _ I1 q1) fun u s2 ⟨y, H2, I2, r2, q2⟩ =>
    thn (ho pins s2 σ H2 x y v u _ I2 r1 r2 q2) fun c s3 ⟨z, H3, I3, r3, k, e, q3⟩ => ?_) hm
  subst e
  cases r3
  exact wpAny_truthy_bool ⟨H3, I3, q3⟩
theorem line63 : (sizeLine : Nat) < 2 ^ 63 := by rw [sizeLine_eq]; decide
theorem op_add_str : OpR X (binaryOp .Add) (fun x y H Q => ∃ i j, x = .str i ∧ y = .str j ∧ i.length + j.length ≤ sizeLine ∧ Q (.str (i ++ j)) H) := by
  intro pins s σ H x y v u Q I rx ry h
  obtain ⟨i, j, rfl, rfl, hz, q⟩ := h
  obtain ⟨t, rfl⟩ := rx
  obtain ⟨t', rfl⟩ := ry
  exact add_str (fun t' tk => ⟨.str (i ++ j), H, I.tok _, ⟨_, rfl⟩, q⟩) hz
theorem vals1 {x : V} {us : List Value} (r : Vals [x] us) : ∃ u, us = [u] ∧ RelV x u := by
  cases r with
  | cons r1 r2 => cases r2; exact ⟨_, rfl, r1⟩
end
end L2
namespace L2
open PySem PySem.Spec PyProof.Rows
structure ObjM (h : Heap) (x dx C : Addr) (mA : Str → Option Value) : Prop where
  obj : h.get? x = some (PySem.W.instObj C dx)
  ns : h.Ns1 dx mA
  ne : dx ≠ x
theorem lookIn_ns {h : Heap} {dx : Addr} {mA : Str → Option Value} (n : h.Ns1 dx mA) : ∃ od, h.get? dx = some od ∧ ∀ name, PySem.W.lookIn name od = some (mA name) := by
  obtain ⟨o, es, ep, ho, hd, hk, _, hm⟩ := n
  refine ⟨o, ho, fun name => ?_⟩
  have e := hm name
  unfold nsFind findBy at e
  rw [← Array.find?_toList] at e
  unfold PySem.W.lookIn
  rw [hd]
  dsimp only
  split
  · rename_i y q
    rw [q] at e
    exact congrArg some e
  · rename_i q
    rw [q] at e
    have a : es.toList.any (·.refKey) = false := by
      rw [List.any_eq_false]
      intro y hy
      obtain ⟨z, t, hkey⟩ := hk y (Array.mem_toList_iff.mp hy)
      simp [DictEntry.refKey, hkey]
    have a' : ¬ es.toList.any (·.refKey) = true := by rw [a]; exact Bool.false_ne_true
    rw [if_neg a']
    exact congrArg some e
theorem ObjM.look {h : Heap} {x dx C : Addr} {mA : Str → Option Value} (I : ObjM h x dx C mA) : ∃ od, PySem.W.InstAt h x (PySem.W.instObj C dx) C (some od) ∧ ∀ name, PySem.W.lookIn name od = some (mA name) :=
  let ⟨od, ho, hl⟩ := lookIn_ns I.ns
  ⟨od, ⟨I.obj, rfl, rfl, ho⟩, hl⟩
section
variable {prog : Program} {w : World} {A : Around} {E : Value → Shared → Prop} {s : Shared} {K : PySem.W.Frag} {x dx C f : Addr} {mA : Str → Option Value} {name : Str} {v : Value}
end
theorem RelO.none_of {o : Option Value} (r : RelO none o) : o = none := by
  cases o with
  | none => rfl
  | some u => exact (show False from r).elim
section
variable {P : Program} {w : World} {H H' : Hp} {h h' : Heap} {a C dx : Addr} {fs fs' : List (Str × V)}
theorem ins_get (hok : HOk P w H h) (e : H a = some (.ins C dx fs)) : ∃ mA, ObjM h a dx C mA ∧ (∀ f, RelO (fs.lookup f) (mA f)) ∧ PySem.Within mA (fs.map (·.1)) ∧ fs.length ≤ 1000 ∧ H dx = some (.own a) := by
  obtain ⟨d, z, ne, ob, mA, n, r, q⟩ := (show ObjOk P w H h a (.ins C dx fs) from hok a _ e)
  exact ⟨mA, ⟨ob, n, ne⟩, r, q, z, d⟩
end
structure Cls (K : PySem.W.Frag) (C : Addr) : Prop where
  pg : PySem.W.plainGet K C Str.empty = true
  hd : PySem.W.hasDictIn K C = true
  po : PySem.W.plainOver K C = true
  sa : PySem.W.findIn K (.ref C) "__setattr__" = some (some (.builtin "object.__setattr__"))
theorem Cls.get {K : PySem.W.Frag} {C : Addr} (c : Cls K C) (f : Str) : PySem.W.plainGet K C f = true := c.pg
structure Con (K : PySem.W.Frag) (C : Addr) (f : Str) (v : V) (u : Value) : Prop where
  at_ : PySem.W.findIn K (.ref C) f = some (some u)
  rel : RelV v u
  get : PySem.W.specialIn K u "__get__" = some none
  cp : PySem.W.copiedNames.contains f = false
structure Meth (K : PySem.W.Frag) (C : Addr) (m : Str) (f : Addr) : Prop where
  at_ : PySem.W.findIn K (.ref C) m = some (some (.ref f))
  fn : PySem.W.isFn K (.ref f) = true
  kp : PySem.W.keepIn K (.ref f) = true
section
variable {X : Cx} {pins : List (Addr × Obj)} {σ : St} {H : Hp} {s : Shared} {a C dx : Addr} {fs : List (Str × V)} {f : Str} {v : V} {A : Around} {E : Value → Shared → Prop}
end
section
variable {X : Cx} {o e value : Expr} {f : Str} {pos pos' tpos : Pos} {ta tv : TE}
end
section
variable {X : Cx} {pins : List (Addr × Obj)} {σ : St} {H : Hp} {s : Shared} {A : Around} {E : Value → Shared → Prop} {Q : Value → Shared → Prop} {c : Value} {b : Bool}
inductive TyOf (K : PySem.W.Frag) (H : Hp) : V → Value → Prop where
  | non : TyOf K H .non (.type "NoneType")
  | bl (x : Bool) : TyOf K H (.bl x) (.type "bool")
  | int (i : Int) : TyOf K H (.int i) (.type "int")
  | str (x : Str) : TyOf K H (.str x) (.type "str")
  | flt (x : UInt64) : TyOf K H (.flt x) (.type "float")
  | lst {a : Addr} {xs : List V} (e : H a = some (.lst xs)) : TyOf K H (.ref a) (.type "list")
  | frz {a : Addr} {o : Obj} {xs : List V} (e : H a = some (.frz o (.lst xs))) : TyOf K H (.ref a) (.type "list")
  | tup {a : Addr} {xs : List V} (e : H a = some (.tup xs)) : TyOf K H (.ref a) (.type "tuple")
  | dK {a : Addr} {kvs : List (Key × V)} (e : H a = some (.dK kvs)) : TyOf K H (.ref a) (.type "dict")
  | dT {a : Addr} {kvs : List (List Key × V)} (e : H a = some (.dT kvs)) : TyOf K H (.ref a) (.type "dict")
  | ins {a C dx : Addr} {fs : List (Str × V)} (e : H a = some (.ins C dx fs)) (cl : Cls K C) (ha : PySem.W.findIn K (.ref C) "__class__" = some (some (.builtin "object.__class__")))
      (hn : PySem.W.specialIn K (.builtin "object.__class__") "__get__" = some (some (.builtin "getset_descriptor.__get__"))) (htk : PySem.W.takesIn K (.builtin "object.__class__") = some true)
      (hm : PySem.W.mroIn K C (.type "object") = some true) : TyOf K H (.ref a) (.ref C)
theorem isinst_ok {x : V} {u t : Value} (I : Inv X pins σ H s) (rx : RelV x u) (ty : TyOf X.K H x t) (e : PySem.W.kitOne X.K t c = some b) (h : ∀ tk, Q (.bool b) { s with toks := tk }) :
    wpAny (model X.prog X.w) A (call (.builtin "isinstance") [u, c]) Q E s := by
  cases ty with
  | non => cases (show u = Value.none from rx); exact PySem.W.kia_one PySem.W.kitx_none I.kIn True.intro e (fun z => nomatch z) h
  | bl y => cases (show u = Value.bool y from rx); exact PySem.W.kia_one PySem.W.kitx_bool I.kIn True.intro e (fun z => nomatch z) h
  | int i => obtain ⟨t, q⟩ := (show ∃ t, u = Value.int i t from rx); cases q; exact PySem.W.kia_one PySem.W.kitx_int I.kIn True.intro e (fun z => nomatch z) h
  | str y => obtain ⟨t, q⟩ := (show ∃ t, u = Value.str y t from rx); cases q; exact PySem.W.kia_one PySem.W.kitx_str I.kIn True.intro e (fun z => nomatch z) h
  | flt y => obtain ⟨t, q⟩ := (show ∃ t, u = Value.float y t from rx); cases q; exact PySem.W.kia_one PySem.W.kitx_float I.kIn True.intro e (fun z => nomatch z) h
  | @lst a xs ea =>
    cases (show u = Value.ref a from rx)
    obtain ⟨_, _, n, _, h1⟩ := (show ObjOk X.prog X.w H s.heap a (.lst xs) from I.hok a _ ea)
    exact PySem.W.kia_one PySem.W.kitx_list I.kIn ⟨_, h1, rfl⟩ e (fun z => nomatch z) h
  | @frz a ob xs ea =>
    cases (show u = Value.ref a from rx)
    obtain ⟨_, _, _, n, _, h1⟩ := (show ObjOk X.prog X.w H s.heap a (.frz ob (.lst xs)) from I.hok a _ ea)
    exact PySem.W.kia_one PySem.W.kitx_list I.kIn ⟨_, h1, rfl⟩ e (fun z => nomatch z) h
  | @tup a xs ea =>
    cases (show u = Value.ref a from rx)
    obtain ⟨_, _, _, p⟩ := (show ObjOk X.prog X.w H s.heap a (.tup xs) from I.hok a _ ea)
    obtain ⟨o, h1, h2, _⟩ := p
    exact PySem.W.kia_one PySem.W.kitx_tuple I.kIn ⟨o, h1, h2⟩ e (fun z => nomatch z) h
  | @dK a kvs ea =>
    cases (show u = Value.ref a from rx)
    obtain ⟨_, _, vs, _, p⟩ := (show ObjOk X.prog X.w H s.heap a (.dK kvs) from I.hok a _ ea)
    obtain ⟨o, es, ep, h1, h2, _⟩ := p
    exact PySem.W.kia_one PySem.W.kitx_dict I.kIn ⟨o, h1, h2.1⟩ e (fun z => nomatch z) h
  | @dT a kvs ea =>
    cases (show u = Value.ref a from rx)
    obtain ⟨_, _, xs, _, o, es, ep, h1, h2, _⟩ := (show ObjOk X.prog X.w H s.heap a (.dT kvs) from I.hok a _ ea)
    exact PySem.W.kia_one PySem.W.kitx_dict I.kIn ⟨o, h1, h2.1⟩ e (fun z => nomatch z) h
  | @ins a C dx fs ea cl ha hn htk hm =>
    cases (show u = Value.ref a from rx)
    obtain ⟨mA, O, _⟩ := ins_get I.hok ea
    obtain ⟨od, J, _⟩ := O.look
    exact PySem.W.kia_one (PySem.W.kitx_own (cl.get _) cl.hd ha hn htk hm) I.kIn J e (fun z => nomatch z) h
end
end L2
namespace L2
open PySem PySem.Spec PyProof.Rows
structure Room (k : Nat) (A : Around) : Prop where
  hd : A.handled = none
  dp : A.depth + 3 * k + 5 < recursionLimit
  un : A.units + 16 * k + 200 < cLine
theorem Room.mono {j k : Nat} {A : Around} (r : Room k A) (h : j ≤ k) : Room j A := ⟨r.hd, by have := r.dp; omega, by have := r.un; omega⟩
theorem Room.deeper {k : Nat} {A : Around} (r : Room (k + 1) A) (env : Env) : Room k (A.deeper env) :=
  ⟨r.hd, by have := r.dp; show A.depth + 1 + 3 * k + 5 < _; omega, by have := r.un; show A.units + 3 + 16 * k + 200 < _; omega⟩
theorem Room.depth {k : Nat} {A : Around} (r : Room k A) : A.depth < recursionLimit := by have := r.dp; omega
theorem Room.units {k : Nat} {A : Around} (r : Room k A) : A.units + 64 < cLine := by have := r.un; omega
def tNil : TA := fun _ H Q => Q [] H
def tCons (ta : TE) (tr : TA) : TA := fun σ H Q => ta σ H fun x H1 => tr σ H1 fun xs H2 => Q (x :: xs) H2
section
variable {X : Cx} {e : Expr} {es : List Expr} {te : TE} {t : TA} {pos : Pos}
theorem pa_nil : PA X [] tNil := fun _ _ _ _ H Q I h => Calls.spliced_nil ⟨[], H, I, .nil, h⟩
theorem pa_cons (ha : PE X e te) (hr : PA X es t) (hs : starEach (e :: es) X.env = (false, eval e X.env) :: starEach es X.env := by rfl) : PA X (e :: es) (tCons te t) := by
  intro pos pins s σ H Q I h
  rw [hs]
  show wpAny _ _ (spliced ((false, eval e X.env) :: backTo pos (starEach es X.env))) _ _ s
  refine Calls.spliced_cons (thn (ha pins s σ H _ I h) fun u s1 ⟨x, H1, I1, r1, q1⟩ => ?_)
  exact thn (hr pos pins s1 σ H1 _ I1 q1) fun us s2 ⟨xs, H2, I2, r2, q2⟩ => ⟨x :: xs, H2, I2, .cons r1 r2, q2⟩
def tTup (t : TA) : TE := fun σ H Q => t σ H fun xs H1 => xs.length ≤ sizeLine ∧ ∀ p, H1 p = none → Q (.ref p) (upd H1 p (.tup xs))
def tLst (t : TA) : TE := fun σ H Q => t σ H fun xs H1 => xs.length ≤ sizeLine ∧ ∀ p, H1 p = none → Q (.ref p) (upd H1 p (.lst xs))
theorem pe_tup {x1} (h : PA X es t) : PE X (.Tuple es x1 pos) (tTup t) := by
  intro pins s σ H Q I hq
  refine wpAny_Tuple_spliced (thn (h pos pins s σ H _ I hq) fun us s1 ⟨xs, H1, I1, r, z, q⟩ => ⟨by rw [← r.length]; exact z, ?_⟩)
  have hf : H1 s1.heap.objs.size = none := I1.hok.fresh (Nat.le_refl _)
  refine ⟨.ref s1.heap.objs.size, upd H1 s1.heap.objs.size (.tup xs), I1.laid (t' := s1.toks) (fun b u e => Heap.get?_push_of_some _ e) (Nat.le_refl _) ?_, rfl, q _ hf⟩
  exact ⟨z, us, r, ⟨_, Heap.get?_push_size _ rfl, rfl, _, rfl⟩⟩
theorem pe_lst (h : PA X es t) : PE X (.List es pos) (tLst t) := by
  intro pins s σ H Q I hq
  refine wpAny_List_spliced (thn (h pos pins s σ H _ I hq) fun us s1 ⟨xs, H1, I1, r, z, q⟩ => ⟨by rw [← r.length]; exact z, ?_⟩)
  have hf : H1 s1.heap.objs.size = none := I1.hok.fresh (Nat.le_refl _)
  refine ⟨.ref s1.heap.objs.size, upd H1 s1.heap.objs.size (.lst xs), I1.laid (t' := s1.toks) (fun b u e => Heap.get?_push_of_some _ e) (Nat.le_refl _) ?_, rfl, q _ hf⟩
  exact ⟨z, us, 0, r, Heap.get?_push_size _ rfl⟩
end
abbrev Sp := List V → Hp → VK → XK → Prop
abbrev CXT := List Env → Hp → Shared → XK → Value → Shared → Prop
structure Env0 (P : Program) (w : World) (K : PySem.W.Frag) (mg : Str → Option Value) (base : Heap) (A : Around) (outer : List Env) (s : Shared) (H : Hp) : Prop where
  frames : A.frames = some outer
  mod : Mod K mg base
  bs : ∀ b o, base.get? b = some o → s.heap.get? b = some o ∧ H b = none
  bsz : base.objs.size ≤ s.heap.objs.size
  funs : s.heap.FunFrames base outer
  frf : ∀ b ∈ frs outer, H b = none
  hok : HOk P w H s.heap
  bare : AllBare s.gens
def CE (outer : List Env) (P : Program) (w : World) (H : Hp) (s : Shared) (Q : VK) (u : Value) (s' : Shared) : Prop :=
  ∃ v H', s'.os = s.os ∧ AllBare s'.gens ∧ Un (frs outer) [] H H' s.heap s'.heap ∧ HOk P w H' s'.heap ∧ RelV v u ∧ Q v H'
def CR (CX : CXT) (outer : List Env) (P : Program) (w : World) (H : Hp) (s : Shared) (Q : VK) (E : XK) (r : Result) (s' : Shared) : Prop :=
  match r with
  | .ok (.ret u) => CE outer P w H s Q u s'
  | .ok _ => False
  | .error e => CX outer H s E e s'
structure FnOk (P : Program) (w : World) (K : PySem.W.Frag) (mg : Str → Option Value) (base : Heap) (CX : CXT) (k : Nat) (f : Addr) (fd : FuncData) (ps : List Str) (sp : Sp) : Prop where
  len : ∀ vs H Q E, sp vs H Q E → vs.length = ps.length
  run : ∀ (A : Around) (outer : List Env) (s : Shared) (H : Hp) (args : Args) (us : List Value) (vs : List V) (Q : VK) (E : XK), Room k A → Env0 P w K mg base A outer s H → BindsTo s fd args (ps.zip us) → Vals vs us → sp vs H Q E →
    codeAny (model P w) A (.call (.ref f) args) (CR CX outer P w H s Q E) s
theorem FnOk.mono {P : Program} {w : World} {K : PySem.W.Frag} {mg : Str → Option Value} {base : Heap} {CX : CXT} {j k : Nat} {f : Addr} {fd : FuncData} {ps : List Str} {sp : Sp} (F : FnOk P w K mg base CX j f fd ps sp) (h : j ≤ k) :
    FnOk P w K mg base CX k f fd ps sp := ⟨F.len, fun A outer s H args us vs Q E hr => F.run A outer s H args us vs Q E (hr.mono h)⟩
theorem FnOk.imp {P : Program} {w : World} {K : PySem.W.Frag} {mg : Str → Option Value} {base : Heap} {CX : CXT} {k : Nat} {f : Addr} {fd : FuncData} {ps : List Str} {sp sp' : Sp} (F : FnOk P w K mg base CX k f fd ps sp)
    (h : ∀ vs H Q E, sp' vs H Q E → sp vs H Q E) : FnOk P w K mg base CX k f fd ps sp' :=
  ⟨fun vs H Q E q => F.len vs H Q E (h _ _ _ _ q), fun A outer s H args us vs Q E hr he hb hv hs => F.run A outer s H args us vs Q E hr he hb hv (h _ _ _ _ hs)⟩
section
variable {X : Cx} {pins : List (Addr × Obj)} {σ : St} {H : Hp} {s s' : Shared}
theorem Inv.env0 (I : Inv X pins σ H s) : Env0 X.prog X.w X.K X.mg X.base X.A X.stack s H :=
  ⟨I.ok.frames, I.ok.mod, I.bs, Nat.le_trans I.ok.bsz I.sz, I.stack, I.stkFree, I.hok, I.bare⟩
theorem Inv.after {Q : VK} {u : Value} (I : Inv X pins σ H s) (h : CE X.stack X.prog X.w H s Q u s') : EP X pins σ Q u s' := by
  obtain ⟨v, H', os, bare, un, hok, r, q⟩ := h
  obtain ⟨hh, g, d, t, os'⟩ := s'
  obtain rfl : os' = s.os := os
  exact ⟨v, H', I.call (h' := hh) (g' := g) (d' := d) (t' := t) (ch := []) un hok bare (fun b z => absurd z (by simp)), r, q⟩
end
def tCall (sp : Sp) (dvs : List V) (E : XK) (t : TA) : TE := fun σ H Q => t σ H fun vs H1 => sp (vs ++ dvs) H1 Q E
def Binds (K : PySem.W.Frag) (fd : FuncData) (ps : List Str) (ds : List Value) : Prop :=
  ∀ (s : Shared) (us : List Value), K.In s.heap → (us ++ ds).length = ps.length → BindsTo s fd ⟨us, []⟩ (ps.zip (us ++ ds))
theorem Binds.all {K : PySem.W.Frag} {fd : FuncData} {ps : List Str} (h : ∀ us : List Value, us.length = ps.length → bindArgs fd ⟨us, []⟩ = pure (ps.zip us)) : Binds K fd ps [] := fun s us _ hl => by
  rw [List.append_nil] at hl ⊢
  exact .of_eq (h us hl)
def Passes (CX : CXT) (X : Cx) (E : XK) : Prop := ∀ (pins : List (Addr × Obj)) (σ : St) (H : Hp) (s : Shared) (e : Value) (s' : Shared), Inv X pins σ H s → CX X.stack H s E e s' → X.xe e s'
section
variable {X : Cx} {CX : CXT} {k : Nat} {f C : Addr} {fd : FuncData} {ps : List Str} {sp : Sp} {dvs : List V} {ds : List Value} {E : XK} {x m : Str} {p pos apos : Pos} {e o : Expr} {es : List Expr} {ta : TE} {t : TA}
theorem run_fn {pins : List (Addr × Obj)} {σ : St} {H : Hp} {s : Shared} {Q : VK} {us : List Value} {vs : List V} (F : FnOk X.prog X.w X.K X.mg X.base CX k f fd ps sp) (hr : Room k X.A) (hb : Binds X.K fd ps ds) (hd : Vals dvs ds) (hx : Passes CX X E)
    (I : Inv X pins σ H s) (r : Vals vs us) (h : sp (vs ++ dvs) H Q E) : wpAny (model X.prog X.w) X.A (call (.ref f) us) (EP X pins σ Q) X.xe s := by
  have r2 : Vals (vs ++ dvs) (us ++ ds) := r.append hd
  have hl : (us ++ ds).length = ps.length := by rw [← r2.length]; exact F.len _ _ _ _ h
  refine wpAny_call (codeAny_mono (F.run X.A X.stack s H ⟨us, []⟩ (us ++ ds) (vs ++ dvs) Q E hr I.env0 (hb s us I.kIn hl) r2 h) fun r s' hq => ?_)
  cases r with
  | error e => exact hx pins σ H s e s' I hq
  | ok fl =>
    cases fl with
    | ret u => exact I.after hq
    | next => exact False.elim hq
    | brk => exact False.elim hq
    | cont => exact False.elim hq
theorem pe_call (F : FnOk X.prog X.w X.K X.mg X.base CX k f fd ps sp) (hr : Room k X.A) (hg : Gl X x) (hm : X.mg x = some (.ref f)) (hk : PySem.W.keepIn X.K (.ref f) = true) (hb : Binds X.K fd ps ds) (hd : Vals dvs ds) (hx : Passes CX X E)
    (ha : PA X (e :: es) t) (hdb : (x == ("__debug__" : Str)) = false := by decide) (he : starEach (e :: es) X.env = (false, eval e X.env) :: starEach es X.env := by rfl) (hpl : (backTo pos (starEach es X.env)).any (·.1) = false := by rfl) :
    PE X (.Call (.Name x p) (e :: es) [] pos) (tCall sp dvs E t) := by
  intro pins s σ H Q I h
  refine wpAny_Call_Name_kw (ld_glob I hg hm ?_ hdb)
  refine PySem.W.callWith_K (h₀ := X.base) I.ok.mod.kin hk (thn (ha pos pins s σ H _ I h) fun us s1 ⟨vs, H1, I1, r, q⟩ => ⟨I1.kIn, ?_⟩) he hpl
  exact run_fn F hr hb hd hx I1 r q
structure Mk (K : PySem.W.Frag) (C f : Addr) : Prop where
  makes : PySem.W.makesIn K C = true
  init : PySem.W.findIn K (.ref C) "__init__" = some (some (.ref f))
  fn : PySem.W.isFn K (.ref f) = true
  kp : PySem.W.keepIn K (.ref C) = true
end
section
variable {X : Cx} {CX : CXT} {k : Nat} {f C : Addr} {fd : FuncData} {ps ks : List Str} {sp : Sp} {E : XK} {x m : Str} {p pos apos kpos : Pos} {e o : Expr} {es : List Expr} {kws : List Keyword} {te ta : TE} {t tk : TA} {nm : Option Str}
structure KBinds (K : PySem.W.Frag) (fd : FuncData) (ps ks : List Str) (g : List Value → List Value → List Value) (gV : List V → List V → List V) : Prop where
  to : ∀ (s : Shared) (us ws : List Value), K.In s.heap → (g us ws).length = ps.length → BindsTo s fd ⟨us, ks.zip ws⟩ (ps.zip (g us ws))
  rel : ∀ {vs : List V} {us : List Value} {zs : List V} {ws : List Value}, Vals vs us → Vals zs ws → Vals (gV vs zs) (g us ws)
variable {g : List Value → List Value → List Value} {gV : List V → List V → List V}
end
structure FnScope (N P : List Str) (sc : Scope) : Prop where
  kind : sc.kind = .function
  co : sc.isCoroutine = false
  gen : sc.isGenerator = false
  nd : N.Nodup
  pre : N.take P.length = P
  par : ∀ x ∈ P, sc.names.lookup x = some .local ∨ sc.names.lookup x = some .cell
  nofree : ∀ y ∈ sc.names, y.2 ≠ .free
theorem bindL_out {kindOf : Str → Option NameKind} {x : Str} : ∀ {binds : List (Str × Value)} {m : Str → Option Value}, (∀ v, (x, v) ∉ binds) → bindL kindOf binds m x = m x
  | [], _, _ => rfl
  | (n, v) :: r, m, h => by
    unfold bindL
    rw [bindL_out fun w hw => h w (List.mem_cons_of_mem _ hw)]
    split
    · have : x ≠ n := by rintro rfl; exact h v List.mem_cons_self
      simp [this]
    · rfl
theorem bindC_out {kindOf : Str → Option NameKind} {x : Str} : ∀ {binds : List (Str × Value)} {m : Str → Option Value}, (∀ v, (x, v) ∉ binds) → bindC kindOf binds m x = m x
  | [], _, _ => rfl
  | (n, v) :: r, m, h => by
    unfold bindC
    rw [bindC_out fun w hw => h w (List.mem_cons_of_mem _ hw)]
    split
    · rfl
    · have : x ≠ n := by rintro rfl; exact h v List.mem_cons_self
      simp [this]
theorem bindL_get {kindOf : Str → Option NameKind} {x : Str} {v : Value} : ∀ {P : List Str} {vs : List Value} {i : Nat} {m : Str → Option Value}, P.Nodup → P[i]? = some x → vs[i]? = some v → kindOf x = some .local →
    bindL kindOf (P.zip vs) m x = some v
  | [], _, _, _, _, h, _, _ => by simp at h
  | _ :: _, [], _, _, _, _, h, _ => by simp at h
  | p :: P, w :: vs, 0, m, nd, h1, h2, hk => by
    simp at h1 h2; subst h1; subst h2
    show bindL kindOf ((p, w) :: P.zip vs) m p = _
    unfold bindL
    rw [bindL_out fun v hv => (List.nodup_cons.mp nd).1 (List.of_mem_zip hv).1, if_pos hk]
    simp
  | p :: P, w :: vs, i + 1, m, nd, h1, h2, hk => by
    show bindL kindOf ((p, w) :: P.zip vs) m x = _
    unfold bindL
    exact bindL_get (i := i) (List.nodup_cons.mp nd).2 (by simpa using h1) (by simpa using h2) hk
theorem bindC_get {kindOf : Str → Option NameKind} {x : Str} {v : Value} : ∀ {P : List Str} {vs : List Value} {i : Nat} {m : Str → Option Value}, P.Nodup → P[i]? = some x → vs[i]? = some v → kindOf x ≠ some .local →
    bindC kindOf (P.zip vs) m x = some v
  | [], _, _, _, _, h, _, _ => by simp at h
  | _ :: _, [], _, _, _, _, h, _ => by simp at h
  | p :: P, w :: vs, 0, m, nd, h1, h2, hk => by
    simp at h1 h2; subst h1; subst h2
    show bindC kindOf ((p, w) :: P.zip vs) m p = _
    unfold bindC
    rw [bindC_out fun v hv => (List.nodup_cons.mp nd).1 (List.of_mem_zip hv).1, if_neg hk]
    simp
  | p :: P, w :: vs, i + 1, m, nd, h1, h2, hk => by
    show bindC kindOf ((p, w) :: P.zip vs) m x = _
    unfold bindC
    exact bindC_get (i := i) (List.nodup_cons.mp nd).2 (by simpa using h1) (by simpa using h2) hk
def start (N : List Str) (vs : List V) : St := vs.map some ++ List.replicate (N.length - vs.length) none
def cxOf (CX : CXT) (P : Program) (w : World) (K : PySem.W.Frag) (mg : Str → Option Value) (base : Heap) (N : List Str) (qual : Str) (scope : Scope) (f : Addr) (cd : Value) (A : Around) (outer : List Env) (s : Shared) (H : Hp) (E : XK) : Cx where
  prog := P
  w := w
  K := K
  mg := mg
  base := base
  A := A.deeper (envOfC qual scope s.heap.objs.size f cd)
  N := N
  s₀ := s
  H₀ := H
  env := envOfC qual scope s.heap.objs.size f cd
  outer := outer
  stack := envOfC qual scope s.heap.objs.size f cd :: outer
  ex := []
  calm := true
  fn := fun _ => true
  pn := []
  xe := fun e s' => wpAny (model P w) (A.deeper (envOfC qual scope s.heap.objs.size f cd)) (leaving (envOfC qual scope s.heap.objs.size f cd) e) (fun _ s'' => CX outer H s E e s'') (fun e' s'' => CX outer H s E e' s'') s'
theorem cell_has {sc : Scope} {n : Nat} {x : Str} (h : sc.names.lookup x = some .cell) : ∃ c, (cellsFrom n sc.names []).lookup x = some c := by
  have q := PySem.W.cellsFrom_some sc.names n [] (.inl h)
  exact Option.isSome_iff_exists.mp q
theorem inv_start {CX : CXT} {P : Program} {w : World} {K : PySem.W.Frag} {mg : Str → Option Value} {base : Heap} {N ps : List Str} {qual : Str} {scope : Scope} {f : Addr} {cd : Value} {A : Around} {outer : List Env} {s s1 : Shared} {H : Hp} {E : XK} {us : List Value} {vs : List V}
    (S : FnScope N ps scope) (hd : A.handled = none) (e0 : Env0 P w K mg base A outer s H) (hl : vs.length = ps.length) (r : Vals vs us)
    (x : InCallC s s.heap.objs.size (bindL (envOfC qual scope s.heap.objs.size f cd).kindOf (ps.zip us) fun _ => none) (cellsFrom (s.heap.objs.size + 1) scope.names []) (bindC (envOfC qual scope s.heap.objs.size f cd).kindOf (ps.zip us) fun _ => none) s1) :
    Inv (cxOf CX P w K mg base N qual scope f cd A outer s H E) [] (start N vs) H s1 := by
  have hpl : ps.length ≤ N.length := by have := congrArg List.length S.pre; rw [List.length_take] at this; omega
  obtain ⟨h1, tk, rfl, hk⟩ := x.done
  have noA : ∀ b : Addr, b ∉ (cxOf CX P w K mg base N qual scope f cd A outer s H E).ex := fun b z => absurd (show b ∈ ([] : List Addr) from z) (by simp)
  refine ⟨⟨e0.mod, S.kind, rfl, rfl, Nat.le_refl _, fun y z c h1 h2 => ?_, fun y hy => ?_, fun y c _ h => ?_, fun _ => hd, Around.frames_deeper e0.frames, .inr ⟨rfl, rfl⟩, fun b z => absurd z (noA b), e0.bs, e0.bsz, fun b _ _ => noA b, fun b z => absurd z (noA b), e0.funs, e0.frf⟩,
    rfl, e0.bare, Un.kept hk, ⟨_, x.toInCall.ns, fun i y v h1 h2 h3 => ?_⟩, fun y c h => ⟨_, x.cell y c h⟩, e0.hok.fresh (Nat.le_refl _), fun y c h => ?_, fun p hp => absurd (show p ∈ ([] : List (Addr × Obj)) from hp) (by simp), e0.hok.kept hk, ?_⟩
  · exact name_of_addr x.apart (PySem.mem_of_lookup h1) (PySem.mem_of_lookup h2)
  · have hy : scope.names.lookup y = some .cell ∨ scope.names.lookup y = some .free := hy
    rcases hy with hy | hy
    · exact cell_has hy
    · exact absurd rfl (S.nofree _ (PySem.mem_of_lookup hy))
  · exact Nat.le_of_lt (x.above y c (PySem.mem_of_lookup h))
  · have hi : i < vs.length := by
      unfold start at h2
      by_cases hi : i < vs.length
      · exact hi
      · rw [List.getElem?_append_right (by simpa using hi)] at h2
        rw [List.getElem?_replicate] at h2
        split at h2 <;> cases h2
    have ha : vs[i]? = some v := by
      unfold start at h2
      rw [List.getElem?_append_left (by simpa using hi), List.getElem?_map] at h2
      cases e : vs[i]? with
      | none => rw [e] at h2; cases h2
      | some a => rw [e] at h2; cases h2; rfl
    obtain ⟨u, hu, rv⟩ := r.get ha
    have hp : ps[i]? = some y := by
      rw [← S.pre, List.getElem?_take_of_lt (by omega)]; exact h1
    have ndP : ps.Nodup := by rw [← S.pre]; exact S.nd.sublist (List.take_sublist _ _)
    refine ⟨u, rv, ?_⟩
    rcases S.par y (List.mem_of_getElem? hp) with k | k
    · exact .inl ⟨k, bindL_get ndP hp hu k⟩
    · obtain ⟨c, e⟩ := cell_has (n := s.heap.objs.size + 1) k
      refine .inr ⟨.inl k, c, e, ?_⟩
      have q := x.cell y c e
      rw [bindC_get ndP hp hu (by show scope.names.lookup y ≠ _; rw [k]; decide)] at q
      exact q
  · exact e0.hok.fresh (Nat.le_of_lt (x.above y c (PySem.mem_of_lookup h)))
  · unfold start
    show _ = N.length
    rw [List.length_append, List.length_map, List.length_replicate]
    omega
theorem fn_of {CX : CXT} {P : Program} {w : World} {K : PySem.W.Frag} {mg : Str → Option Value} {base : Heap} {k : Nat} {f : Addr} {name qual : Str} {params : Arguments} {body : List Stmt} {scope : Scope} {dV kV doc pm cdv ct oc : Value} {an od : Option Addr}
    {osl : Array (Option Value)} {N ps : List Str} {sp : Sp} (lk : K.lookup f = some ⟨oc, od, .func (PySem.W.fnOf name qual params body scope dV kV doc pm an cdv ct), osl⟩) (hcd : PySem.W.codeIn K cdv qual = true) (S : FnScope N ps scope)
    (len : ∀ vs H Q E, sp vs H Q E → vs.length = ps.length)
    (hbody : ∀ (A : Around) (outer : List Env) (s : Shared) (H : Hp) (vs : List V) (Q : VK) (E : XK), Room k (A.deeper (envOfC qual scope s.heap.objs.size f cdv)) → sp vs H Q E →
      ∃ t, PSs (cxOf CX P w K mg base N qual scope f cdv A outer s H E) body t ∧ t { nx := fun _ H' => Q .non H', rt := Q } (start N vs) H) :
    FnOk P w K mg base CX (k + 1) f (PySem.W.fnOf name qual params body scope dV kV doc pm an cdv ct) ps sp := by
  refine ⟨len, fun A outer s H args us vs Q E hr e0 hb r hsp => ?_⟩
  have hl := len _ _ _ _ hsp
  have KX : K.In s.heap := e0.mod.kin.keeps fun b o e => (e0.bs b o e).1
  have lim : s.heap.NoLimit := e0.mod.nolimit.keeps fun b o e => (e0.bs b o e).1
  have hkind : ∀ y ∈ ps.zip us, scope.names.lookup y.1 = some .local ∨ (scope.names.lookup y.1 = some .cell ∧ ((cellsFrom (s.heap.objs.size + 1) scope.names []).lookup y.1).isSome = true) := fun ⟨n, v⟩ hy => by
    rcases S.par n (List.of_mem_zip hy).1 with q | q
    · exact .inl q
    · exact .inr ⟨q, PySem.W.cellsFrom_some _ _ _ (.inl q)⟩
  refine codeAny_call_function hr.depth (KX _ _ lk) rfl S.co S.gen rfl (PySem.W.codeRec_of KX hcd) (hb _ _ _ _ ?_)
  refine wpAny_newFunctionEnv_cells S.kind hkind fun env he s1 x => ?_
  subst he
  refine ⟨lim.keeps x.toInCall.keep, codeAny_func ?_⟩
  obtain ⟨t, ht, hq⟩ := hbody A outer s H vs Q E (hr.deeper _) hsp
  have I : Inv (cxOf CX P w K mg base N qual scope f cdv A outer s H E) [] (start N vs) H s1 := inv_start S hr.hd e0 hl r x
  refine wpAny_mono (ht [] s1 (start N vs) H _ I hq) (fun fl s' hs => ?_) fun e s' hs => hs
  have fin : ∀ {σ' : St} {H' : Hp} {v : V} {u : Value}, Inv (cxOf CX P w K mg base N qual scope f cdv A outer s H E) [] σ' H' s' → RelV v u → Q v H' → CE outer P w H s Q u s' :=
    fun {σ' H' v u} J rv q => ⟨v, H', J.os, J.bare, J.base, J.hok, rv, q⟩
  cases fl with
  | ret u =>
    obtain ⟨v, σ', H', J, rv, q⟩ := hs
    exact fin J rv q
  | next =>
    obtain ⟨σ', H', J, q⟩ := hs
    exact fin (v := V.non) (u := Value.none) J rfl q
  | brk =>
    obtain ⟨_, _, _, q⟩ := hs
    exact False.elim q
  | cont =>
    obtain ⟨_, _, _, q⟩ := hs
    exact False.elim q
end L2
namespace L2
open PySem PySem.Spec PyProof.Rows
section
variable {X : Cx} {x : Str} {p pos : Pos} {e : Expr} {es : List Expr} {t : TA} {id T : String} {r : List V → Hp → VK → Prop}
def tCB (r : List V → Hp → VK → Prop) (t : TA) : TE := fun σ H Q => t σ H fun vs H1 => r vs H1 Q
theorem pe_callB (hc : CallR X (.builtin id) r) (hg : Gl X x) (hm : X.mg x = none) (hv : bootBuiltins x = some (.builtin id)) (ha : PA X (e :: es) t) (hn : x ≠ "__name__" := by decide) (hdb : (x == ("__debug__" : Str)) = false := by decide)
    (he : starEach (e :: es) X.env = (false, eval e X.env) :: starEach es X.env := by rfl) (hpl : (backTo pos (starEach es X.env)).any (·.1) = false := by rfl) : PE X (.Call (.Name x p) (e :: es) [] pos) (tCB r t) := by
  intro pins s σ H Q I h
  refine wpAny_Call_Name_kw (ld_blt I hg hm hv ?_ hn hdb)
  exact PyProof.Rows.callWith_builtin1 (thn (ha pos pins s σ H _ I h) fun us s1 ⟨vs, H1, I1, r1, q1⟩ => hc pins s1 σ H1 vs us Q I1 r1 q1) he hpl
theorem pe_callTy (hc : CallR X (.type T) r) (hg : Gl X x) (hm : X.mg x = none) (hv : bootBuiltins x = some (.type T)) (ha : PA X (e :: es) t) (hn : x ≠ "__name__" := by decide) (hdb : (x == ("__debug__" : Str)) = false := by decide)
    (he : starEach (e :: es) X.env = (false, eval e X.env) :: starEach es X.env := by rfl) (hpl : (backTo pos (starEach es X.env)).any (·.1) = false := by rfl) : PE X (.Call (.Name x p) (e :: es) [] pos) (tCB r t) := by
  intro pins s σ H Q I h
  refine wpAny_Call_Name_kw (ld_blt I hg hm hv ?_ hn hdb)
  exact PyProof.Rows.callWith_type1 (thn (ha pos pins s σ H _ I h) fun us s1 ⟨vs, H1, I1, r1, q1⟩ => hc pins s1 σ H1 vs us Q I1 r1 q1) he hpl
end
end L2
namespace HT
open PySem PyProof.Rows
section
open PySem.SeqAt
open PySem.AutoSeq1 (wpAny_loadPart')
open PySem.MeetsSeq PySem.MeetsSeq2 PySem.MeetsSeq3
end
section
variable {prog : Program} {w : World} {A : Around} {E : Value → Shared → Prop} {s : Shared}
def sIx (n d : Nat) : Option Int → Nat
  | none => d
  | some v => if v < 0 then (v + (n : Int)).toNat else min v.toNat n
theorem sIx_le (n d : Nat) (hd : d ≤ n) (o : Option Int) : sIx n d o ≤ n := by
  cases o with
  | none => exact hd
  | some v =>
    show (if v < 0 then (v + (n : Int)).toNat else min v.toNat n) ≤ n
    by_cases hv : v < 0
    · rw [if_pos hv]; omega
    · rw [if_neg hv]; exact Nat.min_le_right _ _
theorem clip_eq (v : Int) (n d : Nat) : (if v < 0 then max (v + (n : Int)) 0 else min v (n : Int)) = ((sIx n d (some v) : Nat) : Int) := by
  show (if v < 0 then max (v + (n : Int)) 0 else min v (n : Int)) = (((if v < 0 then (v + (n : Int)).toNat else min v.toNat n) : Nat) : Int)
  by_cases hv : v < 0
  · simp only [if_pos hv]; omega
  · simp only [if_neg hv]; omega
theorem adjust_gen (lo hi : Option Int) (n : Nat) : Builtin.Slice.sliceAdjust lo hi 1 (n : Int) = (((sIx n 0 lo : Nat) : Int), ((sIx n n hi : Nat) : Int)) := by
  have h1 : ¬ ((1 : Int) < 0) := by omega
  unfold Builtin.Slice.sliceAdjust
  simp only [h1, if_false]
  refine Prod.ext ?_ ?_
  · cases lo with
    | none => rfl
    | some v => exact clip_eq v n 0
  · cases hi with
    | none => rfl
    | some v => exact clip_eq v n n
theorem places_gen (i j : Nat) : Builtin.Slice.slicePlaces (i : Int) (j : Int) 1 = j - i := by
  unfold Builtin.Slice.slicePlaces
  have h1 : (1 : Int) > 0 := by omega
  simp only [h1, if_true, Int.ediv_one]
  split <;> omega
theorem slicePart_ {v : Value} {o : Option Int} {Q : Option Int → Shared → Prop} (p : IsPart v o) (h : Q o s) : wpAny (model prog w) A (Builtin.Slice.slicePartIndex v) Q E s := by
  cases p with
  | none => exact slicePart_none h
  | int i t => exact slicePart_int h
theorem sliceApplied_gen {sl : Addr} {vl vu : Value} {lo hi : Option Int} {n : Nat} {Q : Int × Int × Nat → Shared → Prop} (hs : s.heap.IsSliceOf sl vl vu .none) (pl : IsPart vl lo) (pu : IsPart vu hi)
    (h : Q (((sIx n 0 lo : Nat) : Int), 1, sIx n n hi - sIx n 0 lo) s) : wpAny (model prog w) A (Builtin.Slice.sliceApplied (.ref sl) (pure (n : Int))) Q E s := by
  obtain ⟨os, hos, hcs, hds⟩ := id hs
  unfold Builtin.Slice.sliceApplied Builtin.Slice.sliceFields
  refine wpAny_bind (wpAny_bind (wpAny_field hos hds (x := vl) rfl (wpAny_bind (wpAny_field hos hds (x := vu) rfl (wpAny_bind (wpAny_field hos hds (x := .none) rfl (wpAny_pure ?_)))))))
  refine wpAny_bind (slicePart_none ?_)
  show wpAny _ _ (if ((1 : Int) == 0) = true then _ else _) _ _ s
  rw [if_neg (by decide)]
  refine wpAny_bind (slicePart_ pl (wpAny_bind (slicePart_ pu (wpAny_bind (wpAny_pure ?_)))))
  show wpAny _ _ (match Builtin.Slice.sliceAdjust lo hi 1 (n : Int) with | (lo, hi) => pure (lo, (1 : Int), Builtin.Slice.slicePlaces lo hi 1)) _ _ s
  rw [adjust_gen lo hi n]
  show wpAny _ _ (pure (((sIx n 0 lo : Nat) : Int), (1 : Int), Builtin.Slice.slicePlaces ((sIx n 0 lo : Nat) : Int) ((sIx n n hi : Nat) : Int) 1)) _ _ s
  rw [places_gen]
  exact wpAny_pure h
theorem pick_gen (xs : Array Value) (i k : Nat) : ((List.range k).filterMap fun (m : Nat) => xs[((i : Int) + (m : Int) * 1).toNat]?).toArray = ((xs.toList.drop i).take k).toArray := by
  have e : (fun (m : Nat) => xs[((i : Int) + (m : Int) * 1).toNat]?) = fun m => xs[i + m]? := by
    funext m
    have : ((i : Int) + (m : Int) * 1).toNat = i + m := by omega
    rw [this]
  rw [e]
  have := pick_run xs i k
  rw [List.filterMap_map] at this
  have e2 : ((fun x => xs[x]?) ∘ fun x => i + x) = fun m => xs[i + m]? := rfl
  rw [e2] at this
  rw [this]
theorem getItem_tuple_cut {t sl : Addr} {items : Array Value} {vl vu : Value} {lo hi : Option Int} {Q : Value → Shared → Prop} (ht : IsTup s.heap t items) (hs : s.heap.IsSliceOf sl vl vu .none) (pl : IsPart vl lo) (pu : IsPart vu hi)
    (hw : ¬ (sIx items.size 0 lo = 0 ∧ sIx items.size items.size hi = items.size))
    (h : Q (.ref s.heap.objs.size) { s with heap := s.heap.push { cls := .type "tuple", data := .seq ((items.toList.drop (sIx items.size 0 lo)).take (sIx items.size items.size hi - sIx items.size 0 lo)).toArray } })
    (hsz : items.size ≤ sizeLine) : wpAny (model prog w) A (getItem (.ref t) (.ref sl)) Q E s := by
  have htake : sizeOk (.seq ((items.toList.drop (sIx items.size 0 lo)).take (sIx items.size items.size hi - sIx items.size 0 lo)).toArray) := by
    show ((items.toList.drop (sIx items.size 0 lo)).take (sIx items.size items.size hi - sIx items.size 0 lo)).toArray.size ≤ sizeLine
    rw [List.size_toArray, List.length_take, List.length_drop, Array.length_toList]
    omega
  have hj : sIx items.size items.size hi ≤ items.size := sIx_le _ _ (Nat.le_refl _) hi
  obtain ⟨os, hos, hcs, hds⟩ := id hs
  have hTs : s.TypeIs (.ref sl) "slice" := ⟨os, hos, hcs⟩
  unfold getItem
  try with_reducible refine wpAny_holding ?_
  first | refine wpAny_bind (wpAny_pure ?_) | skip
  refine wpAny_bind (wpAny_sequenceKey ht.typeIs (by decide) ?_)
  refine wpAny_bind (wpAny_callSpecial?_slot (name := Str.ofString "__getitem__") ht.typeIs PyProof.Rows.slot_tuple_getitem
    (wpAny_call_entry PyProof.Rows.slot_tuple_getitem ht.typeIs entry_tuple_getitem ?_ (args_tuple_getitem _ _)))
  show wpAny _ _ (Builtin.Tuple.tupleItemsOf (.ref t) >>= _) _ _ s
  refine wpAny_bind (tupleItemsOf_ ht ?_)
  refine wpAny_bind (wpAny_typeOf hTs ?_)
  rw [if_pos (by decide)]
  refine wpAny_bind (sliceApplied_gen hs pl pu ?_)
  have hno : ¬ ((((sIx items.size 0 lo : Nat) : Int) == 0 && (1 : Int) == 1 && (sIx items.size items.size hi - sIx items.size 0 lo) == items.size) = true) := by
    intro q
    rw [Bool.and_eq_true, Bool.and_eq_true] at q
    have q1 : ((sIx items.size 0 lo : Nat) : Int) = 0 := eq_of_beq q.1.1
    have q2 : sIx items.size items.size hi - sIx items.size 0 lo = items.size := eq_of_beq q.2
    exact hw ⟨by omega, by omega⟩
  show wpAny _ _ (if (((sIx items.size 0 lo : Nat) : Int) == 0 && (1 : Int) == 1 && (sIx items.size items.size hi - sIx items.size 0 lo) == items.size) = true then _ else _) _ _ s
  rw [if_neg hno, pick_gen]
  first
    | exact wpAny_bind (m := Builtin.Tuple.tupleExact _) (wpAny_newObj_type (wpAny_pure ⟨_, rfl, wpAny_pure h⟩) htake)
    | exact wpAny_bind (m := Builtin.Tuple.tupleExact _) (wpAny_newObj_type (wpAny_bind (wpAny_pure (wpAny_pure ⟨_, rfl, wpAny_pure h⟩))) htake)
    | exact wpAny_bind (wpAny_bind (m := Builtin.Tuple.tupleExact _) (wpAny_newObj_type (wpAny_pure (wpAny_pure ⟨_, rfl, wpAny_pure h⟩)) htake))
    | exact wpAny_bind (wpAny_bind (m := Builtin.Tuple.tupleExact _) (wpAny_newObj_type (wpAny_pure ⟨_, rfl, wpAny_pure h⟩) htake))
end
end HT
namespace L2
open PySem PySem.Spec PyProof.Rows
abbrev TO := St → Hp → (Option Int → Hp → Prop) → Prop
def PO (X : Cx) (e : Option Expr) (t : TO) : Prop :=
  ∀ (pins : List (Addr × Obj)) (s : Shared) (σ : St) (H : Hp) (Q : Option Int → Hp → Prop), Inv X pins σ H s → t σ H Q →
    wpAny (model X.prog X.w) X.A (evalPart e X.env) (fun u s' => ∃ o H', Inv X pins σ H' s' ∧ IsPart u o ∧ Q o H') X.xe s
def tNoPart : TO := fun _ H Q => Q none H
def tPart (t : TE) : TO := fun σ H Q => t σ H fun x H1 => ∃ i, x = .int i ∧ Q (some i) H1
section
variable {X : Cx} {e : Expr} {te : TE} {lo hi : Option Expr} {tl th : TO} {pos p2 : Pos}
theorem po_none : PO X none tNoPart := by
  intro pins s σ H Q I h
  rw [evalPart_none]
  exact wpAny_pure ⟨none, H, I, .none, h⟩
theorem po_some (h : PE X e te) : PO X (some e) (tPart te) := by
  intro pins s σ H Q I hw
  rw [evalPart_some]
  refine thn (h pins s σ H _ I hw) fun u s1 ⟨x, H1, I1, r1, q1⟩ => ?_
  obtain ⟨i, rfl, q⟩ := q1
  obtain ⟨t, rfl⟩ := r1
  exact ⟨some i, H1, I1, .int i t, q⟩
def SlR (X : Cx) (r : V → Option Int → Option Int → Hp → VK → Prop) : Prop :=
  ∀ (pins : List (Addr × Obj)) (s : Shared) (σ : St) (H : Hp) (x : V) (v vl vu : Value) (lo hi : Option Int) (sl : Addr) (Q : VK), Inv X pins σ H s → RelV x v → s.heap.IsSliceOf sl vl vu .none → IsPart vl lo → IsPart vu hi → r x lo hi H Q →
    ∃ T id, typeLookup (.type T) "__getitem__" = pure (some (.builtin id)) ∧ s.TypeIs v T ∧ wpAny (model X.prog X.w) X.A (getItem v (.ref sl)) (EP X pins σ Q) X.xe s
def tSl (r : V → Option Int → Option Int → Hp → VK → Prop) (te : TE) (tl th : TO) : TE := fun σ H Q => te σ H fun x H1 => tl σ H1 fun l H2 => th σ H2 fun u H3 => r x l u H3 Q
theorem pe_slice {r : V → Option Int → Option Int → Hp → VK → Prop} (hr : SlR X r) (he : PE X e te) (hl : PO X lo tl) (hu : PO X hi th) : PE X (.Subscript e (.Slice lo hi none p2) pos) (tSl r te tl th) := by
  intro pins s σ H Q I h
  refine Subscript_ (thn (he pins s σ H _ I h) fun v s1 ⟨x, H1, I1, r1, q1⟩ => ?_)
  refine wpAny_Slice (thn (hl pins s1 σ H1 _ I1 q1) fun vl s2 ⟨l, H2, I2, pl, q2⟩ => thn (hu pins s2 σ H2 _ I2 q2) fun vu s3 ⟨u, H3, I3, pu, q3⟩ => ?_)
  rw [evalPart_none]
  refine wpAny_pure ?_
  have I4 : Inv X pins σ H3 { s3 with heap := s3.heap.push { cls := .type "slice", data := .fields #[vl, vu, .none] } } := I3.kept (t' := s3.toks) fun b ob q => Heap.get?_push_of_some _ q
  obtain ⟨T, id, hT, ht, hg⟩ := hr pins { s3 with heap := s3.heap.push { cls := .type "slice", data := .fields #[vl, vu, .none] } } σ H3 x v vl vu l u s3.heap.objs.size Q I4 r1 (Heap.IsSliceOf.new ..) pl pu q3
  show wpAny (model X.prog X.w) X.A (subscriptTail e (.Slice lo hi none p2) v (.ref s3.heap.objs.size)) (EP X pins σ Q) X.xe { s3 with heap := s3.heap.push { cls := .type "slice", data := .fields #[vl, vu, .none] } }
  exact tail_any (ops := [.ref s3.heap.objs.size, v]) ht hT hg (by with_unfolding_all rfl)
def cutV (xs : List V) (lo hi : Option Int) : List V := (xs.drop (HT.sIx xs.length 0 lo)).take (HT.sIx xs.length xs.length hi - HT.sIx xs.length 0 lo)
theorem cutV_length (xs : List V) (lo hi : Option Int) : (cutV xs lo hi).length ≤ xs.length := by
  unfold cutV
  rw [List.length_take, List.length_drop]
  omega
def rSlT (K : PySem.W.Frag) : V → Option Int → Option Int → Hp → VK → Prop := fun x lo hi H Q => ∃ a xs, x = .ref a ∧ SqT K H a xs ∧
  ¬ (HT.sIx xs.length 0 lo = 0 ∧ HT.sIx xs.length xs.length hi = xs.length) ∧ ∀ p, H p = none → Q (.ref p) (upd H p (.tup (cutV xs lo hi)))
theorem sl_tup : SlR X (rSlT X.K) := by
  intro pins s σ H x v vl vu lo hi sl Q I rx hs pl pu h
  obtain ⟨a, xs, rfl, hx, hw, q⟩ := h
  cases rx
  obtain ⟨its, r, ht, hz⟩ := I.tuple hx
  have hlen : its.toArray.size = xs.length := by rw [List.size_toArray]; exact r.length.symm
  refine ⟨"tuple", _, PyProof.Rows.slot_tuple_getitem.lookup, ht.typeIs, ?_⟩
  refine HT.getItem_tuple_cut ht hs pl pu (by rw [hlen]; exact hw) ?_ (by rw [hlen]; exact hz)
  rw [hlen]
  refine ⟨.ref s.heap.objs.size, _, I.laid (t' := s.toks) (o := .tup (cutV xs lo hi)) (fun b ob q => Heap.get?_push_of_some _ q) (Nat.le_refl _) ?_, rfl, q _ (I.hok.fresh (Nat.le_refl _))⟩
  exact ⟨Nat.le_trans (cutV_length xs lo hi) hz, _, (r.drop (HT.sIx xs.length 0 lo)).take (HT.sIx xs.length xs.length hi - HT.sIx xs.length 0 lo), IsTup.new _ _⟩
end
end L2
namespace L2
open PySem PySem.Spec PyProof.Rows
def ixN (n : Nat) (i : Int) : Option Nat := if 0 ≤ i then (if i < n then some i.toNat else none) else if -(n : Int) ≤ i then some (i + n).toNat else none
def atI {α : Type} (xs : List α) (i : Int) : Option α := (ixN xs.length i).bind fun j => xs[j]?
theorem ixN_seq {n : Nat} {i : Int} {j : Nat} (h : ixN n i = some j) : seqIndex? i n = some j ∧ j < n ∧ -(n : Int) ≤ i ∧ i < n := by
  unfold ixN at h
  by_cases h0 : 0 ≤ i
  · rw [if_pos h0] at h
    by_cases h1 : i < n
    · rw [if_pos h1] at h
      have e : i.toNat = j := Option.some.inj h
      exact ⟨by rw [seqIndex_of h0 h1, e], by omega, by omega, h1⟩
    · rw [if_neg h1] at h; cases h
  · rw [if_neg h0] at h
    by_cases h1 : -(n : Int) ≤ i
    · rw [if_pos h1] at h
      have e : (i + n).toNat = j := Option.some.inj h
      exact ⟨by rw [seqIndex_neg (by omega) h1, e], by omega, h1, by omega⟩
    · rw [if_neg h1] at h; cases h
theorem atI_get {α : Type} {xs : List α} {i : Int} {v : α} (h : atI xs i = some v) : ∃ j, seqIndex? i xs.length = some j ∧ xs[j]? = some v ∧ j < xs.length ∧ -(xs.length : Int) ≤ i ∧ i < xs.length := by
  unfold atI at h
  cases e : ixN xs.length i with
  | none => rw [e] at h; cases h
  | some j =>
    rw [e] at h
    obtain ⟨h1, h2, h3, h4⟩ := ixN_seq e
    exact ⟨j, h1, h, h2, h3, h4⟩
theorem atI_nat {α : Type} {xs : List α} {j : Nat} {v : α} (h : xs[j]? = some v) : atI xs (j : Int) = some v := by
  have hj : j < xs.length := (List.getElem?_eq_some_iff.mp h).1
  have e : ixN xs.length (j : Int) = some j := by
    unfold ixN
    rw [if_pos (by omega), if_pos (by omega)]; simp
  unfold atI; rw [e]; exact h
def PlainIx (b : Expr) : Prop := ∀ o i, subscripted b false o i = operate [o, i] (getItem o i)
def IxR (X : Cx) (r : R2) : Prop :=
  ∀ (value slice : Expr) (pins : List (Addr × Obj)) (s : Shared) (σ : St) (H : Hp) (x y : V) (v u : Value) (Q : VK), Inv X pins σ H s → RelV x v → RelV y u → r x y H Q →
    subscripted slice false v u = operate [v, u] (getItem v u) → wpAny (model X.prog X.w) X.A (subscriptTail value slice v u) (EP X pins σ Q) X.xe s
def MtR (X : Cx) (id : String) (r : V → List V → Hp → VK → Prop) : Prop :=
  ∀ (pins : List (Addr × Obj)) (s : Shared) (σ : St) (H : Hp) (x : V) (xs : List V) (v : Value) (us : List Value) (Q : VK), Inv X pins σ H s → RelV x v → Vals xs us → r x xs H Q →
    wpAny (model X.prog X.w) X.A (call (.builtin id) (v :: us)) (EP X pins σ Q) X.xe s
section
variable {X : Cx} {a b : Expr} {ta tb : TE} {pos : Pos}
theorem pe_ix {r : R2} (hr : IxR X r) (ha : PE X a ta) (hb : PE X b tb) (hs : PlainIx b) : PE X (.Subscript a b pos) (tOp r ta tb) := by
  intro pins s σ H Q I h
  exact Subscript_ (binT ha hb I h fun v u s2 x y H2 I2 rx ry q => hr a b pins s2 σ H2 x y v u Q I2 rx ry q (hs _ _))
def rIxL (K : PySem.W.Frag) : R2 := fun x y H Q => ∃ p xs i v, x = .ref p ∧ y = .int i ∧ SqL K H p xs ∧ atI xs i = some v ∧ Q v H
def rIxT (K : PySem.W.Frag) : R2 := fun x y H Q => ∃ p xs i v, x = .ref p ∧ y = .int i ∧ SqT K H p xs ∧ atI xs i = some v ∧ Q v H
def rIxS : R2 := fun x y H Q => ∃ z i c, x = .str z ∧ y = .int i ∧ z.length ≤ sizeLine ∧ atI z.cps.toList i = some c ∧ Q (.str ⟨#[c]⟩) H
theorem ix_list : IxR X (rIxL X.K) := by
  intro value slice pins s σ H x y v u Q I rx ry h hs
  obtain ⟨p, xs, i, z, rfl, rfl, hq, he, q⟩ := h
  cases rx
  obtain ⟨t, rfl⟩ := ry
  obtain ⟨its, r, pl, hz⟩ := I.list hq
  obtain ⟨j, h1, h2, h3, h4, h5⟩ := atI_get he
  obtain ⟨w, ew, rw'⟩ := r.get h2
  have hl := r.length
  have hn := line63
  have fin : EP X pins σ Q w s := ⟨z, H, I, rw', q⟩
  by_cases h0 : 0 ≤ i
  · have hj : i.toNat = j := by
      rw [seqIndex_of h0 h5] at h1
      exact Option.some.inj h1
    exact item_listR pl.isList h0 (by omega) (by rw [hj]; simpa using ew) fin hs
  · have hj : (i + (its.toArray.size : Int)).toNat = j := by
      rw [seqIndex_neg (by omega) h4] at h1
      rw [List.size_toArray, ← hl]
      exact Option.some.inj h1
    exact subscriptTail_builtinR (x := w) pl.isList.typeIs slot_list_getitem.lookup
      (wpAny_getItem_list_neg (Q := fun r s' => r = w ∧ EP X pins σ Q r s') pl.isList (by omega) (by rw [List.size_toArray] <;> omega) (by omega) (by rw [hj]; simpa using ew) ⟨rfl, fin⟩) hs
theorem ix_tup : IxR X (rIxT X.K) := by
  intro value slice pins s σ H x y v u Q I rx ry h hs
  obtain ⟨p, xs, i, z, rfl, rfl, hq, he, q⟩ := h
  cases rx
  obtain ⟨t, rfl⟩ := ry
  obtain ⟨its, r, pl, hz⟩ := I.tuple hq
  obtain ⟨j, h1, h2, h3, h4, h5⟩ := atI_get he
  obtain ⟨w, ew, rw'⟩ := r.get h2
  have hl := r.length
  have hn := line63
  have fin : EP X pins σ Q w s := ⟨z, H, I, rw', q⟩
  exact subscriptTail_builtinR (x := w) pl.typeIs slot_tuple_getitem.lookup
    (getItem_tuple (j := j) (Q := fun r s' => r = w ∧ EP X pins σ Q r s') pl (by omega) (by omega) (by rw [List.size_toArray, ← hl]; exact h1) (by simpa using ew) ⟨rfl, fin⟩) hs
theorem ix_str : IxR X rIxS := by
  intro value slice pins s σ H x y v u Q I rx ry h hs
  obtain ⟨z, i, c, rfl, rfl, hz, he, q⟩ := h
  obtain ⟨t, rfl⟩ := rx
  obtain ⟨t', rfl⟩ := ry
  obtain ⟨j, h1, h2, h3, h4, h5⟩ := atI_get he
  have hl : z.cps.toList.length = z.length := by simp [Str.length]
  rw [hl] at h1 h4 h5
  have hn := line63
  exact tail_any (typeIs_str s z t) slot_str_getitem.lookup (getItem_str (c := c) (by
    have e1 : decide (i < -(2 ^ 63 : Int)) = false := decide_eq_false (by omega)
    have e2 : decide (i ≥ 2 ^ 63) = false := decide_eq_false (by omega)
    rw [e1, e2, Bool.or_false]) (by rw [h1]; simpa using h2) ⟨.str ⟨#[c]⟩, H, I.tok _, ⟨_, rfl⟩, q⟩) hs
def flatV : V → Bool
  | .non => true
  | .bl _ => true
  | .int _ => true
  | .str _ => true
  | _ => false
def eqV : V → V → Bool
  | .non, .non => true
  | .bl a, .bl b => a == b
  | .bl a, .int b => (if a then 1 else 0) == b
  | .int a, .bl b => a == (if b then 1 else 0)
  | .int a, .int b => a == b
  | .str a, .str b => a == b
  | _, _ => false
theorem eqAt_V {A : Around} {s : Shared} {y x : V} {u v : Value} (ry : RelV y u) (rx : RelV x v) (fy : flatV y = true) (fx : flatV x = true) : SeqAt.EqAt A s u v (eqV y x) := by
  cases y with
  | non =>
    cases ry
    cases x with
    | non => cases rx; exact SeqAt.EqAt.same _
    | bl b => cases rx; exact SeqAt.EqAt.none_bool b
    | int b => obtain ⟨t, rfl⟩ := rx; exact SeqAt.EqAt.none_int b t
    | str b => obtain ⟨t, rfl⟩ := rx; exact SeqAt.EqAt.none_str b t
    | _ => exact absurd (show false = true from fx) Bool.false_ne_true
  | bl a =>
    cases ry
    cases x with
    | non => cases rx; exact SeqAt.EqAt.bool_none a
    | bl b => cases rx; exact SeqAt.EqAt.bool_bool a b
    | int b => obtain ⟨t, rfl⟩ := rx; exact SeqAt.EqAt.bool_int a b t
    | str b => obtain ⟨t, rfl⟩ := rx; exact SeqAt.EqAt.bool_str a b t
    | _ => exact absurd (show false = true from fx) Bool.false_ne_true
  | int a =>
    obtain ⟨t', rfl⟩ := ry
    cases x with
    | non => cases rx; exact SeqAt.EqAt.int_none a t'
    | bl b => cases rx; exact SeqAt.EqAt.int_bool a t' b
    | int b => obtain ⟨t, rfl⟩ := rx; exact SeqAt.EqAt.int_int a t' b t
    | str b => obtain ⟨t, rfl⟩ := rx; exact SeqAt.EqAt.int_str a t' b t
    | _ => exact absurd (show false = true from fx) Bool.false_ne_true
  | str a =>
    obtain ⟨t', rfl⟩ := ry
    cases x with
    | non => cases rx; exact SeqAt.EqAt.str_none a t'
    | bl b => cases rx; exact SeqAt.EqAt.str_bool a t' b
    | int b => obtain ⟨t, rfl⟩ := rx; exact SeqAt.EqAt.str_int a t' b t
    | str b => obtain ⟨t, rfl⟩ := rx; exact SeqAt.EqAt.str_str a t' b t
    | _ => exact absurd (show false = true from fx) Bool.false_ne_true
  | _ => exact absurd (show false = true from fy) Bool.false_ne_true
theorem call_len_seq : CallR X (.builtin "len") (fun xs H Q => ∃ p ys, xs = [.ref p] ∧ (SqL X.K H p ys ∨ SqT X.K H p ys) ∧ Q (.int ys.length) H) := by
  intro pins s σ H xs us Q I r h
  obtain ⟨p, ys, rfl, hq, q⟩ := h
  obtain ⟨u, rfl, rx⟩ := vals1 r
  cases rx
  have hn := line63
  rcases hq with hq | hq
  · obtain ⟨its, r', pl, hz⟩ := I.list hq
    have hlen := r'.length
    exact Calls.call_len_list pl.isList (by simp only [List.size_toArray] <;> omega) ⟨.int ys.length, H, I.tok _, ⟨s.toks + 1, by rw [List.size_toArray, hlen]⟩, q⟩
  · obtain ⟨its, r', pl, hz⟩ := I.tuple hq
    have hlen := r'.length
    exact len_tuple pl (by simp only [List.size_toArray] <;> omega) ⟨.int ys.length, H, I.tok _, ⟨s.toks + 1, by rw [List.size_toArray, hlen]⟩, q⟩
theorem call_tuple_of : CallR X (.type "tuple") (fun xs H Q => ∃ p ys, xs = [.ref p] ∧ ((SqL X.K H p ys ∧ ∀ l, H l = none → Q (.ref l) (upd H l (.tup ys))) ∨ (SqT X.K H p ys ∧ Q (.ref p) H))) := by
  intro pins s σ H xs us Q I r h
  obtain ⟨p, ys, rfl, h⟩ := h
  obtain ⟨u, rfl, rx⟩ := vals1 r
  cases rx
  rcases h with ⟨hq, q⟩ | ⟨hq, q⟩
  · obtain ⟨its, r', pl, hz⟩ := I.list hq
    have hlen := r'.length
    refine call_tuple_list pl.isList (fun h' kp => ?_) (by simp only [List.size_toArray] <;> omega)
    have I1 : Inv X pins σ H { s with heap := h' } := I.kept (t' := s.toks) kp
    have I2 : Inv X pins σ (upd H h'.objs.size (.tup ys)) { s with heap := h'.push { cls := .type "tuple", data := .seq its.toArray } } :=
      I1.laid (t' := s.toks) (fun b o e => Heap.get?_push_of_some _ e) (Nat.le_refl _) (show ObjOk X.prog X.w _ _ _ (.tup ys) from ⟨hz, its, r', IsTup.new _ _⟩)
    exact ⟨.ref h'.objs.size, _, I2, rfl, q _ (I1.hok.fresh (Nat.le_refl _))⟩
  · obtain ⟨its, r', pl, hz⟩ := I.tuple hq
    exact call_tuple_same pl ⟨.ref p, H, I, rfl, q⟩
def tyV (K : PySem.W.Frag) (T : String) (x : V) (H : Hp) : Prop := match x with
  | .str _ => T = "str"
  | .int _ => T = "int"
  | .ref p => (T = "list" ∧ ∃ xs, SqL K H p xs) ∨ (T = "tuple" ∧ ∃ o, K.lookup p = some o ∧ o.cls = .type "tuple" ∧ o.dict = none) ∨
      (T = "dict" ∧ ((∃ kvs, H p = some (.dK kvs)) ∨ ∃ kvs, H p = some (.dT kvs))) ∨ (T = "set" ∧ ∃ S n, H p = some (.set S n))
  | _ => False
theorem tyV_is {pins : List (Addr × Obj)} {σ : St} {H : Hp} {s : Shared} {T : String} {x : V} {v : Value} (I : Inv X pins σ H s) (r : RelV x v) (ty : tyV X.K T x H) :
    s.TypeIs v T ∧ ∀ a, v = .ref a → ∃ ob, s.heap.get? a = some ob ∧ ob.dict = none := by
  cases x with
  | str z =>
    obtain ⟨t, rfl⟩ := r
    cases (show T = "str" from ty)
    exact ⟨typeIs_str s z t, fun _ e => nomatch e⟩
  | int i =>
    obtain ⟨t, rfl⟩ := r
    cases (show T = "int" from ty)
    exact ⟨typeIs_int s i t, fun _ e => nomatch e⟩
  | ref p =>
    cases r
    rcases ty with ⟨rfl, xs, hq⟩ | ⟨rfl, o, hk, hc, hd⟩ | ⟨rfl, hk⟩ | ⟨rfl, S, n, hk⟩
    · obtain ⟨its, _, pl, _⟩ := I.list hq
      refine ⟨pl.isList.typeIs, fun a e => ?_⟩
      cases e
      obtain ⟨o, n, e, c, hd, _⟩ := pl
      exact ⟨o, e, hd⟩
    · refine ⟨⟨o, I.kIn p o hk, hc⟩, fun a e => ?_⟩
      cases e
      exact ⟨o, I.kIn _ o hk, hd⟩
    · have z : ∃ o, s.heap.get? p = some o ∧ o.ExactDict := by
        rcases hk with ⟨kvs, hk⟩ | ⟨kvs, hk⟩
        · obtain ⟨_, _, _, _, o, _, _, e, ex, _⟩ := I.hok p _ hk
          exact ⟨o, e, ex⟩
        · obtain ⟨_, _, _, _, o, _, _, e, ex, _⟩ := I.hok p _ hk
          exact ⟨o, e, ex⟩
      obtain ⟨o, e, ex⟩ := z
      refine ⟨⟨o, e, ex.1⟩, fun a e2 => ?_⟩
      cases e2
      exact ⟨o, e, ex.2.1⟩
    · obtain ⟨o, _, _, _, e, ex, _⟩ := I.hok p _ hk
      refine ⟨⟨o, e, ex.1⟩, fun a e2 => ?_⟩
      cases e2
      exact ⟨o, e, ex.2.1⟩
  | _ => exact False.elim ty
def tBM (K : PySem.W.Frag) (T : String) (r : V → List V → Hp → VK → Prop) (to : TE) (t : TA) : TE := fun σ H Q => to σ H fun x H1 => tyV K T x H1 ∧ t σ H1 fun xs H2 => r x xs H2 Q
variable {o e : Expr} {es : List Expr} {to : TE} {t : TA} {name : Str} {apos cpos : Pos} {T id : String} {r : V → List V → Hp → VK → Prop}
theorem pe_bm (pa : PlainAttrs T) (slot : Slot T name id) (hty : typeOf (.builtin id) = pure (.type "method_descriptor")) (hm : MtR X id r) (ho : PE X o to) (ha : PA X (e :: es) t)
    (hbase : attributeBase o name X.env (eval o X.env) = eval o X.env := by rfl)
    (hfew : ((backTo cpos (starEach (e :: es) X.env)).all (fun x => !x.1) && (backToKw cpos (keywordEach [] X.env)).all (fun x => x.1.isSome)
      && decide ((e :: es).length + ([] : List Keyword).length + (if ([] : List Keyword).isEmpty then 0 else 1) < 30)) = true := by rfl)
    (hline : (apos.endLine == cpos.line) = true := by rfl) (hs : starEach (e :: es) X.env = (false, eval e X.env) :: starEach es X.env := by rfl) (hplain : (backTo cpos (starEach es X.env)).any (·.1) = false := by rfl) :
    PE X (.Call (.Attribute o name apos) (e :: es) [] cpos) (tBM X.K T r to t) := by
  intro pins s σ H Q I h
  refine wpAny_Call_method_late hbase hfew hline rfl (thn (ho pins s σ H _ I h) fun v s1 ⟨x, H1, I1, r1, ty, q1⟩ => ?_)
  obtain ⟨h1, h2⟩ := tyV_is I1 r1 ty
  refine ⟨T, id, pa, slot, hty, h1, h2, ?_⟩
  have hA := ha cpos pins s1 σ H1 _ I1 q1
  rw [hs] at hA ⊢
  refine Calls.callWith_builtin (by show (false || (backTo cpos (starEach es X.env)).any (·.1)) = false; rw [hplain] <;> rfl) (Calls.evalArgs_plain ?_)
  exact thn hA fun us s2 ⟨vs, H2, I2, r2, q2⟩ => hm pins s2 σ H2 x vs v us Q I2 r1 r2 q2
end
end L2
namespace L2
open PySem PySem.Spec PyProof.Rows
def MtM (X : Cx) (id : String) (r : V → List V → Hp → VK → Prop) : Prop :=
  ∀ (pins : List (Addr × Obj)) (s : Shared) (σ : St) (H : Hp) (x : V) (xs : List V) (v : Value) (us : List Value) (Q : VK), Inv X pins σ H s → RelV x v → Vals xs us → r x xs H Q →
    wpAny (model X.prog X.w) X.A (call (.builtin id) (v :: us)) (EP X pins σ Q) X.xe s
theorem Vals.one : ∀ {x : V} {us : List Value}, Vals [x] us → ∃ u, us = [u] ∧ RelV x u
  | _, _, .cons r .nil => ⟨_, rfl, r⟩
section
variable {X : Cx} {pins : List (Addr × Obj)} {σ : St} {H : Hp} {s : Shared} {l b : Addr} {xs ys zs : List V}
theorem Inv.lset {its its' : List Value} {n : Nat} {f : Array Value → Array Value} {t' : Nat} (I : Inv X pins σ H s) (hH : H l = some (.lst xs))
    (e : s.heap.get? l = some { cls := .type "list", data := .seq its.toArray n }) (hf : f its.toArray = its'.toArray) (hv : Vals ys its') (hz : ys.length ≤ sizeLine) :
    Inv X pins σ (upd H l (.lst ys)) { s with heap := s.heap.update l (Obj.mapSeq f), toks := t' } := by
  have q := PySem.IsL.update e f
  rw [hf] at q
  refine I.write (x := l) (e := l) (by rw [hH]; exact trivial) (.inl rfl) (fun b' u hb hu => (Heap.get?_update_other s.heap (Obj.mapSeq f) (Ne.symm hb)).trans hu) ⟨_, q⟩ ?_
  exact ⟨hz, its', _, hv, q⟩
theorem Inv.lnew {its : List Value} {t' : Nat} (I : Inv X pins σ H s) (hv : Vals ys its) (hz : ys.length ≤ sizeLine) :
    Inv X pins σ (upd H s.heap.objs.size (.lst ys)) { s with heap := s.heap.push { cls := .type "list", data := .seq its.toArray }, toks := t' } :=
  I.laid (fun _ _ q => Heap.get?_push_of_some _ q) (Nat.le_refl _) ⟨hz, its, 0, hv, Heap.get?_push_size _ rfl⟩
theorem Inv.lstM (I : Inv X pins σ H s) (hH : H l = some (.lst xs)) : xs.length ≤ sizeLine ∧ ∃ (its : List Value) (n : Nat), Vals xs its ∧ xs.length = its.length ∧ s.heap.get? l = some { cls := .type "list", data := .seq its.toArray n } := by
  obtain ⟨z, its, n, r, e⟩ := I.hok l _ hH
  exact ⟨z, its, n, r, r.length, e⟩
end
section
variable {X : Cx}
def rAppend : V → List V → Hp → VK → Prop := fun x vs H Q => ∃ l xs y, x = .ref l ∧ vs = [y] ∧ H l = some (.lst xs) ∧ xs.length < sizeLine ∧ Q .non (upd H l (.lst (xs ++ [y])))
theorem mt_append : MtM X "list.append" rAppend := by
  intro pins s σ H x vs v us Q I rx rv h
  obtain ⟨l, xs, y, rfl, rfl, hH, hz, q⟩ := h
  cases rx
  obtain ⟨u, rfl, ru⟩ := rv.one
  obtain ⟨z, its, n, r, hl, e⟩ := I.lstM hH
  refine call_meets F.slot_list_append ⟨_, e, rfl⟩ F.entry_list_append (F.args_list_append_2 _ _) (PySem.list_append l its.toArray n u (by rw [List.size_toArray]; omega)) ⟨e, ?_⟩
  refine ⟨.non, _, I.lset (its' := its ++ [u]) hH e (by simp) (r.append (.cons ru .nil)) ?_, rfl, q⟩
  rw [List.length_append, List.length_singleton]
  omega
def rRep : R2 := fun x y H Q => ∃ l k xs, x = .ref l ∧ y = .int k ∧ H l = some (.lst xs) ∧ -(2 ^ 63) ≤ k ∧ k < 2 ^ 63 ∧ xs.length * k.toNat ≤ sizeLine ∧
  ∀ p, H p = none → Q (.ref p) (upd H p (.lst (List.replicate k.toNat xs).flatten))
end
section
variable {prog : Program} {w : World} {A : Around} {E : Value → Shared → Prop} {s : Shared}
set_option maxRecDepth 100000 in
end
section
variable {X : Cx}
end
end L2
namespace Att
open PySem PySem.W PySem.Calls PyProof.Rows
theorem ints_of_wellAll {P : Params} {h : Heap} : ∀ (ns : List Int) (vs : List Value), WellAll P h vs (ns.map WData.int) → IntsAre vs ns := by
  intro ns
  induction ns with
  | nil =>
    intro vs w
    rw [List.map_nil] at w
    cases w
    exact .nil
  | cons n ns ih =>
    intro vs w
    rw [List.map_cons] at w
    cases w with
    | cons a b =>
      cases a
      exact .cons _ _ (ih _ b)
theorem script_of {l : OpenLaw} {n : Nat} (hn : l.most = some n) {P : Params} {h : Heap} {args : List WData} {vals : List Value}
    (hpre : l.row.toRowW.claim.pre args = true) (hwl : WellAll P h vals args) :
    ∃ a vs ns, vals = [Value.ref a] ∧ args = [WData.list (ns.map WData.int)] ∧ h.get? a = some { cls := .type "list", data := .seq vs.toArray } ∧ IntsAre vs ns ∧ ns.length ≤ n := by
  have hsh : WShape.hasAll [] args [.list .int] = true := (pre_splitW hpre).1
  have hc : l.pre.holds [] { args := args } = true := (pre_splitW hpre).2
  obtain ⟨d, r, rfl, h1, h2⟩ := hasAllW_cons hsh
  obtain rfl := hasAllW_nil h2
  obtain ⟨xs, rfl, h3⟩ := hasW_list h1
  obtain ⟨ns, rfl⟩ := items_int h3
  have hlen : ns.length ≤ n := by
    unfold OpenLaw.pre at hc
    have h4 : (WTm.not (.lt (.lit (.int (n : Int))) (.len (.arg 0)))).holds [] { args := [.list (ns.map .int)] } = true := by
      have h4 := (holds_andW hc).1
      rw [hn] at h4
      exact h4
    have h5 := condW_of h4 (w_not (w_lt w_lit (w_len_list (w_arg rfl))))
    rw [List.length_map] at h5
    refine Nat.le_of_not_lt fun q => ?_
    have q' : (n : Int) < ((ns.length : Nat) : Int) := by omega
    first
      | (rw [decide_eq_true q'] at h5; exact absurd h5 (by decide))
      | (simp at h5; omega)
  cases hwl with
  | cons w1 w2 =>
    cases w2
    cases w1 with
    | list ho hall => exact ⟨_, _, ns, rfl, rfl, ho, ints_of_wellAll ns _ hall, hlen⟩
theorem post_true (l : OpenLaw) (args : List WData) : l.row.toRowW.claim.post args (.bool true) args = true :=
  postW_of (r := l.row.toRowW) (X := (true == true))
    (show WShape.has [] (.bool true) .bool = true by first | rfl | decide | simp [WShape.has, WShape.arms, WShape.armsAll])
    (show (WTm.eq .res (.lit (.bool true))).value [] { args := args, res := some (.bool true), after := args } = some (.bool (true == true)) from w_eq_bool (w_res rfl) w_lit) rfl
theorem attach_call {l : OpenLaw} {n : Nat} {q : Program} {loose : List Str} {XP : (Str → Option Value) → Heap → Prop} {YP : World → Heap → Prop} {d : DefRec}
    (hn : l.most = some n) (hdf : d.params.defaults = [])
    (call : ∀ (w : World) (s₀ s₁ : Shared) (mg mb : Str → Option Value) (fa : Addr) (o : Obj) (pm cd doc : Value) (a : Addr) (vs : List Value) (ns : List Int),
      Ground q loose [] XP w s₀ mg mb s₁.heap → YP w s₁.heap →
      s₁.heap.get? fa = some o → o.data = .func (docDef d.name d.params d.body d.scope pm cd doc) → s₁.heap.CodeRec cd d.name → mg d.name = some (.ref fa) →
      s₁.heap.get? a = some { cls := .type "list", data := .seq vs.toArray } → IntsAre vs ns → ns.length ≤ n → s₁.gens = #[] →
      codeAny (model l.prog w) callerA (.call (.ref fa) ⟨[.ref a], []⟩) (fun r s' => r = .ok (.ret (.bool true)) ∧ OldK s₁.heap s'.heap ∧ s'.os = s₁.os ∧ AllBare s'.gens) s₁) :
    WalkO q loose XP YP l.row.toRowW d [] (fun f vs => PySem.call f vs) := by
  intro w s₀ s₁ mg mb G Y fa o pm cd doc dV kV ho hd hcd hD hmg hg args vals as hpre hlay hrd hwl hlo
  obtain rfl : dV = .none := Dflts.none hD hdf
  obtain rfl : kV = .none := Dflts.noKw hD
  obtain ⟨a, vs, ns, rfl, rfl, hobj, hints, hlen⟩ := script_of hn hpre hwl
  refine enter_call (codeAny_mono (call w s₀ s₁ mg mb fa o pm cd doc a vs ns G Y ho (fd_plain hd) hcd hmg hobj hints hlen hg) fun r s' hq => ?_)
  obtain ⟨rfl, h2, h3, h4⟩ := hq
  exact ⟨.inl ⟨.bool true, .bool true, [], rfl, fun _ => rfl, .bool true, post_true l _, fun _ => ⟨List.Pairwise.nil, fun _ hm => (nomatch hm)⟩⟩, h2, h3, h4⟩
section
variable {prog : Program} {w : World} {A : Around} {E : Value → Shared → Prop} {s : Shared} {K : Frag}
end
end Att
namespace L2
open PySem PySem.Spec PyProof.Rows
theorem vals_ints : ∀ {vs : List Value} {ns : List Int}, IntsAre vs ns → Vals (ns.map V.int) vs
  | _, _, .nil => .nil
  | _, _, .cons n t h => .cons ⟨t, rfl⟩ (vals_ints h)
def Only (H : Hp) : Prop := ∀ b, H b = none ∨ ∃ o xs, H b = some (.frz o (.lst xs))
theorem law_call {P : Program} {w : World} {K : PySem.W.Frag} {mg mb : Str → Option Value} {CX : CXT} {k : Nat} {fa a : Addr} {fd : FuncData} {x : Str} {sp : Sp} {s₁ : Shared} {vs : List Value} {ns : List Int}
    (KX : K.In s₁.heap) (hns : s₁.heap.Ns mainGlobals mg) (hb : s₁.heap.Ns builtinsNs mb) (hbb : ∀ x : Str, x ≠ "__name__" → mb x = bootBuiltins x) (hlim : s₁.heap.NoLimit) (hg : s₁.gens = #[])
    (ha : s₁.heap.get? a = some { cls := .type "list", data := .seq vs.toArray }) (hi : IntsAre vs ns) (hl : ns.length ≤ sizeLine) (hr : Room k callerA)
    (F : ∀ base : Heap, K.In base → base.Ns mainGlobals mg → FnOk P w K mg base CX k fa fd [x] sp) (hbind : ∀ (s : Shared) (u : Value), BindsTo s fd ⟨[u], []⟩ [(x, u)])
    (hsp : ∀ H : Hp, Only H → SqL K H a (ns.map V.int) → sp [.ref a] H (fun v _ => v = .bl true) fun _ _ _ => False)
    (hCX : ∀ H e s', CX [] H s₁ (fun _ _ _ => False) e s' → False) :
    codeAny (model P w) callerA (.call (.ref fa) ⟨[.ref a], []⟩) (fun r s' => r = .ok (.ret (.bool true)) ∧ OldK s₁.heap s'.heap ∧ s'.os = s₁.os ∧ AllBare s'.gens) s₁ := by
  have rv := vals_ints hi
  have lenV := hi.length
  -- from an abstract heap in which nothing but the script may be tracked
  have core : ∀ H : Hp, Only H → SqL K H a (ns.map V.int) → HOk P w H s₁.heap → (∀ b, H b ≠ none → b = a) → (H a ≠ none → K.lookup a = none) →
      codeAny (model P w) callerA (.call (.ref fa) ⟨[.ref a], []⟩) (fun r s' => r = .ok (.ret (.bool true)) ∧ OldK s₁.heap s'.heap ∧ s'.os = s₁.os ∧ AllBare s'.gens) s₁ := by
    intro H hO hS hok hA hK
    have base_of : ∀ {b : Addr} {o : Obj}, s₁.heap.get? b = some o → H b = none → (hidT s₁.heap H).get? b = some o := fun e n => hidT_get e n
    have noA : ∀ {b : Addr} {o : Obj} {es : Array DictEntry} {ep : Nat}, s₁.heap.get? b = some o → o.data = .dict es ep → H b = none := fun {b o es ep} e d => by
      cases q : H b with
      | none => rfl
      | some u =>
        have e' : b = a := hA b (by rw [q]; simp)
        subst e'
        rw [ha] at e; cases e
        have d' : Data.seq vs.toArray _ = Data.dict es ep := d
        cases d'
    have nsK : ∀ {b : Addr} {m : Str → Option Value}, s₁.heap.Ns b m → (hidT s₁.heap H).Ns b m := fun {b m} ⟨o, es, ep, e, d, r⟩ => ⟨o, es, ep, base_of e (noA e d), d, r⟩
    have hKb : K.In (hidT s₁.heap H) := fun b o e => base_of (KX b o e) (by
      cases q : H b with
      | none => rfl
      | some u =>
        have e' : b = a := hA b (by rw [q]; simp)
        subst e'
        rw [hK (by rw [q]; simp)] at e; cases e)
    have hM : Mod K mg (hidT s₁.heap H) := ⟨hKb, nsK hns, ⟨mb, nsK hb, hbb⟩, let ⟨mc, h1, h2⟩ := hlim; ⟨mc, nsK h1, h2⟩⟩
    have e0 : Env0 P w K mg (hidT s₁.heap H) callerA [] s₁ H := ⟨rfl, hM, fun b o e => of_hidT e, Nat.le_of_eq (hidT_size _ _), trivial, fun b hb => absurd (show b ∈ ([] : List Addr) from hb) (by simp), hok, .of_eq hg⟩
    refine codeAny_mono ((F _ hKb (nsK hns)).run callerA [] s₁ H ⟨[.ref a], []⟩ [.ref a] [.ref a] _ _ hr e0 (hbind s₁ (.ref a)) (.cons rfl .nil) (hsp H hO hS)) fun r s' h => ?_
    cases r with
    | error e => exact (hCX H e s' h).elim
    | ok fl =>
      cases fl with
      | next => exact False.elim h
      | brk => exact False.elim h
      | cont => exact False.elim h
      | ret u =>
        obtain ⟨v, H', os, bare, un, hok', r', q⟩ := h
        have q' : v = .bl true := q
        subst q'
        obtain rfl : u = Value.bool true := r'
        refine ⟨rfl, OldK.of_keep fun b o e => ?_, os, bare⟩
        cases q : H b with
        | none => exact un.keep b o e q (by intro z; exact absurd (show b ∈ ([] : List Addr) from z) (by simp)) (by simp)
        | some u =>
          rcases hO b with z | ⟨ob, xs, z⟩
          · rw [q] at z; cases z
          · have z2 := un.frzs b ob _ z
            obtain ⟨e1, _⟩ := hok b _ z
            obtain ⟨e2, _⟩ := hok' b _ z2
            rw [e] at e1; cases e1
            exact e2
  cases hk : K.lookup a with
  | some o =>
    -- the script is one of the module's own objects
    have e := KX a o hk
    rw [ha] at e
    cases e
    refine core (fun _ => none) (fun _ => .inl rfl) (.inr ⟨_, vs.toArray, _, hk, rfl, rfl, rfl, by rw [List.size_toArray, lenV]; exact hl, by simpa using rv⟩) (fun b u z => by have z' : (none : Option HO) = some u := z; cases z') (fun b z => absurd rfl z) fun z => absurd rfl z
  | none =>
    refine core (fun b => if b = a then some (.frz { cls := .type "list", data := .seq vs.toArray } (.lst (ns.map V.int))) else none) (fun b => ?_) (.inl (.inr ⟨{ cls := .type "list", data := .seq vs.toArray }, if_pos rfl⟩)) (fun b u z => ?_) (fun b z => ?_) fun _ => hk
    · by_cases hb : b = a
      · exact .inr ⟨_, _, if_pos hb⟩
      · exact .inl (if_neg hb)
    · by_cases hb : b = a
      · have z' := (if_pos hb).symm.trans z
        cases z'
        subst hb
        exact ⟨ha, by rw [List.length_map]; exact hl, vs, _, rv, ha⟩
      · have z' := (if_neg hb).symm.trans z
        cases z'
    · by_cases hb : b = a
      · exact hb
      · exact absurd (if_neg hb) z
end L2
namespace L2
open PySem PySem.Spec PyProof.Rows
theorem walk_of {l : PySem.W.OpenLaw} {n k : Nat} {q : Program} {loose : List Str} {XP : (Str → Option Value) → Heap → Prop} {YP : World → Heap → Prop} {d : DefRec} {K : Params → PySem.W.Frag} {CX : World → CXT} {sp : World → Sp} {x : Str}
    (hn : l.most = some n) (hn2 : n ≤ sizeLine) (hdf : d.params.defaults = []) (hr : Room k callerA)
    (hY : ∀ (w : World) (h : Heap), YP w h → (K w.params).In h)
    (F : ∀ (w : World) (mg : Str → Option Value) (fa : Addr) (h : Heap), (K w.params).In h → h.Ns mainGlobals mg → mg d.name = some (.ref fa) →
      ∃ fd : FuncData, (∀ (s : Shared) (u : Value), BindsTo s fd ⟨[u], []⟩ [(x, u)]) ∧
        ∀ base : Heap, (K w.params).In base → base.Ns mainGlobals mg → FnOk l.prog w (K w.params) mg base (CX w) k fa fd [x] (sp w))
    (hsp : ∀ (w : World) (H : Hp) (a : Addr) (ns : List Int), ns.length ≤ n → Only H → SqL (K w.params) H a (ns.map V.int) → sp w [.ref a] H (fun v _ => v = .bl true) fun _ _ _ => False)
    (hCX : ∀ (w : World) (H : Hp) (s : Shared) (e : Value) (s' : Shared), CX w [] H s (fun _ _ _ => False) e s' → False) :
    PySem.W.WalkO q loose XP YP l.row.toRowW d [] (fun f vs => PySem.call f vs) := by
  refine Att.attach_call hn hdf fun w s₀ s₁ mg mb fa o pm cd doc a vs ns G Y ho hd hcd hmg hobj hints hlen hg => ?_
  have KX := hY w _ Y
  obtain ⟨fd, hb, hF⟩ := F w mg fa _ KX G.T.g hmg
  exact law_call KX G.T.g G.T.b G.T.builtins G.T.nolimit hg hobj hints (Nat.le_trans hlen hn2) hr hF hb (fun H hO hS => hsp w H a ns hlen hO hS) fun H e s' => hCX w H s₁ e s'
end L2
namespace L2
open PySem PySem.Spec PyProof.Rows
def defArgs (s : Stmt) : Arguments := match s with
  | .FunctionDef _ a _ _ _ _ _ _ _ _ => a
  | _ => { posonlyargs := [], args := [], vararg := none, kwonlyargs := [], kw_defaults := [], kwarg := none, defaults := [] }
def defBody (s : Stmt) : List Stmt := match s with
  | .FunctionDef _ _ b _ _ _ _ _ _ _ => b
  | _ => []
def defScope (s : Stmt) : Scope := match s with
  | .FunctionDef _ _ _ _ _ _ sc _ _ _ => sc
  | _ => { kind := .function, names := [], isGenerator := false, isCoroutine := false }
abbrev CX0 : CXT := fun _ _ _ _ _ _ => False
abbrev E0 : XK := fun _ _ _ => False
theorem pass0 {X : Cx} : Passes CX0 X E0 := fun _ _ _ _ _ _ _ h => h.elim
structure Fun (K : PySem.W.Frag) (x qual : Str) (st : Stmt) (f : Addr) (fd : FuncData) : Prop where
  ex : ∃ (oc : Value) (od : Option Addr) (kV doc pm : Value) (an : Option Addr) (cdv ct : Value) (osl : Array (Option Value)),
    fd = PySem.W.fnOf x qual (defArgs st) (defBody st) (defScope st) .none kV doc pm an cdv ct ∧ K.lookup f = some ⟨oc, od, .func fd, osl⟩ ∧ PySem.W.codeIn K cdv qual = true
  kp : PySem.W.keepIn K (.ref f) = true
section
variable {P : Program} {w : World} {K : PySem.W.Frag} {mg : Str → Option Value} {base : Heap}
theorem Fun.ok {x qual : Str} {st : Stmt} {f : Addr} {fd : FuncData} {N ps : List Str} {k : Nat} {sp : Sp} (F : Fun K x qual st f fd) (S : FnScope N ps (defScope st)) (len : ∀ vs H Q E, sp vs H Q E → vs.length = ps.length)
    (hbody : ∀ (cdv : Value) (A : Around) (outer : List Env) (s : Shared) (H : Hp) (vs : List V) (Q : VK) (E : XK), Room k (A.deeper (envOfC qual (defScope st) s.heap.objs.size f cdv)) → sp vs H Q E →
      ∃ t, PSs (cxOf CX0 P w K mg base N qual (defScope st) f cdv A outer s H E).nox (defBody st) t ∧ t { nx := fun _ H' => Q .non H', rt := Q } (start N vs) H) : FnOk P w K mg base CX0 (k + 1) f fd ps sp := by
  obtain ⟨oc, od, kV, doc, pm, an, cdv, ct, osl, rfl, lk, hcd⟩ := F.ex
  refine fn_of lk hcd S len fun A outer s H vs Q E hr hsp => ?_
  obtain ⟨t, h, q⟩ := hbody cdv A outer s H vs Q E hr hsp
  exact ⟨t, h.nox, q⟩
theorem Fun.binds {x qual : Str} {st : Stmt} {f : Addr} {fd : FuncData} {ps : List Str} (F : Fun K x qual st f fd)
    (h : ∀ (kV doc pm : Value) (an : Option Addr) (cdv ct : Value) (us : List Value), us.length = ps.length → bindArgs (PySem.W.fnOf x qual (defArgs st) (defBody st) (defScope st) .none kV doc pm an cdv ct) ⟨us, []⟩ = pure (ps.zip us)) : Binds K fd ps [] := by
  obtain ⟨oc, od, kV, doc, pm, an, cdv, ct, osl, rfl, lk, hcd⟩ := F.ex
  exact .all (h kV doc pm an cdv ct)
theorem fun_mk {x qual : Str} {st : Stmt} {f : Addr} {oc : Value} {od an : Option Addr} {osl : Array (Option Value)} {kV doc pm cdv ct : Value} (l : K.lookup f = some ⟨oc, od, .func (PySem.W.fnOf x qual (defArgs st) (defBody st) (defScope st) .none kV doc pm an cdv ct), osl⟩)
    (c : PySem.W.codeIn K cdv qual = true) (k : PySem.W.keepIn K (.ref f) = true) : Fun K x qual st f (PySem.W.fnOf x qual (defArgs st) (defBody st) (defScope st) .none kV doc pm an cdv ct) := ⟨⟨oc, od, kV, doc, pm, an, cdv, ct, osl, rfl, l, c⟩, k⟩
end
theorem hu_of {A : Around} {k : Nat} (hr : Room k A) : A.units + 1 < cLine := Nat.lt_of_le_of_lt (Nat.add_le_add_left (by decide : 1 ≤ 64) _) hr.units
section
variable {X : Cx}
theorem pv (i : Nat) {x : Str} {pos : Pos} (hN : X.N[i]? = some x := by rfl) (hv : Vis X.env.scope x := by first | exact Or.inl rfl | exact Or.inr (Or.inl rfl) | exact Or.inr (Or.inr rfl)) (hd : (x == ("__debug__" : Str)) = false := by decide)
    (hcd : (x == ("__classdict__" : Str)) = false := by decide) : PE X (.Name x pos) (tVar i) := pe_var hN hv hd hcd
end
theorem iteF {A B : Prop} (h : B) : if false = true then A else B := by
  rw [if_neg Bool.false_ne_true]
  exact h
theorem iteT {A B : Prop} (h : A) : if true = true then A else B := by
  rw [if_pos rfl]
  exact h
def Same (H H' : Hp) : Prop := ∀ b o, H b = some o → H' b = some o
theorem Same.refl (H : Hp) : Same H H := fun _ _ h => h
theorem Same.trans {H H1 H2 : Hp} (a : Same H H1) (b : Same H1 H2) : Same H H2 := fun c o h => b c o (a c o h)
theorem Same.free {H H' : Hp} (e : Same H H') {l : Addr} (h : H' l = Option.none) : H l = Option.none := by
  cases q : H l with
  | none => rfl
  | some o =>
    rw [e l o q] at h
    cases h
theorem Same.seq {K : PySem.W.Frag} {H H' : Hp} {a : Addr} {xs : List V} (e : Same H H') (h : SqL K H a xs) : SqL K H' a xs := by
  rcases h with (h | ⟨o, h⟩) | h
  · exact .inl (.inl (e _ _ h))
  · exact .inl (.inr ⟨o, e _ _ h⟩)
  · exact .inr h
end L2
set_option Elab.async false
set_option linter.all false
set_option maxRecDepth 100000
namespace My
open PySem PySem.Spec PyProof.Rows L2
section
variable {X : Cx}
theorem bits600 {k : Int} (h : k.natAbs < 2 ^ 600) : Builtin.Int.intBits k ≤ 2 ^ 20 :=
  Nat.le_trans (PyProof.Rows.intBits_le (k := 600) h) (by decide)
def CBig (i j : Int) : Prop := i.natAbs < 2 ^ 600 ∧ j.natAbs < 2 ^ 600
theorem op_mulB : OpR X (binaryOp .Mult) (rI CBig fun i j => .int (i * j)) := opI fun _ _ _ _ _ _ _ hc q => mul_int q (IntMulOk.of_bits (bits600 hc.1) (bits600 hc.2))
def CDivB (i j : Int) : Prop := j ≠ 0 ∧ j.natAbs < 2 ^ 600
theorem noPy {x y : Int} (h : y.natAbs < 2 ^ 600) : Builtin.divisionGoesByPylong x y = false := by
  refine PyProof.noPylong_of_log2 ?_
  by_cases h0 : y.natAbs = 0
  · rw [h0]; decide +kernel
  · have h30 : y.natAbs.log2 < 600 := (Nat.log2_lt h0).mpr h
    omega
theorem op_fdivB : OpR X (binaryOp .FloorDiv) (rI CDivB fun i j => .int (i.fdiv j)) := opI fun _ _ _ _ _ _ _ hc q => floordiv_int hc.1 q (.inl (noPy hc.2))
end
theorem same_new {H : Hp} {p : Addr} (h : H p = none) (o : HO) : Same H (upd H p o) := fun b u q => by rw [upd_ne (ne_of_none q h)]; exact q
def cell (ns : List Int) (k : Int) : Int := (ns[k.toNat]?).getD 0
theorem cell_at {ns : List Int} {k : Int} (h0 : 0 ≤ k) (h : k < (ns.length : Int)) : atI (ns.map V.int) k = some (.int (cell ns k)) := by
  have hk : k.toNat < ns.length := by omega
  have ek : k = ((k.toNat : Nat) : Int) := by omega
  have q : atI (ns.map V.int) ((k.toNat : Nat) : Int) = some (.int ns[k.toNat]) := atI_nat (by rw [List.getElem?_map, List.getElem?_eq_getElem hk] <;> rfl)
  rw [← ek] at q
  rw [q]
  unfold cell
  rw [List.getElem?_eq_getElem hk]
  rfl
end My
set_option Elab.async false
set_option linter.all false
set_option maxRecDepth 100000
namespace My
open PySem PySem.Spec PyProof.Rows L2
section
variable {X : Cx}
end
end My
set_option Elab.async false
set_option linter.all false
set_option maxRecDepth 100000
set_option maxHeartbeats 1000000
namespace My
open PySem PySem.Spec PyProof.Rows L2
section
variable {X : Cx} {pins : List (Addr × Obj)} {σ : L2.St} {H : Hp} {s : Shared} {h' : Heap}
structure Rec (X : Cx) (pins : List (Addr × Obj)) (H : Hp) (h : Heap) (b : Addr) : Prop where
  nw : X.s₀.heap.get? b = none
  un : H b = none
  pin : ∀ p ∈ X.pn ++ pins, p.1 ≠ b
  ob : ∃ o vs, h.get? b = some o ∧ o.data = .fields vs
def XNew (h : Heap) (e : Addr) (C : Value) (d : Option Addr) : Prop :=
  ∃ oe vs, h.get? e = some oe ∧ oe.cls = C ∧ oe.dict = d ∧ oe.data = .fields vs ∧ vs[1]? = some .none
def XTr (h : Heap) (e : Addr) (C : Value) (d : Option Addr) (fl : Value) (T : Addr) : Prop :=
  ∃ oe vs oT ts, h.get? e = some oe ∧ oe.cls = C ∧ oe.dict = d ∧ oe.data = .fields vs ∧ vs[1]? = some (.ref T) ∧ T ≠ e ∧ h.get? T = some oT ∧ oT.data = .fields ts ∧ ts[3]? = some fl
def XIn (X : Cx) (pins : List (Addr × Obj)) (H : Hp) (h : Heap) (e : Addr) (C : Value) (d : Option Addr) : Prop :=
  Rec X pins H h e ∧ (XNew h e C d ∨ ∃ T, Rec X pins H h T ∧ (XTr h e C d .none T ∨ XTr h e C d (rawInt X.env.locals) T))
end
end My
set_option Elab.async false
set_option linter.all false
set_option maxRecDepth 100000
set_option maxHeartbeats 1000000
namespace My
open PySem PySem.Spec PyProof.Rows L2
section
variable {X : Cx} {pins : List (Addr × Obj)} {σ : L2.St} {H : Hp} {s : Shared} {W : L2.St → XK}
def XSt (X : Cx) (W : L2.St → XK) (e : Value) (s : Shared) : Prop := ∃ (a : Addr) (C : Value) (d : Option Addr) (σ : L2.St) (H : Hp), e = .ref a ∧ Inv X [] σ H s ∧ XIn X [] H s.heap a C d ∧ W σ C d H
abbrev xw (X : Cx) (W : L2.St → XK) : Cx := X.wish (XSt X W)
end
section
variable {P : Program} {w : World} {K : PySem.W.Frag} {mg : Str → Option Value} {base : Heap}
end
section
variable {X : Cx} {k : Nat} {f : Addr} {fd : FuncData} {ps : List Str} {sp : Sp} {dvs : List V} {ds : List Value} {W : L2.St → XK} {x : Str} {p pos : Pos} {e : Expr} {es : List Expr} {t : TA}
end
structure XCls (K : PySem.W.Frag) (C : Addr) : Prop where
  ob : ∃ (nm q : Str) (N : Addr) (bs bm : List Value) (hdct : Bool) (sn : List Str) (sub : List Value) (ab : Bool) (col : Option Bool) (dd : Option Addr) (k0 k1 k2 k3 k5 : Option Value) (mN : Str → Option Value),
    K.lookup C = some (excClassObj nm q C N bs bm hdct sn sub ab col dd k0 k1 k2 k3 k5 "ValueError.__new__") ∧ (∀ h : Heap, K.In h → h.Ns N mN) ∧ mN "__init__" = none ∧
    ∀ h : Heap, K.In h → OwnTail h [.type "ValueError", .type "Exception", .type "BaseException", .type "object"] bm
section
variable {X : Cx} {x : Str} {C : Addr} {W : L2.St → XK} {np cpos pos : Pos} {e : Expr} {es : List Expr} {t : TA}
end
end My
set_option Elab.async false
set_option linter.all false
set_option maxRecDepth 100000
set_option maxHeartbeats 1000000
namespace My
open PySem PySem.Spec PyProof.Rows L2
section
variable {X : Cx} {pins : List (Addr × Obj)} {σ : L2.St} {H : Hp} {s : Shared}
abbrev pnd (X : Cx) (pins : List (Addr × Obj)) : Cx := { X with pn := X.pn ++ pins }
abbrev suite (X : Cx) (a : Addr) : Cx := { X with A := X.A.mark (some (.ref a)), calm := false, xe := fun _ _ => False }
def XO (a : Addr) (C : Value) (d : Option Addr) : HO := .ext fun h => ∃ (oe : Obj) (vs : Array Value), h.get? a = some oe ∧ oe.cls = C ∧ oe.dict = d ∧ oe.data = .fields vs
end
section
variable {X : Cx}
def tCut (t : TS) : TS := fun D σ H => ∃ J : L2.St → Hp → Prop, t { D with nx := J } σ H ∧ ∀ σ' H', J σ' H' → D.nx σ' H'
theorem ps_cut {st : Stmt} {t : TS} (h : PS X st t) : PS X st (tCut t) := by
  intro pins s σ H D I ⟨J, hw, k⟩
  refine wpAny_mono (h pins s σ H _ I hw) (fun f s' q => ?_) fun _ _ z => z
  cases f with
  | next => obtain ⟨σ', H', I', z⟩ := q; exact ⟨σ', H', I', k _ _ z⟩
  | brk => exact q
  | cont => exact q
  | ret u => exact q
end
section
variable {X : Cx}
end
def TyX (K : PySem.W.Frag) (H : Hp) (x : V) (t : Value) (b : Bool) : Prop := TyOf K H x t ∨ ∃ (a : Addr) (d : Option Addr), x = .ref a ∧ H a = some (XO a t d) ∧ b = true
def rIsi (K : PySem.W.Frag) : List V → Hp → VK → Prop := fun xs H Q => ∃ (x c : V) (u t : Value) (b : Bool), xs = [x, c] ∧ RelV c u ∧ (∀ u', RelV c u' → u' = u) ∧ TyX K H x t b ∧ PySem.W.kitOne K t u = some b ∧ Q (.bl b) H
end My
set_option Elab.async false
set_option linter.all false
set_option maxRecDepth 100000
set_option maxHeartbeats 1000000
namespace My
open PySem PySem.Spec PyProof.Rows L2
theorem isi_yes {prog : Program} {w : World} {A : Around} {E : Value → Shared → Prop} {s : Shared} {Q : Value → Shared → Prop} {K : PySem.W.Frag} {a : Addr} {t c : Value} (KX : K.In s.heap) (hp : ∃ o, s.heap.get? a = some o ∧ o.cls = t) (e : PySem.W.kitOne K t c = some true)
    (h : Q (.bool true) s) : wpAny (model prog w) A (call (.builtin "isinstance") [.ref a, c]) Q E s := by
  refine call_isinstance_of ?_ (by intro q; cases q)
  obtain ⟨h0, g, d, tt, os⟩ := s
  obtain ⟨o, ho, hc⟩ := hp
  have LT : PySem.W.Looks (model prog w) h0 (typeOf (.ref a)) t := hc ▸ (PySem.W.Looks.ld ho).andThen .now
  unfold PySem.W.kitOne at e
  unfold Builtin.«isinstance.nested»
  refine wpAny_bind (LT.at ?_)
  by_cases q : (t == c) = true
  · rw [if_pos q]
    first
      | exact wpAny_bind (wpAny_rule (wpAny_pure h))
      | exact wpAny_bind (wpAny_rule h)
  · rw [if_neg q] at e
    rw [if_neg q]
    obtain ⟨hty, his, hsub⟩ := PySem.W.kit_cls (M := model prog w) KX e
    have LI : PySem.W.Looks (model prog w) h0 (isInstance (.ref a) c) true := LT.andThen hsub
    refine wpAny_bind (hty.at ?_)
    rw [if_pos (by decide)]
    k_delta "plainIsInstance"
    refine wpAny_bind (wpAny_bind (his.at ?_))
    simp only [Bool.not_true, Bool.false_eq_true, if_false]
    refine wpAny_bind (LI.at ?_)
    first
      | exact wpAny_pure (wpAny_pure h)
      | (simp only [if_true]; first | exact wpAny_pure (wpAny_pure h) | exact wpAny_pure h | exact wpAny_bind (wpAny_pure (wpAny_pure h)))
section
variable {X : Cx}
theorem call_isi2 : CallR X (.builtin "isinstance") (rIsi X.K) := by
  intro pins s σ H xs us Q I hv h
  obtain ⟨x, c, u, t, b, rfl, hu, hu', ty, e, q⟩ := h
  cases hv with
  | cons r1 hv =>
    cases hv with
    | cons r2 hv =>
      cases hv
      rename_i v1 v2
      rw [hu' v2 r2]
      rcases ty with ty | ⟨a, d, rfl, ea, rfl⟩
      · exact isinst_ok I r1 ty e fun tk => ⟨.bl b, H, I.tok tk, rfl, q⟩
      · cases r1
        obtain ⟨⟨oe, vs, h1, h2, _⟩, _⟩ := (show ObjOk X.prog X.w H s.heap a (XO a t d) from I.hok a _ ea)
        exact isi_yes I.kIn ⟨oe, h1, h2⟩ e ⟨.bl true, H, I, rfl, q⟩
def rIsN : R2 := fun x y H Q => y = .non ∧ Q (.bl (decide (x = .non))) H
def rLen (K : PySem.W.Frag) : List V → Hp → VK → Prop := fun xs H Q => ∃ p ys, xs = [.ref p] ∧ (SqL K H p ys ∨ SqT K H p ys) ∧ Q (.int ys.length) H
theorem call_lenN : CallR X (.builtin "len") (rLen X.K) := call_len_seq
theorem op_isNN : OpR X (compareOp .Is) rIsN := op_isN
end
section
variable {K : PySem.W.Frag} {H : Hp} {Q : VK}
theorem r_isi {x : V} {T : String} {t : Value} {b : Bool} (ty : TyOf K H x t) (e : PySem.W.kitOne K t (.type T) = some b) (h : Q (.bl b) H) : rIsi K [x, .ty T] H Q := ⟨x, _, _, t, b, rfl, rfl, fun _ z => z, .inl ty, e, h⟩
end
section
variable {K : PySem.W.Frag}
theorem kit_int_lst : PySem.W.kitOne K (.type "int") (.type "list") = some false := by rfl
theorem kit_int_tup : PySem.W.kitOne K (.type "int") (.type "tuple") = some false := by rfl
theorem kit_int_dct : PySem.W.kitOne K (.type "int") (.type "dict") = some false := by rfl
theorem kit_bool_lst : PySem.W.kitOne K (.type "bool") (.type "list") = some false := by rfl
theorem kit_bool_tup : PySem.W.kitOne K (.type "bool") (.type "tuple") = some false := by rfl
theorem kit_bool_dct : PySem.W.kitOne K (.type "bool") (.type "dict") = some false := by rfl
theorem kit_str_lst : PySem.W.kitOne K (.type "str") (.type "list") = some false := by rfl
theorem kit_str_tup : PySem.W.kitOne K (.type "str") (.type "tuple") = some false := by rfl
theorem kit_str_dct : PySem.W.kitOne K (.type "str") (.type "dict") = some false := by rfl
theorem kit_non_lst : PySem.W.kitOne K (.type "NoneType") (.type "list") = some false := by rfl
theorem kit_non_tup : PySem.W.kitOne K (.type "NoneType") (.type "tuple") = some false := by rfl
theorem kit_non_dct : PySem.W.kitOne K (.type "NoneType") (.type "dict") = some false := by rfl
theorem kit_lst_lst : PySem.W.kitOne K (.type "list") (.type "list") = some true := by rfl
theorem kit_lst_dct : PySem.W.kitOne K (.type "list") (.type "dict") = some false := by rfl
theorem kit_tup_lst : PySem.W.kitOne K (.type "tuple") (.type "list") = some false := by rfl
theorem kit_tup_tup : PySem.W.kitOne K (.type "tuple") (.type "tuple") = some true := by rfl
theorem kit_tup_dct : PySem.W.kitOne K (.type "tuple") (.type "dict") = some false := by rfl
theorem kit_dct_dct : PySem.W.kitOne K (.type "dict") (.type "dict") = some true := by rfl
end
end My
set_option Elab.async false
set_option linter.all false
set_option maxRecDepth 100000
namespace My
open PySem PySem.Spec PyProof.Rows L2
section
variable {K : PySem.W.Frag} {σ σ' : L2.St} {H H1 : Hp} {Q : VK} {D : Ends} {ta tb te : TE} {t u : TS} {c c' : TT} {ar : TA} {v x y : V} {i j : Nat}
theorem r_start {N : List Str} {vs : List V} (e : start N vs = σ) (h : t D σ H) : t D (start N vs) H := e ▸ h
theorem r_var (e : σ[i]? = some (some v)) (h : Q v H) : tVar i σ H Q := ⟨v, e, h⟩
theorem r_c (h : Q v H) : tC v σ H Q := h
theorem r_op {r : R2} (h : ta σ H fun x H1 => tb σ H1 fun y H2 => r x y H2 Q) : tOp r ta tb σ H Q := h
theorem r_I0 {g : Int → Int → V} {i j : Int} (h : Q (g i j) H) : rI0 g (.int i) (.int j) H Q := ⟨i, j, rfl, rfl, h⟩
theorem r_I {C : Int → Int → Prop} {g : Int → Int → V} {i j : Int} (hc : C i j) (h : Q (g i j) H) : rI C g (.int i) (.int j) H Q := ⟨i, j, rfl, rfl, hc, h⟩
theorem r_eqI {i j : Int} (h : Q (.bl (decide (i = j))) H) : rEq (.int i) (.int j) H Q := ⟨rfl, by
  have e : decide (V.int i = V.int j) = decide (i = j) := by by_cases z : i = j <;> simp [z]
  rw [e]; exact h⟩
theorem r_eqS {i j : Str} (h : Q (.bl (decide (i = j))) H) : rEq (.str i) (.str j) H Q := ⟨rfl, by
  have e : decide (V.str i = V.str j) = decide (i = j) := by by_cases z : i = j <;> simp [z]
  rw [e]; exact h⟩
theorem r_exb {b : Bool} {Q : Bool → Prop} (h : Q b) : ∃ k, V.bl b = .bl k ∧ Q k := ⟨b, rfl, h⟩
theorem r_test {Q : Bool → Hp → Prop} (h : te σ H fun x H' => ∃ k, x = .bl k ∧ Q k H') : tTest te σ H Q := h
theorem r_tB {Q : Bool → Hp → Prop} (h : te σ H fun x H' => ∃ k, x = .bl k ∧ Q k H') : tB te σ H Q := h
theorem r_and {Q : Bool → Hp → Prop} (h : c σ H fun b H1 => if b = true then c' σ H1 Q else Q false H1) : tAnd c c' σ H Q := h
theorem r_or {Q : Bool → Hp → Prop} (h : c σ H fun b H1 => if b = true then Q true H1 else c' σ H1 Q) : tOr c c' σ H Q := h
theorem r_not {Q : Bool → Hp → Prop} (h : c σ H fun b H1 => Q (!b) H1) : tNot c σ H Q := h
theorem r_andV (h : ta σ H fun x H1 => ∃ k, x = .bl k ∧ if k = true then tb σ H1 Q else Q (.bl false) H1) : tAndV ta tb σ H Q := h
theorem r_next (h : D.nx σ H) : tNext D σ H := h
theorem r_seq (h : t { nx := u D, rt := D.rt, bk := D.bk, ct := D.ct } σ H) : tSeq t u D σ H := h
theorem r_drop (h : te σ H fun _ H1 => D.nx σ H1) : tDrop te D σ H := h
theorem r_ret (h : te σ H D.rt) : tRet te D σ H := h
theorem r_if (h : c σ H fun b H1 => if b = true then t D σ H1 else u D σ H1) : tIfS c t u D σ H := h
theorem r_asg {g : TG} (h : te σ H fun x H1 => g x σ H1 D.nx) : tAsg te g D σ H := h
theorem r_name {Q : L2.St → Hp → Prop} (e : σ.set i (some v) = σ') (h : Q σ' H) : gName i v σ H Q := by subst e; exact h
theorem r_gnil {Q : L2.St → Hp → Prop} (h : Q σ H) : gNil [] σ H Q := ⟨rfl, h⟩
theorem r_gcons {g : TG} {gs : TGs} {vs : List V} {Q : L2.St → Hp → Prop} (h : g v σ H fun σ' H' => gs vs σ' H' Q) : gCons g gs (v :: vs) σ H Q := ⟨v, vs, rfl, h⟩
theorem r_nx {f b c : L2.St → Hp → Prop} {r : VK} (h : f σ H) : Ends.nx { nx := f, rt := r, bk := b, ct := c } σ H := h
theorem r_rt {f b c : L2.St → Hp → Prop} {r : VK} (h : r v H) : Ends.rt { nx := f, rt := r, bk := b, ct := c } v H := h
theorem r_nil {Q : List V → Hp → Prop} (h : Q [] H) : tNil σ H Q := h
theorem r_cons {Q : List V → Hp → Prop} (h : te σ H fun x H1 => ar σ H1 fun xs H2 => Q (x :: xs) H2) : tCons te ar σ H Q := h
theorem r_tup (h : ar σ H fun xs H1 => xs.length ≤ sizeLine ∧ ∀ p, H1 p = none → Q (.ref p) (upd H1 p (.tup xs))) : tTup ar σ H Q := h
theorem r_lst (h : ar σ H fun xs H1 => xs.length ≤ sizeLine ∧ ∀ p, H1 p = none → Q (.ref p) (upd H1 p (.lst xs))) : tLst ar σ H Q := h
theorem r_new {xs : List V} {A : Prop} (hn : xs.length ≤ sizeLine) (h : A) : xs.length ≤ sizeLine ∧ A := ⟨hn, h⟩
theorem r_call {sp : Sp} {E : XK} (h : ar σ H fun vs H1 => sp vs H1 Q E) : tCall sp [] E ar σ H Q := by
  have e : (fun vs H1 => sp (vs ++ []) H1 Q E) = fun vs H1 => sp vs H1 Q E := by funext vs H1; rw [List.append_nil]
  show ar σ H fun vs H1 => sp (vs ++ []) H1 Q E
  rw [e]; exact h
theorem r_cb {r : List V → Hp → VK → Prop} (h : ar σ H fun vs H1 => r vs H1 Q) : tCB r ar σ H Q := h
theorem r_ixL {p : Addr} {xs : List V} {k : Int} (hS : SqL K H p xs) (e : atI xs k = some v) (h : Q v H) : rIxL K (.ref p) (.int k) H Q := ⟨p, xs, k, v, rfl, rfl, hS, e, h⟩
theorem r_ixT {p : Addr} {xs : List V} {k : Int} (hS : SqT K H p xs) (e : atI xs k = some v) (h : Q v H) : rIxT K (.ref p) (.int k) H Q := ⟨p, xs, k, v, rfl, rfl, hS, e, h⟩
theorem r_fresh {R : Addr → Prop} (h : ∀ p, H p = none → R p) : ∀ p, H p = none → R p := h
theorem r_menu {p : Addr} {xs : List Int} {r : Int} (hS : SqL K H p (xs.map V.int)) (h0 : 0 ≤ r) (h1 : r < xs.length) (h : ∀ m, m ∈ xs → Q (.int m) H) : rIxL K (.ref p) (.int r) H Q := by
  have hk : r.toNat < xs.length := by omega
  have ek : r = ((r.toNat : Nat) : Int) := by omega
  have q : atI (xs.map V.int) ((r.toNat : Nat) : Int) = some (.int xs[r.toNat]) := atI_nat (by rw [List.getElem?_map, List.getElem?_eq_getElem hk] <;> rfl)
  rw [← ek] at q
  exact ⟨p, _, r, _, rfl, rfl, hS, q, h _ (List.getElem_mem hk)⟩
theorem r_cut0 (h : t { nx := D.nx, rt := D.rt, bk := D.bk, ct := D.ct } σ H) : tCut t D σ H := ⟨D.nx, h, fun _ _ z => z⟩
theorem r_cut (J : L2.St → Hp → Prop) (h : t { nx := J, rt := D.rt, bk := D.bk, ct := D.ct } σ H) (k : ∀ σ' H', J σ' H' → D.nx σ' H') : tCut t D σ H := ⟨J, h, k⟩
theorem r_lenL {p : Addr} {ys : List V} (hS : SqL K H p ys) (h : Q (.int ys.length) H) : rLen K [.ref p] H Q := ⟨p, ys, rfl, .inl hS, h⟩
theorem r_isNn (h : Q (.bl true) H) : rIsN .non .non H Q := ⟨rfl, h⟩
theorem r_isNr {a : Addr} (h : Q (.bl false) H) : rIsN (.ref a) .non H Q := ⟨rfl, h⟩
end
section
variable {K : PySem.W.Frag} {σ : L2.St} {H : Hp} {D : Ends} {wi : TI} {g : TG} {tb : TS} {tl : TE} {ta : TA}
def FOR (J : It) (g : TG) (tb : TS) (D : Ends) (σ : L2.St) (H : Hp) : Prop := ∃ W : Nat → Nat → L2.St → Hp → Prop, (∃ m, W 0 m σ H) ∧ ∀ i m σ H, W i m σ H →
  (J.stop i H ∧ D.nx σ H) ∨ (J.go i H ∧ ∃ N : L2.St → Hp → Prop, (∀ σ' H', N σ' H' → ∃ m', m' < m ∧ W (i + 1) m' σ' H') ∧ ∀ x H', J.yld i H x H' → g x σ H' fun σ2 H2 => tb { D with nx := N, ct := N, bk := D.nx } σ2 H2)
def rItL (K : PySem.W.Frag) (x : V) (H : Hp) (R : It → Hp → Prop) : Prop := ∃ a, x = .ref a ∧ (∃ xs, SqL K H a xs) ∧ R (Itl K a) H
def rItT (K : PySem.W.Frag) (x : V) (H : Hp) (R : It → Hp → Prop) : Prop := ∃ a, x = .ref a ∧ (∃ xs, SqT K H a xs) ∧ R (Itt K a) H
def rItR (vs : List V) (H : Hp) (R : It → Hp → Prop) : Prop := ∃ j : Int, vs = [.int j] ∧ -(2 ^ 62) ≤ j ∧ j < 2 ^ 62 ∧ R (Itr 0 j.toNat) H
theorem r_for (h : wi σ H fun J H1 => FOR J g tb D σ H1) : tFor wi g tb D σ H := h
theorem r_iL {R : It → Hp → Prop} (h : tl σ H fun x H1 => rItL K x H1 R) : iList K tl σ H R := h
theorem r_iT {R : It → Hp → Prop} (h : tl σ H fun x H1 => rItT K x H1 R) : iTup K tl σ H R := h
theorem r_iR {R : It → Hp → Prop} (h : ta σ H fun vs H1 => rItR vs H1 R) : iRng1 ta σ H R := h
theorem r_itL {a : Addr} {xs : List V} {R : It → Hp → Prop} (hS : SqL K H a xs) (h : R (Itl K a) H) : rItL K (.ref a) H R := ⟨a, rfl, ⟨xs, hS⟩, h⟩
theorem r_itT {a : Addr} {xs : List V} {R : It → Hp → Prop} (hS : SqT K H a xs) (h : R (Itt K a) H) : rItT K (.ref a) H R := ⟨a, rfl, ⟨xs, hS⟩, h⟩
theorem r_itR {j : Int} {R : It → Hp → Prop} (h0 : -(2 ^ 62) ≤ j) (h1 : j < 2 ^ 62) (h : R (Itr 0 j.toNat) H) : rItR [.int j] H R := ⟨j, rfl, h0, h1, h⟩
theorem f_tup {a : Addr} {xs : List V} (Pv : Nat → L2.St → Hp → Prop) (h0 : Pv 0 σ H) (hl : ∀ i σ H, i ≤ xs.length → Pv i σ H → SqT K H a xs)
    (hs : ∀ i x σ H, xs[i]? = some x → Pv i σ H → g x σ H fun σ2 H2 => tb { nx := Pv (i + 1), rt := D.rt, bk := D.nx, ct := Pv (i + 1) } σ2 H2) (hd : ∀ σ H, Pv xs.length σ H → D.nx σ H) : FOR (Itt K a) g tb D σ H := for_tup Pv h0 hl hs hd
theorem f_range {lo : Int} {n : Nat} (Pv : Nat → L2.St → Hp → Prop) (h0 : Pv 0 σ H)
    (hs : ∀ (i : Nat) σ H, i < n → Pv i σ H → g (.int (lo + i)) σ H fun σ2 H2 => tb { nx := Pv (i + 1), rt := D.rt, bk := D.nx, ct := Pv (i + 1) } σ2 H2) (hd : ∀ σ H, Pv n σ H → D.nx σ H) : FOR (Itr lo n) g tb D σ H := for_range Pv h0 hs hd
end
theorem look_new {H : Hp} {a p : Addr} {o o' : HO} (h : H a = some o) (n : H p = none) : upd H p o' a = some o := by rw [upd_ne (ne_of_none h n)]; exact h
theorem sqL_new {K : PySem.W.Frag} {H : Hp} {a p : Addr} {o : HO} {xs : List V} (h : SqL K H a xs) (n : H p = none) : SqL K (upd H p o) a xs := (same_new n o).seq h
theorem i_t {c A B : Prop} [Decidable c] (h : c) (hA : A) : if decide c = true then A else B := by rw [decide_eq_true h]; exact iteT hA
theorem i_f {c A B : Prop} [Decidable c] (h : ¬ c) (hB : B) : if decide c = true then A else B := by rw [decide_eq_false h]; exact iteF hB
theorem i_2 {c A B : Prop} [Decidable c] (h1 : c → A) (h2 : ¬ c → B) : if decide c = true then A else B := by
  by_cases h : c
  · exact i_t h (h1 h)
  · exact i_f h (h2 h)
theorem i_nT {A B : Prop} (h : B) : if (!true) = true then A else B := h
end My
set_option Elab.async false
set_option linter.all false
set_option maxRecDepth 100000
set_option maxHeartbeats 1000000
namespace My
open PySem PySem.Spec PyProof.Rows L2
def AllC {α : Type} (f : α → Prop) : List α → Prop
  | [] => True
  | a :: l => f a ∧ AllC f l
theorem AllC.mem {α : Type} {f : α → Prop} : ∀ {l : List α}, AllC f l → ∀ a ∈ l, f a
  | [], _, _, h => absurd h (by simp)
  | b :: l, h, a, m => by
    rcases List.mem_cons.mp m with rfl | m
    · exact h.1
    · exact AllC.mem h.2 a m
def capsOf (caps : List Nat) (σ : L2.St) : L2.St := caps.map fun j => (σ[j]?).getD none
def rApp (acc : Addr) (N : Hp → Prop) (y : V) (H : Hp) : Prop := ∃ ys, H acc = some (.lst ys) ∧ ys.length < sizeLine ∧ N (upd H acc (.lst (ys ++ [y])))
def COMP (J : It) (caps : List Nat) (tt : TT) (te : TE) (acc : Addr) (σ : L2.St) (H : Hp) (Q : VK) : Prop := ∃ W : Nat → Nat → Hp → Prop, (∃ m, W 0 m H) ∧ ∀ i m H, W i m H →
  (J.stop i H ∧ Q (.ref acc) H) ∨ (J.go i H ∧ ∃ N : Hp → Prop, (∀ H', N H' → ∃ m', m' < m ∧ W (i + 1) m' H') ∧ ∀ v H', J.yld i H v H' → tt (some v :: capsOf caps σ) H' fun b H2 =>
    if b = true then te (some v :: capsOf caps σ) H2 fun y H3 => rApp acc N y H3 else N H2)
abbrev CT (α : Type) := Addr → Shared → Hp → List Addr → α
def tComp (wi : TI) (caps : List Nat) (tt : CT TT) (te : CT TE) : TE := fun σ H Q => wi σ H fun J H1 => ∀ (C : Addr) (s : Shared) (H0 : Hp) (fp : List Addr) (acc : Addr), H1 acc = none → COMP J caps (tt C s H0 fp) (te C s H0 fp) acc σ (upd H1 acc (.lst [])) Q
def tTrue : TT := fun _ H Q => Q true H
def PIfs (X : Cx) (ifs : List Expr) (t : TT) : Prop :=
  ∀ (pins : List (Addr × Obj)) (s : Shared) (σ : L2.St) (H : Hp) (Q : Bool → Hp → Prop), Inv X pins σ H s → t σ H Q →
    wpAny (model X.prog X.w) X.A (forIn ifs true fun c r => if r = true then do let ok ← isTrue c X.env (eval c X.env); pure (ForInStep.yield ok) else pure (ForInStep.yield r)) (TP X pins σ Q) X.xe s
theorem pf_nil {X : Cx} : PIfs X [] tTrue := fun pins s σ H Q I h => wpAny_tests_nil ⟨H, I, h⟩
def cxC (X : Cx) (N : List Str) (scope : Scope) (cl : List (Str × Addr)) (C : Addr) (s : Shared) (H : Hp) (fp : List Addr) : Cx where
  prog := X.prog
  w := X.w
  K := X.K
  mg := X.mg
  base := X.base
  A := X.A
  N := N
  s₀ := s
  H₀ := H
  env := compEnvC scope cl C X.env
  outer := X.stack
  stack := X.stack
  ex := fp
  fn := fun _ => false
  calm := X.calm
  pn := []
  xe := fun _ _ => False
structure Caps (X : Cx) (x : Str) (scope : Scope) (cl : List (Str × Addr)) (caps : List Nat) (cn : List Str) : Prop where
  clos : closureFor scope X.env = pure cl
  kind : scope.kind = .function
  cell : ∀ y ∈ scope.names, y.2 ≠ .cell
  names : ∀ y ∈ scope.names, y.2 = .local → scope.names.lookup y.1 = some .local
  tg : scope.names.lookup x = some .local
  sub : ∀ y c, cl.lookup y = some c → X.env.cells.lookup y = some c
  has : ∀ y, ((relabel scope X.env).names.lookup y = some .cell ∨ (relabel scope X.env).names.lookup y = some .free) → ∃ c, cl.lookup y = some c
  len : caps.length = cn.length
  cap : ∀ (k : Nat) (y : Str) (j : Nat), cn[k]? = some y → caps[k]? = some j → X.N[j]? = some y ∧ X.env.kindOf y = some .cell ∧ (relabel scope X.env).names.lookup y = some .cell ∧ X.env.scope.names.lookup y = some .cell ∧ ∃ c, cl.lookup y = some c
  nd : (x :: cn).Nodup
section
variable {X : Cx} {pins : List (Addr × Obj)} {σ : L2.St} {H : Hp} {s : Shared}
theorem Inv.comp {x : Str} {scope : Scope} {cl : List (Str × Addr)} {caps : List Nat} {cn : List Str} (Cp : Caps X x scope cl caps cn) (I : Inv X pins σ H s) {fp : List Addr} (hf : ∀ b ∈ fp, FpOk X pins H b) (hlt : ∀ b ∈ fp, b < s.heap.objs.size) {h₁ : Heap} {t' : Nat}
    (hns : h₁.Ns s.heap.objs.size (fun _ => none)) (k : ∀ b o, s.heap.get? b = some o → h₁.get? b = some o) :
    Inv (cxC X (x :: cn) scope cl s.heap.objs.size s H fp) [] (none :: capsOf caps σ) H { s with heap := h₁, toks := t' } := by
  have cne : ∀ y c, cl.lookup y = some c → ∃ v, s.heap.IsCell c v := fun y c e => I.cell y c (Cp.sub y c e)
  have ltC : ∀ y c, cl.lookup y = some c → c < s.heap.objs.size := fun y c e => let ⟨v, q⟩ := cne y c e; q.lt
  have isC : ∀ c v, s.heap.IsCell c v → h₁.IsCell c v := fun c v ⟨o, e, d⟩ => ⟨o, k c o e, d⟩
  refine ⟨⟨I.ok.mod, Cp.kind, I.ok.glob, I.ok.blt, Nat.le_refl _, fun y z c e1 e2 => I.ok.inj y z c (Cp.sub y c e1) (Cp.sub z c e2), fun y hy => Cp.has y hy, fun y c z => (Bool.false_ne_true z).elim, I.ok.hd, I.ok.frames, .inl rfl,
    fun b hb => ⟨Nat.ne_of_lt (hlt b hb), fun y c e z => ?_⟩, I.bs, Nat.le_trans I.ok.bsz I.sz, fun b o e hb => ?_, fun b hb z => ?_, I.stack, I.stkFree⟩,
    rfl, I.bare, Un.kept k, ⟨_, hns, fun i y v e1 e2 e3 => ?_⟩, fun y c e => ?_, I.hok.fresh (Nat.le_refl _), fun y c e => I.freeC y c (Cp.sub y c e), fun p hp => absurd (show p ∈ ([] : List (Addr × Obj)) from hp) (by simp), I.hok.kept k, ?_⟩
  · exact (hf b hb).2.2.2.2.1 y c (Cp.sub y c e) z
  · rcases (hf b hb).2.2.2.1 with z | z
    · exact I.ok.noex b o e z
    · exact absurd (Nat.lt_of_lt_of_le (Heap.lt_size e) (Nat.le_trans I.ok.bsz z)) (Nat.lt_irrefl _)
  · rcases List.mem_cons.mp (I.stkSub b z) with z | z
    · exact (hf b hb).2.1 z
    · exact (hf b hb).2.2.1 z
  · cases i with
    | zero => cases e2
    | succ i =>
      have e1' : cn[i]? = some y := by simpa [cxC] using e1
      have e2' : (capsOf caps σ)[i]? = some (some v) := by simpa using e2
      unfold capsOf at e2'
      rw [List.getElem?_map] at e2'
      obtain ⟨j, hj, ej⟩ := Option.map_eq_some_iff.mp e2'
      obtain ⟨c1, c2, c3, c5, c, c4⟩ := Cp.cap i y j e1' hj
      cases hs : σ[j]? with
      | none => rw [hs] at ej; cases ej
      | some w =>
        rw [hs] at ej
        have ej' : w = some v := ej
        subst ej'
        obtain ⟨m, hn, hl⟩ := I.loc
        obtain ⟨u, r, l⟩ := hl j y v c1 hs (.inr (.inl c5))
        refine ⟨u, r, .inr ⟨.inl c3, c, c4, ?_⟩⟩
        rcases l with ⟨l, _⟩ | ⟨_, c', e', q⟩
        · rw [c2] at l; cases l
        · rw [Cp.sub y c c4] at e'
          cases e'
          exact isC _ _ q
  · obtain ⟨v, q⟩ := cne y c e
    exact ⟨v, isC c v q⟩
  · show (none :: capsOf caps σ).length = (x :: cn).length
    rw [List.length_cons, List.length_cons]
    unfold capsOf
    rw [List.length_map, Cp.len]
theorem Inv.uncomp {N : List Str} {scope : Scope} {cl : List (Str × Addr)} {C : Addr} {σ' : L2.St} {H' : Hp} {s' : Shared} {fp : List Addr} (I : Inv X pins σ H s) (hf : ∀ b ∈ fp, FpOk X pins H b) (hC : C = s.heap.objs.size)
    (J : Inv (cxC X N scope cl C s H fp) [] σ' H' s') {h' : Heap} (sb : Heap.SameBut C s'.heap h') : Inv X pins σ H' { s' with heap := h' } := by
  have ne : ∀ b o, s.heap.get? b = some o → b ≠ C := fun b o e => by rw [hC]; exact Nat.ne_of_lt (Heap.lt_size e)
  have u : Un (frs X.stack) fp H H' s.heap s'.heap := J.base
  have hok : HOk X.prog X.w H' h' := fun b o e => by
    refine (J.hok b o e).stay (fun c u' hc q => (sb.2 c ?_).trans q) (fun _ q => q) fun _ _ q => q
    intro z
    have n : H' C = none := J.free
    rcases hc with hc | hc
    · rw [← hc, z, n] at e; cases e
    · rw [z, n] at hc; cases hc
  refine I.call' (s' := { s' with heap := h' }) (ch := fp) J.os ⟨fun b o e n hb hx => (sb.2 b (ne b o e)).trans (u.keep b o e n hb hx), fun b o e n hb hx => ?_, u.free, fun b o e hx => ?_, u.tups, u.frzs, u.tbls⟩ hok J.bare fun b hb => ?_
  · obtain ⟨sl, q⟩ := u.slot b o e n hb hx
    exact ⟨sl, (sb.2 b (ne b o e)).trans q⟩
  · obtain ⟨o', q⟩ := u.there b o e hx
    exact ⟨o', (sb.2 b (ne b o e)).trans q⟩
  · obtain ⟨f0, f1, f2, f3, f4, f5⟩ := hf b hb
    exact ⟨f3, f1, f4, f5⟩
end
section
variable {X : Cx}
theorem pe_comp {elt iter : Expr} {x : Str} {px : Pos} {ifs : List Expr} {scope : Scope} {cl : List (Str × Addr)} {pos : Pos} {caps : List Nat} {cn : List Str} {wi : TI} {tt : CT TT} {te : CT TE} (Cp : Caps X x scope cl caps cn) (hc : X.calm = true)
    (hi : PI X (.Name x px) iter wi) (ht : ∀ C s H fp, PIfs (cxC X (x :: cn) scope cl C s H fp) ifs (tt C s H fp)) (he : ∀ C s H fp, PE (cxC X (x :: cn) scope cl C s H fp) elt (te C s H fp))
    (hs : ∀ x, foldedSetIterable iter X.env x = pure x := by intro _; rfl) :
    PE X (.ListComp elt [⟨.Name x px, iter, ifs, 0⟩] scope pos) (tComp wi caps tt te) := by
  intro pins s σ H Q I h
  rw [eval_ListComp]
  refine wpAny_comprehension_free (use := none) rfl hs Cp.clos Cp.kind Cp.names (thn (hi pins s σ H _ I h) fun v s1 h1 => thn h1 fun itv s2 h2 => ?_)
  obtain ⟨it, fp, tn, J, H2, e, I2, T, st2, f2, R⟩ := h2
  subst e
  have hacc : H2 s2.heap.objs.size = none := I2.hok.fresh (Nat.le_refl _)
  refine wpAny_newObj_type ?_
  have I3 : Inv X pins σ (upd H2 s2.heap.objs.size (.lst [])) { s2 with heap := s2.heap.push { cls := .type "list", dict := none, data := .seq ([] : List Value).toArray } } := Inv.lnew (its := []) (t' := s2.toks) I2 .nil (Nat.zero_le _)
  have lt2 : ∀ b ∈ fp, b < s2.heap.objs.size := fun b hb => let ⟨o, e, _⟩ := T.obj _ _ st2 b hb; Heap.lt_size e
  have f3 : ∀ b ∈ fp, FpOk X pins (upd H2 s2.heap.objs.size (.lst [])) b := fun b hb => ⟨by rw [upd_ne (Nat.ne_of_lt (lt2 b hb))]; exact (f2 b hb).1, (f2 b hb).2⟩
  have st3 : tn 0 (s2.heap.push { cls := .type "list", dict := none, data := .seq ([] : List Value).toArray }) := T.keep _ _ _ st2 fun b _ o e => Heap.get?_push_of_some _ e
  generalize hs3 : ({ s2 with heap := s2.heap.push { cls := .type "list", dict := none, data := .seq ([] : List Value).toArray } } : Shared) = s3 at I3 ⊢
  have st3' : tn 0 s3.heap := by rw [← hs3]; exact st3
  generalize s2.heap.objs.size = acc at hacc I3 f3 ⊢
  obtain ⟨W, ⟨m0, w0⟩, turn⟩ := R s3.heap.objs.size s3 (upd H2 acc (.lst [])) fp acc hacc
  have lt3 : ∀ b ∈ fp, b < s3.heap.objs.size := fun b hb => let ⟨o, e, _⟩ := T.obj _ _ st3' b hb; Heap.lt_size e
  clear st3 hs3
  refine wpAny_newFunctionEnv Cp.cell (by intro y hy; simp at hy) (fun h₁ hns hsb => ?_) Cp.kind
  have k1 : ∀ b o, s3.heap.get? b = some o → h₁.get? b = some o := fun b o e => hsb.extBut b o (Nat.ne_of_lt (Heap.lt_size e)) (Heap.get?_push_of_some _ e)
  have I4 : Inv (cxC X (x :: cn) scope cl s3.heap.objs.size s3 (upd H2 acc (.lst [])) fp) [] (none :: capsOf caps σ) (upd H2 acc (.lst [])) { s3 with heap := h₁, toks := s3.toks + ([] : List (Str × Value)).length } :=
    Inv.comp Cp I3 f3 lt3 hns k1
  have st4 : tn 0 h₁ := T.keep _ _ _ st3' fun b _ o e => k1 b o e
  generalize hX : cxC X (x :: cn) scope cl s3.heap.objs.size s3 (upd H2 acc (.lst [])) fp = X' at I4
  have stat : ∀ {H' : Hp}, (∀ b ∈ fp, H' b = none) → ∀ b ∈ fp, FpOk X' [] H' b := fun hn b hb => by
    subst hX
    obtain ⟨g0, g1, g2, g3, g4, g5⟩ := f3 b hb
    refine ⟨hn b hb, Nat.ne_of_lt (lt3 b hb), fun z => ?_, .inl hb, fun y c e => g4 y c (Cp.sub y c e), fun p hp => absurd (show p ∈ ([] : List (Addr × Obj)) from hp) (by simp)⟩
    rcases List.mem_cons.mp (I3.stkSub b z) with z | z
    · exact g1 z
    · exact g2 z
  have core : codeAny (model X.prog X.w) X.A (.compLoop (.ListComp elt [⟨.Name x px, iter, ifs, 0⟩] scope pos) 0 (.ref it) (.ref acc) (compEnvC scope cl s3.heap.objs.size X.env))
      (compPost (model X.prog X.w) X.A X.xe none (EP X pins σ Q) (.ref acc) s3.heap.objs.size) { s3 with heap := h₁, toks := s3.toks + ([] : List (Str × Value)).length } := by
    refine codeAny_loop rfl (fun n s' => ∃ i a H', Inv X' [] (a :: capsOf caps σ) H' s' ∧ tn i s'.heap ∧ (∀ b ∈ fp, H' b = none) ∧ W i n H') (fun n s5 hI => ?_) m0 ⟨0, none, _, I4, st4, fun b hb => (f3 b hb).1, w0⟩
    obtain ⟨i, a0, H5, I5, st5, fr5, w5⟩ := hI
    show wpAny _ _ ((compTurn _ 0 _ _ _).onRaise _) _ _ s5
    refine wpAny_noted ?_
    rw [compTurn_list]
    refine wpAny_bind (wpAny_standAt (wpAny_bind ?_))
    have aX : X'.A = X.A := by subst hX; rfl
    have pX : X'.prog = X.prog := by subst hX; rfl
    have wX : X'.w = X.w := by subst hX; rfl
    have kX : X'.K = X.K := by subst hX; rfl
    have cX : X'.calm = true := by subst hX; exact hc
    have eX : X'.env = compEnvC scope cl s3.heap.objs.size X.env := by subst hX; rfl
    rcases turn i n H5 w5 with ⟨stop, qn⟩ | ⟨go, N, hN, step⟩
    · have z := T.done X' pX wX kX cX i [] s5 _ H5 (fun _ _ => False) I5 (stat fr5) st5 stop
      rw [aX] at z
      refine wpAny_mono z (fun r s6 ⟨hr, I6⟩ => ?_) fun _ _ q => q.elim
      subst hr
      subst hX
      obtain ⟨m, hm, _⟩ := id I6.loc
      exact wpAny_pure ⟨m, hm, fun h' sb => ⟨.ref acc, H5, Inv.uncomp I3 f3 rfl I6 sb, rfl, qn⟩⟩
    · have z := T.item X' pX wX kX cX i [] s5 _ H5 (fun _ _ => False) I5 (stat fr5) st5 go
      rw [aX] at z
      refine wpAny_mono z (fun r s6 ⟨u, hr, h6⟩ => ?_) fun _ _ q => q.elim
      subst hr
      refine wpAny_bind (wpAny_mono h6 (fun _ s7 ⟨v, H7, I7, r7, y7, st7, fr7⟩ => ?_) fun _ _ q => q.elim)
      have I7' := I7.pinned (stat fr7) (T.obj _ _ st7)
      have asg : wpAny (model X.prog X.w) X.A (assign (.Name x px) (compEnvC scope cl s3.heap.objs.size X.env) u) (fun _ s8 => Inv X' ([] ++ pinsAt fp s7.heap) (some v :: capsOf caps σ) H7 s8) (fun _ _ => False) s7 := by
        subst hX
        exact wpAny_assign_Name (store_ok (X := cxC X (x :: cn) scope cl s3.heap.objs.size s3 (upd H2 acc (.lst [])) fp) (i := 0) I7' Cp.nd rfl (.inl (lookup_relabel_local Cp.tg)) r7 (fun s' I' => I') (.inr (lookup_relabel_local Cp.tg)))
      refine wpAny_bind (wpAny_mono asg (fun _ s8 I8 => ?_) fun _ _ q => q.elim)
      have tst : wpAny (model X.prog X.w) X.A (forIn ifs true fun c r => if r = true then do let ok ← isTrue c (compEnvC scope cl s3.heap.objs.size X.env) (eval c (compEnvC scope cl s3.heap.objs.size X.env)); pure (ForInStep.yield ok) else pure (ForInStep.yield r))
          (TP X' ([] ++ pinsAt fp s7.heap) (some v :: capsOf caps σ) (fun b H9 => if b = true then te s3.heap.objs.size s3 (upd H2 acc (.lst [])) fp (some v :: capsOf caps σ) H9 (fun y H3 => rApp acc N y H3) else N H9)) (fun _ _ => False) s8 := by
        subst hX
        exact ht _ _ _ _ _ s8 _ H7 _ I8 (step v H7 y7)
      refine wpAny_bind (wpAny_mono tst (fun b s9 ⟨H9, I9, q9⟩ => ?_) fun _ _ q => q.elim)
      have fin : ∀ {a : Option V} {H10 : Hp} {s10 : Shared}, Inv X' ([] ++ pinsAt fp s7.heap) (a :: capsOf caps σ) H10 s10 → N H10 → ∃ m', m' < n ∧ ∃ i a H', Inv X' [] (a :: capsOf caps σ) H' s10 ∧ tn i s10.heap ∧ (∀ b ∈ fp, H' b = none) ∧ W i m' H' := fun {a H10 s10} I10 n10 =>
        let ⟨m', hm, w10⟩ := hN _ n10
        ⟨m', hm, i + 1, a, H10, I10.unpinned, T.keep _ _ _ st7 fun b hb o e => (I10.pin (b, o) (List.mem_append_right _ (List.mem_append_right _ (mem_pinsAt hb e)))).1, fun b hb => by
          obtain ⟨o, e, d⟩ := T.obj _ _ st7 b hb
          exact (I10.pin (b, o) (List.mem_append_right _ (List.mem_append_right _ (mem_pinsAt hb e)))).2.1, w10⟩
      cases b with
      | false => exact wpAny_pure ⟨rfl, fin I9 q9⟩
      | true =>
        have elt' : wpAny (model X.prog X.w) X.A (eval elt (compEnvC scope cl s3.heap.objs.size X.env)) (EP X' ([] ++ pinsAt fp s7.heap) (some v :: capsOf caps σ) (fun y H3 => rApp acc N y H3)) (fun _ _ => False) s9 := by
          subst hX
          exact he _ _ _ _ _ s9 _ H9 _ I9 q9
        refine wpAny_bind (wpAny_bind (wpAny_mono elt' (fun y s10 ⟨w, H10, I10, r10, ys, ha, hz, q10⟩ => ?_) fun _ _ q => q.elim))
        have app : wpAny (model X.prog X.w) X.A (call (.builtin "list.append") [.ref acc, y]) (EP X' ([] ++ pinsAt fp s7.heap) (some v :: capsOf caps σ) fun _ H11 => H11 = upd H10 acc (.lst (ys ++ [w]))) (fun _ _ => False) s10 := by
          subst hX
          exact mt_append (X := cxC X (x :: cn) scope cl s3.heap.objs.size s3 (upd H2 acc (.lst [])) fp) _ s10 _ H10 (.ref acc) [w] (.ref acc) [y] _ I10 rfl (.cons r10 .nil) ⟨acc, ys, w, rfl, rfl, ha, hz, rfl⟩
        refine wpAny_bind (wpAny_mono app (fun _ s11 ⟨_, H11, I11, _, e11⟩ => ?_) fun _ _ q => q.elim)
        subst e11
        exact wpAny_pure (wpAny_pure ⟨rfl, fin I11 q10⟩)
  exact codeAny_compStart_list core (T.self _ 0 _ _ _ st4 core)
end
end My
set_option Elab.async false
set_option linter.all false
set_option maxRecDepth 100000
namespace L2
open PySem PySem.Spec PyProof.Rows
section
variable {κ : Type} [DecidableEq κ]
def valV (kvs : List (κ × V)) (k : κ) : Option V := (kvs.find? fun kv => decide (kv.1 = k)).map (·.2)
def putK (kvs : List (κ × V)) (k : κ) (v : V) : List (κ × V) :=
  if (kvs.any fun kv => decide (kv.1 = k)) = true then kvs.map (fun kv => if kv.1 = k then (kv.1, v) else kv) else kvs ++ [(k, v)]
theorem valV_pos {p : κ × V} {r : List (κ × V)} {k : κ} (e : p.1 = k) : valV (p :: r) k = some p.2 := by simp [valV, List.find?_cons, e]
theorem valV_neg {p : κ × V} {r : List (κ × V)} {k : κ} (e : ¬ p.1 = k) : valV (p :: r) k = valV r k := by simp [valV, List.find?_cons, e]
theorem valV_any (k : κ) : ∀ kvs : List (κ × V), (kvs.any fun kv => decide (kv.1 = k)) = (valV kvs k).isSome
  | [] => rfl
  | p :: r => by
    rw [List.any_cons]
    by_cases e : p.1 = k
    · simp only [valV_pos e, decide_eq_true e, Bool.true_or, Option.isSome_some]
    · rw [valV_neg e, decide_eq_false e, Bool.false_or]; exact valV_any k r
theorem valV_map (k j : κ) (y : V) : ∀ kvs : List (κ × V), valV (kvs.map fun kv => if kv.1 = k then (kv.1, y) else kv) j = (valV kvs j).map fun x => if j = k then y else x
  | [] => rfl
  | p :: r => by
    have ih := valV_map k j y r
    rw [List.map_cons]
    by_cases h : p.1 = k
    · rw [if_pos h]
      by_cases e : p.1 = j
      · rw [valV_pos (p := (p.1, y)) e, valV_pos e, Option.map_some, if_pos (e.symm.trans h)]
      · rw [valV_neg (p := (p.1, y)) e, valV_neg e, ih]
    · rw [if_neg h]
      by_cases e : p.1 = j
      · rw [valV_pos (p := p) e, valV_pos e, Option.map_some, if_neg (fun z => h (e.trans z))]
      · rw [valV_neg (p := p) e, valV_neg e, ih]
theorem valV_snoc (k j : κ) (y : V) : ∀ kvs : List (κ × V), valV kvs k = none → valV (kvs ++ [(k, y)]) j = if j = k then some y else valV kvs j
  | [], _ => by
    by_cases e : k = j
    · rw [if_pos e.symm]; exact valV_pos (p := (k, y)) e
    · rw [if_neg (fun z => e z.symm)]; exact valV_neg (p := (k, y)) e
  | p :: r, hn => by
    rw [List.cons_append]
    have hk : ¬ p.1 = k := fun z => by rw [valV_pos z] at hn; cases hn
    rw [valV_neg hk] at hn
    have ih := valV_snoc k j y r hn
    by_cases e : p.1 = j
    · rw [valV_pos e, valV_pos e, if_neg (fun z => hk (e.trans z))]
    · rw [valV_neg e, valV_neg e, ih]
theorem valV_put (kvs : List (κ × V)) (k j : κ) (y : V) : valV (putK kvs k y) j = if j = k then some y else valV kvs j := by
  unfold putK
  by_cases a : (kvs.any fun kv => decide (kv.1 = k)) = true
  · rw [if_pos a, valV_map]
    rw [valV_any] at a
    by_cases e : j = k
    · obtain ⟨x, hx⟩ := Option.isSome_iff_exists.mp a
      rw [if_pos e, e, hx, Option.map_some, if_pos rfl]
    · rw [if_neg e]
      cases valV kvs j with
      | none => rfl
      | some x => rw [Option.map_some, if_neg e]
  · rw [if_neg a]
    refine valV_snoc k j y kvs ?_
    rw [valV_any] at a
    cases q : valV kvs k with
    | none => rfl
    | some x => rw [q] at a; exact (a rfl).elim
theorem length_putK (kvs : List (κ × V)) (k : κ) (v : V) : (putK kvs k v).length ≤ kvs.length + 1 := by
  unfold putK
  split
  · rw [List.length_map]; omega
  · rw [List.length_append, List.length_cons, List.length_nil]; omega
theorem putK_new {kvs : List (κ × V)} {k : κ} (v : V) (h : valV kvs k = none) : putK kvs k v = kvs ++ [(k, v)] := by
  unfold putK
  rw [valV_any, h]
  exact if_neg (by decide)
theorem RelO.isSome_eq {o : Option V} {u : Option Value} (r : RelO o u) : o.isSome = u.isSome := by
  cases o with
  | none => cases u with
    | none => rfl
    | some _ => exact (show False from r).elim
  | some _ => cases u with
    | none => exact (show False from r).elim
    | some _ => rfl
theorem KV.val {kvs : List (κ × V)} {vs : List (κ × Value)} (r : KV kvs vs) (k : κ) : RelO (valV kvs k) (valueAt vs k) := by
  unfold KV at r
  induction r with
  | nil => exact True.intro
  | @cons p q ps qs h t ih =>
    obtain ⟨h1, h2⟩ := h
    by_cases e : p.1 = k
    · have e' : q.1 = k := h1.symm.trans e
      have b : valueAt (q :: qs) k = some q.2 := by simp [valueAt, List.find?_cons, e']
      rw [valV_pos e, b]; exact h2
    · have e' : ¬ q.1 = k := fun z => e (h1.trans z)
      have b : valueAt (q :: qs) k = valueAt qs k := by simp [valueAt, List.find?_cons, e']
      rw [valV_neg e, b]; exact ih
theorem KV.any {kvs : List (κ × V)} {vs : List (κ × Value)} (r : KV kvs vs) (k : κ) : (kvs.any fun kv => decide (kv.1 = k)) = vs.any fun kv => decide (kv.1 = k) := by
  unfold KV at r
  induction r with
  | nil => rfl
  | cons h t ih => rw [List.any_cons, List.any_cons, ih, h.1]
theorem KV.repl {kvs : List (κ × V)} {vs : List (κ × Value)} (r : KV kvs vs) (k : κ) {y : V} {u : Value} (ry : RelV y u) :
    KV (kvs.map fun kv => if kv.1 = k then (kv.1, y) else kv) (vs.map fun kv => if kv.1 = k then (kv.1, u) else kv) := by
  unfold KV at r ⊢
  induction r with
  | nil => exact .nil
  | @cons p q ps qs h t ih =>
    rw [List.map_cons, List.map_cons]
    refine .cons ?_ ih
    obtain ⟨h1, h2⟩ := h
    by_cases e : p.1 = k
    · rw [if_pos e, if_pos (h1.symm.trans e)]; exact ⟨h1, ry⟩
    · rw [if_neg e, if_neg (fun z => e (h1.trans z))]; exact ⟨h1, h2⟩
theorem KV.put {kvs : List (κ × V)} {vs : List (κ × Value)} (r : KV kvs vs) (k : κ) {y : V} {u : Value} (ry : RelV y u) : KV (putK kvs k y) (stored vs k u) := by
  unfold putK stored
  rw [r.any k]
  by_cases e : (vs.any fun kv => decide (kv.1 = k)) = true
  · rw [if_pos e, if_pos e]; exact r.repl k ry
  · rw [if_neg e, if_neg e]; exact Paired.snoc r ⟨rfl, ry⟩
theorem KV.length {kvs : List (κ × V)} {vs : List (κ × Value)} (r : KV kvs vs) : kvs.length = vs.length := Paired.length r
end
theorem kV_is {P : Program} {w : World} {k : Key} {u : Value} (r : RelV (kV k) u) : (mixKind P w).is k u = true := by
  cases k with
  | inl i => obtain ⟨t, e⟩ := (show ∃ t, u = Value.int i t from r); subst e; exact mixKind_int P w i t
  | inr x => obtain ⟨t, e⟩ := (show ∃ t, u = Value.str x t from r); subst e; exact mixKind_str P w x t
theorem items_are {P : Program} {w : World} : ∀ {ks : List Key} {us : List Value}, Vals (ks.map kV) us → ItemsAre (mixKind P w) ks us
  | [], _, r => by rw [List.map_nil] at r; cases r; exact .nil
  | k :: ks, _, r => by
    rw [List.map_cons] at r
    cases r with
    | cons h t => exact .cons (kV_is h) (items_are t)
abbrev KT (H : Hp) : List (List Key × V) → List (List Key × Addr × Value) → Prop := Paired fun p q => p.1 = q.1 ∧ H q.2.1 = some (.tup (p.1.map kV)) ∧ RelV p.2 q.2.2
theorem KT.val {H : Hp} {kvs : List (List Key × V)} {xs : List (List Key × Addr × Value)} (r : KT H kvs xs) (k : List Key) : RelO (valV kvs k) ((atKey xs k).map (·.2)) := by
  induction r with
  | nil => exact True.intro
  | @cons p q ps qs h t ih =>
    obtain ⟨h1, _, h2⟩ := h
    by_cases e : p.1 = k
    · have e' : q.1 = k := h1.symm.trans e
      have b : atKey (q :: qs) k = some q.2 := by simp [atKey, List.find?_cons, e']
      rw [valV_pos e, b]; exact h2
    · have e' : ¬ q.1 = k := fun z => e (h1.trans z)
      have b : atKey (q :: qs) k = atKey qs k := by simp [atKey, List.find?_cons, e']
      rw [valV_neg e, b]; exact ih
theorem KT.repl {H : Hp} {kvs : List (List Key × V)} {xs : List (List Key × Addr × Value)} (r : KT H kvs xs) (k : List Key) {y : V} {u : Value} (ry : RelV y u) :
    KT H (kvs.map fun kv => if kv.1 = k then (kv.1, y) else kv) (xs.map (putAt k u)) := by
  induction r with
  | nil => exact .nil
  | @cons p q ps qs h t ih =>
    rw [List.map_cons, List.map_cons]
    refine .cons ?_ ih
    obtain ⟨h1, h2, h3⟩ := h
    unfold putAt
    by_cases e : p.1 = k
    · rw [if_pos e, if_pos (h1.symm.trans e)]; exact ⟨h1, h2, ry⟩
    · rw [if_neg e, if_neg (fun z => e (h1.trans z))]; exact ⟨h1, h2, h3⟩
theorem KT.put {H : Hp} {kvs : List (List Key × V)} {xs : List (List Key × Addr × Value)} (r : KT H kvs xs) (k : List Key) {b : Addr} {y : V} {u : Value} (hb : H b = some (.tup (k.map kV))) (ry : RelV y u) :
    KT H (putK kvs k y) (storedH xs k b u) := by
  have e : (kvs.any fun kv => decide (kv.1 = k)) = (atKey xs k).isSome := by
    rw [valV_any, (r.val k).isSome_eq, Option.isSome_map]
  unfold putK storedH
  rw [e]
  by_cases q : (atKey xs k).isSome = true
  · rw [if_pos q, if_pos q]; exact r.repl k ry
  · rw [if_neg q, if_neg q]; exact Paired.snoc r ⟨rfl, hb, ry⟩
theorem KT.keeps {H H' : Hp} {kvs : List (List Key × V)} {xs : List (List Key × Addr × Value)} (r : KT H kvs xs) (ht : ∀ b ys, H b = some (.tup ys) → H' b = some (.tup ys)) : KT H' kvs xs :=
  Paired.mapP r fun _ _ z => ⟨z.1, ht _ _ z.2.1, z.2.2⟩
section
variable {P : Program} {w : World} {H : Hp} {h : Heap} {a : Addr}
theorem rd_of {u : HO} (ok : HOk P w H h) (e : Rd H a u) : ObjOk P w H h a u := e.ok ok
theorem dk_rd {kvs : List (Key × V)} (ok : HOk P w H h) (e : Rd H a (.dK kvs)) : kvs.length ≤ sizeLine ∧ (a == sysModules) = false ∧ ∃ vs, KV kvs vs ∧ h.DictOf (mixKind P w) a vs :=
  show ObjOk P w H h a (.dK kvs) from rd_of ok e
theorem dk_of {kvs : List (Key × V)} (ok : HOk P w H h) (e : H a = some (.dK kvs)) : kvs.length ≤ sizeLine ∧ (a == sysModules) = false ∧ ∃ vs, KV kvs vs ∧ h.DictOf (mixKind P w) a vs := dk_rd ok (.inl e)
theorem key_of {ks : List Key} (ok : HOk P w H h) (e : H a = some (.tup (ks.map kV))) : (tupleKind (mixKind P w)).is h ks a := by
  obtain ⟨_, its, r, o, h1, h2, n, h3⟩ := (show ObjOk P w H h a (.tup (ks.map kV)) from ok a _ e)
  exact ⟨o, its.toArray, n, h1, h2, h3, by simpa using items_are r⟩
theorem dt_rd {kvs : List (List Key × V)} (ok : HOk P w H h) (e : Rd H a (.dT kvs)) : kvs.length ≤ sizeLine ∧ (a == sysModules) = false ∧
    ∃ xs, KT H kvs xs ∧ h.DictOfH (tupleKind (mixKind P w)) a xs := by
  obtain ⟨z, y, xs, r, o, es, ep, h1, h2, h3, h4, h5⟩ := (show ObjOk P w H h a (.dT kvs) from rd_of ok e)
  refine ⟨z, y, xs, r, o, es, ep, h1, h2, h3, h4, fun x hx => ?_, h5⟩
  have all : ∀ {l : List (List Key × V)} {m : List (List Key × Addr × Value)}, KT H l m → ∀ x ∈ m, (tupleKind (mixKind P w)).is h x.1 x.2.1 := by
    intro l m q
    induction q with
    | nil => intro x hx; exact nomatch hx
    | @cons p q ps qs hq t ih =>
      intro x hx
      rcases List.mem_cons.mp hx with e | hx
      · subst e
        exact key_of ok (by rw [← hq.1]; exact hq.2.1)
      · exact ih x hx
  exact all r x hx
theorem dt_of {kvs : List (List Key × V)} (ok : HOk P w H h) (e : H a = some (.dT kvs)) : kvs.length ≤ sizeLine ∧ (a == sysModules) = false ∧
    ∃ xs, KT H kvs xs ∧ h.DictOfH (tupleKind (mixKind P w)) a xs := dt_rd ok (.inl e)
end
def DPut (H : Hp) (a : Addr) (y v : V) (H' : Hp) : Prop :=
  (∃ kvs k, H a = some (.dK kvs) ∧ y = kV k ∧ kvs.length < sizeLine ∧ H' = upd H a (.dK (putK kvs k v))) ∨
  ∃ kvs k b, H a = some (.dT kvs) ∧ y = .ref b ∧ H b = some (.tup (k.map kV)) ∧ kvs.length < sizeLine ∧ H' = upd H a (.dT (putK kvs k v))
theorem DPut.k {H : Hp} {a : Addr} {kvs : List (Key × V)} {k : Key} {v : V} (e : H a = some (.dK kvs)) (hl : kvs.length < sizeLine) : DPut H a (kV k) v (upd H a (.dK (putK kvs k v))) := .inl ⟨kvs, k, e, rfl, hl, rfl⟩
section
variable {X : Cx} {pins : List (Addr × Obj)} {σ : St} {H : Hp} {s : Shared} {a : Addr} {y v : V} {u r : Value} {o : Option V} {A : Around} {E : Value → Shared → Prop}
theorem Inv.big (I : Inv X pins σ H s) : sysModules < s.heap.objs.size := by
  have h : mainGlobals < s.heap.objs.size := (I.mod.glob.keeps I.bk).lt
  exact Nat.lt_trans (by decide) h
theorem d_write {h' : Heap} {t' : Nat} {ob : HO} (I : Inv X pins σ H s) (mu : Mut (H a)) (hs : Heap.SameBut a s.heap h') (he : ∃ q, h'.get? a = some q) (new : ObjOk X.prog X.w (upd H a ob) h' a ob) :
    Inv X pins σ (upd H a ob) { s with heap := h', toks := t' } :=
  I.write (x := a) (e := a) mu (.inl rfl) (fun b q hb z => (hs.2 b hb).trans z) he new
theorem dk_new {P : Program} {w : World} {H' : Hp} {h' : Heap} {kvs : List (Key × V)} {vs : List (Key × Value)} (z : kvs.length ≤ sizeLine) (hd : (a == sysModules) = false) (rel : KV kvs vs) (dd : h'.DictOf (mixKind P w) a vs) :
    ObjOk P w H' h' a (.dK kvs) := ⟨z, hd, vs, rel, dd⟩
theorem d_setItem {H' : Hp} {Q : Unit → Shared → Prop} (hu : A.units + 1 < cLine) (I : Inv X pins σ H s) (g : DPut H a y v H') (ry : RelV y u) (rv : RelV v r) (h : ∀ s', Inv X pins σ H' s' → Q () s') :
    wpAny (model X.prog X.w) A (setItem (.ref a) u r) Q E s := by
  rcases g with ⟨kvs, k, e, ey, l, eH⟩ | ⟨kvs, k, b, e, ey, eb, l, eH⟩
  · subst ey eH
    obtain ⟨z, hd, vs, rel, dd⟩ := dk_of I.hok e
    have hz : vs.length ≤ sizeLine := by rw [← rel.length]; exact z
    have hl : (putK kvs k v).length ≤ sizeLine := by have := length_putK kvs k v; omega
    refine wpAny_setItem_pairs (hsz := hz) (kV_is ry) dd fun h' dd' hs => h _ ?_
    have he : ∃ q, h'.get? a = some q := let ⟨q, _, _, hq, _⟩ := dd'; ⟨q, hq⟩
    exact d_write I (by rw [e]; exact True.intro) hs he (dk_new hl hd (rel.put k rv) dd')
  · subst ey eH
    cases (show u = Value.ref b from ry)
    obtain ⟨z, hd, xs, rel, dd⟩ := dt_of I.hok e
    have hz : xs.length ≤ sizeLine := by rw [← Paired.length rel]; exact z
    have hl : (putK kvs k v).length ≤ sizeLine := by have := length_putK kvs k v; omega
    refine wpAny_setItem_heap (hsz := hz) (tupleKind_room_in1 hu) (key_of I.hok eb) dd fun h' dd' hs => h _ ?_
    obtain ⟨q, es, ep, hq, h2, h3, h4, _, h5⟩ := dd'
    refine d_write I (by rw [e]; exact True.intro) hs ⟨q, hq⟩ ⟨hl, hd, _, (rel.put k eb rv).keeps fun c ys ec => ?_, q, es, ep, hq, h2, h3, h4, h5⟩
    rw [upd_ne (ne_of ec e (fun z => nomatch z))]
    exact ec
end
section
variable {X : Cx} {pins : List (Addr × Obj)} {σ : St} {H : Hp} {s : Shared} {a : Addr} {kvs : List (Key × V)} {k : Key} {u : Value} {A : Around} {E : Value → Shared → Prop}
end
def sDPut (td ty tv : TE) : TS := fun D σ H => tv σ H fun v H1 => td σ H1 fun x H2 => ty σ H2 fun y H3 => ∃ a H4, x = .ref a ∧ DPut H3 a y v H4 ∧ D.nx σ H4
section
variable {X : Cx} {o i e value : Expr} {pos pos' tpos : Pos} {td ty tv : TE}
theorem ps_dput (hu : X.A.units + 1 < cLine) (ho : PE X o td) (hi : PE X i ty) (hv : PE X value tv) (hs : swapsWith value (some (.Subscript o i pos')) pos.line X.env = pure false) :
    PS X (.Assign [.Subscript o i pos'] value pos) (sDPut td ty tv) := by
  intro pins s σ H D I h
  refine wpAny_Assign_Subscript (thn (hv pins s σ H _ I h) fun r s1 ⟨v, H1, I1, rv, q1⟩ => thn (ho pins s1 σ H1 _ I1 q1) fun u s2 ⟨x, H2, I2, rx, q2⟩ => thn (hi pins s2 σ H2 _ I2 q2) fun iv s3 ⟨y, H3, I3, ry, a, H4, ex, g, q3⟩ => ?_) hs
  subst ex
  obtain rfl : u = Value.ref a := rx
  exact d_setItem hu I3 g ry rv fun s4 I4 => ⟨σ, H4, I4, q3⟩
end
theorem dk_empty {P : Program} {w : World} {H : Hp} (h : Heap) (hb : sysModules < h.objs.size) : ObjOk P w H (h.push { cls := .type "dict", data := .dict #[] }) h.objs.size (.dK []) :=
  ⟨Nat.zero_le _, beq_eq_false_iff_ne.mpr (Ne.symm (Nat.ne_of_lt hb)), [], .nil, Heap.DictOf.new h⟩
def tDNewK : TE := fun _ H Q => ∀ p, H p = none → Q (.ref p) (upd H p (.dK []))
section
variable {X : Cx} {pos : Pos}
theorem pe_dnewK : PE X (.Dict [] [] pos) tDNewK := fun pins s σ H Q I h =>
  wpAny_Dict_empty ⟨.ref s.heap.objs.size, _, I.laid (a := s.heap.objs.size) (o := .dK []) (t' := s.toks) (fun _ _ q => Heap.get?_push_of_some _ q) (Nat.le_refl _) (dk_empty s.heap I.big), rfl, h _ (I.hok.fresh (Nat.le_refl _))⟩
end
structure M1 (X : Cx) (o : Expr) (m : Str) (apos : Pos) (e : Expr) (cpos : Pos) : Prop where
  base : attributeBase o m X.env (eval o X.env) = eval o X.env
  few : ((backTo cpos (starEach [e] X.env)).all (fun x => !x.1) && (backToKw cpos (keywordEach [] X.env)).all (fun x => x.1.isSome)
    && decide (([e] : List Expr).length + ([] : List Keyword).length + (if ([] : List Keyword).isEmpty then 0 else 1) < 30)) = true
  line : (apos.endLine == cpos.line) = true
  trees : backTo cpos (starEach [e] X.env) = [(false, eval e X.env)]
structure M2 (X : Cx) (o : Expr) (m : Str) (apos : Pos) (e f : Expr) (cpos : Pos) : Prop where
  base : attributeBase o m X.env (eval o X.env) = eval o X.env
  few : ((backTo cpos (starEach [e, f] X.env)).all (fun x => !x.1) && (backToKw cpos (keywordEach [] X.env)).all (fun x => x.1.isSome)
    && decide (([e, f] : List Expr).length + ([] : List Keyword).length + (if ([] : List Keyword).isEmpty then 0 else 1) < 30)) = true
  line : (apos.endLine == cpos.line) = true
  trees : backTo cpos (starEach [e, f] X.env) = [(false, eval e X.env), (false, eval f X.env)]
section
variable {X : Cx} {pins : List (Addr × Obj)} {σ : St} {H : Hp} {s : Shared} {a : Addr} {y d : V} {u r : Value} {o : Option V} {A : Around} {E : Value → Shared → Prop}
end
section
variable {X : Cx} {o e f : Expr} {apos cpos : Pos} {td ty tx : TE}
end
section
variable {X : Cx} {pins : List (Addr × Obj)} {σ : St} {H : Hp} {s : Shared} {a : Addr} {kvs : List (Key × V)} {A : Around} {E : Value → Shared → Prop}
theorem d_copyOf {Q : Value → Shared → Prop} (I : Inv X pins σ H s) (e : Rd H a (.dK kvs)) (h : ∀ p s', H p = none → Inv X pins σ (upd H p (.dK kvs)) s' → Q (.ref p) s') : wpAny (model X.prog X.w) A (call (.type "dict") [.ref a]) Q E s := by
  obtain ⟨z, hd, vs, rel, dd⟩ := dk_rd I.hok e
  refine kt_call_dict hd dd (by rw [← rel.length]; exact z) fun h' dd' hs => ?_
  refine h _ _ (I.hok.fresh (Nat.le_refl _)) (I.laid (a := s.heap.objs.size) (o := .dK kvs) (t' := s.toks) (fun b q hq => ?_) (Nat.le_refl _) (dk_new z (beq_eq_false_iff_ne.mpr (Ne.symm (Nat.ne_of_lt I.big))) rel dd'))
  exact (hs.2 b (Nat.ne_of_lt (Heap.lt_size hq))).trans (Heap.get?_push_of_some _ hq)
end
section
variable {X : Cx} {pins : List (Addr × Obj)} {σ : St} {H : Hp} {s : Shared} {a : Addr} {y : V} {u : Value} {A : Around} {E : Value → Shared → Prop}
end
section
variable {X : Cx}
end
section
variable {κ : Type} [DecidableEq κ]
theorem valV_not {kvs : List (κ × V)} {k : κ} (h : valV kvs k = none) : ¬ k ∈ kvs.map (·.1) := by
  intro m
  obtain ⟨p, hp, e⟩ := List.mem_map.mp m
  have q : (kvs.any fun kv => decide (kv.1 = k)) = true := List.any_eq_true.mpr ⟨p, hp, decide_eq_true e⟩
  rw [valV_any, h] at q
  exact absurd q (by simp)
theorem valV_in {kvs : List (κ × V)} {k : κ} {v : V} (h : valV kvs k = some v) : k ∈ kvs.map (·.1) := by
  have q : (kvs.any fun kv => decide (kv.1 = k)) = true := by
    rw [valV_any, h]
    all_goals rfl
  obtain ⟨p, hp, e⟩ := List.any_eq_true.mp q
  exact List.mem_map.mpr ⟨p, hp, of_decide_eq_true e⟩
theorem nd_snoc : ∀ {l : List κ} {k : κ}, l.Nodup → ¬ k ∈ l → (l ++ [k]).Nodup
  | [], k, _, _ => by simp
  | a :: r, k, h, hk => by
    obtain ⟨h1, h2⟩ := List.nodup_cons.mp h
    show (a :: (r ++ [k])).Nodup
    refine List.nodup_cons.mpr ⟨fun m => ?_, nd_snoc h2 fun m => hk (List.mem_cons.mpr (Or.inr m))⟩
    rcases List.mem_append.mp m with q | q
    · exact h1 q
    · exact hk (List.mem_cons.mpr (Or.inl (List.mem_singleton.mp q).symm))
theorem nd_putK {kvs : List (κ × V)} {k : κ} (v : V) (hn : (kvs.map (·.1)).Nodup) (h : valV kvs k = none) : ((putK kvs k v).map (·.1)).Nodup := by
  rw [putK_new v h, List.map_append]
  exact nd_snoc hn (valV_not h)
end
end L2
set_option Elab.async false
set_option linter.all false
set_option maxRecDepth 100000
set_option maxHeartbeats 1000000
namespace My
open PySem PySem.Spec PyProof.Rows L2
theorem lookup_mem {α : Type} {β : Type} [BEq α] [LawfulBEq α] : ∀ {l : List (α × β)} {x : α} {v : β}, l.lookup x = some v → (x, v) ∈ l
  | (a, b) :: l, x, v, h => by
    rw [List.lookup_cons] at h
    cases e : x == a with
    | true => rw [e] at h; have e' := eq_of_beq e; have h' : b = v := Option.some.inj h; subst e' h'; exact List.mem_cons_self
    | false => rw [e] at h; exact List.mem_cons_of_mem _ (lookup_mem h)
theorem caps_of {X : Cx} {x : Str} {scope : Scope} {cl : List (Str × Addr)} {caps : List Nat} {cn : List Str} (h1 : closureFor scope X.env = pure cl) (h2 : scope.kind = .function) (h3 : scope.names.all (fun p => p.2 != .cell) = true)
    (h4 : scope.names.all (fun p => p.2 != .local || scope.names.lookup p.1 == some .local) = true) (h5 : scope.names.lookup x = some .local) (h6 : AllC (fun p => X.env.cells.lookup p.1 = some p.2) cl)
    (h7 : (relabel scope X.env).names.all (fun p => !(p.2 == .cell || p.2 == .free) || (cl.lookup p.1).isSome) = true) (h8 : caps.length = cn.length)
    (h9 : AllC (fun p => X.N[p.1]? = some p.2 ∧ X.env.kindOf p.2 = some .cell ∧ (relabel scope X.env).names.lookup p.2 = some .cell ∧ X.env.scope.names.lookup p.2 = some .cell ∧ ∃ c, cl.lookup p.2 = some c) (caps.zip cn)) (h10 : (x :: cn).Nodup) : Caps X x scope cl caps cn := by
  refine ⟨h1, h2, fun y hy z => ?_, fun y hy z => ?_, h5, fun y c e => AllC.mem h6 _ (lookup_mem e), fun y hy => ?_, h8, fun k y j e1 e2 => ?_, h10⟩
  · have q := List.all_eq_true.mp h3 y hy
    rw [z] at q
    cases q
  · have q := List.all_eq_true.mp h4 y hy
    rw [z] at q
    simpa using q
  · have m : ∃ k, (y, k) ∈ (relabel scope X.env).names ∧ (k = .cell ∨ k = .free) := by
      rcases hy with hy | hy
      · exact ⟨_, lookup_mem hy, .inl rfl⟩
      · exact ⟨_, lookup_mem hy, .inr rfl⟩
    obtain ⟨k, hm, hk⟩ := m
    have q := List.all_eq_true.mp h7 _ hm
    have hk' : (k == NameKind.cell || k == NameKind.free) = true := by rcases hk with rfl | rfl <;> decide
    rw [hk'] at q
    exact Option.isSome_iff_exists.mp (by simpa using q)
  · refine AllC.mem h9 (j, y) ?_
    have hz : (caps.zip cn)[k]? = some (j, y) := by rw [List.getElem?_zip_eq_some]; exact ⟨e2, e1⟩
    exact List.mem_of_getElem? hz
section
variable {X : Cx}
def rCatS : R2 := fun x y H Q => ∃ i j, x = .str i ∧ y = .str j ∧ i.length + j.length ≤ sizeLine ∧ Q (.str (i ++ j)) H
theorem op_catS : OpR X (binaryOp .Add) rCatS := op_add_str
end
section
variable {K : PySem.W.Frag} {H : Hp} {Q : VK} {σ : L2.St}
theorem r_sl {r : V → Option Int → Option Int → Hp → VK → Prop} {te : TE} {tl th : TO} (h : te σ H fun x H1 => tl σ H1 fun l H2 => th σ H2 fun u H3 => r x l u H3 Q) : tSl r te tl th σ H Q := h
theorem r_noPart {Q : Option Int → Hp → Prop} (h : Q none H) : tNoPart σ H Q := h
theorem r_part {te : TE} {Q : Option Int → Hp → Prop} (h : te σ H fun x H1 => ∃ i, x = .int i ∧ Q (some i) H1) : tPart te σ H Q := h
theorem r_exi {i : Int} {Q : Int → Prop} (h : Q i) : ∃ j, V.int i = .int j ∧ Q j := ⟨i, rfl, h⟩
theorem r_catS {i j : Str} (hn : i.length + j.length ≤ sizeLine) (h : Q (.str (i ++ j)) H) : rCatS (.str i) (.str j) H Q := ⟨i, j, rfl, rfl, hn, h⟩
theorem r_ixS {z : Str} {i : Int} {c : Nat} (hn : z.length ≤ sizeLine) (e : atI z.cps.toList i = some c) (h : Q (.str ⟨#[c]⟩) H) : rIxS (.str z) (.int i) H Q := ⟨z, i, c, rfl, rfl, hn, e, h⟩
theorem r_comp {wi : TI} {caps : List Nat} {tt : CT TT} {te : CT TE} (h : wi σ H fun J H1 => ∀ (C : Addr) (s : Shared) (H0 : Hp) (fp : List Addr) (acc : Addr), H1 acc = none → COMP J caps (tt C s H0 fp) (te C s H0 fp) acc σ (upd H1 acc (.lst [])) Q) : tComp wi caps tt te σ H Q := h
theorem r_true {Q : Bool → Hp → Prop} (h : Q true H) : tTrue σ H Q := h
theorem r_app {acc : Addr} {N : Hp → Prop} {y : V} {ys : List V} (ha : H acc = some (.lst ys)) (hz : ys.length < sizeLine) (h : N (upd H acc (.lst (ys ++ [y])))) : rApp acc N y H := ⟨ys, ha, hz, h⟩
theorem c_by {J : It} {caps : List Nat} {tt : TT} {te : TE} {acc : Addr} (n : Nat) (Pv : Nat → Hp → Prop) (h0 : Pv 0 H) (hgo : ∀ i H, i < n → Pv i H → J.go i H) (hst : ∀ H, Pv n H → J.stop n H)
    (hs : ∀ i H v H', i < n → Pv i H → J.yld i H v H' → tt (some v :: capsOf caps σ) H' fun b H2 => if b = true then te (some v :: capsOf caps σ) H2 fun y H3 => rApp acc (Pv (i + 1)) y H3 else Pv (i + 1) H2)
    (hd : ∀ H, Pv n H → Q (.ref acc) H) : COMP J caps tt te acc σ H Q := by
  refine ⟨fun i m H => m = n - i ∧ i ≤ n ∧ Pv i H, ⟨n, rfl, Nat.zero_le _, h0⟩, ?_⟩
  rintro i m H ⟨rfl, hi, p⟩
  by_cases hlt : i < n
  · exact .inr ⟨hgo i H hlt p, Pv (i + 1), fun H' p' => ⟨n - (i + 1), by omega, rfl, hlt, p'⟩, fun v H' y => hs i H v H' hlt p y⟩
  · have e : i = n := by omega
    subst e
    exact .inl ⟨hst H p, hd H p⟩
end
end My
set_option Elab.async false
set_option linter.all false
set_option maxRecDepth 100000
set_option maxHeartbeats 1000000
namespace My
open PySem PySem.Spec PyProof.Rows L2
section
variable {X : Cx}
def rRep : R2 := fun x y H Q => ∃ z n, x = .str z ∧ y = .int n ∧ 0 ≤ n ∧ n ≤ 1 ∧ Q (.str (if n < 1 then Str.empty else z)) H
end
section
variable {H : Hp} {Q : VK}
end
end My
set_option Elab.async false
set_option linter.all false
set_option maxRecDepth 100000
set_option maxHeartbeats 1000000
namespace My
open PySem PySem.Spec PyProof.Rows L2
section
variable {prog : Program} {w : World} {A : Around} {E : Value → Shared → Prop} {h : Heap} {g : Array GenState} {d : Drawn} {t : Nat} {os : OsState}
variable {nm q : Str} {C N fI : Addr} {bs bm bmB : List Value} {hdct : Bool} {sn : List Str} {sub : List Value} {ab : Bool} {col : Option Bool} {dd : Option Addr} {k0 k1 k2 k3 k5 : Option Value} {B Bn newId nid initId inN : String} {bmN : List Value}
end
end My
set_option Elab.async false
set_option linter.all false
set_option maxRecDepth 100000
set_option maxHeartbeats 1000000
namespace My
open PySem PySem.Spec PyProof.Rows L2
def onlyVE : List Value → Bool
  | .ref _ :: r => onlyVE r
  | [.type a, .type b, .type c, .type e] => a == "ValueError" && b == "Exception" && c == "BaseException" && e == "object"
  | _ => false
def overVE (K : PySem.W.Frag) (C : Addr) : Bool := (PySem.W.clsIn K C).any fun cd => onlyVE cd.mro
section
variable {prog : Program} {w : World} {A : Around} {E : Value → Shared → Prop} {s : Shared} {K : PySem.W.Frag} {x C : Addr} {o : Obj} {name : Str} {v : Value} {R : Result → Shared → Prop}
open PySem.W in
end
end My
set_option Elab.async false
set_option linter.all false
set_option maxRecDepth 100000
set_option maxHeartbeats 1000000
namespace My
open PySem PySem.Spec PyProof.Rows L2
section
variable {prog : Program} {w : World} {A : Around} {E : Value → Shared → Prop} {s : Shared} {K : PySem.W.Frag} {x C : Addr} {ox : Obj} {od : Option Obj} {name : Str} {v : Value} {R : Result → Shared → Prop}
open PySem.W in
open PySem.W in
open PySem.W in
open PySem.W in
structure XAt (K : PySem.W.Frag) (C : Addr) : Prop where
  ga : PySem.W.findIn K (.ref C) "__getattribute__" = some (some (.builtin "BaseException.__getattribute__"))
  gn : PySem.W.findIn K (.ref C) "__getattr__" = some none
  mb : PySem.W.mroIn K C (.type "BaseException") = some true
  mo : PySem.W.mroIn K C (.type "object") = some true
  hd : PySem.W.hasDictIn K C = true
  cl : PySem.W.findIn K (.ref C) "__class__" = some (some (.builtin "object.__class__"))
  sp : PySem.W.specialIn K (.builtin "object.__class__") "__get__" = some (some (.builtin "getset_descriptor.__get__"))
  tk : PySem.W.takesIn K (.builtin "object.__class__") = some true
  sa : PySem.W.findIn K (.ref C) "__setattr__" = some (some (.builtin "object.__setattr__"))
  po : overVE K C = true
open PySem.W in
open PySem.W in
end
end My
set_option Elab.async false
set_option linter.all false
set_option maxRecDepth 100000
set_option maxHeartbeats 1000000
namespace My
open PySem PySem.Spec PyProof.Rows L2
section
variable {X : Cx} {pins : List (Addr × Obj)} {σ : L2.St} {H : Hp} {s : Shared} {a C dx : Addr} {fs : List (Str × V)} {f : Str} {v y : V} {u : Value} {A : Around} {E : Value → Shared → Prop}
end
end My
set_option Elab.async false
set_option linter.all false
set_option maxRecDepth 100000
set_option maxHeartbeats 1000000
namespace My
open PySem PySem.Spec PyProof.Rows L2
section
variable {X : Cx} {pins : List (Addr × Obj)} {σ : L2.St} {H : Hp} {s : Shared} {a : Addr} {φ : Heap → Prop}
end
structure XClI (K : PySem.W.Frag) (C f : Addr) : Prop where
  ob : ∃ (nm q : Str) (N : Addr) (bs bm : List Value) (hdct : Bool) (sn : List Str) (sub : List Value) (ab : Bool) (col : Option Bool) (dd : Option Addr) (k0 k1 k2 k3 k5 : Option Value) (mN : Str → Option Value),
    K.lookup C = some (excClassObj nm q C N bs bm hdct sn sub ab col dd k0 k1 k2 k3 k5 "ValueError.__new__") ∧ (∀ h : Heap, K.In h → h.Ns N mN) ∧ mN "__init__" = some (.ref f) ∧
    ∀ h : Heap, K.In h → OwnTail h [.type "ValueError", .type "Exception", .type "BaseException", .type "object"] bm
  fn : PySem.W.isFn K (.ref f) = true
section
variable {X : Cx} {k : Nat} {f : Addr} {fd : FuncData} {ps : List Str} {sp : Sp} {x : Str} {C : Addr} {W : L2.St → XK} {np cpos pos : Pos} {e : Expr} {es : List Expr} {t : TA} {CX : CXT}
end
end My
set_option Elab.async false
set_option linter.all false
set_option maxRecDepth 100000
set_option maxHeartbeats 1000000
namespace My
open PySem PySem.Spec PyProof.Rows L2
section
variable {X : Cx}
inductive PJ (X : Cx) : List Expr → List TE → Prop
  | nil : PJ X [] []
  | cons {e : Expr} {es : List Expr} {t : TE} {ts : List TE} (h : PE X e t) (r : PJ X es ts) : PJ X (e :: es) (t :: ts)
end
section
variable {σ : L2.St} {H : Hp} {Q : VK} {te t : TE} {r : List TE} {z out : Str}
end
end My
set_option Elab.async false
set_option linter.all false
set_option maxRecDepth 100000
set_option maxHeartbeats 1000000
namespace My
open PySem PySem.Spec PyProof.Rows L2
section
variable {prog : Program} {w : World} {A : Around} {E : Value → Shared → Prop} {h : Heap} {g : Array GenState} {d : Drawn} {t : Nat} {os : OsState}
variable {nm q : Str} {C N : Addr} {bs bm bmB : List Value} {hdct : Bool} {sn : List Str} {sub : List Value} {ab : Bool} {col : Option Bool} {dd : Option Addr} {k0 k1 k2 k3 k5 : Option Value} {B newId nid initId : String}
end
end My
set_option Elab.async false
set_option linter.all false
set_option maxRecDepth 100000
set_option maxHeartbeats 1000000
namespace My
open PySem PySem.Spec PyProof.Rows L2
structure XBase (K : PySem.W.Frag) (T : Addr) : Prop where
  ga : PySem.W.specialIn K (.ref T) "__getattribute__" = some (some (.builtin "type.__getattribute__"))
  rd : PySem.W.readsIn K T (.type "type") = true
  at_ : PySem.W.findCls K (.ref T) (.type "type") "__init__" = some (.val (.builtin "ValueError.__init__"))
section
variable {X : Cx} {C T f : Addr} {x : Str} {p apos cpos : Pos} {e : Expr} {es : List Expr} {t : TA}
end
end My
set_option Elab.async false
set_option linter.all false
set_option maxRecDepth 100000
set_option maxHeartbeats 1000000
namespace My
open PySem PySem.Spec PyProof.Rows L2
section
variable {X : Cx} {o e value : Expr} {f : Str} {pos pos' : Pos} {ta tv : TE}
end
section
variable {K : PySem.W.Frag} {σ : L2.St} {H : Hp} {Q : VK} {D : Ends} {ta tv : TE} {f : Str} {a C dx c : Addr} {d : Option Addr} {fs : List (Str × V)} {v y : V} {b : Bool}
end
end My
set_option Elab.async false
set_option linter.all false
set_option maxRecDepth 100000
set_option maxHeartbeats 1000000
namespace My
open PySem PySem.Spec PyProof.Rows L2
open PySem.MeetsSeq PySem.MeetsSeq2 PySem.MeetsSeq3 PySem.SeqRoads2
def EqW (P : Program) (w : World) (A : Around) (s : Shared) (y x : Value) (b : Bool) : Prop := ∀ (E : Value → Shared → Prop) (Q : Bool → Shared → Prop), Q b s → wpAny (model P w) A (eqBool y x) Q E s
def opN : Bool → CmpOp
  | false => .Eq
  | true => .NotEq
def RcW (P : Program) (w : World) (A : Around) (s : Shared) (ne : Bool) (y x : Value) (b : Bool) : Prop := ∀ (E : Value → Shared → Prop) (Q : Value → Shared → Prop), Q (.bool b) s → wpAny (model P w) A (richCompare (opN ne) y x) Q E s
def codeN : Bool → Int
  | false => 2
  | true => 3
abbrev lo (dd : Option Addr) (xs : Array Value) (n : Nat) (sl : Array (Option Value)) : Obj := { cls := .type "list", dict := dd, data := .seq xs n, slots := sl }
abbrev tob (dd : Option Addr) (xs : Array Value) (n : Nat) (sl : Array (Option Value)) : Obj := { cls := .type "tuple", dict := dd, data := .seq xs n, slots := sl }
section
variable {P : Program} {w : World} {A : Around} {s : Shared} {l b : Addr} {k : Bool}
theorem EqW.of {y x : Value} (h : SeqAt.EqAt A s y x k) : EqW P w A s y x k := fun E Q q => h P w E Q q
theorem EqW.refs (hn : l ≠ b) (h : RcW P w A s false (.ref l) (.ref b) k) : EqW P w A s (.ref l) (.ref b) k := fun E Q q => by
  unfold eqBool
  refine wpAny_holding (wpAny_ite_split (fun z => ?_) fun _ => wpAny_bind (h E _ (wpAny_truthy_bool q)))
  have z' := eq_of_beq z
  injection z' with z'
  exact absurd z' hn
abbrev Fin1 (P : Program) (w : World) (A : Around) (R : Result → Shared → Prop) : PySem.Fin → Shared → Prop := fun f s' => match f with | .done r => R (.ok r) s' | .again c => c.quiet = true ∧ codeAny (model P w) A c R s'
theorem loopW (ne : Bool) {xs ys : Array Value} {n m : Nat} {d1 d2 : Option Addr} {s1 s2 : Array (Option Value)} (hz : xs.size = ys.size) (f : Nat → Bool) (r : Nat) : ∀ (i : Nat), xs.size - i = r → ∀ (A : Around) (R : Result → Shared → Prop) (s : Shared), s.heap.get? l = some (lo d1 xs n s1) → s.heap.get? b = some (lo d2 ys m s2) →
    (∀ j (h1 : j < xs.size) (h2 : j < ys.size), EqW P w A.in1 s xs[j] ys[j] (f j)) → R (.ok (.ret (.bool (ne != ((List.range xs.size).drop i).all f)))) s →
    wpAny (model P w) A.in1 (Builtin.«list.__eq__.loop» ⟨[.ref l, .ref b, rawInt i, rawInt (codeN ne)], []⟩) (Fin1 P w A R) (fun e s' => R (.error e) s') s := by
  induction r with
  | zero =>
    intro i hr A R s hl hb he q
    obtain ⟨hp, g, d, tk, os⟩ := s
    have t1 : xs[((i : Nat) : Int).toNat]? = none := by simp; omega
    have t2 : ys[((i : Nat) : Int).toNat]? = none := by simp; omega
    have t3 : (List.range xs.size).drop i = [] := by simp; omega
    rw [t3] at q
    cases ne with
    | false =>
      wp_walk using AutoSeq1.wpAny_loadPart' hl, AutoSeq1.wpAny_loadPart' hb
      rw [t1, t2]
      wp_walk using AutoSeq1.wpAny_loadPart' hl, AutoSeq1.wpAny_loadPart' hb
      show R (.ok (.ret (.bool (xs.size == ys.size)))) _
      rw [hz]
      simpa using q
    | true =>
      wp_walk using AutoSeq1.wpAny_loadPart' hl, AutoSeq1.wpAny_loadPart' hb
      rw [t1, t2]
      wp_walk using AutoSeq1.wpAny_loadPart' hl, AutoSeq1.wpAny_loadPart' hb
      show R (.ok (.ret (.bool (xs.size != ys.size)))) _
      rw [hz]
      simpa using q
  | succ r ih =>
    intro i hr A R s hl hb he q
    obtain ⟨hp, g, d, tk, os⟩ := s
    have j1 : i < xs.size := by omega
    have j2 : i < ys.size := by omega
    have t1 : xs[((i : Nat) : Int).toNat]? = some xs[i] := by simp [j1]
    have t2 : ys[((i : Nat) : Int).toNat]? = some ys[i] := by simp [j2]
    have t3 : (List.range xs.size).drop i = i :: (List.range xs.size).drop (i + 1) := by simp [List.drop_eq_getElem_cons, j1]
    have t4 : ((i : Int) + 1) = ((i + 1 : Nat) : Int) := by push_cast; rfl
    rw [t3, List.all_cons] at q
    cases ne with
    | false =>
      wp_walk using AutoSeq1.wpAny_loadPart' hl, AutoSeq1.wpAny_loadPart' hb
      rw [t1, t2]
      refine wpAny_bind (he i j1 j2 _ _ ?_)
      cases hf : f i with
      | true =>
        rw [hf] at q
        wp_walk
        rw [t4]
        refine ⟨plainId_quiet plain_eq_loop _, codeAny_builtin entry_eq_loop ?_⟩
        rw [Around.under_plainId plain_eq_loop _]
        exact ih (i + 1) (by omega) A R _ hl hb he (by simpa using q)
      | false =>
        rw [hf] at q
        wp_walk using AutoSeq1.wpAny_loadPart' hl, AutoSeq1.wpAny_loadPart' hb
        rw [t1, t2]
        wp_walk
        simpa using q
    | true =>
      wp_walk using AutoSeq1.wpAny_loadPart' hl, AutoSeq1.wpAny_loadPart' hb
      rw [t1, t2]
      refine wpAny_bind (he i j1 j2 _ _ ?_)
      cases hf : f i with
      | true =>
        rw [hf] at q
        wp_walk
        rw [t4]
        refine ⟨plainId_quiet plain_eq_loop _, codeAny_builtin entry_eq_loop ?_⟩
        rw [Around.under_plainId plain_eq_loop _]
        exact ih (i + 1) (by omega) A R _ hl hb he (by simpa using q)
      | false =>
        rw [hf] at q
        wp_walk using AutoSeq1.wpAny_loadPart' hl, AutoSeq1.wpAny_loadPart' hb
        rw [t1, t2]
        wp_walk
        simpa using q
theorem listW (ne : Bool) {xs ys : Array Value} {n m : Nat} {d1 d2 : Option Addr} {s1 s2 : Array (Option Value)} (hz : xs.size = ys.size) (f : Nat → Bool) {R : Result → Shared → Prop} (hl : s.heap.get? l = some (lo d1 xs n s1)) (hb : s.heap.get? b = some (lo d2 ys m s2))
    (he : ∀ j (h1 : j < xs.size) (h2 : j < ys.size), EqW P w A.in1 s xs[j] ys[j] (f j)) (q : R (.ok (.ret (.bool (ne != (List.range xs.size).all f)))) s) :
    wpAny (model P w) A.in1 ((if ne = true then Builtin.«list.__ne__» else Builtin.«list.__eq__») ⟨[.ref l, .ref b], []⟩) (Fin1 P w A R) (fun e s' => R (.error e) s') s := by
  obtain ⟨hp, g, d, tk, os⟩ := s
  have f3 := AutoSeq1.sub_list_list
  have z0 : ¬ (xs.size != ys.size) = true := by simp [hz]
  cases ne with
  | false =>
    show wpAny _ _ (Builtin.«list.__eq__» _) _ _ _
    wp_walk using AutoSeq1.wpAny_loadPart' hl, AutoSeq1.wpAny_loadPart' hb
    refine ⟨plainId_quiet plain_eq_loop _, codeAny_builtin entry_eq_loop ?_⟩
    rw [Around.under_plainId plain_eq_loop _]
    exact loopW false hz f _ 0 rfl A R _ hl hb he (by simpa using q)
  | true =>
    show wpAny _ _ (Builtin.«list.__ne__» _) _ _ _
    wp_walk using AutoSeq1.wpAny_loadPart' hl, AutoSeq1.wpAny_loadPart' hb
    refine ⟨plainId_quiet plain_eq_loop _, codeAny_builtin entry_eq_loop ?_⟩
    rw [Around.under_plainId plain_eq_loop _]
    exact loopW true hz f _ 0 rfl A R _ hl hb he (by simpa using q)
theorem callW {T id : String} {name : Str} {B : Builtin} {self : Value} {rest : List Value} {E Q : Value → Shared → Prop} (slot : Slot T name id) (hT : s.TypeIs self T) (entry : entryFor table id = some B) (args : argsOk id ⟨self :: rest, []⟩)
    (h : wpAny (model P w) A.in1 (B ⟨self :: rest, []⟩) (Fin1 P w A (wants Q E)) (fun e s' => wants Q E (.error e) s') s) : wpAny (model P w) A (call (.builtin id) (self :: rest)) Q E s :=
  wpAny_call (codeAny_call_builtin slot.plain entry (slot.check _ _ _ _ _ _ _ _ hT args h))
theorem RcW.lists (ne : Bool) {xs ys : Array Value} {f : Nat → Bool} (hl : s.heap.IsList l xs) (hb : s.heap.IsList b ys) (hz : xs.size = ys.size) (hu : A.units < cLine) (he : ∀ j (h1 : j < xs.size) (h2 : j < ys.size), EqW P w A.in1 s xs[j] ys[j] (f j)) :
    RcW P w A s ne (.ref l) (.ref b) (ne != (List.range xs.size).all f) := fun E Q q => by
  obtain ⟨⟨c1, d1, e1, s1⟩, ho, hc, n, hd⟩ := id hl
  obtain ⟨⟨c2, d2, e2, s2⟩, ho2, hc2, m, hd2⟩ := id hb
  simp only at hc hd hc2 hd2
  subst hc hd hc2 hd2
  have q' : Value.bool (ne != (List.range xs.size).all f) ≠ Value.notImplemented ∧ Q (.bool (ne != (List.range xs.size).all f)) s := ⟨(fun x => nomatch x), q⟩
  cases ne with
  | false => exact wpAny_richCompare_same_room (op := .Eq) ⟨_, ho, rfl⟩ ⟨_, ho2, rfl⟩ F.slot_list_eq (callW F.slot_list_eq ⟨_, ho, rfl⟩ F.entry_list_eq (F.args_list_eq_2 _ _) (listW (R := wants (fun v s' => v ≠ .notImplemented ∧ Q v s') E) false hz f ho ho2 he q')) hu
  | true => exact wpAny_richCompare_same_room (op := .NotEq) ⟨_, ho, rfl⟩ ⟨_, ho2, rfl⟩ F.slot_list_ne (callW F.slot_list_ne ⟨_, ho, rfl⟩ F.entry_list_ne (F.args_list_ne_2 _ _) (listW (R := wants (fun v s' => v ≠ .notImplemented ∧ Q v s') E) true hz f ho ho2 he q')) hu
theorem RcW.listsN (ne : Bool) {xs ys : Array Value} (hl : s.heap.IsList l xs) (hb : s.heap.IsList b ys) (hz : (xs.size != ys.size) = true) (hu : A.units < cLine) : RcW P w A s ne (.ref l) (.ref b) (ne != false) := fun E Q q => by
  cases ne with
  | false => exact SeqAt.RcAt.lists_lengths hl hb hz hu P w E Q q
  | true => exact SeqAt.RcNeAt.lists_lengths hl hb hz hu P w E Q q
theorem tupW (ne : Bool) {xs ys : Array Value} {n m : Nat} {d1 d2 : Option Addr} {s1 s2 : Array (Option Value)} (f : Nat → Bool) {E Q : Value → Shared → Prop} (hl : s.heap.get? l = some (tob d1 xs n s1)) (hb : s.heap.get? b = some (tob d2 ys m s2))
    (he : ∀ j (h1 : j < xs.size) (h2 : j < ys.size), EqW P w A.in1 s xs[j] ys[j] (f j)) (q : Q (.bool (ne != ((List.range (min xs.size ys.size)).all f && xs.size == ys.size))) s) :
    wpAny (model P w) A.in1 ((if ne = true then Builtin.«tuple.__ne__» else Builtin.«tuple.__eq__») ⟨[.ref l, .ref b], []⟩) (fun fin s' => ∃ v, fin = .done (.ret v) ∧ Q v s') E s := by
  obtain ⟨hp, g, d, tk, os⟩ := s
  have f2 := AutoSeq1.sub_tuple_tuple
  have hZ : (xs.toList.zip ys.toList).length = min xs.size ys.size := by simp
  have turn : ∀ (x y : Value) (rest : List (Value × Value)) (i : Nat), (x, y) :: rest = (xs.toList.zip ys.toList).drop i → ∃ (h1 : i < xs.size) (h2 : i < ys.size), x = xs[i] ∧ y = ys[i] ∧ rest = (xs.toList.zip ys.toList).drop (i + 1) ∧ (List.range (min xs.size ys.size)).drop i = i :: (List.range (min xs.size ys.size)).drop (i + 1) := fun x y rest i hz => by
    have hlt : i < (xs.toList.zip ys.toList).length := by
      rcases Nat.lt_or_ge i (xs.toList.zip ys.toList).length with z | z
      · exact z
      · rw [List.drop_of_length_le z] at hz; cases hz
    have hm : i < min xs.size ys.size := hZ ▸ hlt
    have h1 : i < xs.size := Nat.lt_of_lt_of_le hm (Nat.min_le_left _ _)
    have h2 : i < ys.size := Nat.lt_of_lt_of_le hm (Nat.min_le_right _ _)
    rw [List.drop_eq_getElem_cons hlt] at hz
    injection hz with hxy hrest
    exact ⟨h1, h2, by have := congrArg Prod.fst hxy; simpa using this, by have := congrArg Prod.snd hxy; simpa using this, hrest, by simp [List.drop_eq_getElem_cons, hm]⟩
  have last : ∀ i : Nat, [] = (xs.toList.zip ys.toList).drop i → (List.range (min xs.size ys.size)).drop i = [] := fun i hz => by
    have hge : min xs.size ys.size ≤ i := by
      rcases Nat.lt_or_ge i (xs.toList.zip ys.toList).length with z | z
      · rw [List.drop_eq_getElem_cons z] at hz; cases hz
      · exact hZ ▸ z
    exact List.drop_of_length_le (by simpa using hge)
  cases ne with
  | false =>
    show wpAny _ _ (Builtin.«tuple.__eq__» _) _ _ _
    wp_walk using AutoSeq1.wpAny_loadPart' hl, AutoSeq1.wpAny_loadPart' hb, wpAny_forIn_list _ (fun rest c s' => c.1 = none ∧ s' = ⟨hp, g, d, tk, os⟩ ∧ ∃ i, rest = (xs.toList.zip ys.toList).drop i ∧ Q (.bool (((List.range (min xs.size ys.size)).drop i).all f && xs.size == ys.size)) ⟨hp, g, d, tk, os⟩) _
    case turn =>
      rintro ⟨x, y⟩ rest c s' ⟨hc, rfl, i, hz, hR⟩
      obtain ⟨h1, h2, rfl, rfl, hrest, hd⟩ := turn x y rest i hz
      rw [hd, List.all_cons] at hR
      refine wpAny_bind (he i h1 h2 _ _ ?_)
      cases hf : f i with
      | true =>
        rw [hf] at hR
        wp_walk
        exact ⟨rfl, rfl, i + 1, hrest, by simpa using hR⟩
      | false =>
        rw [hf] at hR
        wp_walk
        exact ⟨_, rfl, by simpa using hR⟩
    case fin =>
      rintro ⟨c1, c2⟩ s' ⟨hc, rfl, i, hz, hR⟩
      simp only at hc
      subst hc
      rw [last i hz] at hR
      wp_walk
      exact ⟨_, rfl, by simpa [Builtin.Tuple.tupleCompareSizes] using hR⟩
    case h => exact ⟨rfl, rfl, 0, rfl, by simpa using q⟩
  | true =>
    show wpAny _ _ (Builtin.«tuple.__ne__» _) _ _ _
    wp_walk using AutoSeq1.wpAny_loadPart' hl, AutoSeq1.wpAny_loadPart' hb, wpAny_forIn_list _ (fun rest c s' => c.1 = none ∧ s' = ⟨hp, g, d, tk, os⟩ ∧ ∃ i, rest = (xs.toList.zip ys.toList).drop i ∧ Q (.bool (!(((List.range (min xs.size ys.size)).drop i).all f && xs.size == ys.size))) ⟨hp, g, d, tk, os⟩) _
    case turn =>
      rintro ⟨x, y⟩ rest c s' ⟨hc, rfl, i, hz, hR⟩
      obtain ⟨h1, h2, rfl, rfl, hrest, hd⟩ := turn x y rest i hz
      rw [hd, List.all_cons] at hR
      refine wpAny_bind (he i h1 h2 _ _ ?_)
      cases hf : f i with
      | true =>
        rw [hf] at hR
        wp_walk
        exact ⟨rfl, rfl, i + 1, hrest, by simpa using hR⟩
      | false =>
        rw [hf] at hR
        wp_walk
        exact ⟨_, rfl, by simpa using hR⟩
    case fin =>
      rintro ⟨c1, c2⟩ s' ⟨hc, rfl, i, hz, hR⟩
      simp only at hc
      subst hc
      rw [last i hz] at hR
      wp_walk
      exact ⟨_, rfl, by simpa [Builtin.Tuple.tupleCompareSizes, bne] using hR⟩
    case h => exact ⟨rfl, rfl, 0, rfl, by simpa using q⟩
theorem RcW.tuples (ne : Bool) {xs ys : Array Value} {f : Nat → Bool} (hl : s.heap.IsTuple l xs) (hb : s.heap.IsTuple b ys) (hu : A.units < cLine) (he : ∀ j (h1 : j < xs.size) (h2 : j < ys.size), EqW P w A.in1 s xs[j] ys[j] (f j)) :
    RcW P w A s ne (.ref l) (.ref b) (ne != ((List.range (min xs.size ys.size)).all f && xs.size == ys.size)) := fun E Q q => by
  obtain ⟨⟨c1, d1, e1, s1⟩, ho, hc, n, hd⟩ := id hl
  obtain ⟨⟨c2, d2, e2, s2⟩, ho2, hc2, m, hd2⟩ := id hb
  simp only at hc hd hc2 hd2
  subst hc hd hc2 hd2
  cases ne with
  | false => exact wpAny_richCompare_same_room (op := .Eq) ⟨_, ho, rfl⟩ ⟨_, ho2, rfl⟩ F.slot_tuple_eq (wpAny_call_entry F.slot_tuple_eq ⟨_, ho, rfl⟩ F.entry_tuple_eq (tupW (Q := fun v s' => v ≠ .notImplemented ∧ Q v s') false f ho ho2 he ⟨(fun x => nomatch x), q⟩) (F.args_tuple_eq_2 _ _)) hu
  | true => exact wpAny_richCompare_same_room (op := .NotEq) ⟨_, ho, rfl⟩ ⟨_, ho2, rfl⟩ F.slot_tuple_ne (wpAny_call_entry F.slot_tuple_ne ⟨_, ho, rfl⟩ F.entry_tuple_ne (tupW (Q := fun v s' => v ≠ .notImplemented ∧ Q v s') true f ho ho2 he ⟨(fun x => nomatch x), q⟩) (F.args_tuple_ne_2 _ _)) hu
end
end My
set_option Elab.async false
set_option linter.all false
set_option maxRecDepth 100000
set_option maxHeartbeats 1000000
namespace My
open PySem PySem.Spec PyProof.Rows L2
inductive DEq (K : PySem.W.Frag) (H : Hp) : Nat → V → V → Bool → Prop
  | same {n : Nat} {a : Addr} : DEq K H n (.ref a) (.ref a) true
  | flat {n : Nat} {x y : V} (hx : flatV x = true) (hy : flatV y = true) : DEq K H n x y (eqV x y)
  | ls {n : Nat} {a b : Addr} {xs ys : List V} {e : Nat → Bool} (ha : SqL K H a xs) (hb : SqL K H b ys) (ne : a ≠ b) (hl : xs.length = ys.length)
      (he : ∀ j (h1 : j < xs.length) (h2 : j < ys.length), DEq K H n xs[j] ys[j] (e j)) : DEq K H (n + 1) (.ref a) (.ref b) ((List.range xs.length).all e)
  | lsN {n : Nat} {a b : Addr} {xs ys : List V} (ha : SqL K H a xs) (hb : SqL K H b ys) (ne : a ≠ b) (hl : xs.length ≠ ys.length) : DEq K H (n + 1) (.ref a) (.ref b) false
  | ts {n : Nat} {a b : Addr} {xs ys : List V} {e : Nat → Bool} (ha : SqT K H a xs) (hb : SqT K H b ys) (ne : a ≠ b)
      (he : ∀ j (h1 : j < xs.length) (h2 : j < ys.length), DEq K H n xs[j] ys[j] (e j)) : DEq K H (n + 1) (.ref a) (.ref b) ((List.range (min xs.length ys.length)).all e && xs.length == ys.length)
  | dd {n : Nat} {a b : Addr} {ka kb : List (Key × V)} (ha : Rd H a (.dK ka)) (hb : Rd H b (.dK kb)) (ne : a ≠ b) (fa : ∀ p ∈ ka, flatV p.2 = true) (fb : ∀ p ∈ kb, flatV p.2 = true) :
      DEq K H (n + 1) (.ref a) (.ref b) (ka.length == kb.length && ka.all fun p => (valV kb p.1).elim false (eqV p.2))
theorem vals_at {xs : List V} {us : List Value} (r : Vals xs us) {j : Nat} (h1 : j < xs.length) (h2 : j < us.length) : RelV xs[j] us[j] := by
  obtain ⟨u, e, ru⟩ := r.get (List.getElem?_eq_getElem h1)
  rw [List.getElem?_eq_getElem h2] at e
  cases e
  exact ru
theorem valV_mem {kvs : List (Key × V)} {k : Key} {v : V} (h : valV kvs k = some v) : (k, v) ∈ kvs := by
  unfold valV at h
  obtain ⟨p, hp, rfl⟩ := Option.map_eq_some_iff.mp h
  have e := List.find?_some hp
  have e' : p.1 = k := of_decide_eq_true e
  subst e'
  exact List.mem_of_find?_eq_some hp
theorem hits_of {A : Around} {s : Shared} {kb : List (Key × V)} {vb : List (Key × Value)} (rb : KV kb vb) (fb : ∀ p ∈ kb, flatV p.2 = true) {ka : List (Key × V)} {va : List (Key × Value)} (ra : KV ka va) (fa : ∀ p ∈ ka, flatV p.2 = true) :
    PySem.W.KeqHits A s vb va (ka.all fun p => (valV kb p.1).elim false (eqV p.2)) := by
  induction ra with
  | nil => exact .nil
  | @cons p q l1 l2 h t ih =>
    obtain ⟨k, v⟩ := p
    obtain ⟨k', u⟩ := q
    obtain ⟨e, ru⟩ := h
    dsimp only at e ru
    subst e
    have z := rb.val k
    rw [List.all_cons]
    have ih' := ih fun p hp => fa p (List.mem_cons_of_mem _ hp)
    cases hv : valV kb k with
    | none =>
      rw [hv] at z
      have hn : valueAt vb k = none := RelO.none_of z
      exact .miss hn
    | some y =>
      rw [hv] at z
      cases hu : valueAt vb k with
      | none => rw [hu] at z; exact z.elim
      | some yu =>
        rw [hu] at z
        exact .hit hu (eqAt_V ru z (fa _ (List.mem_cons_self ..)) (fb _ (valV_mem hv))) ih'
section
variable {X : Cx} {pins : List (Addr × Obj)} {σ : L2.St} {H : Hp} {s : Shared}
theorem PlainL.isList {h : Heap} {a : Addr} {its : Array Value} (p : PlainL h a its) : h.IsList a its := by
  obtain ⟨o, n, e, c, d, t⟩ := p
  exact ⟨o, e, c, n, t⟩
theorem deq_ok (I : Inv X pins σ H s) {n : Nat} {x y : V} {k : Bool} (q : DEq X.K H n x y k) : ∀ (A : Around) (u v : Value), RelV x u → RelV y v → A.units + n < cLine →
    EqW X.prog X.w A s u v k ∧ ∀ a b, x = .ref a → y = .ref b → a ≠ b → ∀ ne : Bool, RcW X.prog X.w A s ne (.ref a) (.ref b) (ne != k) := by
  have both : ∀ {A : Around} {a b : Addr} {k : Bool}, a ≠ b → (∀ ne : Bool, RcW X.prog X.w A s ne (.ref a) (.ref b) (ne != k)) →
      EqW X.prog X.w A s (.ref a) (.ref b) k ∧ ∀ a' b', V.ref a = .ref a' → V.ref b = .ref b' → a' ≠ b' → ∀ ne : Bool, RcW X.prog X.w A s ne (.ref a') (.ref b') (ne != k) := fun {A a b k} ne R =>
    ⟨EqW.refs ne (by have z := R false; simpa using z), fun a' b' e1 e2 _ => by cases e1; cases e2; exact R⟩
  induction q with
  | @same n a =>
    intro A u v ru rv hu
    obtain rfl : u = Value.ref a := ru
    obtain rfl : v = Value.ref a := rv
    exact ⟨EqW.of (SeqAt.EqAt.same _), fun a' b' e1 e2 ne => by cases e1; cases e2; exact absurd rfl ne⟩
  | flat hx hy =>
    intro A u v ru rv hu
    exact ⟨EqW.of (eqAt_V ru rv hx hy), fun a b e _ _ => by subst e; cases hx⟩
  | @ls n a b xs ys e ha hb ne hl he ih =>
    intro A u v ru rv hu
    obtain rfl : u = Value.ref a := ru
    obtain rfl : v = Value.ref b := rv
    obtain ⟨its, r1, p1, _⟩ := I.list ha
    obtain ⟨its2, r2, p2, _⟩ := I.list hb
    have l1 := r1.length
    have l2 := r2.length
    refine both ne fun nb => ?_
    have z := RcW.lists (P := X.prog) (w := X.w) (A := A) (s := s) nb (f := e) (PlainL.isList p1) (PlainL.isList p2) (by rw [List.size_toArray, List.size_toArray]; omega) (by omega) fun j h1 h2 => by
      have k1 : j < its.length := by simpa using h1
      have k2 : j < its2.length := by simpa using h2
      have w := (ih j (by omega) (by omega) A.in1 its[j] its2[j] (vals_at r1 (by omega) k1) (vals_at r2 (by omega) k2) (by show A.units + 1 + n < cLine; omega)).1
      simpa using w
    rw [List.size_toArray, ← l1] at z
    exact z
  | @lsN n a b xs ys ha hb ne hl =>
    intro A u v ru rv hu
    obtain rfl : u = Value.ref a := ru
    obtain rfl : v = Value.ref b := rv
    obtain ⟨its, r1, p1, _⟩ := I.list ha
    obtain ⟨its2, r2, p2, _⟩ := I.list hb
    have l1 := r1.length
    have l2 := r2.length
    exact both ne fun nb => RcW.listsN nb (PlainL.isList p1) (PlainL.isList p2) (by rw [List.size_toArray, List.size_toArray]; simp; omega) (by omega)
  | @ts n a b xs ys e ha hb ne he ih =>
    intro A u v ru rv hu
    obtain rfl : u = Value.ref a := ru
    obtain rfl : v = Value.ref b := rv
    obtain ⟨its, r1, p1, _⟩ := I.tuple ha
    obtain ⟨its2, r2, p2, _⟩ := I.tuple hb
    have l1 := r1.length
    have l2 := r2.length
    refine both ne fun nb => ?_
    have z := RcW.tuples (P := X.prog) (w := X.w) (A := A) (s := s) nb (f := e) p1 p2 (by omega) fun j h1 h2 => by
      have k1 : j < its.length := by simpa using h1
      have k2 : j < its2.length := by simpa using h2
      have w := (ih j (by omega) (by omega) A.in1 its[j] its2[j] (vals_at r1 (by omega) k1) (vals_at r2 (by omega) k2) (by show A.units + 1 + n < cLine; omega)).1
      simpa using w
    rw [List.size_toArray, List.size_toArray, ← l1, ← l2] at z
    exact z
  | @dd n a b ka kb ha hb ne fa fb =>
    intro A u v ru rv hu
    obtain rfl : u = Value.ref a := ru
    obtain rfl : v = Value.ref b := rv
    obtain ⟨_, ga, va, ra, da⟩ := dk_rd I.hok ha
    obtain ⟨_, gb, vb, rb, db⟩ := dk_rd I.hok hb
    have l1 := ra.length
    have l2 := rb.length
    refine both ne fun nb E Q q => ?_
    have hits := hits_of (A := A.in1) (s := s) rb fb ra fa
    rw [l1, l2] at q
    cases nb with
    | false => exact PySem.W.keq_eq ga gb da db (by omega) (fun _ => hits) (by simpa using q)
    | true => exact PySem.W.keq_ne ga gb da db (by omega) (fun _ => hits) (by simpa using q)
def rEqD (K : PySem.W.Frag) : R2 := fun x y H Q => ∃ a b n k, x = .ref a ∧ y = .ref b ∧ a ≠ b ∧ n ≤ 8 ∧ DEq K H n (.ref a) (.ref b) k ∧ Q (.bl k) H
theorem op_eqD (hu : X.A.units + 8 < cLine) : OpR X (compareOp .Eq) (rEqD X.K) := by
  intro pins s σ H x y v u Q I rx ry h
  obtain ⟨a, b, n, k, rfl, rfl, ne, hn, q, z⟩ := h
  cases rx
  cases ry
  have r := (deq_ok I q X.A _ _ rfl rfl (by omega)).2 a b rfl rfl ne false X.xe (EP X pins σ Q)
  rw [Bool.false_bne] at r
  exact r ⟨.bl k, H, I, rfl, z⟩
end
end My
set_option Elab.async false
set_option linter.all false
set_option maxRecDepth 100000
set_option maxHeartbeats 1000000
namespace My
open PySem PySem.Spec PyProof.Rows L2
section
variable {X : Cx}
end
section
variable {K : PySem.W.Frag} {σ : L2.St} {H : Hp} {Q : VK} {p l b : Addr} {ys xs zs : List V} {to : TE} {t : TA} {T : String} {r : V → List V → Hp → VK → Prop} {x v : V}
theorem r_bm (h : to σ H fun x H1 => tyV K T x H1 ∧ t σ H1 fun xs H2 => r x xs H2 Q) : tBM K T r to t σ H Q := h
theorem r_tyL {P : Prop} (h : SqL K H p ys) (q : P) : tyV K "list" (.ref p) H ∧ P := ⟨.inl ⟨rfl, _, h⟩, q⟩
theorem r_append (h : H l = some (.lst xs)) (hz : xs.length < sizeLine) (q : Q .non (upd H l (.lst (xs ++ [v])))) : rAppend (.ref l) [v] H Q := ⟨l, xs, v, rfl, rfl, h, hz, q⟩
end
end My
set_option Elab.async false
set_option linter.all false
set_option maxRecDepth 100000
set_option maxHeartbeats 1000000
namespace My
open PySem PySem.Spec PyProof.Rows L2
end My
set_option Elab.async false
set_option linter.all false
set_option maxRecDepth 100000
set_option maxHeartbeats 1000000
namespace My
open PySem PySem.Spec PyProof.Rows L2
structure RoomH (k : Nat) (A : Around) : Prop where
  dp : A.depth + 3 * k + 5 < recursionLimit
  un : A.units + 16 * k + 200 < cLine
structure FnOkH (P : Program) (w : World) (K : PySem.W.Frag) (mg : Str → Option Value) (base : Heap) (k : Nat) (f : Addr) (fd : FuncData) (ps : List Str) (sp : Sp) : Prop where
  len : ∀ vs H Q E, sp vs H Q E → vs.length = ps.length
  run : ∀ (a : Addr) (A : Around) (outer : List Env) (s : Shared) (H : Hp) (args : Args) (us : List Value) (vs : List V) (Q : VK) (E : XK), RoomH k A → A.handled = some (.ref a) → Env0 P w K mg base A outer s H → BindsTo s fd args (ps.zip us) → Vals vs us → sp vs H Q E →
    codeAny (model P w) A (.call (.ref f) args) (CR CX0 outer P w H s Q E) s
section
variable {X : Cx} {k : Nat} {f a : Addr} {fd : FuncData} {ps : List Str} {sp : Sp} {x : Str} {p pos : Pos} {e : Expr} {es : List Expr} {t : TA}
end
end My
set_option Elab.async false
set_option linter.all false
set_option maxRecDepth 100000
set_option maxHeartbeats 1000000
namespace My
open PySem PySem.Spec PyProof.Rows L2
section
variable {X : Cx}
def rNeD (K : PySem.W.Frag) : R2 := fun x y H Q => ∃ a b n k, x = .ref a ∧ y = .ref b ∧ a ≠ b ∧ n ≤ 8 ∧ DEq K H n (.ref a) (.ref b) k ∧ Q (.bl (!k)) H
theorem op_neD (hu : X.A.units + 8 < cLine) : OpR X (compareOp .NotEq) (rNeD X.K) := by
  intro pins s σ H x y v u Q I rx ry h
  obtain ⟨a, b, n, k, rfl, rfl, ne, hn, q, z⟩ := h
  cases rx
  cases ry
  have r := (deq_ok I q X.A _ _ rfl rfl (by omega)).2 a b rfl rfl ne true X.xe (EP X pins σ Q)
  rw [Bool.true_bne] at r
  exact r ⟨.bl (!k), H, I, rfl, z⟩
end
section
variable {K : PySem.W.Frag} {H : Hp} {Q : VK} {a b : Addr} {n : Nat} {k : Bool}
theorem r_eqD (ne : a ≠ b) (hn : n ≤ 8) (q : DEq K H n (.ref a) (.ref b) k) (h : Q (.bl k) H) : rEqD K (.ref a) (.ref b) H Q := ⟨a, b, n, k, rfl, rfl, ne, hn, q, h⟩
theorem r_neD (ne : a ≠ b) (hn : n ≤ 8) (q : DEq K H n (.ref a) (.ref b) k) (h : Q (.bl (!k)) H) : rNeD K (.ref a) (.ref b) H Q := ⟨a, b, n, k, rfl, rfl, ne, hn, q, h⟩
end
end My
set_option Elab.async false
set_option linter.all false
set_option maxRecDepth 100000
set_option maxHeartbeats 1000000
namespace My
open PySem PySem.Spec PyProof.Rows L2
section
variable {K : PySem.W.Frag} {σ : L2.St} {H : Hp} {Q : VK} {D : Ends} {ta tv : TE} {t : TA} {f : Str} {C : Addr}
end
end My
set_option Elab.async false
set_option linter.all false
set_option maxRecDepth 100000
set_option maxHeartbeats 1000000
namespace My
open PySem PySem.Spec PyProof.Rows L2
theorem hu8 {k : Nat} {A : Around} (r : Room k A) : A.units + 8 < cLine := by have := r.un; omega
section
variable {K : PySem.W.Frag} {cs : List Addr} {i j : Nat} {c e : Addr}
end
def SameBut (L : Addr) (H H' : Hp) : Prop := ∀ b o, b ≠ L → H b = some o → H' b = some o
section
variable {K : PySem.W.Frag} {H : Hp} {Q : VK} {a C c : Addr} {d : Option Addr} {b : Bool}
end
end My
set_option Elab.async false
set_option linter.all false
set_option maxRecDepth 100000
set_option maxHeartbeats 1000000
namespace My
open PySem PySem.Spec PyProof.Rows L2
section
variable {X : Cx} {pins : List (Addr × Obj)} {σ : L2.St} {H H' : Hp} {s : Shared} {a : Addr} {kvs : List (Key × V)} {o : Obj}
end
section
variable {X : Cx} {st : Stmt} {e : Expr} {t : TS} {te : TE}
end
section
variable {σ : L2.St} {H H' : Hp} {D : Ends} {t : TS} {te tl : TE} {Q : VK} {g : TG} {tb : TS} {a : Addr} {o : Obj} {kvs : List (Key × V)} {H0 : Hp} {v : V}
end
end My
set_option Elab.async false
set_option linter.all false
set_option maxRecDepth 100000
set_option maxHeartbeats 1000000
namespace My
open PySem PySem.Spec PyProof.Rows L2
section
variable {X : Cx}
def rDictCp : List V → Hp → VK → Prop := fun xs H Q => ∃ p kvs, xs = [.ref p] ∧ Rd H p (.dK kvs) ∧ ∀ q, H q = none → Q (.ref q) (upd H q (.dK kvs))
theorem call_dictR : CallR X (.type "dict") rDictCp := by
  intro pins s σ H xs us Q I hv h
  obtain ⟨p, kvs, rfl, e, q⟩ := h
  obtain ⟨u, rfl, ru⟩ := hv.one
  cases ru
  exact d_copyOf I e fun l s' hl I' => ⟨.ref l, _, I', rfl, q l hl⟩
theorem strs_of : ∀ {ss : List Str} {us : List Value}, Vals (ss.map V.str) us → StrsAre us ss
  | [], _, r => by cases r; exact .nil
  | x :: ss, _, r => by
    cases r with
    | cons h t => obtain ⟨k, rfl⟩ := h; exact .cons x k (strs_of t)
theorem vals_strs : ∀ {us : List Value} {ss : List Str}, StrsAre us ss → Vals (ss.map V.str) us
  | _, _, .nil => .nil
  | _, _, .cons x t h => .cons ⟨t, rfl⟩ (vals_strs h)
def rSortL (K : PySem.W.Frag) : List V → Hp → VK → Prop := fun xs H Q => ∃ p ss, xs = [.ref p] ∧ SqL K H p (ss.map V.str) ∧ ss.length < 64 ∧ ∀ l ss', H l = none → ss'.Perm ss → sortedS ss' = true → Q (.ref l) (upd H l (.lst (ss'.map V.str)))
theorem call_sortL : CallR X (.builtin "sorted") (rSortL X.K) := by
  intro pins s σ H xs us Q I hv h
  obtain ⟨p, ss, rfl, hS, hz, q⟩ := h
  obtain ⟨u, rfl, ru⟩ := hv.one
  cases ru
  obtain ⟨its, rv, pl, hz'⟩ := I.list hS
  have hlen := rv.length
  rw [List.length_map] at hlen
  refine sorted_strs (vs := its) (PlainL.isList pl) (strs_of rv) (by omega) fun out ss' a1 a2 a3 => ?_
  obtain ⟨e, he⟩ := sortedAll_at s.heap its out
  have hl2 := a2.length_eq
  have I2 := I.laid (a := s.heap.objs.size + 1) (o := .lst (ss'.map V.str)) (t' := s.toks) (fun b ob hb => sortedAll_old hb) (Nat.le_succ _) ⟨by rw [List.length_map, sizeLine_eq]; omega, out.toList, e, vals_strs a1, by simpa [seqObj] using he⟩
  exact ⟨.ref _, _, I2, rfl, q _ ss' (I.hok.fresh (Nat.le_succ _)) a2 a3⟩
end
section
variable {K : PySem.W.Frag} {H : Hp} {Q : VK} {p : Addr} {kvs : List (Key × V)} {ss : List Str}
theorem r_dictCp (e : Rd H p (.dK kvs)) (h : ∀ q, H q = none → Q (.ref q) (upd H q (.dK kvs))) : rDictCp [.ref p] H Q := ⟨p, kvs, rfl, e, h⟩
theorem r_sortL (e : SqL K H p (ss.map V.str)) (hz : ss.length < 64) (h : ∀ l ss', H l = none → ss'.Perm ss → sortedS ss' = true → Q (.ref l) (upd H l (.lst (ss'.map V.str)))) : rSortL K [.ref p] H Q := ⟨p, ss, rfl, e, hz, h⟩
end
end My
set_option Elab.async false
set_option linter.all false
set_option maxRecDepth 100000
set_option maxHeartbeats 1000000
namespace My
open PySem PySem.Spec PyProof.Rows L2
structure AD (kvs : List (Key × V)) (f : Str → Option Int) : Prop where
  nd : (kvs.map (·.1)).Nodup
  sh : ∀ p ∈ kvs, ∃ z i, p = (Sum.inr z, V.int i)
  get : ∀ z, valV kvs (Sum.inr z) = (f z).map V.int
def noF : Str → Option Int := fun _ => none
def putF' (f : Str → Option Int) (z : Str) (i : Int) : Str → Option Int := fun y => if y = z then some i else f y
theorem AD.nil : AD [] noF := ⟨List.nodup_nil, fun p hp => absurd hp (by simp), fun z => rfl⟩
theorem putK_keys {kvs : List (Key × V)} {k : Key} {v : V} (h : valV kvs k ≠ none) : (putK kvs k v).map (·.1) = kvs.map (·.1) := by
  unfold putK
  have e : (kvs.any fun kv => decide (kv.1 = k)) = true := by rw [valV_any]; cases q : valV kvs k with
    | none => exact absurd q h
    | some _ => rfl
  rw [if_pos e, List.map_map]
  apply List.map_congr_left
  intro p _
  show (if p.1 = k then (p.1, v) else p).1 = p.1
  split <;> rfl
theorem putK_mem {kvs : List (Key × V)} {k : Key} {v : V} {p : Key × V} (h : p ∈ putK kvs k v) : p = (k, v) ∨ p ∈ kvs := by
  unfold putK at h
  split at h
  · obtain ⟨q, hq, e⟩ := List.mem_map.mp h
    split at e
    · rename_i ek; subst ek; exact .inl e.symm
    · subst e; exact .inr hq
  · rcases List.mem_append.mp h with h | h
    · exact .inr h
    · exact .inl (by simpa using h)
theorem AD.put {kvs : List (Key × V)} {f : Str → Option Int} (h : AD kvs f) (z : Str) (i : Int) : AD (putK kvs (Sum.inr z) (.int i)) (putF' f z i) := by
  refine ⟨?_, fun p hp => ?_, fun y => ?_⟩
  · cases q : valV kvs (Sum.inr z) with
    | none => exact nd_putK _ h.nd q
    | some v => rw [putK_keys (by rw [q]; simp)]; exact h.nd
  · rcases putK_mem hp with rfl | hp
    · exact ⟨z, i, rfl⟩
    · exact h.sh p hp
  · rw [valV_put]
    unfold putF'
    by_cases e : y = z
    · subst e; rw [if_pos rfl, if_pos rfl]; rfl
    · rw [if_neg (fun q => e (Sum.inr.inj q)), if_neg e]; exact h.get y
theorem AD.flat {kvs : List (Key × V)} {f : Str → Option Int} (h : AD kvs f) : ∀ p ∈ kvs, flatV p.2 = true := fun p hp => by
  obtain ⟨z, i, rfl⟩ := h.sh p hp
  rfl
theorem valV_of_mem {kvs : List (Key × V)} (nd : (kvs.map (·.1)).Nodup) {k : Key} {v : V} (h : (k, v) ∈ kvs) : valV kvs k = some v := by
  induction kvs with
  | nil => simp at h
  | cons p r ih =>
    rw [List.map_cons, List.nodup_cons] at nd
    rcases List.mem_cons.mp h with rfl | h
    · exact valV_pos rfl
    · have ne : ¬ p.1 = k := fun e => nd.1 (e ▸ List.mem_map.mpr ⟨(k, v), h, rfl⟩)
      rw [valV_neg ne]
      exact ih nd.2 h
theorem AD.mem {kvs : List (Key × V)} {f : Str → Option Int} (h : AD kvs f) {k : Key} {v : V} (hm : (k, v) ∈ kvs) : ∃ z n, k = Sum.inr z ∧ v = .int n ∧ f z = some n := by
  obtain ⟨z, n, e⟩ := h.sh _ hm
  cases e
  have q := valV_of_mem h.nd hm
  rw [h.get] at q
  cases hf : f z with
  | none => rw [hf] at q; cases q
  | some m => rw [hf] at q; cases q; exact ⟨z, _, rfl, rfl, hf⟩
def keysS (kvs : List (Key × V)) : List Str := kvs.filterMap fun p => match p.1 with | .inr z => some z | .inl _ => none
theorem AD.keys {kvs : List (Key × V)} {f : Str → Option Int} (h : AD kvs f) : kvs.map (·.1) = (keysS kvs).map Sum.inr := by
  have sh := h.sh
  clear h
  induction kvs with
  | nil => rfl
  | cons p r ih =>
    obtain ⟨z, i, rfl⟩ := sh p (List.mem_cons_self ..)
    show Sum.inr z :: r.map (·.1) = (z :: keysS r).map Sum.inr
    rw [List.map_cons, ih fun q hq => sh q (List.mem_cons_of_mem _ hq)]
theorem AD.klen {kvs : List (Key × V)} {f : Str → Option Int} (h : AD kvs f) : (keysS kvs).length = kvs.length := by
  have := congrArg List.length h.keys
  simpa using this.symm
theorem AD.knd {kvs : List (Key × V)} {f : Str → Option Int} (h : AD kvs f) : (keysS kvs).Nodup := by
  have nd := h.nd
  rw [h.keys] at nd
  exact List.Pairwise.imp (fun ne e => ne (congrArg Sum.inr e)) (List.pairwise_map.mp nd)
theorem AD.kin {kvs : List (Key × V)} {f : Str → Option Int} (h : AD kvs f) (z : Str) : z ∈ keysS kvs ↔ f z ≠ none := by
  constructor
  · intro hz
    have hm : (Sum.inr z : Key) ∈ kvs.map (·.1) := by rw [h.keys]; exact List.mem_map.mpr ⟨z, hz, rfl⟩
    obtain ⟨⟨k, v⟩, hp, e⟩ := List.mem_map.mp hm
    dsimp only at e
    subst e
    obtain ⟨z', n, e1, _, hf⟩ := h.mem hp
    cases e1
    rw [hf]; simp
  · intro hf
    cases q : f z with
    | none => exact absurd q hf
    | some n =>
      have hv := h.get z
      rw [q] at hv
      have hm := valV_in hv
      rw [h.keys] at hm
      obtain ⟨y, hy, e⟩ := List.mem_map.mp hm
      cases e
      exact hy
theorem nd_le : ∀ {l m : List Str}, l.Nodup → (∀ a ∈ l, a ∈ m) → l.length ≤ m.length
  | [], _, _, _ => Nat.zero_le _
  | a :: l, m, nd, h => by
    have ha := h a (List.mem_cons_self ..)
    rw [List.nodup_cons] at nd
    have q := nd_le (l := l) (m := m.erase a) nd.2 fun b hb => (List.mem_erase_of_ne (fun (e : b = a) => nd.1 (by rw [← e]; exact hb))).mpr (h b (List.mem_cons_of_mem _ hb))
    rw [List.length_erase_of_mem ha] at q
    have : 0 < m.length := List.length_pos_of_mem ha
    simp only [List.length_cons]
    omega
theorem AD.eq {ka kb : List (Key × V)} {f : Str → Option Int} (h : AD ka f) (h' : AD kb f) : (ka.length == kb.length && ka.all fun p => (valV kb p.1).elim false (eqV p.2)) = true := by
  rw [Bool.and_eq_true, beq_iff_eq, List.all_eq_true]
  constructor
  · have l1 := nd_le h.knd fun z hz => (h'.kin z).mpr ((h.kin z).mp hz)
    have l2 := nd_le h'.knd fun z hz => (h.kin z).mpr ((h'.kin z).mp hz)
    rw [h.klen, h'.klen] at l1
    rw [h.klen, h'.klen] at l2
    omega
  · rintro ⟨k, v⟩ hp
    obtain ⟨z, n, rfl, rfl, hf⟩ := h.mem hp
    show ((valV kb (Sum.inr z)).elim false (eqV (.int n))) = true
    rw [h'.get, hf]
    show (n == n) = true
    simp
end My
set_option Elab.async false
set_option linter.all false
set_option maxRecDepth 100000
set_option maxHeartbeats 1000000
namespace My
open PySem PySem.Spec PyProof.Rows L2
section
variable {prog : Program} {w : World} {A : Around} {s : Shared} {E Q : Value → Shared → Prop} {r : Addr} {n : Int} {t u v : Tok}
end
section
variable {X : Cx}
end
section
variable {σ : L2.St} {H : Hp} {D : Ends} {Q : VK} {g : TG} {tb : TS} {ta : TA} {j : Int} {p : Addr} {n : Nat}
end
end My
set_option Elab.async false
set_option linter.all false
set_option maxRecDepth 100000
set_option maxHeartbeats 1000000
namespace My
open PySem PySem.Spec PyProof.Rows L2
section
variable {K : PySem.W.Frag} {σ : L2.St} {H H' : Hp} {Q : VK} {D : Ends} {td ty tx tv : TE} {a b p : Addr} {kvs kb : List (Key × V)} {f : Str → Option Int} {z : Str} {n : Int} {v : V} {o : Obj}
def rDP (x y v : V) (H : Hp) (D : Ends) (σ : L2.St) : Prop := ∃ a H4, x = .ref a ∧ DPut H a y v H4 ∧ D.nx σ H4
theorem r_dp (h : tv σ H fun v H1 => td σ H1 fun x H2 => ty σ H2 fun y H3 => rDP x y v H3 D σ) : sDPut td ty tv D σ H := h
theorem r_dpk (e : H a = some (.dK kvs)) (hz : kvs.length < sizeLine) (h : D.nx σ (upd H a (.dK (putK kvs (Sum.inr z) v)))) : rDP (.ref a) (.str z) v H D σ := ⟨a, _, rfl, DPut.k (k := Sum.inr z) e hz, h⟩
theorem r_dnew (h : ∀ p, H p = none → Q (.ref p) (upd H p (.dK []))) : tDNewK σ H Q := h
theorem same_put {l : Addr} {u : HO} (s : Same H H') (n : H l = none) : Same H (upd H' l u) := fun b w q => by rw [upd_ne (ne_of_none q n)]; exact s b w q
end
end My
set_option Elab.async false
set_option linter.all false
set_option maxRecDepth 100000
set_option maxHeartbeats 1000000
namespace My
open PySem PySem.Spec PyProof.Rows L2
section
variable {X : Cx}
theorem ps_comp {elt iter : Expr} {x y : Str} {px py : Pos} {ifs : List Expr} {scope : Scope} {cl : List (Str × Addr)} {pos spos : Pos} {caps : List Nat} {cn : List Str} {wi : TI} {tt : CT TT} {te : CT TE} {j : Nat} (Cp : Caps X x scope cl caps cn) (hc : X.calm = true)
    (hN : X.N.Nodup) (hy : X.N[j]? = some y) (hly : X.env.scope.names.lookup y = some .local)
    (hi : PI X (.Name x px) iter wi) (ht : ∀ C s H fp, PIfs (cxC X (x :: cn) scope cl C s H fp) ifs (tt C s H fp)) (he : ∀ C s H fp, PE (cxC X (x :: cn) scope cl C s H fp) elt (te C s H fp))
    (hsw : swapsWith (.ListComp elt [⟨.Name x px, iter, ifs, 0⟩] scope pos) (some (.Name y py)) spos.line X.env = pure true := by rfl) (hs : ∀ x, foldedSetIterable iter X.env x = pure x := by intro _; rfl) :
    PS X (.Assign [.Name y py] (.ListComp elt [⟨.Name x px, iter, ifs, 0⟩] scope pos) spos) (tAsg (tComp wi caps tt te) (gName j)) := by
  intro pins s σ H D I h
  replace h : tComp wi caps tt te σ H (fun v H1 => D.nx (σ.set j (some v)) H1) := h
  rw [exec_Assign_Name_used _ _ _ _ hsw]
  refine wpAny_bind (wpAny_standAt (wpAny_bind ?_))
  show wpAny _ X.A (do let _ ← comprehension (.ListComp elt [⟨.Name x px, iter, ifs, 0⟩] scope pos) scope X.env _ (newList []) false (eval iter X.env) (some (assign (.Name y py) X.env))) _ _ s
  refine wpAny_bind (wpAny_mono (wpAny_comprehension_free (use := some (assign (.Name y py) X.env)) (Q := fun _ s' => SP X pins D .next s') rfl hs Cp.clos Cp.kind Cp.names
    (thn (hi pins s σ H _ I h) fun v s1 h1 => thn h1 fun itv s2 h2 => ?_)) (fun _ s' hq => wpAny_pure (wpAny_pure hq)) fun _ _ e => e)
  obtain ⟨it, fp, tn, J, H2, e, I2, T, st2, f2, R⟩ := h2
  subst e
  have hacc : H2 s2.heap.objs.size = none := I2.hok.fresh (Nat.le_refl _)
  refine wpAny_newObj_type ?_
  have I3 : Inv X pins σ (upd H2 s2.heap.objs.size (.lst [])) { s2 with heap := s2.heap.push { cls := .type "list", dict := none, data := .seq ([] : List Value).toArray } } := Inv.lnew (its := []) (t' := s2.toks) I2 .nil (Nat.zero_le _)
  have lt2 : ∀ b ∈ fp, b < s2.heap.objs.size := fun b hb => let ⟨o, e, _⟩ := T.obj _ _ st2 b hb; Heap.lt_size e
  have f3 : ∀ b ∈ fp, FpOk X pins (upd H2 s2.heap.objs.size (.lst [])) b := fun b hb => ⟨by rw [upd_ne (Nat.ne_of_lt (lt2 b hb))]; exact (f2 b hb).1, (f2 b hb).2⟩
  have st3 : tn 0 (s2.heap.push { cls := .type "list", dict := none, data := .seq ([] : List Value).toArray }) := T.keep _ _ _ st2 fun b _ o e => Heap.get?_push_of_some _ e
  generalize hs3 : ({ s2 with heap := s2.heap.push { cls := .type "list", dict := none, data := .seq ([] : List Value).toArray } } : Shared) = s3 at I3 ⊢
  have st3' : tn 0 s3.heap := by rw [← hs3]; exact st3
  generalize s2.heap.objs.size = acc at hacc I3 f3 ⊢
  obtain ⟨W, ⟨m0, w0⟩, turn⟩ := R s3.heap.objs.size s3 (upd H2 acc (.lst [])) fp acc hacc
  have lt3 : ∀ b ∈ fp, b < s3.heap.objs.size := fun b hb => let ⟨o, e, _⟩ := T.obj _ _ st3' b hb; Heap.lt_size e
  clear st3 hs3
  refine wpAny_newFunctionEnv Cp.cell (by intro y hy; simp at hy) (fun h₁ hns hsb => ?_) Cp.kind
  have k1 : ∀ b o, s3.heap.get? b = some o → h₁.get? b = some o := fun b o e => hsb.extBut b o (Nat.ne_of_lt (Heap.lt_size e)) (Heap.get?_push_of_some _ e)
  have I4 : Inv (cxC X (x :: cn) scope cl s3.heap.objs.size s3 (upd H2 acc (.lst [])) fp) [] (none :: capsOf caps σ) (upd H2 acc (.lst [])) { s3 with heap := h₁, toks := s3.toks + ([] : List (Str × Value)).length } :=
    Inv.comp Cp I3 f3 lt3 hns k1
  have st4 : tn 0 h₁ := T.keep _ _ _ st3' fun b _ o e => k1 b o e
  generalize hX : cxC X (x :: cn) scope cl s3.heap.objs.size s3 (upd H2 acc (.lst [])) fp = X' at I4
  have stat : ∀ {H' : Hp}, (∀ b ∈ fp, H' b = none) → ∀ b ∈ fp, FpOk X' [] H' b := fun hn b hb => by
    subst hX
    obtain ⟨g0, g1, g2, g3, g4, g5⟩ := f3 b hb
    refine ⟨hn b hb, Nat.ne_of_lt (lt3 b hb), fun z => ?_, .inl hb, fun y c e => g4 y c (Cp.sub y c e), fun p hp => absurd (show p ∈ ([] : List (Addr × Obj)) from hp) (by simp)⟩
    rcases List.mem_cons.mp (I3.stkSub b z) with z | z
    · exact g1 z
    · exact g2 z
  have core : codeAny (model X.prog X.w) X.A (.compLoop (.ListComp elt [⟨.Name x px, iter, ifs, 0⟩] scope pos) 0 (.ref it) (.ref acc) (compEnvC scope cl s3.heap.objs.size X.env))
      (compPost (model X.prog X.w) X.A X.xe (some (assign (.Name y py) X.env)) (fun _ s' => SP X pins D .next s') (.ref acc) s3.heap.objs.size) { s3 with heap := h₁, toks := s3.toks + ([] : List (Str × Value)).length } := by
    refine codeAny_loop rfl (fun n s' => ∃ i a H', Inv X' [] (a :: capsOf caps σ) H' s' ∧ tn i s'.heap ∧ (∀ b ∈ fp, H' b = none) ∧ W i n H') (fun n s5 hI => ?_) m0 ⟨0, none, _, I4, st4, fun b hb => (f3 b hb).1, w0⟩
    obtain ⟨i, a0, H5, I5, st5, fr5, w5⟩ := hI
    show wpAny _ _ ((compTurn _ 0 _ _ _).onRaise _) _ _ s5
    refine wpAny_noted ?_
    rw [compTurn_list]
    refine wpAny_bind (wpAny_standAt (wpAny_bind ?_))
    have aX : X'.A = X.A := by subst hX; rfl
    have pX : X'.prog = X.prog := by subst hX; rfl
    have wX : X'.w = X.w := by subst hX; rfl
    have kX : X'.K = X.K := by subst hX; rfl
    have cX : X'.calm = true := by subst hX; exact hc
    have eX : X'.env = compEnvC scope cl s3.heap.objs.size X.env := by subst hX; rfl
    rcases turn i n H5 w5 with ⟨stop, qn⟩ | ⟨go, N, hN, step⟩
    · have z := T.done X' pX wX kX cX i [] s5 _ H5 (fun _ _ => False) I5 (stat fr5) st5 stop
      rw [aX] at z
      refine wpAny_mono z (fun r s6 ⟨hr, I6⟩ => ?_) fun _ _ q => q.elim
      subst hr
      subst hX
      obtain ⟨m, hm, _⟩ := id I6.loc
      have J0 : Inv X pins σ H5 s6 := Inv.uncomp I3 f3 rfl I6 (h' := s6.heap) ⟨rfl, fun _ _ => rfl⟩
      have fC : FpOk X pins H5 s3.heap.objs.size := I3.fpOk (Nat.le_refl _) I6.free
      refine wpAny_pure ?_
      show wpAny _ X.A (assign (.Name y py) X.env (.ref acc)) _ _ s6
      refine wpAny_assign_Name (store_ok2 (X := X) (v := .ref acc) J0 hN hy (.inl hly) rfl (fun s7 I7 ⟨a, sb, ha⟩ => ?_) (.inr hly))
      have nC : s3.heap.objs.size ≠ a := by
        rcases ha with rfl | ha
        · exact fC.2.1
        · exact (fC.2.2.2.2.1 y a ha).symm
      refine ⟨m, hm.sameBut sb nC, fun h' sb' => ⟨_, H5, ?_, qn⟩⟩
      exact I7.turned (t' := s7.toks) (fun b o hb e => (sb'.2 b hb).trans e) fC.1 fC.2.1 fC.2.2.2.1 fC.2.2.2.2.1 fC.2.2.2.2.2
    · have z := T.item X' pX wX kX cX i [] s5 _ H5 (fun _ _ => False) I5 (stat fr5) st5 go
      rw [aX] at z
      refine wpAny_mono z (fun r s6 ⟨u, hr, h6⟩ => ?_) fun _ _ q => q.elim
      subst hr
      refine wpAny_bind (wpAny_mono h6 (fun _ s7 ⟨v, H7, I7, r7, y7, st7, fr7⟩ => ?_) fun _ _ q => q.elim)
      have I7' := I7.pinned (stat fr7) (T.obj _ _ st7)
      have asg : wpAny (model X.prog X.w) X.A (assign (.Name x px) (compEnvC scope cl s3.heap.objs.size X.env) u) (fun _ s8 => Inv X' ([] ++ pinsAt fp s7.heap) (some v :: capsOf caps σ) H7 s8) (fun _ _ => False) s7 := by
        subst hX
        exact wpAny_assign_Name (store_ok (X := cxC X (x :: cn) scope cl s3.heap.objs.size s3 (upd H2 acc (.lst [])) fp) (i := 0) I7' Cp.nd rfl (.inl (lookup_relabel_local Cp.tg)) r7 (fun s' I' => I') (.inr (lookup_relabel_local Cp.tg)))
      refine wpAny_bind (wpAny_mono asg (fun _ s8 I8 => ?_) fun _ _ q => q.elim)
      have tst : wpAny (model X.prog X.w) X.A (forIn ifs true fun c r => if r = true then do let ok ← isTrue c (compEnvC scope cl s3.heap.objs.size X.env) (eval c (compEnvC scope cl s3.heap.objs.size X.env)); pure (ForInStep.yield ok) else pure (ForInStep.yield r))
          (TP X' ([] ++ pinsAt fp s7.heap) (some v :: capsOf caps σ) (fun b H9 => if b = true then te s3.heap.objs.size s3 (upd H2 acc (.lst [])) fp (some v :: capsOf caps σ) H9 (fun y H3 => rApp acc N y H3) else N H9)) (fun _ _ => False) s8 := by
        subst hX
        exact ht _ _ _ _ _ s8 _ H7 _ I8 (step v H7 y7)
      refine wpAny_bind (wpAny_mono tst (fun b s9 ⟨H9, I9, q9⟩ => ?_) fun _ _ q => q.elim)
      have fin : ∀ {a : Option V} {H10 : Hp} {s10 : Shared}, Inv X' ([] ++ pinsAt fp s7.heap) (a :: capsOf caps σ) H10 s10 → N H10 → ∃ m', m' < n ∧ ∃ i a H', Inv X' [] (a :: capsOf caps σ) H' s10 ∧ tn i s10.heap ∧ (∀ b ∈ fp, H' b = none) ∧ W i m' H' := fun {a H10 s10} I10 n10 =>
        let ⟨m', hm, w10⟩ := hN _ n10
        ⟨m', hm, i + 1, a, H10, I10.unpinned, T.keep _ _ _ st7 fun b hb o e => (I10.pin (b, o) (List.mem_append_right _ (List.mem_append_right _ (mem_pinsAt hb e)))).1, fun b hb => by
          obtain ⟨o, e, d⟩ := T.obj _ _ st7 b hb
          exact (I10.pin (b, o) (List.mem_append_right _ (List.mem_append_right _ (mem_pinsAt hb e)))).2.1, w10⟩
      cases b with
      | false => exact wpAny_pure ⟨rfl, fin I9 q9⟩
      | true =>
        have elt' : wpAny (model X.prog X.w) X.A (eval elt (compEnvC scope cl s3.heap.objs.size X.env)) (EP X' ([] ++ pinsAt fp s7.heap) (some v :: capsOf caps σ) (fun y H3 => rApp acc N y H3)) (fun _ _ => False) s9 := by
          subst hX
          exact he _ _ _ _ _ s9 _ H9 _ I9 q9
        refine wpAny_bind (wpAny_bind (wpAny_mono elt' (fun y s10 ⟨w, H10, I10, r10, ys, ha, hz, q10⟩ => ?_) fun _ _ q => q.elim))
        have app : wpAny (model X.prog X.w) X.A (call (.builtin "list.append") [.ref acc, y]) (EP X' ([] ++ pinsAt fp s7.heap) (some v :: capsOf caps σ) fun _ H11 => H11 = upd H10 acc (.lst (ys ++ [w]))) (fun _ _ => False) s10 := by
          subst hX
          exact mt_append (X := cxC X (x :: cn) scope cl s3.heap.objs.size s3 (upd H2 acc (.lst [])) fp) _ s10 _ H10 (.ref acc) [w] (.ref acc) [y] _ I10 rfl (.cons r10 .nil) ⟨acc, ys, w, rfl, rfl, ha, hz, rfl⟩
        refine wpAny_bind (wpAny_mono app (fun _ s11 ⟨_, H11, I11, _, e11⟩ => ?_) fun _ _ q => q.elim)
        subst e11
        exact wpAny_pure (wpAny_pure ⟨rfl, fin I11 q10⟩)
  exact codeAny_compStart_list core (T.self _ 0 _ _ _ st4 core)
end
end My
set_option Elab.async false
set_option linter.all false
set_option maxRecDepth 100000
set_option maxHeartbeats 1000000
namespace My
open PySem PySem.Spec PyProof.Rows L2
section
variable {X : Cx} {pins : List (Addr × Obj)} {σ : L2.St} {H : Hp} {s : Shared} {h' : Heap}
end
section
variable {K : PySem.W.Frag} {σ : L2.St} {H : Hp} {D : Ends} {g : TG} {tb : TS} {ta : TA} {l1 l2 : Addr} {xs ys : List V}
end
end My
set_option Elab.async false
set_option linter.all false
set_option maxRecDepth 100000
set_option maxHeartbeats 1000000
namespace My
open PySem PySem.Spec PyProof.Rows L2
section
variable {prog : Program} {w : World} {A : Around} {E : Value → Shared → Prop} {s : Shared}
theorem set_exact {l : Addr} {items : Array Value} {n : Nat} {k : Int} {t : Tok} {v : Value} {Q : Unit → Shared → Prop} (ho : s.heap.get? l = some { cls := .type "list", data := .seq items n }) (h0 : 0 ≤ k) (hk : k < items.size) (hfit : k < 2 ^ 63)
    (q : Q () { s with heap := s.heap.update l (Obj.mapSeq fun a => a.setIfInBounds k.toNat v) }) : wpAny (model prog w) A (setItem (.ref l) (.int k t) v) Q E s := by
  have hT : s.TypeIs (.ref l) "list" := ⟨_, ho, rfl⟩
  unfold setItem
  try with_reducible refine wpAny_holding ?_
  first | refine wpAny_bind (wpAny_pure ?_) | skip
  refine wpAny_bind (wpAny_sequenceKey hT (by decide) ?_)
  refine wpAny_bind (wpAny_callSpecial?_slot (name := Str.ofString "__setitem__") hT slot_list_setitem (wpAny_call_entry slot_list_setitem hT entry_list_setitem ?_ (args_list_setitem _ _ _)))
  show wpAny _ _ (Builtin.List.listSubscript? (.int k t) >>= _) _ _ s
  refine wpAny_bind (wpAny_listSubscript_int (fitsIndex_of h0 hfit) ?_)
  clear hfit
  obtain ⟨j, rfl⟩ := Int.eq_ofNat_of_zero_le h0
  have hj : j < items.size := by omega
  have hx : items[j]? = some items[j] := Array.getElem?_eq_getElem hj
  show wpAny _ _ ((seqItemAt l j >>= fun r => pure (r.map (j, ·))) >>= _) _ _ s
  refine wpAny_bind (wpAny_bind (wpAny_seqItemAt ho rfl (wpAny_pure ?_)))
  rw [hx]
  show wpAny _ _ (setSeqItemAt l j v >>= _) _ _ s
  refine wpAny_bind (wpAny_setSeqItemAt ho rfl ?_)
  first
  | exact wpAny_bind (wpAny_pure (wpAny_pure ⟨.none, rfl, wpAny_pure q⟩))
  | exact wpAny_pure ⟨.none, rfl, wpAny_pure q⟩
end
def rLP (x y v : V) (H : Hp) (D : Ends) (σ : L2.St) : Prop := ∃ l xs k, x = .ref l ∧ y = .int (k : Nat) ∧ H l = some (.lst xs) ∧ k < xs.length ∧ D.nx σ (upd H l (.lst (xs.set k v)))
def sLPut (td ty tv : TE) : TS := fun D σ H => tv σ H fun v H1 => td σ H1 fun x H2 => ty σ H2 fun y H3 => rLP x y v H3 D σ
theorem ps_lput {X : Cx} {o i value : Expr} {pos pos' : Pos} {td ty tv : TE} (ho : PE X o td) (hi : PE X i ty) (hv : PE X value tv) (hs : swapsWith value (some (.Subscript o i pos')) pos.line X.env = pure false) : PS X (.Assign [.Subscript o i pos'] value pos) (sLPut td ty tv) := by
  intro pins s σ H D I h
  refine wpAny_Assign_Subscript (thn (hv pins s σ H _ I h) fun r s1 ⟨v, H1, I1, rv, q1⟩ => thn (ho pins s1 σ H1 _ I1 q1) fun u s2 ⟨x, H2, I2, rx, q2⟩ => thn (hi pins s2 σ H2 _ I2 q2) fun iv s3 ⟨y, H3, I3, ry, q3⟩ => ?_) hs
  obtain ⟨l, xs, k, rfl, rfl, hl, hk, q⟩ := q3
  obtain rfl : u = Value.ref l := rx
  obtain ⟨t, rfl⟩ := ry
  obtain ⟨z, its, n, rr, hlen, e⟩ := I3.lstM hl
  have hz : xs.length ≤ 16777216 := z
  refine set_exact e (Int.natCast_nonneg k) (by simp; omega) (by omega) ?_
  rw [Int.toNat_natCast]
  exact ⟨σ, _, I3.lset (its' := its.set k r) (ys := xs.set k v) (t' := s3.toks) hl e (by simp) (rr.set rv k) (by rw [List.length_set]; exact z), q⟩
section
variable {X : Cx}
end
section
variable {K : PySem.W.Frag} {σ : L2.St} {H : Hp} {Q : VK} {D : Ends} {td ty tv t1 t2 : TE} {l : Addr} {xs : List V} {ss : List Str} {k : Nat} {v : V} {z : Str} {i j : Int}
theorem r_lp (h : tv σ H fun v H1 => td σ H1 fun x H2 => ty σ H2 fun y H3 => rLP x y v H3 D σ) : sLPut td ty tv D σ H := h
theorem r_lpk (e : H l = some (.lst xs)) (hk : k < xs.length) (h : D.nx σ (upd H l (.lst (xs.set k v)))) {y : Int} (ey : y = (k : Int)) : rLP (.ref l) (.int y) v H D σ := by subst ey; exact ⟨l, xs, k, rfl, rfl, e, hk, h⟩
end
end My
set_option Elab.async false
set_option linter.all false
set_option maxRecDepth 100000
set_option maxHeartbeats 1000000
namespace My
open PySem PySem.Spec PyProof.Rows L2
section
variable {K : PySem.W.Frag} {σ : L2.St} {H : Hp} {Q : VK} {D : Ends} {ta tv : TE} {t : TA} {a C dx : Addr} {fs : List (Str × V)} {f m : Str} {v y : V} {sp : Sp} {dvs : List V} {E : XK}
end
structure IsC (K : PySem.W.Frag) (C : Addr) : Prop where
  ha : PySem.W.findIn K (.ref C) "__class__" = some (some (.builtin "object.__class__"))
  hn : PySem.W.specialIn K (.builtin "object.__class__") "__get__" = some (some (.builtin "getset_descriptor.__get__"))
  htk : PySem.W.takesIn K (.builtin "object.__class__") = some true
  hm : PySem.W.mroIn K C (.type "object") = some true
end My
set_option Elab.async false
set_option linter.all false
set_option maxRecDepth 100000
set_option maxHeartbeats 1000000
namespace My
open PySem PySem.Spec PyProof.Rows L2
section
variable {X : Cx} {k : Nat} {f C : Addr} {fd : FuncData} {ps : List Str} {sp : Sp} {dvs : List V} {ds : List Value} {W : L2.St → XK} {x m : Str} {p pos apos : Pos} {e o : Expr} {es : List Expr} {ta : TE} {t : TA}
end
structure FunD (K : PySem.W.Frag) (x qual : Str) (st : Stmt) (f : Addr) (fd : FuncData) (T : Addr) (items : Array Value) : Prop where
  ex : ∃ (oc : Value) (od : Option Addr) (kV doc pm : Value) (an : Option Addr) (cdv ct : Value) (osl : Array (Option Value)),
    fd = PySem.W.fnOf x qual (defArgs st) (defBody st) (defScope st) (.ref T) kV doc pm an cdv ct ∧ K.lookup f = some ⟨oc, od, .func fd, osl⟩ ∧ PySem.W.codeIn K cdv qual = true
  kp : PySem.W.keepIn K (.ref f) = true
  tup : ∃ (o : Obj) (n : Nat), K.lookup T = some o ∧ o.data = .seq items n
section
variable {P : Program} {w : World} {K : PySem.W.Frag} {mg : Str → Option Value} {base : Heap} {x qual : Str} {st : Stmt} {f T : Addr} {fd : FuncData} {N ps : List Str} {k : Nat} {sp : Sp} {items : Array Value}
end
section
variable {K : PySem.W.Frag} {σ : L2.St} {H : Hp} {Q : VK} {ta : TE} {t : TA} {a C dx : Addr} {fs : List (Str × V)} {m : Str} {sp : Sp} {dvs : List V} {W : L2.St → XK}
end
end My
set_option Elab.async false
set_option linter.all false
set_option maxRecDepth 100000
set_option maxHeartbeats 1000000
namespace My
open PySem PySem.Spec PyProof.Rows L2
section
variable {prog : Program} {w : World} {A : Around} {E : Value → Shared → Prop} {s : Shared} {it l : Addr} {its : Array Value}
end
section
variable {X : Cx}
end
section
variable {K : PySem.W.Frag} {σ : L2.St} {H : Hp} {Q : VK} {ta : TA} {p : Addr} {ys : List V}
end
end My
set_option Elab.async false
set_option linter.all false
set_option maxRecDepth 100000
set_option maxHeartbeats 1000000
namespace My
open PySem PySem.Spec PyProof.Rows L2
section
variable {prog : Program} {w : World} {A : Around} {E : Value → Shared → Prop}
theorem drawL {j l : Addr} {xs : List Value} (ne : l ≠ j) : ∀ (todo : List Value) (i : Nat) (s : Shared) (Q : List Value → Shared → Prop), xs.drop i = todo → s.heap.IsListIter j l i → s.heap.IsList l xs.toArray →
    (∀ h', h'.IsListIter j l (i + todo.length) → (∀ b o, b ≠ j → s.heap.get? b = some o → h'.get? b = some o) → Q todo { s with heap := h' }) → wpAny (model prog w) A (draw (.ref j) todo.length) Q E s
  | [], i, s, Q, _, st, _, q => by
    show wpAny _ _ (pure []) _ _ _
    exact wpAny_pure (q s.heap st fun _ _ _ e => e)
  | x :: todo, i, s, Q, hd, st, hl, q => by
    have hx : xs[i]? = some x := by
      have z := congrArg (fun l => l[0]?) hd
      simpa using z
    have hd2 : xs.drop (i + 1) = todo := by
      have z := congrArg (List.drop 1) hd
      simpa [List.drop_drop] using z
    show wpAny _ _ (pyNext (.ref j) >>= _) _ _ _
    refine wpAny_bind (wpAny_pyNext_list_item st hl (x := x) (by simpa using hx) fun h1 st1 sb => ?_)
    have kp : ∀ b o, b ≠ j → s.heap.get? b = some o → h1.get? b = some o := fun b o hb e => (sb.2 b hb).trans e
    refine wpAny_bind (wpAny_holding (drawL ne todo (i + 1) _ _ hd2 st1 (hl.at fun o e => kp _ o ne e) fun h2 st2 kp2 => wpAny_pure ?_))
    refine q h2 ?_ fun b o hb e => kp2 b o hb (kp b o hb e)
    rw [List.length_cons, show i + (todo.length + 1) = i + 1 + todo.length by omega]
    exact st2
theorem assignL {s : Shared} {env : Env} {elts : List Expr} {x1} {pos : Pos} {l : Addr} {xs : List Value} {Q : Unit → Shared → Prop} (calm : A.handled = none) (hl : s.heap.IsList l xs.toArray) (hn : (assignEach elts env).length = xs.length) (hst : (assignEach elts env).findIdx? (·.1) = none)
    (q : ∀ h', (∀ b o, s.heap.get? b = some o → h'.get? b = some o) → wpAny (model prog w) A (assignInOrder ((assignEach elts env).map (·.2)) xs) Q E { s with heap := h' }) : wpAny (model prog w) A (assign (.Tuple elts x1 pos) env (.ref l)) Q E s := by
  have ne : l ≠ s.heap.objs.size := by obtain ⟨o, ho, _⟩ := hl; exact Nat.ne_of_lt (Heap.lt_size ho)
  rw [assign_Tuple]
  refine wpAny_bind (wpAny_standAt ?_)
  unfold unpack
  rw [hn, hst]
  refine wpAny_bind (wpAny_holding ?_)
  unfold unpackItems notIterableAtAll
  refine wpAny_bind (wpAny_bind (wpAny_specialOf hl.typeIs F.slot_list_iter.lookup (wpAny_pure ?_)))
  simp only [Bool.false_eq_true, if_false]
  have hl1 : (s.heap.push { cls := .type "list_iterator", data := .fields #[.ref l, .int 0 0] }).IsList l xs.toArray := hl.at fun o e => Heap.get?_push_of_some _ e
  refine wpAny_bind (wpAny_holding (wpAny_pyIter_list hl (wpAny_bind (wpAny_holding (drawL ne xs 0 _ _ (by simp) ⟨_, Heap.get?_push_size _ rfl, rfl, rfl⟩ hl1 fun h1 st1 kp => ?_)))))
  rw [if_neg (Nat.lt_irrefl _)]
  refine wpAny_bind (wpAny_holding (wpAny_pyNext_list_end calm st1 (hl1.at fun o e => kp _ o ne e) (by simp) fun h2 kp2 => ?_))
  simp only [Option.isSome_none, Bool.false_eq_true, if_false]
  refine wpAny_pure (q h2 fun b o e => ?_)
  have nb : b ≠ s.heap.objs.size := Nat.ne_of_lt (Heap.lt_size e)
  exact kp2 b o nb (kp b o nb (Heap.get?_push_of_some _ e))
end
section
variable {X : Cx} {pos : Pos}
def gLst (K : PySem.W.Frag) (n : Nat) (t : TGs) : TG := fun v σ H Q => ∃ a xs, v = .ref a ∧ SqL K H a xs ∧ xs.length = n ∧ t xs σ H Q
theorem pg_lst {es : List Expr} {k : Nat} {t : TGs} {n : Nat} (hc : X.calm = true) (h : PGs X es t) (hn : (assignEach es X.env).length = n := by rfl) (hst : (assignEach es X.env).findIdx? (·.1) = none := by rfl) : PG X (.Tuple es k pos) (gLst X.K n t) := by
  intro pins s σ H v u Q I r hw
  obtain ⟨a, xs, rfl, hq, hl, hw⟩ := hw
  cases r
  obtain ⟨ws, rv, pl, _⟩ := I.list hq
  refine assignL (I.ok.hd hc) (PlainL.isList pl) (by rw [hn, ← hl, rv.length]) hst fun h' kp => ?_
  exact h pins _ σ H xs _ Q (I.kept (t' := s.toks) kp) rv hw
end
theorem r_glst {K : PySem.W.Frag} {σ : L2.St} {H : Hp} {a : Addr} {xs : List V} {n : Nat} {t : TGs} {Q : L2.St → Hp → Prop} (s : SqL K H a xs) (hn : xs.length = n) (h : t xs σ H Q) : gLst K n t (.ref a) σ H Q := ⟨a, xs, rfl, s, hn, h⟩
end My
set_option Elab.async false
set_option linter.all false
set_option maxRecDepth 100000
set_option maxHeartbeats 1000000
namespace My
open PySem PySem.Spec PyProof.Rows L2
end My
set_option Elab.async false
set_option linter.all false
set_option maxRecDepth 100000
set_option maxHeartbeats 1000000
namespace My
open PySem PySem.Spec PyProof.Rows L2
section
variable {P : Program} {w : World} {K : PySem.W.Frag} {mg : Str → Option Value} {base : Heap} {x qual : Str} {st : Stmt} {f T : Addr} {fd : FuncData} {N ps : List Str} {k : Nat} {sp : Sp} {items : Array Value}
end
end My
set_option Elab.async false
set_option linter.all false
set_option maxRecDepth 100000
set_option maxHeartbeats 1000000
namespace My
open PySem PySem.Spec PyProof.Rows L2
section
variable {K : PySem.W.Frag} {σ : L2.St} {H H' : Hp} {Q : VK} {D : Ends} {a h : Addr} {hs : List (Str × Addr)} {z : Str}
end
end My
set_option Elab.async false
set_option linter.all false
set_option maxRecDepth 100000
set_option maxHeartbeats 1000000
set_option exponentiation.threshold 2000
namespace My
open PySem PySem.Spec PyProof.Rows L2
section
variable {X : Cx}
end
section
variable {σ : L2.St} {H : Hp} {Q : VK} {te : TE} {i : Int}
end
end My
set_option Elab.async false
set_option linter.all false
set_option maxRecDepth 100000
set_option maxHeartbeats 3200000
namespace My
open PySem PySem.Spec PyProof.Rows L2
section
variable {P : Program} {w : World} {A : Around}
end
section
variable {X : Cx}
end
section
variable {P : Program} {w : World} {K : PySem.W.Frag} {H : Hp} {Q : VK}
end
end My
set_option Elab.async false
set_option linter.all false
set_option maxRecDepth 100000
set_option maxHeartbeats 1000000
namespace My
open PySem PySem.Spec PyProof.Rows L2
section
variable {X : Cx}
end
section
variable {σ : L2.St} {H : Hp} {D : Ends} {g : TG} {tb : TS} {tl : TE} {a : Addr} {o : Obj} {kvs : List (Key × V)} {Q : VK}
end
section
variable {X : Cx}
end
end My
set_option Elab.async false
set_option linter.all false
set_option maxRecDepth 100000
set_option maxHeartbeats 1000000
namespace My
open PySem PySem.Spec PyProof.Rows L2
section
variable {X : Cx}
end
section
variable {σ : L2.St} {H : Hp} {tl : TE} {a : Addr} {kvs : List (Key × V)} {Q : VK}
end
end My
set_option Elab.async false
set_option linter.all false
set_option maxRecDepth 100000
namespace My
open PySem PySem.Spec PyProof.Rows L2 PyProof
section
variable {X : Cx}
end
end My
set_option Elab.async false
set_option linter.all false
set_option maxRecDepth 100000
namespace My
open PySem PySem.Spec PyProof.Rows L2
section
variable {X : Cx}
end
end My
set_option Elab.async false
set_option linter.all false
set_option maxRecDepth 100000
namespace My
open PySem PySem.Spec PyProof.Rows L2
section
variable {X : Cx}
inductive OddV (K : PySem.W.Frag) (H : Hp) : V → Prop
  | non : OddV K H .non
  | bl (b : Bool) : OddV K H (.bl b)
  | int (i : Int) : OddV K H (.int i)
  | lst {a : Addr} {xs : List V} (h : SqL K H a xs) : OddV K H (.ref a)
  | tup {a : Addr} {xs : List V} (h : SqT K H a xs) : OddV K H (.ref a)
  | dct {a : Addr} {kvs : List (Key × V)} (h : H a = some (.dK kvs)) : OddV K H (.ref a)
end
section
variable {K : PySem.W.Frag} {H : Hp} {Q : VK}
end
end My
set_option Elab.async false
set_option linter.all false
set_option maxRecDepth 100000
set_option maxHeartbeats 1000000
namespace My
open PySem PySem.Spec PyProof.Rows L2
def ItrS (lo : Int) (n : Nat) : It := ⟨fun i _ => i < n, fun i H x H' => H' = H ∧ x = .int (lo + i * 2), fun i _ => n ≤ i⟩
theorem turn_rngS {P : Program} {w : World} {K : PySem.W.Frag} {tg : Expr} (it : Addr) (lo : Int) (n : Nat) : Turn P w K tg (ItrS lo n) [it] it (fun i h => IsRangeIter h it (lo + (i : Nat) * 2) ((n : Int) - (i : Nat)) 2) where
  mem := by simp
  obj := fun i h st b hb => by
    have e : b = it := by simpa using hb
    subst e
    exact ⟨_, st, fun v z => by have z' : Data.fields _ = Data.cell v := z; cases z'⟩
  keep := fun i h h' st k => k it (by simp) _ st
  item := by
    intro X hP hw hK hc i pins s σ H E I hf st hg
    subst hP hw hK
    obtain ⟨f0, f1, f2, f3, f4, f5⟩ := hf it (by simp)
    have W := Walks.range (prog := X.prog) (w := X.w) (I.ok.hd hc) it lo 2 n
    refine W.item i s _ _ hg st fun v h' tk hv st' kk => ?_
    obtain ⟨t, rfl⟩ := hv
    have I1 : Inv X pins σ H { s with heap := h', toks := tk } := I.turned (fun b o hb e => kk b o (by simpa using hb) e) f0 f1 f3 f4 f5
    exact ⟨_, rfl, go_of (s := { s with heap := h', toks := tk }) (n := "range_iterator") st' rfl rfl (by decide) ⟨.int (lo + i * 2), H, I1, ⟨t, rfl⟩, ⟨rfl, rfl⟩, st', fun b hb => (hf b hb).1⟩⟩
  done := by
    intro X hP hw hK hc i pins s σ H E I hf st hg
    subst hP hw hK
    obtain ⟨f0, f1, f2, f3, f4, f5⟩ := hf it (by simp)
    exact wpAny_pyNext_range_end (I.ok.hd hc) st (by have : n ≤ i := hg; omega) fun h' eb => ⟨rfl, I.turned (t' := s.toks) (fun b o hb e => eb b o hb e) f0 f1 f3 f4 f5⟩
  self := fun _ _ _ _ _ st h => wpAny_pyIter_rangeiter st h
def cntS (i j : Int) : Nat := ((j - i + 1) / 2).toNat
theorem cntS_size {i j : Int} : Builtin.Range.rangeSize i j 2 = ((cntS i j : Nat) : Int) := by
  unfold Builtin.Range.rangeSize cntS
  rw [if_pos (by decide)]
  split <;> omega
def rItS2 (vs : List V) (H : Hp) (R : It → Hp → Prop) : Prop := ∃ i j : Int, vs = [.int i, .int j, .int 2] ∧ (-(2 ^ 30) ≤ i ∧ i < 2 ^ 30 ∧ -(2 ^ 30) ≤ j ∧ j < 2 ^ 30) ∧ R (ItrS i (cntS i j)) H
def iRng3 (ta : TA) : TI := fun σ H R => ta σ H fun vs H1 => rItS2 vs H1 R
section
variable {X : Cx} {tg : Expr}
theorem pi_range3 {a b c : Expr} {ta : TA} {p pos : Pos} (hg : Gl X "range") (hm : X.mg "range" = none) (ha : PA X [a, b, c] ta) (hs : starEach [a, b, c] X.env = [(false, eval a X.env), (false, eval b X.env), (false, eval c X.env)] := by rfl) (hs2 : starEach [b, c] X.env = [(false, eval b X.env), (false, eval c X.env)] := by rfl) :
    PI X tg (.Call (.Name "range" p) [a, b, c] [] pos) (iRng3 ta) := by
  intro pins s σ H R I h
  refine Call_ (ld_blt I hg hm boot_range (PyProof.Rows.callWith_type1 (thn (ha pos pins s σ H _ I h) fun us s1 ⟨vs, H1, I1, r1, q1⟩ => ?_) (by rw [hs, hs2]) (by rw [hs2]; rfl)))
  obtain ⟨i, j, e, ⟨q1, q2, q3, q4⟩, q⟩ := q1
  subst e
  cases r1 with
  | cons r rr =>
    cases rr with
    | cons r' rr =>
      cases rr with
      | cons r'' rr =>
        cases rr
        obtain ⟨t, rfl⟩ := r
        obtain ⟨t', rfl⟩ := r'
        obtain ⟨t'', rfl⟩ := r''
        refine call_range_3 (by decide) ?_ (Or.inl (PyProof.noPylong_small (by decide)))
        have sm : Builtin.Range.small i j 2 = true := by
          unfold Builtin.Range.small
          rw [cntS_size]
          unfold cntS
          simp only [Builtin.Range.rangeFitsLong, Bool.and_eq_true, Bool.or_eq_true, decide_eq_true_eq, beq_iff_eq, show (2 : Int) > 0 by decide, if_true]
          omega
        refine wpAny_pyIter_range (IsRange.new ..) sm ?_
        have I2 : Inv X pins σ H1 { s1 with heap := s1.heap.push { cls := .type "range", data := .fields #[.int i t, .int j t', .int 2 t''] }, toks := s1.toks } := I1.kept fun b o e => Heap.get?_push_of_some _ e
        refine ⟨(s1.heap.push { cls := .type "range", data := .fields #[.int i t, .int j t', .int 2 t''] }).objs.size, [(s1.heap.push { cls := .type "range", data := .fields #[.int i t, .int j t', .int 2 t''] }).objs.size], _, _, H1, rfl,
          I2.kept (t' := s1.toks) fun b o e => Heap.get?_push_of_some _ e, turn_rngS _ i (cntS i j), ?_, fun b hb => ?_, q⟩
        · have e1 : i + ((0 : Nat) : Int) * 2 = i := by simp
          have e2 : ((cntS i j : Nat) : Int) - ((0 : Nat) : Int) = Builtin.Range.rangeSize i j 2 := by rw [cntS_size]; simp
          show IsRangeIter _ _ (i + ((0 : Nat) : Int) * 2) (((cntS i j : Nat) : Int) - ((0 : Nat) : Int)) 2
          rw [e1, e2]
          exact Heap.get?_push_size _ rfl
        · have e : b = (s1.heap.push { cls := .type "range", data := .fields #[.int i t, .int j t', .int 2 t''] }).objs.size := by simpa using hb
          subst e
          exact I2.fpOk (Nat.le_refl _) (I2.hok.fresh (Nat.le_refl _))
def iLT (K : PySem.W.Frag) (tl : TE) : TI := fun σ H R => iList K tl σ H R ∨ iTup K tl σ H R
theorem pi_lt {l : Expr} {tl : TE} (hl : PE X l tl) : PI X tg l (iLT X.K tl) := by
  intro pins s σ H R I h
  rcases h with h | h
  · exact pi_list hl pins s σ H R I h
  · exact pi_tup hl pins s σ H R I h
def rTupL (K : PySem.W.Frag) : List V → Hp → VK → Prop := fun xs H Q => ∃ p ys, xs = [.ref p] ∧ SqL K H p ys ∧ ∀ l, H l = none → Q (.ref l) (upd H l (.tup ys))
theorem call_tupL : CallR X (.type "tuple") (rTupL X.K) := by
  intro pins s σ H xs us Q I r h
  obtain ⟨p, ys, e, hS, q⟩ := h
  exact call_tuple_of pins s σ H xs us Q I r ⟨p, ys, e, .inl ⟨hS, q⟩⟩
end
section
variable {K : PySem.W.Frag} {σ : L2.St} {H : Hp} {D : Ends} {Q : VK} {g : TG} {tb : TS} {ta : TA} {tl : TE}
theorem r_iR3 {R : It → Hp → Prop} (h : ta σ H fun vs H1 => rItS2 vs H1 R) : iRng3 ta σ H R := h
theorem r_itS2 {R : It → Hp → Prop} {i j : Int} (h1 : -(2 ^ 30) ≤ i) (h2 : i < 2 ^ 30) (h3 : -(2 ^ 30) ≤ j) (h4 : j < 2 ^ 30) (h : R (ItrS i (cntS i j)) H) : rItS2 [.int i, .int j, .int 2] H R := ⟨i, j, rfl, ⟨h1, h2, h3, h4⟩, h⟩
theorem f_rngS {lo : Int} {n : Nat} (Pv : Nat → L2.St → Hp → Prop) (h0 : Pv 0 σ H)
    (hs : ∀ (i : Nat) σ H, i < n → Pv i σ H → g (.int (lo + i * 2)) σ H fun σ2 H2 => tb { nx := Pv (i + 1), rt := D.rt, bk := D.nx, ct := Pv (i + 1) } σ2 H2) (hd : ∀ σ H, Pv n σ H → D.nx σ H) : FOR (ItrS lo n) g tb D σ H := by
  refine ⟨fun i m σ H => m = n - i ∧ i ≤ n ∧ Pv i σ H, ⟨n, rfl, Nat.zero_le _, h0⟩, ?_⟩
  rintro i m σ H ⟨rfl, hi, p⟩
  by_cases hlt : i < n
  · refine .inr ⟨hlt, Pv (i + 1), fun σ' H' p' => ⟨n - (i + 1), by omega, rfl, hlt, p'⟩, fun x H' y => ?_⟩
    obtain ⟨rfl, rfl⟩ := y
    exact hs i σ _ hlt p
  · have : i = n := by omega
    subst this
    exact .inl ⟨Nat.le_refl _, hd σ H p⟩
theorem r_iLTl {R : It → Hp → Prop} (h : iList K tl σ H R) : iLT K tl σ H R := .inl h
theorem r_iLTr {R : It → Hp → Prop} (h : iTup K tl σ H R) : iLT K tl σ H R := .inr h
theorem r_tupL {p : Addr} {ys : List V} (e : SqL K H p ys) (h : ∀ l, H l = none → Q (.ref l) (upd H l (.tup ys))) : rTupL K [.ref p] H Q := ⟨p, ys, rfl, e, h⟩
theorem r_slT {a : Addr} {xs : List V} {lo hi : Option Int} (e : SqT K H a xs) (ne : ¬ (HT.sIx xs.length 0 lo = 0 ∧ HT.sIx xs.length xs.length hi = xs.length)) (h : ∀ p, H p = none → Q (.ref p) (upd H p (.tup (cutV xs lo hi)))) : rSlT K (.ref a) lo hi H Q := ⟨a, xs, rfl, e, ne, h⟩
end
end My
set_option Elab.async false
set_option linter.all false
set_option maxRecDepth 100000
set_option maxHeartbeats 1000000
set_option exponentiation.threshold 1000
namespace Our
open PySem L2 My
def top (i : Nat) : PySem.Stmt := PySem.Challenge.pw_quotatree_k71_deeds_of_rows.main.body.getD i (.Pass ⟨0, 0, 0, 0⟩)
abbrev s_copied : PySem.Stmt := top 1
abbrev s_deed_of : PySem.Stmt := top 2
abbrev s_cell : PySem.Stmt := top 4
abbrev s_mix : PySem.Stmt := top 5
abbrev s_names : PySem.Stmt := top 7
abbrev s_amounts : PySem.Stmt := top 8
abbrev s_given : PySem.Stmt := top 9
abbrev s_numbers : PySem.Stmt := top 10
abbrev s_ask : PySem.Stmt := top 11
abbrev s_refused : PySem.Stmt := top 12
abbrev s_row : PySem.Stmt := top 13
abbrev s_l_copied : PySem.Stmt := top 14
abbrev s_right : PySem.Stmt := top 15
abbrev s_law : PySem.Stmt := top 16
structure Ad where
  f_copied : Addr
  fd_copied : FuncData
  f_deed_of : Addr
  fd_deed_of : FuncData
  f_cell : Addr
  fd_cell : FuncData
  f_mix : Addr
  fd_mix : FuncData
  f_names : Addr
  fd_names : FuncData
  f_amounts : Addr
  fd_amounts : FuncData
  f_given : Addr
  fd_given : FuncData
  f_numbers : Addr
  fd_numbers : FuncData
  f_ask : Addr
  fd_ask : FuncData
  f_refused : Addr
  fd_refused : FuncData
  f_row : Addr
  fd_row : FuncData
  f_l_copied : Addr
  fd_l_copied : FuncData
  f_right : Addr
  fd_right : FuncData
  f_law : Addr
  fd_law : FuncData
structure Tx (K : PySem.W.Frag) (mg : Str → Option Value) (d : Ad) : Prop where
  F_copied : Fun K "copied" "copied" s_copied d.f_copied d.fd_copied
  m_copied : mg "copied" = some (.ref d.f_copied)
  b_copied : Binds K d.fd_copied ["thing"] []
  F_deed_of : Fun K "deed_of" "deed_of" s_deed_of d.f_deed_of d.fd_deed_of
  m_deed_of : mg "deed_of" = some (.ref d.f_deed_of)
  b_deed_of : Binds K d.fd_deed_of ["row"] []
  F_cell : Fun K "_law_cell" "_law_cell" s_cell d.f_cell d.fd_cell
  m_cell : mg "_law_cell" = some (.ref d.f_cell)
  b_cell : Binds K d.fd_cell ["_law_script", "_law_k"] []
  F_mix : Fun K "_law_mix" "_law_mix" s_mix d.f_mix d.fd_mix
  m_mix : mg "_law_mix" = some (.ref d.f_mix)
  b_mix : Binds K d.fd_mix ["_law_cell_here", "_law_k", "_law_many"] []
  F_names : Fun K "_law_names" "_law_names" s_names d.f_names d.fd_names
  m_names : mg "_law_names" = some (.ref d.f_names)
  b_names : Binds K d.fd_names ["_law_cell_here", "_law_many"] []
  F_amounts : Fun K "_law_amounts" "_law_amounts" s_amounts d.f_amounts d.fd_amounts
  m_amounts : mg "_law_amounts" = some (.ref d.f_amounts)
  b_amounts : Binds K d.fd_amounts ["_law_cell_here", "_law_wares"] []
  F_given : Fun K "_law_given" "_law_given" s_given d.f_given d.fd_given
  m_given : mg "_law_given" = some (.ref d.f_given)
  b_given : Binds K d.fd_given ["_law_cell_here", "_law_names_here", "_law_wares"] []
  F_numbers : Fun K "_law_numbers" "_law_numbers" s_numbers d.f_numbers d.fd_numbers
  m_numbers : mg "_law_numbers" = some (.ref d.f_numbers)
  b_numbers : Binds K d.fd_numbers ["_law_cell_here", "_law_k"] []
  F_ask : Fun K "_law_ask" "_law_ask" s_ask d.f_ask d.fd_ask
  m_ask : mg "_law_ask" = some (.ref d.f_ask)
  b_ask : Binds K d.fd_ask ["_law_cell_here", "_law_names_here", "_law_wares"] []
  F_refused : Fun K "_law_refused" "_law_refused" s_refused d.f_refused d.fd_refused
  m_refused : mg "_law_refused" = some (.ref d.f_refused)
  b_refused : Binds K d.fd_refused ["_law_cell_here", "_law_names_here", "_law_wares"] []
  F_row : Fun K "_law_row" "_law_row" s_row d.f_row d.fd_row
  m_row : mg "_law_row" = some (.ref d.f_row)
  b_row : Binds K d.fd_row ["_law_way", "_law_cell_here", "_law_names_here", "_law_wares"] []
  F_l_copied : Fun K "_law_copied" "_law_copied" s_l_copied d.f_l_copied d.fd_l_copied
  m_l_copied : mg "_law_copied" = some (.ref d.f_l_copied)
  b_l_copied : Binds K d.fd_l_copied ["_law_thing"] []
  F_right : Fun K "_law_right" "_law_right" s_right d.f_right d.fd_right
  m_right : mg "_law_right" = some (.ref d.f_right)
  b_right : Binds K d.fd_right ["_law_row_here", "_law_due"] []
  F_law : Fun K "law" "law" s_law d.f_law d.fd_law
  m_law : mg "law" = some (.ref d.f_law)
  z_dict : mg "dict" = none
  z_isinstance : mg "isinstance" = none
  z_len : mg "len" = none
  z_list : mg "list" = none
  z_range : mg "range" = none
  z_sorted : mg "sorted" = none
  z_tuple : mg "tuple" = none
local macro_rules | `(tactic| walk_at "kit") => `(tactic| (with_reducible (first | assumption | exact My.kit_int_int | exact My.kit_int_bool | exact My.kit_int_str | exact My.kit_int_lst | exact My.kit_int_tup | exact My.kit_int_dct | exact My.kit_bool_int | exact My.kit_bool_bool | exact My.kit_bool_str | exact My.kit_bool_lst | exact My.kit_bool_tup | exact My.kit_bool_dct | exact My.kit_str_int | exact My.kit_str_bool | exact My.kit_str_str | exact My.kit_str_lst | exact My.kit_str_tup | exact My.kit_str_dct | exact My.kit_non_int | exact My.kit_non_bool | exact My.kit_non_str | exact My.kit_non_lst | exact My.kit_non_tup | exact My.kit_non_dct | exact My.kit_lst_int | exact My.kit_lst_bool | exact My.kit_lst_str | exact My.kit_lst_lst | exact My.kit_lst_tup | exact My.kit_lst_dct | exact My.kit_tup_int | exact My.kit_tup_bool | exact My.kit_tup_str | exact My.kit_tup_lst | exact My.kit_tup_tup | exact My.kit_tup_dct | exact My.kit_dct_int | exact My.kit_dct_bool | exact My.kit_dct_str | exact My.kit_dct_lst | exact My.kit_dct_tup | exact My.kit_dct_dct)))
local macro_rules | `(tactic| walk_at "ty") => `(tactic| (first | (with_reducible assumption) | (with_reducible exact TyOf.int _) | (with_reducible exact TyOf.bl _) | (with_reducible exact TyOf.str _) | (with_reducible exact TyOf.non) | ((with_reducible refine' TyOf.tup ?h); (case h => walk_at "heap")) | ((with_reducible refine' TyOf.lst ?h); (case h => walk_at "heap")) | ((with_reducible refine' TyOf.dK ?h); (case h => walk_at "heap"))))
local macro_rules | `(tactic| walk_at "heap") => `(tactic| first | with_reducible assumption | with_reducible exact upd_same | ((with_reducible refine' look_new ?h ?n); (case n => with_reducible assumption); (case h => walk_at "heap")))
local macro_rules | `(tactic| walk_at "sqL") => `(tactic| first | with_reducible assumption | ((with_reducible refine' sqL_new ?h ?n); (case n => with_reducible assumption); (case h => walk_at "sqL")) | ((with_reducible refine' SqL.of ?h); (case h => walk_at "heap")))
local macro_rules | `(tactic| walk_at "sqT") => `(tactic| first | with_reducible assumption | ((with_reducible refine' sqT_new ?h ?n); (case n => with_reducible assumption); (case h => walk_at "sqT")) | ((with_reducible refine' SqT.of ?h); (case h => walk_at "heap")))
local macro_rules | `(tactic| walk_at "side") => `(tactic| first | assumption | exact rfl | omega | decide | (simp only [List.length_cons, List.length_nil, List.length_map]; omega) | exact ⟨by omega, by omega⟩ | exact ⟨by decide, by decide⟩ | exact ⟨by omega, by assumption⟩ | exact ⟨by assumption, by assumption⟩ | exact ⟨by decide, by assumption⟩ | exact ⟨by decide, by decide, by decide⟩)
local macro_rules | `(tactic| walk_at "size") => `(tactic| (first | assumption | (simp only [List.length_cons, List.length_nil, List.length_map, List.length_take]; first | decide | (show _ ≤ 16777216; omega) | (show _ < 16777216; omega)) | (show _ ≤ 16777216; omega) | (show _ < 16777216; omega)))
local macro_rules | `(tactic| walk_at "sp") => `(tactic| fail)
local macro_rules | `(tactic| walk_at "r1") => `(tactic| first
  | (with_reducible refine r_var (by with_unfolding_all exact rfl) ?_)
  | (with_reducible refine r_c ?_) | (with_reducible refine r_op ?_) | (with_reducible refine r_un ?_)
  | (with_reducible refine r_I0 ?_) | (with_reducible refine r_U ?_)
  | ((with_reducible refine r_I ?hc ?_); (case hc => walk_at "side"))
  | (with_reducible refine r_eqI ?_) | (with_reducible refine r_neI ?_) | (with_reducible refine r_eqB ?_) | (with_reducible refine r_eqS ?_) | (with_reducible refine r_neS ?_)
  | (with_reducible refine r_exb ?_) | (with_reducible refine r_test ?_) | (with_reducible refine r_tB ?_)
  | (with_reducible refine r_and ?_) | (with_reducible refine r_or ?_) | (with_reducible refine r_not ?_)
  | (with_reducible refine r_andV ?_) | (with_reducible refine r_orV ?_) | (with_reducible refine r_notV ?_) | (with_reducible refine r_ifE ?_)
  | (with_reducible refine r_next ?_) | (with_reducible refine r_seq ?_) | (with_reducible refine r_drop ?_) | (with_reducible refine r_ret ?_) | (with_reducible refine r_retN ?_)
  | (with_reducible refine r_if ?_) | (with_reducible refine r_asg ?_)
  | (with_reducible refine r_name (by with_unfolding_all (simp only [List.set]; exact rfl)) ?_)
  | (with_reducible refine r_gnil ?_) | (with_reducible refine r_gcons ?_)
  | ((with_reducible refine' r_gtup ?s ?n ?_); (case s => walk_at "sqT"); (case n => exact rfl))
  | (with_reducible refine r_for ?_) | (with_reducible refine r_iL ?_) | (with_reducible refine r_iT ?_) | (with_reducible refine r_iR ?_)
  | ((with_reducible refine' r_itL ?s ?_); (case s => walk_at "sqL")) | ((with_reducible refine' r_itT ?s ?_); (case s => walk_at "sqT")) | ((with_reducible refine' r_itR ?s ?t ?_); (case s => walk_at "side"); (case t => walk_at "side"))
  | (with_reducible refine r_par ?_) | (with_reducible refine r_two ?_)
  | (with_reducible refine r_gone (by with_unfolding_all (simp only [List.set]; exact rfl)) ?_) | (with_reducible refine r_goneR ?_)
  | (with_reducible refine r_nx ?_) | (with_reducible refine r_rt ?_) | (with_reducible refine r_bk ?_) | (with_reducible refine r_ct ?_)
  | (with_reducible refine r_nil ?_) | (with_reducible refine r_cons ?_) | (with_reducible refine r_tup ?_) | (with_reducible refine r_lst ?_)
  | ((with_reducible refine r_new ?n ?_); (case n => (simp only [List.length_cons, List.length_nil]; decide)))
  | ((with_reducible refine r_fresh ?_); intro p hp)
  | (with_reducible refine r_as ?_)
  | (with_reducible refine r_call ?_) | (with_reducible refine r_callX ?_) | (with_reducible refine r_cb ?_) | ((with_reducible refine r_try ?_); intro pins) | (with_reducible refine r_raise ?_)
  | ((with_reducible refine' r_ixT ?s ?e ?_); (case s => walk_at "sqT"); (case e => exact rfl))
  | (with_reducible refine r_comp ?_) | (with_reducible refine r_true ?_) | (with_reducible refine r_iS ?_) | (with_reducible refine r_itS ?_) | (with_reducible refine r_inS ?_)
  | ((with_reducible refine' r_app ?a ?z ?_); (case a => walk_at "heap"); (case z => walk_at "size"))
  | ((with_reducible refine' r_catS ?z ?_); (case z => walk_at "size")) | ((with_reducible refine' r_lenS ?z ?_); (case z => walk_at "size")) | ((with_reducible refine' r_slS ?z ?_); (case z => walk_at "size"))
  | (with_reducible refine r_sl ?_) | (with_reducible refine r_noPart ?_) | (with_reducible refine r_part ?_) | (with_reducible refine r_exi ?_) | (with_reducible refine r_chain ?_)
  | ((with_reducible refine' r_lenT ?s ?_); (case s => walk_at "sqT")) | ((with_reducible refine' r_lenL ?s ?_); (case s => walk_at "sqL"))
  | (with_reducible refine r_abs ?_) | (with_reducible refine r_isNn ?_) | (with_reducible refine r_isNr ?_) | (with_reducible refine r_isNi ?_) | (with_reducible refine r_isNb ?_) | (with_reducible refine r_isNs ?_)
  | (with_reducible refine r_notNn ?_) | (with_reducible refine r_notNr ?_) | (with_reducible refine r_notNi ?_) | (with_reducible refine r_isTb ?_) | (with_reducible refine r_isTn ?_)
  | ((with_reducible refine' r_isi ?t ?k ?_); (case t => walk_at "ty"); (case k => walk_at "kit"))
  | (with_reducible refine i_nT ?_) | (with_reducible refine i_nF ?_)
  | (with_reducible refine iteT ?_) | (with_reducible refine iteF ?_)
  | ((with_reducible refine i_t ?c ?_); (case c => walk_at "side")) | ((with_reducible refine i_f ?c ?_); (case c => walk_at "side"))
  | ((with_reducible refine i_nt ?c ?_); (case c => walk_at "side")) | ((with_reducible refine i_nf ?c ?_); (case c => walk_at "side"))
  | walk_at "sp")
local macro_rules | `(tactic| walk_at "go") => `(tactic| repeat walk_at "r1")
local macro_rules | `(tactic| walk_at "rd") => `(tactic| first | with_reducible assumption | ((with_reducible refine' rd_new ?h ?n); (case n => with_reducible assumption); (case h => walk_at "rd")) | ((with_reducible refine' Rd.of ?h); (case h => walk_at "heap")))
local macro_rules | `(tactic| walk_at "same") => `(tactic| first | with_reducible assumption | exact Same.refl _ | ((with_reducible refine' same_upd ?h ?n); (case n => with_reducible assumption); (case h => walk_at "same")))
local macro_rules | `(tactic| walk_at "sp") => `(tactic| first
  | ((with_reducible refine' r_glst ?s ?n ?_); (case s => walk_at "sqL"); (case n => exact rfl))
  | ((with_reducible refine' r_ixL ?s ?e ?_); (case s => walk_at "sqL"); (case e => exact rfl))
  | (with_reducible refine r_dp ?_) | ((with_reducible refine' r_dpk ?e ?z ?_); (case e => walk_at "heap"); (case z => walk_at "size"))
  | ((with_reducible refine r_dnew ?_); intro p hp)
  | ((with_reducible refine' r_dictCp ?e ?_); (case e => walk_at "rd"); intro p hp)
  | (with_reducible refine r_lp ?_) | (with_reducible refine r_iR3 ?_)
  | (with_reducible refine r_bm ?_) | (with_reducible refine r_bm0 ?_) | ((with_reducible refine' r_tyL ?s ?_); (case s => walk_at "sqL")) | ((with_reducible refine' r_tyD ?s ?_); (case s => walk_at "heap"))
  | ((with_reducible refine' r_append ?h ?z ?_); (case h => walk_at "heap"); (case z => walk_at "size")))
theorem sc_copied : FnScope ["thing"] ["thing"] (defScope s_copied) := ⟨rfl, rfl, rfl, by decide +kernel, rfl, by decide +kernel, by decide +kernel⟩
theorem sc_deed_of : FnScope ["row", "word"] ["row"] (defScope s_deed_of) := ⟨rfl, rfl, rfl, by decide +kernel, rfl, by decide +kernel, by decide +kernel⟩
theorem sc_cell : FnScope ["_law_script", "_law_k", "_law_number"] ["_law_script", "_law_k"] (defScope s_cell) := ⟨rfl, rfl, rfl, by decide +kernel, rfl, by decide +kernel, by decide +kernel⟩
theorem sc_mix : FnScope ["_law_cell_here", "_law_k", "_law_many", "_law_number"] ["_law_cell_here", "_law_k", "_law_many"] (defScope s_mix) := ⟨rfl, rfl, rfl, by decide +kernel, rfl, by decide +kernel, by decide +kernel⟩
theorem sc_names : FnScope ["_law_cell_here", "_law_many", "_law_letters", "_law_long", "_law_at", "_law_stride", "_law_names_here", "_law_k", "_law_word", "_law_j", "_law_step"] ["_law_cell_here", "_law_many"] (defScope s_names) := ⟨rfl, rfl, rfl, by decide +kernel, rfl, by decide +kernel, by decide +kernel⟩
theorem sc_amounts : FnScope ["_law_cell_here", "_law_wares", "_law_found", "_law_j", "_law_part"] ["_law_cell_here", "_law_wares"] (defScope s_amounts) := ⟨rfl, rfl, rfl, by decide +kernel, rfl, by decide +kernel, by decide +kernel⟩
theorem sc_given : FnScope ["_law_cell_here", "_law_names_here", "_law_wares", "_law_found", "_law_k", "_law_ware"] ["_law_cell_here", "_law_names_here", "_law_wares"] (defScope s_given) := ⟨rfl, rfl, rfl, by decide +kernel, rfl, by decide +kernel, by decide +kernel⟩
theorem sc_numbers : FnScope ["_law_cell_here", "_law_k"] ["_law_cell_here", "_law_k"] (defScope s_numbers) := ⟨rfl, rfl, rfl, by decide +kernel, rfl, by decide +kernel, by decide +kernel⟩
theorem sc_ask : FnScope ["_law_cell_here", "_law_names_here", "_law_wares", "_law_turns"] ["_law_cell_here", "_law_names_here", "_law_wares"] (defScope s_ask) := ⟨rfl, rfl, rfl, by decide +kernel, rfl, by decide +kernel, by decide +kernel⟩
theorem sc_refused : FnScope ["_law_cell_here", "_law_names_here", "_law_wares", "_law_deeds", "_law_holders"] ["_law_cell_here", "_law_names_here", "_law_wares"] (defScope s_refused) := ⟨rfl, rfl, rfl, by decide +kernel, rfl, by decide +kernel, by decide +kernel⟩
theorem sc_row : FnScope ["_law_way", "_law_cell_here", "_law_names_here", "_law_wares", "_law_number", "_law_one", "_law_other", "_law_sure", "_law_given_here", "_law_ask_here", "_law_refused_here"] ["_law_way", "_law_cell_here", "_law_names_here", "_law_wares"] (defScope s_row) := ⟨rfl, rfl, rfl, by decide +kernel, rfl, by decide +kernel, by decide +kernel⟩
theorem sc_l_copied : FnScope ["_law_thing"] ["_law_thing"] (defScope s_l_copied) := ⟨rfl, rfl, rfl, by decide +kernel, rfl, by decide +kernel, by decide +kernel⟩
theorem sc_right : FnScope ["_law_row_here", "_law_due", "_law_kept", "_law_told", "_law_found", "_law_thing"] ["_law_row_here", "_law_due"] (defScope s_right) := ⟨rfl, rfl, rfl, by decide +kernel, rfl, by decide +kernel, by decide +kernel⟩
theorem sc_law : FnScope ["_law_script", "_law_names_here", "_law_wares", "_law_first", "_law_k", "_law_row_here", "_law_due"] ["_law_script"] (defScope s_law) := ⟨rfl, rfl, rfl, by decide +kernel, rfl, by decide +kernel, by decide +kernel⟩
inductive Tr where
  | fl (v : V)
  | dc (f : Str → Option Int)
  | sq (b : Bool) (n : Nat) (g : Nat → Tr)
abbrev E0 : Hp := fun _ => none
def Is (N H : Hp) : Tr → V → Prop
  | .fl u, v => v = u ∧ flatV u = true
  | .dc f, v => ∃ a kvs, v = .ref a ∧ N a = none ∧ H a = some (.dK kvs) ∧ AD kvs f ∧ kvs.length ≤ 1000
  | .sq b n g, v => ∃ a xs, v = .ref a ∧ N a = none ∧ H a = some (match b with | true => HO.lst xs | false => HO.tup xs) ∧ xs.length = n ∧ n ≤ 1000 ∧ ∀ (j : Nat) (h : j < xs.length), Is N H (g j) xs[j]
theorem Is.mono {N H H' : Hp} (s : Same H H') : ∀ {t : Tr} {v : V}, Is N H t v → Is N H' t v
  | .fl _, _, h => h
  | .dc _, _, ⟨a, kvs, e, n, ha, r⟩ => ⟨a, kvs, e, n, s _ _ ha, r⟩
  | .sq _ _ _, _, ⟨a, xs, e, n, ha, hl, hb, hx⟩ => ⟨a, xs, e, n, s _ _ ha, hl, hb, fun j h => Is.mono s (hx j h)⟩
theorem Is.weak {N N' H : Hp} (s : ∀ a, N a = none → N' a = none) : ∀ {t : Tr} {v : V}, Is N H t v → Is N' H t v
  | .fl _, _, h => h
  | .dc _, _, ⟨a, kvs, e, n, r⟩ => ⟨a, kvs, e, s a n, r⟩
  | .sq _ _ _, _, ⟨a, xs, e, n, ha, hl, hb, hx⟩ => ⟨a, xs, e, s a n, ha, hl, hb, fun j h => Is.weak s (hx j h)⟩
theorem Is.base {N H : Hp} {t : Tr} {v : V} (h : Is N H t v) : Is E0 H t v := h.weak fun _ _ => rfl
theorem ne_at {N : Hp} {a c : Addr} (hc : N c ≠ none) (n : N a = none) : a ≠ c := fun z => hc (z ▸ n)
theorem Is.put {N H : Hp} {c : Addr} {o : HO} (hc : N c ≠ none) : ∀ {t : Tr} {v : V}, Is N H t v → Is N (upd H c o) t v
  | .fl _, _, h => h
  | .dc _, _, ⟨a, kvs, e, n, ha, r⟩ => ⟨a, kvs, e, n, by rw [upd_ne (ne_at hc n)]; exact ha, r⟩
  | .sq _ _ _, _, ⟨a, xs, e, n, ha, hl, hb, hx⟩ => ⟨a, xs, e, n, by rw [upd_ne (ne_at hc n)]; exact ha, hl, hb, fun j h => Is.put hc (hx j h)⟩
inductive Dp : Nat → Tr → Prop
  | fl {n : Nat} {v : V} : Dp n (.fl v)
  | dc {n : Nat} {f : Str → Option Int} : Dp (n + 1) (.dc f)
  | sq {n : Nat} {b : Bool} {k : Nat} {g : Nat → Tr} (h : ∀ j, j < k → Dp n (g j)) : Dp (n + 1) (.sq b k g)
theorem Dp.up {n : Nat} {t : Tr} (h : Dp n t) : Dp (n + 1) t := by
  induction h with
  | fl => exact .fl
  | dc => exact .dc
  | sq _ ih => exact .sq ih
theorem Dp.le {n m : Nat} {t : Tr} (h : Dp n t) (l : n ≤ m) : Dp m t := by
  induction l with
  | refl => exact h
  | step _ ih => exact ih.up
theorem eqV_self {v : V} (h : flatV v = true) : eqV v v = true := by
  cases v <;> simp_all [eqV, flatV]
theorem is_deq {K : PySem.W.Frag} {H : Hp} {t : Tr} : ∀ {n : Nat} {v w : V}, Is E0 H t v → Is E0 H t w → Dp n t → DEq K H n v w true := by
  induction t with
  | fl u =>
    rintro n v w ⟨rfl, hf⟩ ⟨rfl, _⟩ _
    have z := DEq.flat (K := K) (H := H) (n := n) hf hf
    rw [eqV_self hf] at z
    exact z
  | dc f =>
    rintro n v w ⟨a, ka, rfl, _, ha, hA, _⟩ ⟨b, kb, rfl, _, hb, hB, _⟩ hd
    cases hd with
    | @dc m _ =>
      by_cases e : a = b
      · subst e; exact .same
      · have z := DEq.dd (K := K) (n := m) (.inl ha) (.inl hb) e hA.flat hB.flat
        rw [AD.eq hA hB] at z
        exact z
  | sq b k g ih =>
    rintro n v w ⟨a, xs, rfl, _, ha, hl, _, hx⟩ ⟨c, ys, rfl, _, hc, hl', _, hy⟩ hd
    cases hd with
    | @sq m _ _ _ hd =>
      by_cases e : a = c
      · subst e; exact .same
      · cases b with
        | true =>
          have z := DEq.ls (K := K) (n := m) (e := fun _ => true) (SqL.of ha) (SqL.of hc) e (by omega) (fun j h1 h2 => ih j (hx j h1) (hy j h2) (hd j (by omega)))
          have e2 : (List.range xs.length).all (fun _ => true) = true := by simp
          rw [e2] at z
          exact z
        | false =>
          have z := DEq.ts (K := K) (n := m) (e := fun _ => true) (SqT.of ha) (SqT.of hc) e (fun j h1 h2 => ih j (hx j h1) (hy j h2) (hd j (by omega)))
          have e2 : ((List.range (min xs.length ys.length)).all (fun _ => true) && xs.length == ys.length) = true := by rw [hl, hl']; simp
          rw [e2] at z
          exact z
def tp (l : List Tr) : Tr := .sq false l.length fun j => l.getD j (.fl .non)
def All2 (N H : Hp) : List Tr → List V → Prop
  | [], [] => True
  | t :: l, x :: xs => Is N H t x ∧ All2 N H l xs
  | _, _ => False
theorem All2.len {N H : Hp} : ∀ {l : List Tr} {xs : List V}, All2 N H l xs → xs.length = l.length
  | [], [], _ => rfl
  | _ :: _, _ :: _, h => by rw [List.length_cons, List.length_cons, All2.len h.2]
  | [], _ :: _, h => h.elim
  | _ :: _, [], h => h.elim
theorem All2.get {N H : Hp} : ∀ {l : List Tr} {xs : List V}, All2 N H l xs → ∀ (j : Nat) (h : j < xs.length), Is N H (l.getD j (.fl .non)) xs[j]
  | t :: l, x :: xs, h, 0, _ => h.1
  | t :: l, x :: xs, h, j + 1, hj => All2.get h.2 j (by simpa using hj)
  | [], [], _, _, hj => absurd hj (by simp)
  | [], _ :: _, h, _, _ => h.elim
  | _ :: _, [], h, _, _ => h.elim
theorem is_tp {N H : Hp} {a : Addr} {l : List Tr} {xs : List V} (ha : H a = some (.tup xs)) (hn : N a = none) (h : All2 N H l xs) (hz : l.length ≤ 1000) : Is N H (tp l) (.ref a) :=
  ⟨a, xs, rfl, hn, ha, h.len, hz, h.get⟩
theorem dp_tp {n : Nat} {l : List Tr} (h : ∀ t ∈ l, Dp n t) : Dp (n + 1) (tp l) := .sq fun j hj => by
  rw [List.getD_eq_getElem?_getD, List.getElem?_eq_getElem hj]
  exact h _ (List.getElem_mem hj)
def Some (n : Nat) (H : Hp) (v : V) : Prop := ∃ t, Is E0 H t v ∧ Dp n t
theorem Some.mono {n : Nat} {H H' : Hp} {v : V} (s : Same H H') (h : Some n H v) : Some n H' v := h.imp fun _ h => ⟨h.1.mono s, h.2⟩
theorem Some.le {n m : Nat} {H : Hp} {v : V} (h : Some n H v) (l : n ≤ m) : Some m H v := h.imp fun _ h => ⟨h.1, h.2.le l⟩
theorem some_fl {n : Nat} {H : Hp} {v : V} (h : flatV v = true) : Some n H v := ⟨.fl v, ⟨rfl, h⟩, .fl⟩
theorem some_all {n : Nat} {H : Hp} : ∀ {xs : List V}, (∀ x ∈ xs, Some n H x) → ∃ g : Nat → Tr, ∀ (j : Nat) (h : j < xs.length), Is E0 H (g j) xs[j] ∧ Dp n (g j)
  | [], _ => ⟨fun _ => .fl .non, fun j h => absurd h (by simp)⟩
  | x :: xs, h => by
    obtain ⟨t, ht⟩ := h x (List.mem_cons_self ..)
    obtain ⟨g, hg⟩ := some_all fun y hy => h y (List.mem_cons_of_mem _ hy)
    refine ⟨fun j => match j with | 0 => t | j + 1 => g j, fun j hj => ?_⟩
    cases j with
    | zero => exact ht
    | succ j => exact hg j (by simpa using hj)
theorem some_lst {n : Nat} {H : Hp} {a : Addr} {xs : List V} (ha : H a = some (.lst xs)) (hz : xs.length ≤ 1000) (h : ∀ x ∈ xs, Some n H x) : Some (n + 1) H (.ref a) := by
  obtain ⟨g, hg⟩ := some_all h
  exact ⟨.sq true xs.length g, ⟨a, xs, rfl, rfl, ha, rfl, hz, fun j hj => (hg j hj).1⟩, .sq fun j hj => (hg j hj).2⟩
theorem some_tup {n : Nat} {H : Hp} {a : Addr} {xs : List V} (ha : H a = some (.tup xs)) (hz : xs.length ≤ 1000) (h : ∀ x ∈ xs, Some n H x) : Some (n + 1) H (.ref a) := by
  obtain ⟨g, hg⟩ := some_all h
  exact ⟨.sq false xs.length g, ⟨a, xs, rfl, rfl, ha, rfl, hz, fun j hj => (hg j hj).1⟩, .sq fun j hj => (hg j hj).2⟩
theorem putK_len (kvs : List (Key × V)) (k : Key) (v : V) : (putK kvs k v).length ≤ kvs.length + 1 := by
  unfold putK
  split
  · rw [List.length_map]; omega
  · rw [List.length_append]; exact Nat.le_refl _
def sp_cell (K : PySem.W.Frag) (d : Ad) : Sp := fun vs H Q _ => ∃ (a : Addr) (ns : List Int) (k : Int), vs = [.ref a, .int k] ∧ SqL K H a (ns.map V.int) ∧ 0 ≤ k ∧ k ≤ 1000 ∧ ns.length ≤ 63 ∧ ∀ c : Int, Q (.int c) H
def sp_mix (K : PySem.W.Frag) (d : Ad) : Sp := fun vs H Q _ => ∃ c k m : Int, vs = [.int c, .int k, .int m] ∧ 0 ≤ k ∧ k ≤ 100000 ∧ 1 ≤ m ∧ m ≤ 100000 ∧ ∀ r : Int, 0 ≤ r → r < m → Q (.int r) H
section
variable {K : PySem.W.Frag} {d : Ad} {H : Hp} {Q : VK} {E : XK}
theorem u_mix {c k m : Int} (k0 : 0 ≤ k) (k1 : k ≤ 100000) (m0 : 1 ≤ m) (m1 : m ≤ 100000) (q : ∀ r : Int, 0 ≤ r → r < m → Q (.int r) H) : sp_mix K d [.int c, .int k, .int m] H Q E := ⟨c, k, m, rfl, k0, k1, m0, m1, q⟩
end
theorem ok_cell {P : Program} {w : World} {K : PySem.W.Frag} {mg : Str → Option Value} {base : Heap} {d : Ad} (T : Tx K mg d) : FnOk P w K mg base CX0 1 d.f_cell d.fd_cell ["_law_script", "_law_k"] (sp_cell K d) := by
  refine T.F_cell.ok sc_cell (fun vs H Q E h => ?_) (fun cdv A outer s H vs Q E hr h => ?_)
  · obtain ⟨a, ns, k, rfl, _⟩ := h; rfl
  obtain ⟨a, ns, k, rfl, hS, k0, k1, hn, q⟩ := h
  refine ⟨_, (pss_cons (ps_if (pt_cmpR op_lt (pv 1) (pe_callB My.call_lenN rfl T.z_len PySem.boot_len (pa_cons (pv 0) pa_nil)) (nomark _)) (pss_one (ps_ret (pe_ix ix_list (pv 0) (pv 1) (fun _ _ => rfl)))) pss_nil)
    (pss_cons (ps_set (i := 2) sc_cell.nd rfl (Or.inl rfl) (pe_op op_add (pe_op My.op_mulB pe_int (pv 1)) pe_int))
    (pss_cons (My.ps_cut (ps_if (pt_cmpR op_gt (pe_callB My.call_lenN rfl T.z_len PySem.boot_len (pa_cons (pv 0) pa_nil)) pe_int (nomark _)) (pss_one (ps_set (i := 2) sc_cell.nd rfl (Or.inl rfl) (pe_op op_add (pv 2) (pe_op My.op_mulB (pe_op op_mod (pe_ix ix_list (pv 0) (pe_op op_mod (pe_op op_add (pe_op My.op_mulB (pv 1) (pv 1)) pe_int) (pe_callB My.call_lenN rfl T.z_len PySem.boot_len (pa_cons (pv 0) pa_nil))) (fun _ _ => rfl)) pe_int) (pe_op op_add (pv 1) pe_int))))) pss_nil))
    (pss_one (ps_ret (pe_op op_mod (pe_op op_add (pe_op My.op_mulB (pv 2) pe_int) (pe_op My.op_mulB pe_int (pv 1))) pe_int)))))), ?_⟩
  try dsimp only [L2.cxOf, L2.Cx.nox, L2.Cx.wish, My.xw, My.pnd, My.suite]
  refine r_start (σ := [some (.ref a), some (.int k), none]) rfl ?_
  walk_at "go"
  have hl : (ns.map V.int).length = ns.length := List.length_map _
  refine i_2 (fun c => ?_) (fun c => ?_)
  · rw [hl] at c
    walk_at "go"
    refine r_ixL hS (cell_at k0 c) ?_
    walk_at "go"
    exact q _
  · have ks : k.natAbs < 2 ^ 600 := Nat.lt_of_le_of_lt (show k.natAbs ≤ 1000 by omega) (by decide)
    walk_at "go"
    refine r_cut (fun σ' H' => H' = H ∧ ∃ m : Int, σ' = [some (.ref a), some (.int k), some (.int m)] ∧ m.natAbs < 2 ^ 600) ?_ ?_
    · walk_at "go"
      rw [hl]
      refine i_2 (fun c2 => ?_) (fun c2 => ?_)
      · walk_at "go"
        rw [hl]
        have e0 := Int.emod_nonneg (k * k + 1) (show ((ns.length : Nat) : Int) ≠ 0 by omega)
        have e1 := Int.emod_lt_of_pos (k * k + 1) (show (0 : Int) < ((ns.length : Nat) : Int) by omega)
        generalize (k * k + 1) % ((ns.length : Nat) : Int) = r at *
        walk_at "go"
        refine r_ixL hS (cell_at e0 e1) ?_
        generalize cell ns r = x
        walk_at "go"
        have f0 := Int.emod_nonneg x (show (1000003 : Int) ≠ 0 by decide)
        have f1 := Int.emod_lt_of_pos x (show (0 : Int) < 1000003 by decide)
        generalize x % 1000003 = y at *
        walk_at "go"
        refine ⟨rfl, _, rfl, ?_⟩
        have : y * (k + 1) ≤ 1000003 * 1001 := Int.mul_le_mul (by omega) (by omega) (by omega) (by decide)
        have : 0 ≤ y * (k + 1) := Int.mul_nonneg f0 (by omega)
        exact Nat.lt_of_le_of_lt (show _ ≤ 10 ^ 12 by omega) (by decide)
      · walk_at "go"
        exact ⟨rfl, _, rfl, Nat.lt_of_le_of_lt (show _ ≤ 10 ^ 12 by omega) (by decide)⟩
    · rintro σ' H' ⟨rfl, m, rfl, hm⟩
      walk_at "go"
      exact q _
theorem ok_mix {P : Program} {w : World} {K : PySem.W.Frag} {mg : Str → Option Value} {base : Heap} {d : Ad} (T : Tx K mg d) : FnOk P w K mg base CX0 1 d.f_mix d.fd_mix ["_law_cell_here", "_law_k", "_law_many"] (sp_mix K d) := by
  refine T.F_mix.ok sc_mix (fun vs H Q E h => ?_) (fun cdv A outer s H vs Q E hr h => ?_)
  · obtain ⟨c, k, m, rfl, _⟩ := h; rfl
  obtain ⟨c, k, m, rfl, k0, k1, m0, m1, q⟩ := h
  refine ⟨_, (pss_cons (ps_set (i := 3) sc_mix.nd rfl (Or.inl rfl) (pe_op op_mod (pe_op op_add (pe_op op_mod (pv 0) pe_int) (pe_op My.op_mulB pe_int (pv 1))) pe_int))
    (pss_cons (ps_set (i := 3) sc_mix.nd rfl (Or.inl rfl) (pe_op op_mod (pe_op My.op_mulB (pe_op op_mod (pe_op My.op_mulB (pv 3) (pv 3)) pe_int) pe_int) pe_int))
    (pss_one (ps_ret (pe_op op_mod (pe_op My.op_fdivB (pv 3) pe_int) (pv 2)))))), ?_⟩
  try dsimp only [L2.cxOf, L2.Cx.nox, L2.Cx.wish, My.xw, My.pnd, My.suite]
  refine r_start (σ := [some (.int c), some (.int k), some (.int m), none]) rfl ?_
  walk_at "go"
  have a0 := Int.emod_nonneg (c % 2147483629 + 104729 * k) (show (2147483629 : Int) ≠ 0 by decide)
  have a1 := Int.emod_lt_of_pos (c % 2147483629 + 104729 * k) (show (0 : Int) < 2147483629 by decide)
  generalize (c % 2147483629 + 104729 * k) % 2147483629 = u at *
  walk_at "go"
  have n0 := Int.emod_nonneg (u * u) (show (2147483629 : Int) ≠ 0 by decide)
  have n1 := Int.emod_lt_of_pos (u * u) (show (0 : Int) < 2147483629 by decide)
  generalize u * u % 2147483629 = y at *
  walk_at "go"
  exact q _ (Int.emod_nonneg _ (by omega)) (Int.emod_lt_of_pos _ (by omega))
abbrev ABC : Str := Str.ofString "abcdefghijklmnopqrstuvwxyz"
theorem letAt (g : Int) : ∃ c : Nat, atI ABC.cps.toList (g % 26) = some c := by
  have e0 := Int.emod_nonneg g (show (26 : Int) ≠ 0 by decide)
  have e1 := Int.emod_lt_of_pos g (show (0 : Int) < 26 by decide)
  have h : ∀ k : Nat, k < 26 → ABC.cps.toList[k]? = some (97 + k) := by decide +kernel
  have e : g % 26 = (((g % 26).toNat : Nat) : Int) := by omega
  rw [e]
  exact ⟨_, atI_nat (h (g % 26).toNat (by omega))⟩
theorem len_snoc (x : Str) (c : Nat) : (x ++ (⟨#[c]⟩ : Str)).length = x.length + 1 := by
  show (x.cps ++ #[c]).size = x.cps.size + 1
  simp
def Txs (n B : Nat) (ss : List Str) : Prop := ss.length = n ∧ ∀ z ∈ ss, z.length ≤ B
def sp_names (K : PySem.W.Frag) (d : Ad) : Sp := fun vs H Q _ => ∃ c m : Int, vs = [.int c, .int m] ∧ 1 ≤ m ∧ m ≤ 4 ∧ ∀ (l : Addr) (ss : List Str) (H' : Hp), Same H H' → H' l = some (.lst (ss.map V.str)) → ss.length = m.toNat → Q (.ref l) H'
theorem ok_names {P : Program} {w : World} {K : PySem.W.Frag} {mg : Str → Option Value} {base : Heap} {d : Ad} (T : Tx K mg d) : FnOk P w K mg base CX0 1 d.f_names d.fd_names ["_law_cell_here", "_law_many"] (sp_names K d) := by
  refine T.F_names.ok sc_names (fun vs H Q E h => ?_) (fun cdv A outer s H vs Q E hr h => ?_)
  · obtain ⟨c, m, rfl, _⟩ := h; rfl
  obtain ⟨c, m, rfl, m0, m1, q⟩ := h
  refine ⟨_, (pss_cons (ps_set (i := 2) sc_names.nd rfl (Or.inl rfl) pe_str)
    (pss_cons (ps_set (i := 3) sc_names.nd rfl (Or.inl rfl) (pe_op op_add pe_int (pe_op op_mod (pv 0) pe_int)))
    (pss_cons (ps_set (i := 4) sc_names.nd rfl (Or.inl rfl) (pe_op op_mod (pe_op My.op_fdivB (pv 0) pe_int) (pv 3)))
    (pss_cons (ps_set (i := 5) sc_names.nd rfl (Or.inl rfl) (pe_ix ix_list (pe_lst (pa_cons pe_int (pa_cons pe_int (pa_cons pe_int (pa_cons pe_int pa_nil))))) (pe_op op_mod (pe_op My.op_fdivB (pv 0) pe_int) pe_int) (fun _ _ => rfl)))
    (pss_cons (ps_set (i := 6) sc_names.nd rfl (Or.inl rfl) (pe_lst pa_nil))
    (pss_cons (ps_for PassesOwn.never rfl (pi_range1 rfl T.z_range (pa_cons (pv 1) pa_nil)) (pg_name (i := 7) sc_names.nd rfl (Or.inl rfl)) (pss_cons (ps_set (i := 8) sc_names.nd rfl (Or.inl rfl) pe_str)
    (pss_cons (ps_for PassesOwn.never rfl (pi_range1 rfl T.z_range (pa_cons (pv 3) pa_nil)) (pg_name (i := 9) sc_names.nd rfl (Or.inl rfl)) (pss_cons (ps_set (i := 10) sc_names.nd rfl (Or.inl rfl) (pe_op op_add (pe_op My.op_fdivB (pe_op op_mod (pe_op My.op_fdivB (pv 0) pe_int) pe_int) (pe_op op_add (pv 9) pe_int)) (pe_op My.op_mulB (pv 9) (pv 9))))
    (pss_cons (My.ps_cut (ps_if (pt_cmpR op_eq (pv 9) (pv 4) (nomark _)) (pss_one (ps_set (i := 10) sc_names.nd rfl (Or.inl rfl) (pe_op op_add (pv 10) (pe_op My.op_mulB (pv 5) (pv 7))))) pss_nil))
    (pss_one (ps_set (i := 8) sc_names.nd rfl (Or.inl rfl) (pe_op My.op_catS (pv 8) (pe_ix ix_str (pv 2) (pe_op op_mod (pv 10) pe_int) (fun _ _ => rfl))))))))
    (pss_one (ps_expr (pe_bm PySem.F.plainAttrs_list PySem.F.slot_list_append PySem.F.type_list_append mt_append (pv 6) (pa_cons (pv 8) pa_nil)))))))
    (pss_cons (My.ps_cut (ps_if (PW.pt (pw_and (pt_cmpR op_eq (pe_op op_mod (pe_op My.op_fdivB (pv 0) pe_int) pe_int) pe_int (nomark _)) (pw_and1 (pt_cmpR op_lt (pv 3) pe_int (nomark _))))) (pss_one (ps_for PassesOwn.never rfl (pi_range3 rfl T.z_range (pa_cons pe_int (pa_cons (pv 1) (pa_cons pe_int pa_nil)))) (pg_name (i := 7) sc_names.nd rfl (Or.inl rfl)) (pss_one (My.ps_lput (pv 6) (pv 7) (pe_op My.op_catS (pe_ix ix_list (pv 6) (pe_op op_sub (pv 7) pe_int) (fun _ _ => rfl)) (pe_ix ix_str (pv 2) (pe_op op_mod (pe_op op_add (pe_op My.op_fdivB (pv 0) pe_int) (pv 7)) pe_int) (fun _ _ => rfl))) rfl)))) pss_nil))
    (pss_one (ps_ret (pv 6)))))))))), ?_⟩
  try dsimp only [L2.cxOf, L2.Cx.nox, L2.Cx.wish, My.xw, My.pnd, My.suite]
  refine r_start (σ := [some (.int c), some (.int m), none, none, none, none, none, none, none, none, none]) rfl ?_
  walk_at "go"
  rename_i pS hpS
  have l0 := Int.emod_nonneg c (show (8 : Int) ≠ 0 by decide)
  have l1 := Int.emod_lt_of_pos c (show (0 : Int) < 8 by decide)
  generalize hL : 1 + c % 8 = L at *
  generalize c.fdiv 8 % L = A at *
  refine r_menu (xs := [1, 7, 11, 25]) (SqL.of upd_same) (Int.emod_nonneg _ (by decide)) (by show _ < (4 : Int); exact Int.emod_lt_of_pos _ (by decide)) fun S hS => ?_
  have S0 : 0 ≤ S ∧ S ≤ 25 := by
    simp only [List.mem_cons, List.not_mem_nil, or_false] at hS
    omega
  have Ss : S.natAbs < 2 ^ 600 := Nat.lt_of_le_of_lt (show S.natAbs ≤ 25 by omega) (by decide)
  walk_at "go"
  rename_i nl hnl
  have s1 := same_new hpS (.lst [.int 1, .int 7, .int 11, .int 25])
  generalize upd H pS (.lst [.int 1, .int 7, .int 11, .int 25]) = H1 at *
  have hn0 : H nl = none := s1.free hnl
  refine f_range (fun i σ H' => ∃ (ss : List Str) (w1 w2 w3 w4 : Option V), σ = [some (V.int c), some (V.int m), some (V.str ABC), some (V.int L), some (V.int A), some (V.int S), some (V.ref nl), w1, w2, w3, w4] ∧ Same H H' ∧ H' nl = some (.lst (ss.map V.str)) ∧ Txs i 8 ss)
    ⟨[], _, _, _, _, rfl, s1.trans (same_new hnl _), upd_same, rfl, fun z hz => absurd hz (by simp)⟩ ?_ ?_
  · rintro i σ H' hi ⟨ss, w1, w2, w3, w4, rfl, sm, en, ht⟩
    have ki : ((0 : Int) + (i : Int)).natAbs < 2 ^ 600 := Nat.lt_of_le_of_lt (show ((0 : Int) + (i : Int)).natAbs ≤ 8 by omega) (by decide)
    walk_at "go"
    refine f_range (fun j σ H2 => H2 = H' ∧ ∃ (z : Str) (w3 w4 : Option V), σ = [some (V.int c), some (V.int m), some (V.str ABC), some (V.int L), some (V.int A), some (V.int S), some (V.ref nl), some (V.int (0 + (i : Int))), some (V.str z), w3, w4] ∧ z.length = j)
      ⟨rfl, _, _, _, rfl, rfl⟩ ?_ ?_
    · rintro j σ H2 hj ⟨rfl, z, w3, w4, rfl, hz⟩
      have kj : ((0 : Int) + (j : Int)).natAbs < 2 ^ 600 := Nat.lt_of_le_of_lt (show ((0 : Int) + (j : Int)).natAbs ≤ 8 by omega) (by decide)
      walk_at "go"
      refine r_cut (fun σ' H3 => H3 = H2 ∧ ∃ g : Int, σ' = [some (V.int c), some (V.int m), some (V.str ABC), some (V.int L), some (V.int A), some (V.int S), some (V.ref nl), some (V.int (0 + (i : Int))), some (V.str z), some (V.int (0 + (j : Int))), some (V.int g)]) ?_ ?_
      · walk_at "go"
        refine i_2 (fun c2 => ?_) (fun c2 => ?_)
        · walk_at "go"
          exact ⟨rfl, _, rfl⟩
        · walk_at "go"
          exact ⟨rfl, _, rfl⟩
      · rintro σ' H3 ⟨rfl, g, rfl⟩
        walk_at "go"
        obtain ⟨cc, hc⟩ := letAt g
        refine r_ixS (by decide) hc ?_
        refine r_catS ?_ ?_
        · rw [hz]; show _ + 1 ≤ 16777216; omega
        walk_at "go"
        exact ⟨rfl, _, _, _, rfl, by rw [len_snoc, hz]⟩
    · rintro σ H2 ⟨rfl, z, w3, w4, rfl, hz⟩
      have hss : ss.length < 16777216 := by have := ht.1; omega
      walk_at "go"
      refine ⟨ss ++ [z], _, _, _, _, rfl, same_put sm hn0, ?_, ?_, fun y hy => ?_⟩
      · rw [upd_same, List.map_append]; rfl
      · rw [List.length_append, ht.1]; rfl
      · rcases List.mem_append.mp hy with h | h
        · exact ht.2 y h
        · have := List.mem_singleton.mp h
          subst this; omega
  · rintro σ H' ⟨ss, w1, w2, w3, w4, rfl, sm, en, ht⟩
    walk_at "go"
    refine r_cut (fun σ' H2 => ∃ (ss : List Str) (w1 w2 w3 w4 : Option V), σ' = [some (V.int c), some (V.int m), some (V.str ABC), some (V.int L), some (V.int A), some (V.int S), some (V.ref nl), w1, w2, w3, w4] ∧ Same H H2 ∧ H2 nl = some (.lst (ss.map V.str)) ∧ ss.length = m.toNat) ?_ ?_
    · have fin : ∃ (ss' : List Str) (w1' w2' w3' w4' : Option V), [some (V.int c), some (V.int m), some (V.str ABC), some (V.int L), some (V.int A), some (V.int S), some (V.ref nl), w1, w2, w3, w4] = [some (V.int c), some (V.int m), some (V.str ABC), some (V.int L), some (V.int A), some (V.int S), some (V.ref nl), w1', w2', w3', w4'] ∧ Same H H' ∧ H' nl = some (.lst (ss'.map V.str)) ∧ ss'.length = m.toNat :=
        ⟨ss, _, _, _, _, rfl, sm, en, by have := ht.1; omega⟩
      walk_at "go"
      refine i_2 (fun c1 => ?_) (fun c1 => ?_)
      · walk_at "go"
        refine i_2 (fun c2 => ?_) (fun c2 => ?_)
        · walk_at "go"
          refine r_itS2 (by decide) (by decide) (by omega) (by omega) ?_
          refine f_rngS (fun i σ H2 => ∃ (ss : List Str) (w1 w2 w3 w4 : Option V), σ = [some (V.int c), some (V.int m), some (V.str ABC), some (V.int L), some (V.int A), some (V.int S), some (V.ref nl), w1, w2, w3, w4] ∧ Same H H2 ∧ H2 nl = some (.lst (ss.map V.str)) ∧ Txs m.toNat (8 + i) ss)
            ⟨ss, _, _, _, _, rfl, sm, en, by have := ht.1; omega, ht.2⟩ ?_ ?_
          · rintro i σ H2 hi ⟨ss, w1, w2, w3, w4, rfl, sm, en, ht⟩
            have hc : i < cntS 1 m := hi
            unfold cntS at hc
            have hm := ht.1
            have h1 : i * 2 < ss.length := by omega
            have h2 : i * 2 + 1 < ss.length := by omega
            walk_at "go"
            refine r_ixL (SqL.of en) (v := .str ss[i * 2]) ?_ ?_
            · rw [show (1 : Int) + (i : Int) * 2 - 1 = ((i * 2 : Nat) : Int) by omega]
              exact atI_nat (by rw [List.getElem?_map, List.getElem?_eq_getElem h1]; rfl)
            walk_at "go"
            obtain ⟨cc, hcc⟩ := letAt (c.fdiv 1536 + (1 + (i : Int) * 2))
            refine r_ixS (by decide) hcc ?_
            have hz := ht.2 _ (List.getElem_mem h1)
            refine r_catS ?_ ?_
            · show _ + 1 ≤ 16777216; omega
            walk_at "go"
            refine r_lpk en (k := i * 2 + 1) (by rw [List.length_map]; exact h2) ?_ (by omega)
            walk_at "go"
            refine ⟨ss.set (i * 2 + 1) (ss[i * 2] ++ ⟨#[cc]⟩), _, _, _, _, rfl, same_put sm hn0, ?_, by rw [List.length_set]; exact hm, fun y hy => ?_⟩
            · rw [upd_same, List.map_set]
            · rcases List.mem_or_eq_of_mem_set hy with h | h
              · have := ht.2 y h; omega
              · subst h; rw [len_snoc]; omega
          · rintro σ H2 ⟨ss, w1, w2, w3, w4, rfl, sm, en, ht⟩
            walk_at "go"
            exact ⟨ss, _, _, _, _, rfl, sm, en, ht.1⟩
        · walk_at "go"
          exact fin
      · walk_at "go"
        exact fin
    · rintro σ' H2 ⟨ss, w1, w2, w3, w4, rfl, sm, en, hl⟩
      walk_at "go"
      exact q nl ss H2 sm en hl
def Am (H : Hp) (e : Addr) (f : Str → Option Int) : Prop := ∃ kvs, H e = some (.dK kvs) ∧ AD kvs f ∧ kvs.length ≤ 1000
theorem Am.mono {H H' : Hp} {e : Addr} {f : Str → Option Int} (s : Same H H') (h : Am H e f) : Am H' e f := h.imp fun _ h => ⟨s _ _ h.1, h.2⟩
theorem Am.is {H : Hp} {e : Addr} {f : Str → Option Int} (h : Am H e f) : Is E0 H (.dc f) (.ref e) := by
  obtain ⟨kvs, a, b, c⟩ := h
  exact ⟨e, kvs, rfl, rfl, a, b, c⟩
theorem Am.any {n : Nat} {H : Hp} {e : Addr} {f : Str → Option Int} (h : Am H e f) : Some (n + 1) H (.ref e) := ⟨_, h.is, .dc⟩
def Wd (H : Hp) (l : Addr) (ss : List Str) : Prop := H l = some (.lst (ss.map V.str))
theorem Wd.mono {H H' : Hp} {l : Addr} {ss : List Str} (s : Same H H') (h : Wd H l ss) : Wd H' l ss := s _ _ h
theorem r_pick {K : PySem.W.Frag} {H : Hp} {Q : VK} {p : Addr} {xs : List V} {r : Int} (hS : SqL K H p xs) (h0 : 0 ≤ r) (h1 : r < xs.length) (h : ∀ v, v ∈ xs → Q v H) : rIxL K (.ref p) (.int r) H Q := by
  have hk : r.toNat < xs.length := by omega
  have ek : r = ((r.toNat : Nat) : Int) := by omega
  have q : atI xs ((r.toNat : Nat) : Int) = some xs[r.toNat] := atI_nat (List.getElem?_eq_getElem hk)
  rw [← ek] at q
  exact r_ixL hS q (h _ (List.getElem_mem hk))
theorem r_word {K : PySem.W.Frag} {H : Hp} {Q : VK} {p : Addr} {ss : List Str} {r : Int} (hS : Wd H p ss) (h0 : 0 ≤ r) (h1 : r < ss.length) (h : ∀ z, z ∈ ss → Q (.str z) H) : rIxL K (.ref p) (.int r) H Q :=
  r_pick (SqL.of hS) h0 (by rw [List.length_map]; exact h1) fun v hv => by
    obtain ⟨z, hz, rfl⟩ := List.mem_map.mp hv
    exact h z hz
def sp_amounts (K : PySem.W.Frag) (d : Ad) : Sp := fun vs H Q _ => ∃ (c : Int) (wl : Addr) (ws : List Str), vs = [.int c, .ref wl] ∧ Wd H wl ws ∧ ws.length ≤ 10 ∧ ∀ (e : Addr) (f : Str → Option Int) (H' : Hp), Same H H' → Am H' e f → Q (.ref e) H'
def sp_numbers (K : PySem.W.Frag) (d : Ad) : Sp := fun vs H Q _ => ∃ c k : Int, vs = [.int c, .int k] ∧ 0 ≤ k ∧ k ≤ 1000 ∧ ∀ (l : Addr) (H' : Hp), Same H H' → Some 2 H' (.ref l) → Q (.ref l) H'
theorem ok_amounts {P : Program} {w : World} {K : PySem.W.Frag} {mg : Str → Option Value} {base : Heap} {d : Ad} (T : Tx K mg d) : FnOk P w K mg base CX0 2 d.f_amounts d.fd_amounts ["_law_cell_here", "_law_wares"] (sp_amounts K d) := by
  refine T.F_amounts.ok sc_amounts (fun vs H Q E h => ?_) (fun cdv A outer s H vs Q E hr h => ?_)
  · obtain ⟨c, wl, ws, rfl, _⟩ := h; rfl
  obtain ⟨c, wl, ws, rfl, hw, hn, q⟩ := h
  have hl : (ws.map V.str).length = ws.length := List.length_map _
  refine ⟨_, (pss_cons (ps_set (i := 2) sc_amounts.nd rfl (Or.inl rfl) pe_dnewK)
    (pss_cons (ps_for PassesOwn.never rfl (pi_range1 rfl T.z_range (pa_cons (pe_callB My.call_lenN rfl T.z_len PySem.boot_len (pa_cons (pv 1) pa_nil)) pa_nil)) (pg_name (i := 3) sc_amounts.nd rfl (Or.inl rfl)) (pss_cons (ps_set (i := 4) sc_amounts.nd rfl (Or.inl rfl) (pe_op op_add (pe_ix ix_list (pe_lst (pa_cons pe_int (pa_cons pe_int (pa_cons pe_int (pa_cons (pe_op op_pow pe_int pe_int) pa_nil))))) (pe_call ((ok_mix T).mono (by decide)) hr rfl T.m_mix T.F_mix.kp T.b_mix .nil pass0 (pa_cons (pv 0) (pa_cons (pe_op op_add pe_int (pv 3)) (pa_cons pe_int pa_nil)))) (fun _ _ => rfl)) (pe_call ((ok_mix T).mono (by decide)) hr rfl T.m_mix T.F_mix.kp T.b_mix .nil pass0 (pa_cons (pv 0) (pa_cons (pe_op op_add pe_int (pv 3)) (pa_cons pe_int pa_nil))))))
    (pss_one (My.ps_cut (ps_if (PW.pt (pw_and (pt_cmpR op_gt (pv 4) pe_int (nomark _)) (pw_and1 (pt_cmpR op_le (pv 4) (pe_op op_pow pe_int pe_int) (nomark _))))) (pss_one (ps_dput (hu_of hr) (pv 2) (pe_ix ix_list (pv 1) (pv 3) (fun _ _ => rfl)) (pv 4) rfl)) pss_nil)))))
    (pss_one (ps_ret (pv 2))))), ?_⟩
  try dsimp only [L2.cxOf, L2.Cx.nox, L2.Cx.wish, My.xw, My.pnd, My.suite]
  refine r_start (σ := [some (.int c), some (.ref wl), none, none, none]) rfl ?_
  walk_at "go"
  rename_i e he
  have hw1 := hw.mono (same_new he (.dK []))
  refine r_lenL (SqL.of hw1) ?_
  walk_at "go"
  rw [hl]
  walk_at "go"
  refine f_range (fun i σ H' => ∃ (kvs : List (Key × V)) (f : Str → Option Int) (w1 w2 : Option V), σ = [some (V.int c), some (V.ref wl), some (V.ref e), w1, w2] ∧ Same H H' ∧ H' e = some (.dK kvs) ∧ AD kvs f ∧ kvs.length ≤ i)
    ⟨[], _, _, _, rfl, same_new he _, upd_same, AD.nil, Nat.le_refl _⟩ ?_ ?_
  · rintro i σ H' hi ⟨kvs, f, w1, w2, rfl, sm, ee, hA, hz⟩
    have hi' : i < ws.length := by omega
    walk_at "go"
    rename_i pm hpm
    refine u_mix (by omega) (by omega) (by decide) (by decide) fun r r0 r1 => ?_
    walk_at "go"
    refine r_menu (xs := [0, 1, 7, 10 ^ Int.toNat 30]) (SqL.of upd_same) r0 r1 fun m _ => ?_
    walk_at "go"
    refine u_mix (by omega) (by omega) (by decide) (by decide) fun r' _ _ => ?_
    walk_at "go"
    have sm2 := sm.trans (same_new hpm (.lst [.int 0, .int 1, .int 7, .int (10 ^ Int.toNat 30)]))
    have ee2 := same_new hpm (.lst [.int 0, .int 1, .int 7, .int (10 ^ Int.toNat 30)]) _ _ ee
    generalize upd H' pm (.lst [.int 0, .int 1, .int 7, .int (10 ^ Int.toNat 30)]) = H2 at *
    refine r_cut0 ?_
    walk_at "go"
    refine i_2 (fun c1 => ?_) (fun c1 => ?_)
    · walk_at "go"
      refine i_2 (fun c2 => ?_) (fun c2 => ?_)
      · walk_at "go"
        refine r_ixL (SqL.of (hw.mono sm2)) (v := .str ws[i]) ?_ ?_
        · rw [show (0 : Int) + (i : Int) = ((i : Nat) : Int) by omega]
          exact atI_nat (by rw [List.getElem?_map, List.getElem?_eq_getElem hi']; rfl)
        have hz2 : kvs.length < 16777216 := by omega
        walk_at "go"
        exact ⟨_, _, _, _, rfl, same_put sm2 he, upd_same, hA.put _ _, by have := putK_len kvs (Sum.inr ws[i]) (.int (m + r')); omega⟩
      · walk_at "go"
        exact ⟨_, _, _, _, rfl, sm2, ee2, hA, by omega⟩
    · walk_at "go"
      exact ⟨_, _, _, _, rfl, sm2, ee2, hA, by omega⟩
  · rintro σ H' ⟨kvs, f, w1, w2, rfl, sm, ee, hA, hz⟩
    walk_at "go"
    exact q e f H' sm ⟨kvs, ee, hA, by omega⟩
theorem ok_numbers {P : Program} {w : World} {K : PySem.W.Frag} {mg : Str → Option Value} {base : Heap} {d : Ad} (T : Tx K mg d) : FnOk P w K mg base CX0 2 d.f_numbers d.fd_numbers ["_law_cell_here", "_law_k"] (sp_numbers K d) := by
  refine T.F_numbers.ok sc_numbers (fun vs H Q E h => ?_) (fun cdv A outer s H vs Q E hr h => ?_)
  · obtain ⟨c, k, rfl, _⟩ := h; rfl
  obtain ⟨c, k, rfl, k0, k1, q⟩ := h
  refine ⟨_, (pss_one (ps_ret (My.pe_comp (caps := [0, 1]) (cn := ["_law_cell_here", "_law_k"]) (My.caps_of rfl rfl (by rfl) (by rfl) rfl ⟨rfl, ⟨rfl, trivial⟩⟩ (by rfl) rfl ⟨⟨rfl, rfl, rfl, rfl, _, rfl⟩, ⟨⟨rfl, rfl, rfl, rfl, _, rfl⟩, trivial⟩⟩ (by decide)) rfl (pi_range2 rfl T.z_range (pa_cons pe_int (pa_cons (pe_op op_add pe_int (pe_call ((ok_mix T).mono (by decide)) hr rfl T.m_mix T.F_mix.kp T.b_mix .nil pass0 (pa_cons (pv 0) (pa_cons (pv 1) (pa_cons pe_int pa_nil))))) pa_nil))) (fun _ _ _ _ => My.pf_nil) (fun _ _ _ _ => (pe_op op_add (pe_op My.op_mulB pe_int (pv 0)) (pe_call ((ok_mix T).mono (by decide)) hr rfl T.m_mix T.F_mix.kp T.b_mix .nil pass0 (pa_cons (pv 1) (pa_cons (pe_op op_add (pv 2) (pv 0)) (pa_cons pe_int pa_nil))))))))), ?_⟩
  try dsimp only [L2.cxOf, L2.Cx.nox, L2.Cx.wish, My.xw, My.pnd, My.suite]
  try dsimp only [My.cxC]
  refine r_start (σ := [some (.int c), some (.int k)]) rfl ?_
  walk_at "go"
  unfold iRng2
  walk_at "go"
  refine u_mix (by omega) (by omega) (by decide) (by decide) fun r r0 r1 => ?_
  walk_at "go"
  refine ⟨1, 1 + r, rfl, ⟨by decide, by decide, by omega, by omega⟩, ?_⟩
  intro C s0 H0 fp acc hacc
  refine c_by (1 + r - 1).toNat (fun i H' => ∃ is : List Int, H' = upd H acc (.lst (is.map V.int)) ∧ is.length = i) ⟨[], rfl, rfl⟩ (fun i H' hi _ => hi) (fun H' _ => Nat.le_refl _) ?_ ?_
  · rintro i H' v H'' hi ⟨is, rfl, hl⟩ ⟨rfl, rfl⟩
    walk_at "go"
    refine u_mix (by omega) (by omega) (by decide) (by decide) fun r' _ _ => ?_
    walk_at "go"
    refine ⟨is ++ [3 * (1 + (i : Int)) + r'], ?_, by rw [List.length_append, hl]; rfl⟩
    rw [upd_upd, List.map_append]; rfl
  · rintro H' ⟨is, rfl, hl⟩
    walk_at "go"
    refine q acc _ (same_new hacc _) (some_lst upd_same (by rw [List.length_map]; omega) fun x hx => ?_)
    obtain ⟨n, _, rfl⟩ := List.mem_map.mp hx
    exact some_fl rfl
theorem ok_none {P : Program} {w : World} {K : PySem.W.Frag} {mg : Str → Option Value} {base : Heap} {CX : CXT} {k : Nat} {f : Addr} {fd : FuncData} {ps : List Str} : FnOk P w K mg base CX k f fd ps (fun _ _ _ _ => False) :=
  ⟨fun _ _ _ _ h => h.elim, fun _ _ _ _ _ _ _ _ _ _ _ _ _ h => h.elim⟩
def sp_cp (n : Nat) (K : PySem.W.Frag) (d : Ad) : Sp := fun vs H Q _ => ∃ (t : Tr) (v : V), vs = [v] ∧ Is E0 H t v ∧ Dp n t ∧ ∀ (v' : V) (H' : Hp), Same H H' → Is H H' t v' → Q v' H'
theorem cp_step {P : Program} {w : World} {K : PySem.W.Frag} {mg : Str → Option Value} {base : Heap} {d : Ad} (T : Tx K mg d) (n : Nat) (spi : Sp) (IH : FnOk P w K mg base CX0 n d.f_copied d.fd_copied ["thing"] spi)
    (use : ∀ m, n = m + 1 → ∀ (t : Tr) (v : V) (H : Hp) (Q : VK) (E : XK), Is E0 H t v → Dp m t → (∀ (v' : V) (H' : Hp), Same H H' → Is H H' t v' → Q v' H') → spi [v] H Q E) :
    FnOk P w K mg base CX0 (n + 1) d.f_copied d.fd_copied ["thing"] (sp_cp n K d) := by
  refine T.F_copied.ok sc_copied (fun vs H Q E h => ?_) (fun cdv A outer s H vs Q E hr h => ?_)
  · obtain ⟨t, v, rfl, _⟩ := h; rfl
  obtain ⟨t, v, rfl, hI, hD, q⟩ := h
  refine ⟨_, (pss_cons (ps_if (pt_val (pe_callB My.call_isi2 rfl T.z_isinstance PyProof.Rows.boot_isinstance (pa_cons (pv 0) (pa_cons (pe_bltn (v := .ty "dict") rfl T.z_dict PyProof.Rows.boot_dict rfl) pa_nil)))) (pss_one (ps_ret (pe_callTy My.call_dictR rfl T.z_dict PyProof.Rows.boot_dict (pa_cons (pv 0) pa_nil)))) pss_nil)
    (pss_cons (ps_if (pt_val (pe_callB My.call_isi2 rfl T.z_isinstance PyProof.Rows.boot_isinstance (pa_cons (pv 0) (pa_cons (pe_bltn (v := .ty "list") rfl T.z_list PyProof.Rows.boot_list rfl) pa_nil)))) (pss_one (ps_ret (My.pe_comp (caps := []) (cn := []) (My.caps_of rfl rfl (by rfl) (by rfl) rfl trivial (by rfl) rfl trivial (by decide)) rfl (My.pi_lt (pv 0)) (fun _ _ _ _ => My.pf_nil) (fun _ _ _ _ => (pe_call IH hr rfl T.m_copied T.F_copied.kp T.b_copied .nil pass0 (pa_cons (pv 0) pa_nil)))))) pss_nil)
    (pss_cons (ps_if (pt_val (pe_callB My.call_isi2 rfl T.z_isinstance PyProof.Rows.boot_isinstance (pa_cons (pv 0) (pa_cons (pe_bltn (v := .ty "tuple") rfl T.z_tuple PyProof.Rows.boot_tuple rfl) pa_nil)))) (pss_one (ps_ret (pe_callTy My.call_tupL rfl T.z_tuple PyProof.Rows.boot_tuple (pa_cons (My.pe_comp (caps := []) (cn := []) (My.caps_of rfl rfl (by rfl) (by rfl) rfl trivial (by rfl) rfl trivial (by decide)) rfl (My.pi_lt (pv 0)) (fun _ _ _ _ => My.pf_nil) (fun _ _ _ _ => (pe_call IH hr rfl T.m_copied T.F_copied.kp T.b_copied .nil pass0 (pa_cons (pv 0) pa_nil)))) pa_nil)))) pss_nil)
    (pss_one (ps_ret (pv 0)))))), ?_⟩
  try dsimp only [L2.cxOf, L2.Cx.nox, L2.Cx.wish, My.xw, My.pnd, My.suite]
  try dsimp only [My.cxC]
  refine r_start (σ := [some (v)]) rfl ?_
  cases t with
  | fl u =>
    obtain ⟨rfl, hf⟩ := hI
    have q' := q v H (Same.refl _) ⟨rfl, hf⟩
    cases v with
    | non => walk_at "go"; exact q'
    | bl b => walk_at "go"; exact q'
    | int i => walk_at "go"; exact q'
    | str x => walk_at "go"; exact q'
    | byt b => exact absurd hf Bool.false_ne_true
    | flt b => exact absurd hf Bool.false_ne_true
    | ref a => exact absurd hf Bool.false_ne_true
    | ty x => exact absurd hf Bool.false_ne_true
  | dc f =>
    obtain ⟨a, kvs, rfl, _, ha, hA, hz⟩ := hI
    walk_at "go"
    rename_i p hp
    exact q _ _ (same_new hp _) ⟨p, kvs, rfl, hp, upd_same, hA, hz⟩
  | sq b k g =>
    obtain ⟨a, xs, rfl, _, ha, hl, hk, hx⟩ := hI
    cases hD with
    | @sq m _ _ _ hD =>
    have low : ∀ {acc : Addr}, H acc = none → ∀ c, upd H acc (.lst []) c = none → H c = none := fun hacc c hc => (same_new hacc _).free hc
    have turn : ∀ {acc : Addr} {i : Nat} {ys : List V} {v' : V} {H1 H2 : Hp}, ys.length = i → H1 acc = some (.lst ys) → Same H H1 → Same H1 H2 → H acc = none → (∀ (j : Nat) (h : j < ys.length), Is (upd H acc (.lst [])) H1 (g j) ys[j]) → Is H1 H2 (g i) v' →
        ∀ (j : Nat) (h : j < (ys ++ [v']).length), Is (upd H acc (.lst [])) (upd H2 acc (.lst (ys ++ [v']))) (g j) (ys ++ [v'])[j] := by
      intro acc i ys v' H1 H2 hy ea sm s2 hacc hh hn j hj
      have nn : upd H acc (.lst []) acc ≠ none := by rw [upd_same]; simp
      by_cases c : j < ys.length
      · rw [List.getElem_append_left c]
        exact ((hh j c).mono s2).put nn
      · have ej : j = ys.length := by rw [List.length_append] at hj; simp at hj; omega
        subst ej
        rw [List.getElem_append_right (Nat.le_refl _)]
        have e0 : [v'][ys.length - ys.length]'(by simp) = v' := by simp
        rw [e0, hy]
        refine (hn.weak fun c hc => ?_).put nn
        have : c ≠ acc := fun z => by subst z; rw [ea] at hc; cases hc
        rw [upd_ne this]
        exact sm.free hc
    cases b with
    | true =>
      have ha : H a = some (.lst xs) := ha
      walk_at "go"
      refine r_iLTl ?_
      walk_at "go"
      intro C s0 H0 fp acc hacc
      refine c_by xs.length (fun i H' => ∃ ys : List V, ys.length = i ∧ Same H H' ∧ H' acc = some (.lst ys) ∧ ∀ (j : Nat) (h : j < ys.length), Is (upd H acc (.lst [])) H' (g j) ys[j]) ⟨[], rfl, same_new hacc _, upd_same, fun j h => absurd h (by simp)⟩ ?_ ?_ ?_ ?_
      · rintro i H' hi ⟨ys, _, sm, _⟩
        exact ⟨xs, xs[i], SqL.of (sm _ _ ha), List.getElem?_eq_getElem hi⟩
      · rintro H' ⟨ys, _, sm, _⟩
        exact ⟨xs, SqL.of (sm _ _ ha), Nat.le_refl _⟩
      · rintro i H' v H'' hi ⟨ys, hy, sm, ea, hh⟩ ⟨rfl, hv⟩
        have hv := hv xs (SqL.of (sm _ _ ha))
        rw [List.getElem?_eq_getElem hi] at hv
        cases hv
        walk_at "go"
        refine use m rfl (g i) xs[i] H'' _ _ ((hx i hi).mono sm) (hD i (by omega)) fun v' H2 s2 hn => ?_
        exact ⟨ys, s2 _ _ ea, by show _ < 16777216; omega, ys ++ [v'], by rw [List.length_append, hy]; rfl, same_put (sm.trans s2) hacc, upd_same, turn hy ea sm s2 hacc hh hn⟩
      · rintro H' ⟨ys, hy, sm, ea, hh⟩
        walk_at "go"
        exact q (.ref acc) H' sm ⟨acc, ys, rfl, hacc, ea, by omega, hk, fun j h => (hh j h).weak (low hacc)⟩
    | false =>
      have ha : H a = some (.tup xs) := ha
      walk_at "go"
      refine r_iLTr ?_
      walk_at "go"
      intro C s0 H0 fp acc hacc
      refine c_by xs.length (fun i H' => ∃ ys : List V, ys.length = i ∧ Same H H' ∧ H' acc = some (.lst ys) ∧ ∀ (j : Nat) (h : j < ys.length), Is (upd H acc (.lst [])) H' (g j) ys[j]) ⟨[], rfl, same_new hacc _, upd_same, fun j h => absurd h (by simp)⟩ ?_ ?_ ?_ ?_
      · rintro i H' hi ⟨ys, _, sm, _⟩
        exact ⟨xs, xs[i], SqT.of (sm _ _ ha), List.getElem?_eq_getElem hi⟩
      · rintro H' ⟨ys, _, sm, _⟩
        exact ⟨xs, SqT.of (sm _ _ ha), Nat.le_refl _⟩
      · rintro i H' v H'' hi ⟨ys, hy, sm, ea, hh⟩ ⟨rfl, hv⟩
        have hv := hv xs (SqT.of (sm _ _ ha))
        rw [List.getElem?_eq_getElem hi] at hv
        cases hv
        walk_at "go"
        refine use m rfl (g i) xs[i] H'' _ _ ((hx i hi).mono sm) (hD i (by omega)) fun v' H2 s2 hn => ?_
        exact ⟨ys, s2 _ _ ea, by show _ < 16777216; omega, ys ++ [v'], by rw [List.length_append, hy]; rfl, same_put (sm.trans s2) hacc, upd_same, turn hy ea sm s2 hacc hh hn⟩
      · rintro H' ⟨ys, hy, sm, ea, hh⟩
        walk_at "go"
        refine r_tupL (SqL.of ea) fun p hp => ?_
        walk_at "go"
        exact q (.ref p) _ (sm.trans (same_new hp _)) ⟨p, ys, rfl, sm.free hp, upd_same, by omega, hk, fun j h => ((hh j h).weak (low hacc)).mono (same_new hp _)⟩
theorem ok_cp {P : Program} {w : World} {K : PySem.W.Frag} {mg : Str → Option Value} {base : Heap} {d : Ad} (T : Tx K mg d) : ∀ n : Nat, FnOk P w K mg base CX0 (n + 1) d.f_copied d.fd_copied ["thing"] (sp_cp n K d)
  | 0 => cp_step T 0 (fun _ _ _ _ => False) ok_none fun m hm => absurd hm (by omega)
  | n + 1 => cp_step T (n + 1) (sp_cp n K d) (ok_cp T n) fun m hm t v H Q E hI hD q => by
    have : n = m := by omega
    subst this
    exact ⟨t, v, rfl, hI, hD, q⟩
def sp_copied (K : PySem.W.Frag) (d : Ad) : Sp := sp_cp 6 K d
theorem ok_copied {P : Program} {w : World} {K : PySem.W.Frag} {mg : Str → Option Value} {base : Heap} {d : Ad} (T : Tx K mg d) : FnOk P w K mg base CX0 7 d.f_copied d.fd_copied ["thing"] (sp_copied K d) := ok_cp T 6
def sp_cq (n : Nat) (K : PySem.W.Frag) (d : Ad) : Sp := fun vs H Q _ => ∃ (t : Tr) (v : V), vs = [v] ∧ Is E0 H t v ∧ Dp n t ∧ ∀ (v' : V) (H' : Hp), Same H H' → Is H H' t v' → Q v' H'
theorem cq_step {P : Program} {w : World} {K : PySem.W.Frag} {mg : Str → Option Value} {base : Heap} {d : Ad} (T : Tx K mg d) (n : Nat) (spi : Sp) (IH : FnOk P w K mg base CX0 n d.f_l_copied d.fd_l_copied ["_law_thing"] spi)
    (use : ∀ m, n = m + 1 → ∀ (t : Tr) (v : V) (H : Hp) (Q : VK) (E : XK), Is E0 H t v → Dp m t → (∀ (v' : V) (H' : Hp), Same H H' → Is H H' t v' → Q v' H') → spi [v] H Q E) :
    FnOk P w K mg base CX0 (n + 1) d.f_l_copied d.fd_l_copied ["_law_thing"] (sp_cq n K d) := by
  refine T.F_l_copied.ok sc_l_copied (fun vs H Q E h => ?_) (fun cdv A outer s H vs Q E hr h => ?_)
  · obtain ⟨t, v, rfl, _⟩ := h; rfl
  obtain ⟨t, v, rfl, hI, hD, q⟩ := h
  refine ⟨_, (pss_cons (ps_if (pt_val (pe_callB My.call_isi2 rfl T.z_isinstance PyProof.Rows.boot_isinstance (pa_cons (pv 0) (pa_cons (pe_bltn (v := .ty "dict") rfl T.z_dict PyProof.Rows.boot_dict rfl) pa_nil)))) (pss_one (ps_ret (pe_callTy My.call_dictR rfl T.z_dict PyProof.Rows.boot_dict (pa_cons (pv 0) pa_nil)))) pss_nil)
    (pss_cons (ps_if (pt_val (pe_callB My.call_isi2 rfl T.z_isinstance PyProof.Rows.boot_isinstance (pa_cons (pv 0) (pa_cons (pe_bltn (v := .ty "list") rfl T.z_list PyProof.Rows.boot_list rfl) pa_nil)))) (pss_one (ps_ret (My.pe_comp (caps := []) (cn := []) (My.caps_of rfl rfl (by rfl) (by rfl) rfl trivial (by rfl) rfl trivial (by decide)) rfl (My.pi_lt (pv 0)) (fun _ _ _ _ => My.pf_nil) (fun _ _ _ _ => (pe_call IH hr rfl T.m_l_copied T.F_l_copied.kp T.b_l_copied .nil pass0 (pa_cons (pv 0) pa_nil)))))) pss_nil)
    (pss_cons (ps_if (pt_val (pe_callB My.call_isi2 rfl T.z_isinstance PyProof.Rows.boot_isinstance (pa_cons (pv 0) (pa_cons (pe_bltn (v := .ty "tuple") rfl T.z_tuple PyProof.Rows.boot_tuple rfl) pa_nil)))) (pss_one (ps_ret (pe_callTy My.call_tupL rfl T.z_tuple PyProof.Rows.boot_tuple (pa_cons (My.pe_comp (caps := []) (cn := []) (My.caps_of rfl rfl (by rfl) (by rfl) rfl trivial (by rfl) rfl trivial (by decide)) rfl (My.pi_lt (pv 0)) (fun _ _ _ _ => My.pf_nil) (fun _ _ _ _ => (pe_call IH hr rfl T.m_l_copied T.F_l_copied.kp T.b_l_copied .nil pass0 (pa_cons (pv 0) pa_nil)))) pa_nil)))) pss_nil)
    (pss_one (ps_ret (pv 0)))))), ?_⟩
  try dsimp only [L2.cxOf, L2.Cx.nox, L2.Cx.wish, My.xw, My.pnd, My.suite]
  try dsimp only [My.cxC]
  refine r_start (σ := [some (v)]) rfl ?_
  cases t with
  | fl u =>
    obtain ⟨rfl, hf⟩ := hI
    have q' := q v H (Same.refl _) ⟨rfl, hf⟩
    cases v with
    | non => walk_at "go"; exact q'
    | bl b => walk_at "go"; exact q'
    | int i => walk_at "go"; exact q'
    | str x => walk_at "go"; exact q'
    | byt b => exact absurd hf Bool.false_ne_true
    | flt b => exact absurd hf Bool.false_ne_true
    | ref a => exact absurd hf Bool.false_ne_true
    | ty x => exact absurd hf Bool.false_ne_true
  | dc f =>
    obtain ⟨a, kvs, rfl, _, ha, hA, hz⟩ := hI
    walk_at "go"
    rename_i p hp
    exact q _ _ (same_new hp _) ⟨p, kvs, rfl, hp, upd_same, hA, hz⟩
  | sq b k g =>
    obtain ⟨a, xs, rfl, _, ha, hl, hk, hx⟩ := hI
    cases hD with
    | @sq m _ _ _ hD =>
    have low : ∀ {acc : Addr}, H acc = none → ∀ c, upd H acc (.lst []) c = none → H c = none := fun hacc c hc => (same_new hacc _).free hc
    have turn : ∀ {acc : Addr} {i : Nat} {ys : List V} {v' : V} {H1 H2 : Hp}, ys.length = i → H1 acc = some (.lst ys) → Same H H1 → Same H1 H2 → H acc = none → (∀ (j : Nat) (h : j < ys.length), Is (upd H acc (.lst [])) H1 (g j) ys[j]) → Is H1 H2 (g i) v' →
        ∀ (j : Nat) (h : j < (ys ++ [v']).length), Is (upd H acc (.lst [])) (upd H2 acc (.lst (ys ++ [v']))) (g j) (ys ++ [v'])[j] := by
      intro acc i ys v' H1 H2 hy ea sm s2 hacc hh hn j hj
      have nn : upd H acc (.lst []) acc ≠ none := by rw [upd_same]; simp
      by_cases c : j < ys.length
      · rw [List.getElem_append_left c]
        exact ((hh j c).mono s2).put nn
      · have ej : j = ys.length := by rw [List.length_append] at hj; simp at hj; omega
        subst ej
        rw [List.getElem_append_right (Nat.le_refl _)]
        have e0 : [v'][ys.length - ys.length]'(by simp) = v' := by simp
        rw [e0, hy]
        refine (hn.weak fun c hc => ?_).put nn
        have : c ≠ acc := fun z => by subst z; rw [ea] at hc; cases hc
        rw [upd_ne this]
        exact sm.free hc
    cases b with
    | true =>
      have ha : H a = some (.lst xs) := ha
      walk_at "go"
      refine r_iLTl ?_
      walk_at "go"
      intro C s0 H0 fp acc hacc
      refine c_by xs.length (fun i H' => ∃ ys : List V, ys.length = i ∧ Same H H' ∧ H' acc = some (.lst ys) ∧ ∀ (j : Nat) (h : j < ys.length), Is (upd H acc (.lst [])) H' (g j) ys[j]) ⟨[], rfl, same_new hacc _, upd_same, fun j h => absurd h (by simp)⟩ ?_ ?_ ?_ ?_
      · rintro i H' hi ⟨ys, _, sm, _⟩
        exact ⟨xs, xs[i], SqL.of (sm _ _ ha), List.getElem?_eq_getElem hi⟩
      · rintro H' ⟨ys, _, sm, _⟩
        exact ⟨xs, SqL.of (sm _ _ ha), Nat.le_refl _⟩
      · rintro i H' v H'' hi ⟨ys, hy, sm, ea, hh⟩ ⟨rfl, hv⟩
        have hv := hv xs (SqL.of (sm _ _ ha))
        rw [List.getElem?_eq_getElem hi] at hv
        cases hv
        walk_at "go"
        refine use m rfl (g i) xs[i] H'' _ _ ((hx i hi).mono sm) (hD i (by omega)) fun v' H2 s2 hn => ?_
        exact ⟨ys, s2 _ _ ea, by show _ < 16777216; omega, ys ++ [v'], by rw [List.length_append, hy]; rfl, same_put (sm.trans s2) hacc, upd_same, turn hy ea sm s2 hacc hh hn⟩
      · rintro H' ⟨ys, hy, sm, ea, hh⟩
        walk_at "go"
        exact q (.ref acc) H' sm ⟨acc, ys, rfl, hacc, ea, by omega, hk, fun j h => (hh j h).weak (low hacc)⟩
    | false =>
      have ha : H a = some (.tup xs) := ha
      walk_at "go"
      refine r_iLTr ?_
      walk_at "go"
      intro C s0 H0 fp acc hacc
      refine c_by xs.length (fun i H' => ∃ ys : List V, ys.length = i ∧ Same H H' ∧ H' acc = some (.lst ys) ∧ ∀ (j : Nat) (h : j < ys.length), Is (upd H acc (.lst [])) H' (g j) ys[j]) ⟨[], rfl, same_new hacc _, upd_same, fun j h => absurd h (by simp)⟩ ?_ ?_ ?_ ?_
      · rintro i H' hi ⟨ys, _, sm, _⟩
        exact ⟨xs, xs[i], SqT.of (sm _ _ ha), List.getElem?_eq_getElem hi⟩
      · rintro H' ⟨ys, _, sm, _⟩
        exact ⟨xs, SqT.of (sm _ _ ha), Nat.le_refl _⟩
      · rintro i H' v H'' hi ⟨ys, hy, sm, ea, hh⟩ ⟨rfl, hv⟩
        have hv := hv xs (SqT.of (sm _ _ ha))
        rw [List.getElem?_eq_getElem hi] at hv
        cases hv
        walk_at "go"
        refine use m rfl (g i) xs[i] H'' _ _ ((hx i hi).mono sm) (hD i (by omega)) fun v' H2 s2 hn => ?_
        exact ⟨ys, s2 _ _ ea, by show _ < 16777216; omega, ys ++ [v'], by rw [List.length_append, hy]; rfl, same_put (sm.trans s2) hacc, upd_same, turn hy ea sm s2 hacc hh hn⟩
      · rintro H' ⟨ys, hy, sm, ea, hh⟩
        walk_at "go"
        refine r_tupL (SqL.of ea) fun p hp => ?_
        walk_at "go"
        exact q (.ref p) _ (sm.trans (same_new hp _)) ⟨p, ys, rfl, sm.free hp, upd_same, by omega, hk, fun j h => ((hh j h).weak (low hacc)).mono (same_new hp _)⟩
theorem ok_cq {P : Program} {w : World} {K : PySem.W.Frag} {mg : Str → Option Value} {base : Heap} {d : Ad} (T : Tx K mg d) : ∀ n : Nat, FnOk P w K mg base CX0 (n + 1) d.f_l_copied d.fd_l_copied ["_law_thing"] (sp_cq n K d)
  | 0 => cq_step T 0 (fun _ _ _ _ => False) ok_none fun m hm => absurd hm (by omega)
  | n + 1 => cq_step T (n + 1) (sp_cq n K d) (ok_cq T n) fun m hm t v H Q E hI hD q => by
    have : n = m := by omega
    subst this
    exact ⟨t, v, rfl, hI, hD, q⟩
def sp_l_copied (K : PySem.W.Frag) (d : Ad) : Sp := sp_cq 6 K d
theorem ok_l_copied {P : Program} {w : World} {K : PySem.W.Frag} {mg : Str → Option Value} {base : Heap} {d : Ad} (T : Tx K mg d) : FnOk P w K mg base CX0 7 d.f_l_copied d.fd_l_copied ["_law_thing"] (sp_l_copied K d) := ok_cq T 6
inductive RowD (H : Hp) (r : Addr) : Option Tr → Prop
  | first {xs : List V} (h : H r = some (.tup (.str (Str.ofString "first") :: xs))) : RowD H r none
  | hold {x1 x2 x3 x4 x5 x6 x7 : V} {t2 t3 t4 t5 : Tr} (h : H r = some (.tup [.str (Str.ofString "hold"), x1, x2, x3, x4, x5, x6, x7])) (h2 : Is E0 H t2 x2) (h3 : Is E0 H t3 x3) (h4 : Is E0 H t4 x4) (h5 : Is E0 H t5 x5)
      (d2 : Dp 4 t2) (d3 : Dp 4 t3) (d4 : Dp 4 t4) (d5 : Dp 4 t5) : RowD H r (some (tp [.fl (.str (Str.ofString "ask")), t2, t3, t4, t5]))
  | grow {x1 x2 x3 x4 x5 : V} {t1 t2 : Tr} (h : H r = some (.tup [.str (Str.ofString "grow"), x1, x2, x3, x4, x5])) (h1 : Is E0 H t1 x1) (h2 : Is E0 H t2 x2) (d1 : Dp 4 t1) (d2 : Dp 4 t2) : RowD H r (some (tp [.fl (.str (Str.ofString "grow")), t1, t2]))
  | back {n : Int} {x : V} (h : H r = some (.tup [.str (Str.ofString "back"), .int n, x])) : RowD H r (some (tp [.fl (.str (Str.ofString "back")), .fl (.int n)]))
  | turn {x y : V} (h : H r = some (.tup [.str (Str.ofString "turn"), x, y])) : RowD H r (some (tp [.fl (.str (Str.ofString "turn"))]))
  | refused {x1 x2 x3 x4 : V} {l : List Tr} (h : H r = some (.tup [.str (Str.ofString "refused"), x1, x2, x3, x4])) (h1 : Is E0 H (tp l) x1) (d1 : Dp 4 (tp l)) : RowD H r (some (tp l))
  | found {xs : List V} {l : List Tr} (h : H r = some (.tup (.str (Str.ofString "found") :: xs))) (h1 : Is E0 H (tp l) (.ref r)) (d1 : Dp 4 (tp l)) : RowD H r (some (tp l))
  | move {xs : List V} {l : List Tr} (h : H r = some (.tup (.str (Str.ofString "move") :: xs))) (h1 : Is E0 H (tp l) (.ref r)) (d1 : Dp 4 (tp l)) : RowD H r (some (tp l))
theorem RowD.mono {H H' : Hp} {r : Addr} {D : Option Tr} (s : Same H H') (h : RowD H r D) : RowD H' r D := by
  cases h with
  | first h => exact .first (s _ _ h)
  | hold h h2 h3 h4 h5 d2 d3 d4 d5 => exact .hold (s _ _ h) (h2.mono s) (h3.mono s) (h4.mono s) (h5.mono s) d2 d3 d4 d5
  | grow h h1 h2 d1 d2 => exact .grow (s _ _ h) (h1.mono s) (h2.mono s) d1 d2
  | back h => exact .back (s _ _ h)
  | turn h => exact .turn (s _ _ h)
  | refused h h1 d1 => exact .refused (s _ _ h) (h1.mono s) d1
  | found h h1 d1 => exact .found (s _ _ h) (h1.mono s) d1
  | move h h1 d1 => exact .move (s _ _ h) (h1.mono s) d1
def Deed (H H' : Hp) : Option Tr → V → Prop
  | none, v => v = .non
  | some t, v => Is H H' t v
def sp_deed_of (K : PySem.W.Frag) (d : Ad) : Sp := fun vs H Q _ => ∃ (r : Addr) (D : Option Tr), vs = [.ref r] ∧ RowD H r D ∧ ∀ (v' : V) (H' : Hp), Same H H' → Deed H H' D v' → Q v' H'
theorem at0 {x : V} {xs : List V} : atI (x :: xs) 0 = some x := atI_nat (j := 0) rfl
theorem flS {N H : Hp} {v : V} (h : flatV v = true) : Is N H (.fl v) v := ⟨rfl, h⟩
theorem ok_deed_of {P : Program} {w : World} {K : PySem.W.Frag} {mg : Str → Option Value} {base : Heap} {d : Ad} (T : Tx K mg d) : FnOk P w K mg base CX0 8 d.f_deed_of d.fd_deed_of ["row"] (sp_deed_of K d) := by
  refine T.F_deed_of.ok sc_deed_of (fun vs H Q E h => ?_) (fun cdv A outer s H vs Q E hr h => ?_)
  · obtain ⟨r, D, rfl, _⟩ := h; rfl
  obtain ⟨r, D, rfl, hR, q⟩ := h
  refine ⟨_, (pss_cons (ps_set (i := 1) sc_deed_of.nd rfl (Or.inl rfl) (pe_ix ix_tup (pv 0) pe_int (fun _ _ => rfl)))
    (pss_cons (ps_if (pt_cmpR op_eq (pv 1) pe_str (nomark _)) (pss_one (ps_ret pe_non)) pss_nil)
    (pss_cons (ps_if (pt_cmpR op_eq (pv 1) pe_str (nomark _)) (pss_one (ps_ret (pe_call ((ok_copied T).mono (by decide)) hr rfl T.m_copied T.F_copied.kp T.b_copied .nil pass0 (pa_cons (pe_tup (pa_cons pe_str (pa_cons (pe_ix ix_tup (pv 0) pe_int (fun _ _ => rfl)) (pa_cons (pe_ix ix_tup (pv 0) pe_int (fun _ _ => rfl)) (pa_cons (pe_ix ix_tup (pv 0) pe_int (fun _ _ => rfl)) (pa_cons (pe_ix ix_tup (pv 0) pe_int (fun _ _ => rfl)) pa_nil)))))) pa_nil)))) pss_nil)
    (pss_cons (ps_if (pt_cmpR op_eq (pv 1) pe_str (nomark _)) (pss_one (ps_ret (pe_call ((ok_copied T).mono (by decide)) hr rfl T.m_copied T.F_copied.kp T.b_copied .nil pass0 (pa_cons (pe_slice sl_tup (pv 0) po_none (po_some pe_int)) pa_nil)))) pss_nil)
    (pss_cons (ps_if (pt_cmpR op_eq (pv 1) pe_str (nomark _)) (pss_one (ps_ret (pe_slice sl_tup (pv 0) po_none (po_some pe_int)))) pss_nil)
    (pss_cons (ps_if (pt_cmpR op_eq (pv 1) pe_str (nomark _)) (pss_one (ps_ret (pe_slice sl_tup (pv 0) po_none (po_some pe_int)))) pss_nil)
    (pss_cons (ps_if (pt_cmpR op_eq (pv 1) pe_str (nomark _)) (pss_one (ps_ret (pe_call ((ok_copied T).mono (by decide)) hr rfl T.m_copied T.F_copied.kp T.b_copied .nil pass0 (pa_cons (pe_ix ix_tup (pv 0) pe_int (fun _ _ => rfl)) pa_nil)))) pss_nil)
    (pss_one (ps_ret (pe_call ((ok_copied T).mono (by decide)) hr rfl T.m_copied T.F_copied.kp T.b_copied .nil pass0 (pa_cons (pv 0) pa_nil))))))))))), ?_⟩
  try dsimp only [L2.cxOf, L2.Cx.nox, L2.Cx.wish, My.xw, My.pnd, My.suite]
  refine r_start (σ := [some (.ref r), none]) rfl ?_
  cases hR with
  | first h =>
    walk_at "go"
    refine r_ixT (SqT.of h) at0 ?_
    walk_at "go"
    exact q _ _ (Same.refl _) rfl
  | hold h h2 h3 h4 h5 d2 d3 d4 d5 =>
    walk_at "go"
    rename_i p hp
    have s1 := same_new hp
    refine ⟨_, .ref p, rfl, is_tp (l := [.fl (.str (Str.ofString "ask")), _, _, _, _]) upd_same rfl ⟨flS rfl, h2.mono (s1 _), h3.mono (s1 _), h4.mono (s1 _), h5.mono (s1 _), trivial⟩ (by simp), dp_tp fun t ht => ?_, fun v' H' sm hI => ?_⟩
    · simp only [List.mem_cons, List.not_mem_nil, or_false] at ht
      rcases ht with rfl | rfl | rfl | rfl | rfl
      · exact .fl
      · exact d2.up
      · exact d3.up
      · exact d4.up
      · exact d5.up
    · walk_at "go"
      exact q _ _ ((s1 _).trans sm) (hI.weak fun c hc => (s1 _).free hc)
  | grow h h1 h2 d1 d2 =>
    walk_at "go"
    refine r_slT (SqT.of h) (fun z => absurd z.2 (show ¬ (HT.sIx 6 6 (some 3) = 6) by decide)) fun p hp => ?_
    have s1 := same_new hp
    walk_at "go"
    refine ⟨_, .ref p, rfl, is_tp (l := [.fl (.str (Str.ofString "grow")), _, _]) upd_same rfl ⟨flS rfl, h1.mono (s1 _), h2.mono (s1 _), trivial⟩ (by simp), dp_tp fun t ht => ?_, fun v' H' sm hI => ?_⟩
    · simp only [List.mem_cons, List.not_mem_nil, or_false] at ht
      rcases ht with rfl | rfl | rfl
      · exact .fl
      · exact d1.up
      · exact d2.up
    · walk_at "go"
      exact q _ _ ((s1 _).trans sm) (hI.weak fun c hc => (s1 _).free hc)
  | back h =>
    walk_at "go"
    refine r_slT (SqT.of h) (fun z => absurd z.2 (show ¬ (HT.sIx 3 3 (some 2) = 3) by decide)) fun p hp => ?_
    walk_at "go"
    exact q _ _ (same_new hp _) (is_tp upd_same hp ⟨flS rfl, flS rfl, trivial⟩ (by simp))
  | turn h =>
    walk_at "go"
    refine r_slT (SqT.of h) (fun z => absurd z.2 (show ¬ (HT.sIx 3 3 (some 1) = 3) by decide)) fun p hp => ?_
    walk_at "go"
    exact q _ _ (same_new hp _) (is_tp upd_same hp ⟨flS rfl, trivial⟩ (by simp))
  | refused h h1 d1 =>
    walk_at "go"
    exact ⟨_, _, rfl, h1, d1.le (by decide), fun v' H' sm hI => q _ _ sm hI⟩
  | found h h1 d1 =>
    walk_at "go"
    refine r_ixT (SqT.of h) at0 ?_
    walk_at "go"
    exact ⟨_, _, rfl, h1, d1.le (by decide), fun v' H' sm hI => q _ _ sm hI⟩
  | move h h1 d1 =>
    walk_at "go"
    refine r_ixT (SqT.of h) at0 ?_
    walk_at "go"
    exact ⟨_, _, rfl, h1, d1.le (by decide), fun v' H' sm hI => q _ _ sm hI⟩
def DueR (H : Hp) : Option Tr → V → Prop
  | none, v => v = .non
  | some t, v => Is E0 H t v ∧ Dp 4 t ∧ ∃ l : List Tr, t = tp l ∧ l.length ≤ 100
def RowDue (H : Hp) (r : Addr) (due : V) : Prop := ∃ (R : Tr) (D : Option Tr), RowD H r D ∧ Is E0 H R (.ref r) ∧ Dp 5 R ∧ DueR H D due
def sp_right (K : PySem.W.Frag) (d : Ad) : Sp := fun vs H Q _ => ∃ (r : Addr) (due : V), vs = [.ref r, due] ∧ RowDue H r due ∧ ∀ H', Same H H' → Q (.bl true) H'
def Pt (N H : Hp) (m : Nat) (x : V) : Prop := flatV x = true ∨ ∃ c, x = .ref c ∧ ((∃ ys, H c = some (.lst ys)) ∨ (∃ ys, H c = some (.tup ys)) ∨ N c = none ∧ ∃ kvs, H c = some (.dK kvs) ∧ kvs.length ≤ m)
theorem Is.pt {N H : Hp} {t : Tr} {x : V} (h : Is N H t x) : Pt N H 1000 x := by
  cases t with
  | fl u => obtain ⟨rfl, hf⟩ := h; exact .inl hf
  | dc f => obtain ⟨a, kvs, rfl, n, ha, _, hz⟩ := h; exact .inr ⟨a, rfl, .inr (.inr ⟨n, kvs, ha, hz⟩)⟩
  | sq b n g =>
    obtain ⟨a, xs, rfl, n, ha, _⟩ := h
    cases b with
    | true => exact .inr ⟨a, rfl, .inl ⟨xs, ha⟩⟩
    | false => exact .inr ⟨a, rfl, .inr (.inl ⟨xs, ha⟩)⟩
theorem Pt.up {N H : Hp} {m : Nat} {x : V} (h : Pt N H m x) : Pt N H (m + 1) x := by
  rcases h with h | ⟨c, e, h | h | ⟨n, kvs, a, b⟩⟩
  · exact .inl h
  · exact .inr ⟨c, e, .inl h⟩
  · exact .inr ⟨c, e, .inr (.inl h)⟩
  · exact .inr ⟨c, e, .inr (.inr ⟨n, kvs, a, by omega⟩)⟩
theorem Pt.put {N H : Hp} {m : Nat} {x : V} {c : Addr} {k0 k1 : List (Key × V)} (hc : H c = some (.dK k0)) (hn : N c = none) (hk : k1.length ≤ m + 1) (h : Pt N H m x) : Pt N (upd H c (.dK k1)) (m + 1) x := by
  rcases h with h | ⟨c', e, ⟨ys, h⟩ | ⟨ys, h⟩ | ⟨n, kvs, a, b⟩⟩
  · exact .inl h
  · exact .inr ⟨c', e, .inl ⟨ys, by rw [upd_ne (ne_of h hc (by simp))]; exact h⟩⟩
  · exact .inr ⟨c', e, .inr (.inl ⟨ys, by rw [upd_ne (ne_of h hc (by simp))]; exact h⟩)⟩
  · by_cases z : c' = c
    · subst z
      exact .inr ⟨c', e, .inr (.inr ⟨n, k1, upd_same, hk⟩)⟩
    · exact .inr ⟨c', e, .inr (.inr ⟨n, kvs, by rw [upd_ne z]; exact a, by omega⟩)⟩
theorem ok_right {P : Program} {w : World} {K : PySem.W.Frag} {mg : Str → Option Value} {base : Heap} {d : Ad} (T : Tx K mg d) : FnOk P w K mg base CX0 9 d.f_right d.fd_right ["_law_row_here", "_law_due"] (sp_right K d) := by
  refine T.F_right.ok sc_right (fun vs H Q E h => ?_) (fun cdv A outer s H vs Q E hr h => ?_)
  · obtain ⟨r, due, rfl, _⟩ := h; rfl
  obtain ⟨r, due, rfl, ⟨R, D, hR, hI, hD, hu⟩, q⟩ := h
  refine ⟨_, (pss_cons (ps_set (i := 2) sc_right.nd rfl (Or.inl rfl) (pe_call ((ok_l_copied T).mono (by decide)) hr rfl T.m_l_copied T.F_l_copied.kp T.b_l_copied .nil pass0 (pa_cons (pv 0) pa_nil)))
    (pss_cons (ps_set (i := 3) sc_right.nd rfl (Or.inl rfl) (pe_call ((ok_l_copied T).mono (by decide)) hr rfl T.m_l_copied T.F_l_copied.kp T.b_l_copied .nil pass0 (pa_cons (pv 1) pa_nil)))
    (pss_cons (ps_set (i := 4) sc_right.nd rfl (Or.inl rfl) (pe_call ((ok_deed_of T).mono (by decide)) hr rfl T.m_deed_of T.F_deed_of.kp T.b_deed_of .nil pass0 (pa_cons (pv 0) pa_nil)))
    (pss_cons (ps_if (pt_cmpR My.op_isNN (pv 1) pe_non (nomark _)) (pss_one (ps_ret (pe_and (pe_cmpR My.op_isNN (pv 4) pe_non (nomark _)) (pe_one (pe_cmpR (My.op_eqD (My.hu8 hr)) (pv 0) (pv 2) (nomark _)))))) pss_nil)
    (pss_cons (ps_if (PW.pt (pw_or (pt_not (pt_val (pe_callB My.call_isi2 rfl T.z_isinstance PyProof.Rows.boot_isinstance (pa_cons (pv 4) (pa_cons (pe_bltn (v := .ty "tuple") rfl T.z_tuple PyProof.Rows.boot_tuple rfl) pa_nil))))) (pw_or (pt_cmpR (My.op_neD (My.hu8 hr)) (pv 4) (pv 3) (nomark _)) (pw_or1 (pt_cmpR (My.op_neD (My.hu8 hr)) (pv 0) (pv 2) (nomark _)))))) (pss_one (ps_ret pe_bl)) pss_nil)
    (pss_cons (ps_for PassesOwn.never rfl (pi_tup (pv 4)) (pg_name (i := 5) sc_right.nd rfl (Or.inl rfl)) (pss_one (My.ps_cut (ps_if (pt_val (pe_callB My.call_isi2 rfl T.z_isinstance PyProof.Rows.boot_isinstance (pa_cons (pv 5) (pa_cons (pe_bltn (v := .ty "dict") rfl T.z_dict PyProof.Rows.boot_dict rfl) pa_nil)))) (pss_one (ps_dput (hu_of hr) (pv 5) pe_str pe_int rfl)) pss_nil))))
    (pss_one (ps_ret (pe_and (pe_cmpR (My.op_eqD (My.hu8 hr)) (pv 0) (pv 2) (nomark _)) (pe_one (pe_cmpR (My.op_eqD (My.hu8 hr)) (pe_call ((ok_deed_of T).mono (by decide)) hr rfl T.m_deed_of T.F_deed_of.kp T.b_deed_of .nil pass0 (pa_cons (pv 0) pa_nil)) (pv 3) (nomark _)))))))))))), ?_⟩
  try dsimp only [L2.cxOf, L2.Cx.nox, L2.Cx.wish, My.xw, My.pnd, My.suite]
  refine r_start (σ := [some (.ref r), some (due), none, none, none, none]) rfl ?_
  walk_at "go"
  refine ⟨R, _, rfl, hI, hD.le (by decide), fun vk H1 s1 hk => ?_⟩
  have hIr : ∃ xs, H r = some (.tup xs) := by
    cases hR with
    | first h => exact ⟨_, h⟩
    | hold h => exact ⟨_, h⟩
    | grow h => exact ⟨_, h⟩
    | back h => exact ⟨_, h⟩
    | turn h => exact ⟨_, h⟩
    | refused h => exact ⟨_, h⟩
    | found h => exact ⟨_, h⟩
    | move h => exact ⟨_, h⟩
  obtain ⟨xr, hxr⟩ := hIr
  obtain ⟨ak, rfl, nk⟩ : ∃ ak, vk = .ref ak ∧ H ak = none := by
    cases R with
    | fl u => obtain ⟨e, hf⟩ := hI; subst e; exact absurd hf Bool.false_ne_true
    | dc f => obtain ⟨a, kvs, e, n, _⟩ := hk; exact ⟨a, e, n⟩
    | sq b n g => obtain ⟨a, xs, e, n, _⟩ := hk; exact ⟨a, e, n⟩
  have nrk : r ≠ ak := ne_of_none hxr nk
  have hkb := hk.base
  clear hk
  cases D with
  | none =>
    have hu : due = .non := hu
    subst hu
    walk_at "go"
    refine ⟨.fl .non, _, rfl, flS rfl, .fl, fun vt H2 s2 ht => ?_⟩
    walk_at "go"
    refine ⟨r, none, rfl, hR.mono (s1.trans s2), fun vf H3 s3 hf => ?_⟩
    have hf : vf = .non := hf
    subst hf
    have sA := (s1.trans s2).trans s3
    walk_at "go"
    refine r_eqD (n := 5) nrk (by decide) (is_deq (hI.mono sA) (hkb.mono (s2.trans s3)) hD) ?_
    walk_at "go"
    exact q _ sA
  | some t =>
    obtain ⟨hdu, hdt, l, rfl, hl⟩ := hu
    obtain ⟨au, xu, rfl, _, hau, _⟩ := id hdu
    walk_at "go"
    refine ⟨tp l, _, rfl, hdu.mono s1, hdt.le (by decide), fun vt H2 s2 ht => ?_⟩
    obtain ⟨at', xt, rfl, nt, hat, _⟩ := id ht
    have htb := ht.base
    clear ht
    walk_at "go"
    refine ⟨r, some (tp l), rfl, hR.mono (s1.trans s2), fun vf H3 s3 hf => ?_⟩
    have hf : Is H2 H3 (tp l) vf := hf
    obtain ⟨af, xf, rfl, nf, haf, hxl, _, hxf⟩ := id hf
    have haf : H3 af = some (.tup xf) := haf
    have hat : H2 at' = some (.tup xt) := hat
    have hau : H au = some (.tup xu) := hau
    have s12 := s1.trans s2
    have sA := s12.trans s3
    have nft : af ≠ at' := fun z => by subst z; rw [nf] at hat; cases hat
    have hrk := is_deq (K := K) (hI.mono sA) (hkb.mono (s2.trans s3)) hD
    have hft := is_deq (K := K) hf.base (htb.mono s3) hdt
    walk_at "go"
    refine r_neD (n := 4) nft (by decide) hft ?_
    walk_at "go"
    refine r_neD (n := 5) nrk (by decide) hrk ?_
    walk_at "go"
    refine f_tup (xs := xf) (fun i σ H' => ∃ w : Option V, σ = [some (V.ref r), some (V.ref au), some (V.ref ak), some (V.ref at'), some (V.ref af), w] ∧ Same H2 H' ∧ H' af = some (.tup xf) ∧ ∀ x ∈ xf, Pt H2 H' (1000 + i) x)
      ⟨_, rfl, s3, haf, fun x hx => ?_⟩ ?_ ?_ ?_
    · obtain ⟨j, hj, rfl⟩ := List.mem_iff_getElem.mp hx
      exact (hxf j hj).pt
    · rintro i σ H' _ ⟨w, _, _, e, _⟩; exact SqT.of e
    · rintro i x σ H' hx ⟨w, rfl, sm, ea, hp⟩
      have hi : i < xf.length := (List.getElem?_eq_some_iff.mp hx).1
      have hi2 : i ≤ 100 := by omega
      have hpx := hp x (List.mem_of_getElem? hx)
      walk_at "go"
      refine r_cut0 ?_
      rcases hpx with h | ⟨c, rfl, ⟨ys, h⟩ | ⟨ys, h⟩ | ⟨n, kvs, a, b⟩⟩
      · have fin : ∃ w : Option V, [some (V.ref r), some (V.ref au), some (V.ref ak), some (V.ref at'), some (V.ref af), some x] = [some (V.ref r), some (V.ref au), some (V.ref ak), some (V.ref at'), some (V.ref af), w] ∧ Same H2 H' ∧ H' af = some (.tup xf) ∧ ∀ x ∈ xf, Pt H2 H' (1000 + (i + 1)) x := ⟨_, rfl, sm, ea, fun y hy => (hp y hy).up⟩
        cases x with
        | non => walk_at "go"; exact fin
        | bl b => walk_at "go"; exact fin
        | int i => walk_at "go"; exact fin
        | str x => walk_at "go"; exact fin
        | byt b => exact absurd h Bool.false_ne_true
        | flt b => exact absurd h Bool.false_ne_true
        | ref a => exact absurd h Bool.false_ne_true
        | ty x => exact absurd h Bool.false_ne_true
      · walk_at "go"
        exact ⟨_, rfl, sm, ea, fun y hy => (hp y hy).up⟩
      · walk_at "go"
        exact ⟨_, rfl, sm, ea, fun y hy => (hp y hy).up⟩
      · have hz : kvs.length < 16777216 := by omega
        walk_at "go"
        have hz2 := putK_len kvs (Sum.inr (Str.ofString "another")) (.int 5)
        exact ⟨_, rfl, same_put sm n, by rw [upd_ne (ne_of ea a (by simp))]; exact ea, fun y hy => (hp y hy).put a n (show _ ≤ 1000 + i + 1 by omega)⟩
    · rintro σ H' ⟨w, rfl, sm, ea, _⟩
      have sB := s12.trans sm
      walk_at "go"
      refine r_eqD (n := 5) nrk (by decide) (is_deq (hI.mono sB) (hkb.mono (s2.trans sm)) hD) ?_
      walk_at "go"
      refine ⟨r, some (tp l), rfl, hR.mono sB, fun vg H4 s4 hg => ?_⟩
      have hg : Is H' H4 (tp l) vg := hg
      obtain ⟨ag, xg, rfl, ng, hag, _⟩ := id hg
      have ngt : ag ≠ at' := fun z => by subst z; rw [sm _ _ hat] at ng; cases ng
      walk_at "go"
      refine r_eqD (n := 4) ngt (by decide) (is_deq hg.base (htb.mono (sm.trans s4)) hdt) ?_
      walk_at "go"
      exact q _ (sB.trans s4)
structure Ct (H : Hp) (nl wl : Addr) (z0 z1 z2 z3 : Str) (ws : List Str) : Prop where
  nm : H nl = some (.lst [.str z0, .str z1, .str z2, .str z3])
  wr : Wd H wl ws
  lo : 1 ≤ ws.length
  hi : ws.length ≤ 2
theorem Ct.mono {H H' : Hp} {nl wl : Addr} {z0 z1 z2 z3 : Str} {ws : List Str} (s : Same H H') (h : Ct H nl wl z0 z1 z2 z3 ws) : Ct H' nl wl z0 z1 z2 z3 ws := ⟨s _ _ h.nm, h.wr.mono s, h.lo, h.hi⟩
theorem Ct.nmW {H : Hp} {nl wl : Addr} {z0 z1 z2 z3 : Str} {ws : List Str} (h : Ct H nl wl z0 z1 z2 z3 ws) : Wd H nl [z0, z1, z2, z3] := h.nm
def Gv (H : Hp) (x : V) : Prop := ∃ (p e : Addr) (n : Int) (s1 s2 s3 : Str) (f : Str → Option Int), x = .ref p ∧ H p = some (.tup [.int n, .str s1, .ref e, .str s2, .str s3]) ∧ Am H e f ∧ 0 ≤ n ∧ n ≤ 1000
theorem Gv.mono {H H' : Hp} {x : V} (s : Same H H') (h : Gv H x) : Gv H' x := by
  obtain ⟨p, e, n, s1, s2, s3, f, a, b, c, r⟩ := h
  exact ⟨p, e, n, s1, s2, s3, f, a, s _ _ b, c.mono s, r⟩
theorem Am.put {H : Hp} {e l : Addr} {f : Str → Option Int} {xs ys : List V} (hl : H l = some (.lst xs)) (h : Am H e f) : Am (upd H l (.lst ys)) e f := by
  obtain ⟨kvs, a, r⟩ := h
  exact ⟨kvs, by rw [upd_ne (ne_of a hl (by simp))]; exact a, r⟩
theorem Gv.put {H : Hp} {x : V} {l : Addr} {xs ys : List V} (hl : H l = some (.lst xs)) (h : Gv H x) : Gv (upd H l (.lst ys)) x := by
  obtain ⟨p, e, n, s1, s2, s3, f, a, b, c, r⟩ := h
  exact ⟨p, e, n, s1, s2, s3, f, a, by rw [upd_ne (ne_of b hl (by simp))]; exact b, c.put hl, r⟩
def AllS (n : Nat) (H : Hp) : List V → Prop
  | [] => True
  | x :: xs => Some n H x ∧ AllS n H xs
theorem AllS.of {n : Nat} {H : Hp} : ∀ {xs : List V}, AllS n H xs → ∀ x ∈ xs, Some n H x
  | y :: ys, h, x, hx => by
    rcases List.mem_cons.mp hx with e | e
    · subst e; exact h.1
    · exact AllS.of h.2 x e
theorem Gv.any {H : Hp} {x : V} (h : Gv H x) : Some 2 H x := by
  obtain ⟨p, e, n, s1, s2, s3, f, rfl, b, c, r⟩ := h
  exact some_tup b (by simp) (AllS.of ⟨some_fl rfl, some_fl rfl, c.any, some_fl rfl, some_fl rfl, trivial⟩)
def sp_given (K : PySem.W.Frag) (d : Ad) : Sp := fun vs H Q _ => ∃ (c : Int) (nl wl : Addr) (z0 z1 z2 z3 : Str) (ws : List Str), vs = [.int c, .ref nl, .ref wl] ∧ Ct H nl wl z0 z1 z2 z3 ws ∧ ∀ (l : Addr) (xs : List V) (H' : Hp), Same H H' → H' l = some (.lst xs) → (∀ x ∈ xs, Gv H' x) → xs.length ≤ 4 → Q (.ref l) H'
def Ak (H : Hp) (p : Addr) (s : Str) (e : Addr) (n : Int) (u : V) (f : Str → Option Int) : Prop := H p = some (.tup [.str (Str.ofString "ask"), .str s, .ref e, .int n, u]) ∧ flatV u = true ∧ Am H e f
theorem Ak.mono {H H' : Hp} {p : Addr} {s : Str} {e : Addr} {n : Int} {u : V} {f : Str → Option Int} (sm : Same H H') (h : Ak H p s e n u f) : Ak H' p s e n u f := ⟨sm _ _ h.1, h.2.1, h.2.2.mono sm⟩
def sp_ask (K : PySem.W.Frag) (d : Ad) : Sp := fun vs H Q _ => ∃ (c : Int) (nl wl : Addr) (z0 z1 z2 z3 : Str) (ws : List Str), vs = [.int c, .ref nl, .ref wl] ∧ Ct H nl wl z0 z1 z2 z3 ws ∧ ∀ (p : Addr) (s : Str) (e : Addr) (n : Int) (u : V) (f : Str → Option Int) (H' : Hp), Same H H' → Ak H' p s e n u f → Q (.ref p) H'
theorem ok_given {P : Program} {w : World} {K : PySem.W.Frag} {mg : Str → Option Value} {base : Heap} {d : Ad} (T : Tx K mg d) : FnOk P w K mg base CX0 3 d.f_given d.fd_given ["_law_cell_here", "_law_names_here", "_law_wares"] (sp_given K d) := by
  refine T.F_given.ok sc_given (fun vs H Q E h => ?_) (fun cdv A outer s H vs Q E hr h => ?_)
  · obtain ⟨c, nl, wl, z0, z1, z2, z3, ws, rfl, _⟩ := h; rfl
  obtain ⟨c, nl, wl, z0, z1, z2, z3, ws, rfl, hC, q⟩ := h
  have hl : (ws.map V.str).length = ws.length := List.length_map _
  have lo := hC.lo
  have hi2 := hC.hi
  refine ⟨_, (pss_cons (ps_set (i := 3) sc_given.nd rfl (Or.inl rfl) (pe_lst pa_nil))
    (pss_cons (ps_for PassesOwn.never rfl (pi_range1 rfl T.z_range (pa_cons (pe_call ((ok_mix T).mono (by decide)) hr rfl T.m_mix T.F_mix.kp T.b_mix .nil pass0 (pa_cons (pv 0) (pa_cons pe_int (pa_cons pe_int pa_nil)))) pa_nil)) (pg_name (i := 4) sc_given.nd rfl (Or.inl rfl)) (pss_cons (ps_set (i := 5) sc_given.nd rfl (Or.inl rfl) (pe_ix ix_list (pv 2) (pe_call ((ok_mix T).mono (by decide)) hr rfl T.m_mix T.F_mix.kp T.b_mix .nil pass0 (pa_cons (pv 0) (pa_cons (pe_op op_add pe_int (pv 4)) (pa_cons (pe_callB My.call_lenN rfl T.z_len PySem.boot_len (pa_cons (pv 2) pa_nil)) pa_nil)))) (fun _ _ => rfl)))
    (pss_one (ps_expr (pe_bm PySem.F.plainAttrs_list PySem.F.slot_list_append PySem.F.type_list_append mt_append (pv 3) (pa_cons (pe_tup (pa_cons (pe_op op_add (pe_op op_add (pe_op My.op_mulB pe_int (pv 4)) pe_int) (pe_call ((ok_mix T).mono (by decide)) hr rfl T.m_mix T.F_mix.kp T.b_mix .nil pass0 (pa_cons (pv 0) (pa_cons (pe_op op_add pe_int (pv 4)) (pa_cons pe_int pa_nil))))) (pa_cons (pe_ix ix_list (pv 1) (pv 4) (fun _ _ => rfl)) (pa_cons (pe_call ((ok_amounts T).mono (by decide)) hr rfl T.m_amounts T.F_amounts.kp T.b_amounts .nil pass0 (pa_cons (pe_op op_add (pv 0) (pv 4)) (pa_cons (pv 2) pa_nil))) (pa_cons (pe_ix ix_list (pv 1) pe_int (fun _ _ => rfl)) (pa_cons (pv 5) pa_nil)))))) pa_nil))))))
    (pss_one (ps_ret (pv 3))))), ?_⟩
  try dsimp only [L2.cxOf, L2.Cx.nox, L2.Cx.wish, My.xw, My.pnd, My.suite]
  refine r_start (σ := [some (.int c), some (.ref nl), some (.ref wl), none, none, none]) rfl ?_
  walk_at "go"
  rename_i lf hlf
  refine u_mix (by decide) (by decide) (by decide) (by decide) fun r r0 r1 => ?_
  walk_at "go"
  refine f_range (fun i σ H' => ∃ (xs : List V) (w1 w2 : Option V), σ = [some (V.int c), some (V.ref nl), some (V.ref wl), some (V.ref lf), w1, w2] ∧ Same H H' ∧ H' lf = some (.lst xs) ∧ (∀ x ∈ xs, Gv H' x) ∧ xs.length = i)
    ⟨[], _, _, rfl, same_new hlf _, upd_same, fun x hx => absurd hx (by simp), rfl⟩ ?_ ?_
  · rintro i σ H' hi ⟨xs, w1, w2, rfl, sm, ex, hg, hxl⟩
    have hC1 := hC.mono sm
    have hw1 : SqL K H' wl (ws.map V.str) := SqL.of hC1.wr
    walk_at "go"
    refine u_mix (by omega) (by omega) (by omega) (by omega) fun r2 a0 a1 => ?_
    refine r_word hC1.wr a0 (by omega) fun wz _ => ?_
    walk_at "go"
    refine u_mix (by omega) (by omega) (by decide) (by decide) fun r3 b0 b1 => ?_
    walk_at "go"
    refine r_word hC1.nmW (by omega) (by show _ < (4 : Int); omega) fun nz _ => ?_
    walk_at "go"
    refine ⟨_, wl, ws, rfl, hC1.wr, by omega, fun e f H2 s2 hA => ?_⟩
    have hC2 := hC1.mono s2
    have hn2 := hC2.nm
    have ex2 := s2 _ _ ex
    have hxz : xs.length < 16777216 := by omega
    walk_at "go"
    rename_i p hp
    have s3 := same_new hp (.tup [.int (3 * (0 + (i : Int)) + 1 + r3), .str nz, .ref e, .str z0, .str wz])
    have ex3 := s3 _ _ ex2
    refine ⟨_, _, _, rfl, same_put ((sm.trans s2).trans s3) hlf, upd_same, fun x hx => ?_, by rw [List.length_append, hxl]; rfl⟩
    rcases List.mem_append.mp hx with h | h
    · exact ((hg x h).mono (s2.trans s3)).put ex3
    · have := List.mem_singleton.mp h
      subst this
      exact Gv.put ex3 ⟨p, e, _, nz, z0, wz, f, rfl, upd_same, hA.mono s3, by omega, by omega⟩
  · rintro σ H' ⟨xs, w1, w2, rfl, sm, ex, hg, hxl⟩
    walk_at "go"
    exact q lf xs H' sm ex hg (by omega)
theorem ok_ask {P : Program} {w : World} {K : PySem.W.Frag} {mg : Str → Option Value} {base : Heap} {d : Ad} (T : Tx K mg d) : FnOk P w K mg base CX0 3 d.f_ask d.fd_ask ["_law_cell_here", "_law_names_here", "_law_wares"] (sp_ask K d) := by
  refine T.F_ask.ok sc_ask (fun vs H Q E h => ?_) (fun cdv A outer s H vs Q E hr h => ?_)
  · obtain ⟨c, nl, wl, z0, z1, z2, z3, ws, rfl, _⟩ := h; rfl
  obtain ⟨c, nl, wl, z0, z1, z2, z3, ws, rfl, hC, q⟩ := h
  have lo := hC.lo
  have hi2 := hC.hi
  refine ⟨_, (pss_cons (ps_set (i := 3) sc_ask.nd rfl (Or.inl rfl) (pe_ix ix_list (pe_lst (pa_cons pe_non (pa_cons pe_int (pa_cons pe_int pa_nil)))) (pe_call ((ok_mix T).mono (by decide)) hr rfl T.m_mix T.F_mix.kp T.b_mix .nil pass0 (pa_cons (pv 0) (pa_cons pe_int (pa_cons pe_int pa_nil)))) (fun _ _ => rfl)))
    (pss_one (ps_ret (pe_tup (pa_cons pe_str (pa_cons (pe_ix ix_list (pv 1) (pe_call ((ok_mix T).mono (by decide)) hr rfl T.m_mix T.F_mix.kp T.b_mix .nil pass0 (pa_cons (pv 0) (pa_cons pe_int (pa_cons pe_int pa_nil)))) (fun _ _ => rfl)) (pa_cons (pe_call ((ok_amounts T).mono (by decide)) hr rfl T.m_amounts T.F_amounts.kp T.b_amounts .nil pass0 (pa_cons (pv 0) (pa_cons (pv 2) pa_nil))) (pa_cons (pe_call ((ok_mix T).mono (by decide)) hr rfl T.m_mix T.F_mix.kp T.b_mix .nil pass0 (pa_cons (pv 0) (pa_cons pe_int (pa_cons pe_int pa_nil)))) (pa_cons (pv 3) pa_nil))))))))), ?_⟩
  try dsimp only [L2.cxOf, L2.Cx.nox, L2.Cx.wish, My.xw, My.pnd, My.suite]
  refine r_start (σ := [some (.int c), some (.ref nl), some (.ref wl), none]) rfl ?_
  walk_at "go"
  rename_i p0 hp0
  refine u_mix (by decide) (by decide) (by decide) (by decide) fun r r0 r1 => ?_
  walk_at "go"
  refine r_pick (SqL.of upd_same) r0 (by show _ < (3 : Int); exact r1) fun u hu => ?_
  have fu : flatV u = true := by
    simp only [List.mem_cons, List.not_mem_nil, or_false] at hu
    rcases hu with rfl | rfl | rfl <;> rfl
  have s1 := same_new hp0 (.lst [.non, .int 1, .int 1000])
  generalize upd H p0 (.lst [.non, .int 1, .int 1000]) = H1 at *
  have hC1 := hC.mono s1
  walk_at "go"
  refine u_mix (by decide) (by decide) (by decide) (by decide) fun r2 a0 a1 => ?_
  refine r_word hC1.nmW (by omega) (by show _ < (4 : Int); omega) fun nz _ => ?_
  walk_at "go"
  refine ⟨_, wl, ws, rfl, hC1.wr, by omega, fun e f H2 s2 hA => ?_⟩
  walk_at "go"
  refine u_mix (by decide) (by decide) (by decide) (by decide) fun r3 b0 b1 => ?_
  walk_at "go"
  rename_i p hp
  exact q p nz e r3 u f _ ((s1.trans s2).trans (same_new hp _)) ⟨upd_same, fu, hA.mono (same_new hp _)⟩
def TpR (H : Hp) (x : V) : Prop := ∃ l : List Tr, Is E0 H (tp l) x ∧ Dp 3 (tp l) ∧ l.length ≤ 100
theorem TpR.mono {H H' : Hp} {x : V} (s : Same H H') (h : TpR H x) : TpR H' x := h.imp fun _ h => ⟨h.1.mono s, h.2⟩
def Hd (H : Hp) (y : V) : Prop := ∃ (p : Addr) (a b : Int), y = .ref p ∧ H p = some (.tup [.int a, .int b])
theorem Hd.mono {H H' : Hp} {y : V} (s : Same H H') (h : Hd H y) : Hd H' y := by
  obtain ⟨p, a, b, e, h⟩ := h
  exact ⟨p, a, b, e, s _ _ h⟩
theorem Hd.put {H : Hp} {y : V} {l : Addr} {xs ys : List V} (hl : H l = some (.lst xs)) (h : Hd H y) : Hd (upd H l (.lst ys)) y := by
  obtain ⟨p, a, b, e, h⟩ := h
  exact ⟨p, a, b, e, by rw [upd_ne (ne_of h hl (by simp))]; exact h⟩
theorem Hd.any {H : Hp} {y : V} (h : Hd H y) : Some 1 H y := by
  obtain ⟨p, a, b, rfl, h⟩ := h
  exact some_tup h (by simp) (AllS.of ⟨some_fl rfl, some_fl rfl, trivial⟩)
def sp_refused (K : PySem.W.Frag) (d : Ad) : Sp := fun vs H Q _ => ∃ (c : Int) (nl wl : Addr) (z0 z1 z2 z3 : Str) (ws : List Str), vs = [.int c, .ref nl, .ref wl] ∧ Ct H nl wl z0 z1 z2 z3 ws ∧ ∀ (l : Addr) (x1 : V) (s2 s3 : Str) (x4 : V) (H' : Hp), Same H H' → H' l = some (.lst [x1, .str s2, .str s3, x4]) → TpR H' x1 → Some 2 H' x4 → Q (.ref l) H'
theorem Ak.put {H : Hp} {p : Addr} {s : Str} {e : Addr} {n : Int} {u : V} {f : Str → Option Int} {l : Addr} {xs ys : List V} (hl : H l = some (.lst xs)) (h : Ak H p s e n u f) : Ak (upd H l (.lst ys)) p s e n u f :=
  ⟨by rw [upd_ne (ne_of h.1 hl (by simp))]; exact h.1, h.2.1, h.2.2.put hl⟩
theorem Ak.tp {H : Hp} {p : Addr} {s : Str} {e : Addr} {n : Int} {u : V} {f : Str → Option Int} (h : Ak H p s e n u f) : Is E0 H (tp [.fl (.str (Str.ofString "ask")), .fl (.str s), .dc f, .fl (.int n), .fl u]) (.ref p) :=
  is_tp h.1 rfl ⟨⟨rfl, rfl⟩, ⟨rfl, rfl⟩, h.2.2.is, ⟨rfl, rfl⟩, ⟨rfl, h.2.1⟩, trivial⟩ (by simp)
def Gr (H : Hp) (p : Addr) (n : Int) (e : Addr) (f : Str → Option Int) : Prop := H p = some (.tup [.str (Str.ofString "grow"), .int n, .ref e]) ∧ Am H e f
theorem Gr.mono {H H' : Hp} {p : Addr} {n : Int} {e : Addr} {f : Str → Option Int} (s : Same H H') (h : Gr H p n e f) : Gr H' p n e f := ⟨s _ _ h.1, h.2.mono s⟩
theorem Gr.put {H : Hp} {p : Addr} {n : Int} {e : Addr} {f : Str → Option Int} {l : Addr} {xs ys : List V} (hl : H l = some (.lst xs)) (h : Gr H p n e f) : Gr (upd H l (.lst ys)) p n e f :=
  ⟨by rw [upd_ne (ne_of h.1 hl (by simp))]; exact h.1, h.2.put hl⟩
theorem Gr.tp {H : Hp} {p : Addr} {n : Int} {e : Addr} {f : Str → Option Int} (h : Gr H p n e f) : Is E0 H (tp [.fl (.str (Str.ofString "grow")), .fl (.int n), .dc f]) (.ref p) :=
  is_tp h.1 rfl ⟨⟨rfl, rfl⟩, ⟨rfl, rfl⟩, h.2.is, trivial⟩ (by simp)
theorem mv_tp {H : Hp} {p : Addr} {a b : Str} (h : H p = some (.tup [.str (Str.ofString "move"), .str a, .str b])) : Is E0 H (tp [.fl (.str (Str.ofString "move")), .fl (.str a), .fl (.str b)]) (.ref p) :=
  is_tp h rfl ⟨⟨rfl, rfl⟩, ⟨rfl, rfl⟩, ⟨rfl, rfl⟩, trivial⟩ (by simp)
def lowT : Tr → Bool
  | .sq _ _ _ => false
  | _ => true
theorem dp_low {n : Nat} {l : List Tr} (h : l.all lowT = true) : Dp (n + 2) (tp l) := dp_tp fun t ht => by
  have z := List.all_eq_true.mp h t ht
  cases t with
  | fl _ => exact .fl
  | dc _ => exact .dc
  | sq _ _ _ => exact absurd z Bool.false_ne_true
theorem ok_refused {P : Program} {w : World} {K : PySem.W.Frag} {mg : Str → Option Value} {base : Heap} {d : Ad} (T : Tx K mg d) : FnOk P w K mg base CX0 4 d.f_refused d.fd_refused ["_law_cell_here", "_law_names_here", "_law_wares"] (sp_refused K d) := by
  refine T.F_refused.ok sc_refused (fun vs H Q E h => ?_) (fun cdv A outer s H vs Q E hr h => ?_)
  · obtain ⟨c, nl, wl, z0, z1, z2, z3, ws, rfl, _⟩ := h; rfl
  obtain ⟨c, nl, wl, z0, z1, z2, z3, ws, rfl, hC, q⟩ := h
  have lo := hC.lo
  have hi2 := hC.hi
  refine ⟨_, (pss_cons (ps_set (i := 3) sc_refused.nd rfl (Or.inl rfl) (pe_lst (pa_cons (pe_call ((ok_ask T).mono (by decide)) hr rfl T.m_ask T.F_ask.kp T.b_ask .nil pass0 (pa_cons (pv 0) (pa_cons (pv 1) (pa_cons (pv 2) pa_nil)))) (pa_cons (pe_tup (pa_cons pe_str (pa_cons (pe_op op_add pe_int (pe_call ((ok_mix T).mono (by decide)) hr rfl T.m_mix T.F_mix.kp T.b_mix .nil pass0 (pa_cons (pv 0) (pa_cons pe_int (pa_cons pe_int pa_nil))))) (pa_cons (pe_call ((ok_amounts T).mono (by decide)) hr rfl T.m_amounts T.F_amounts.kp T.b_amounts .nil pass0 (pa_cons (pv 0) (pa_cons (pv 2) pa_nil))) pa_nil)))) pa_nil))))
    (pss_cons (ps_expr (pe_bm PySem.F.plainAttrs_list PySem.F.slot_list_append PySem.F.type_list_append mt_append (pv 3) (pa_cons (pe_tup (pa_cons pe_str (pa_cons (pe_ix ix_list (pv 1) (pe_call ((ok_mix T).mono (by decide)) hr rfl T.m_mix T.F_mix.kp T.b_mix .nil pass0 (pa_cons (pv 0) (pa_cons pe_int (pa_cons pe_int pa_nil)))) (fun _ _ => rfl)) (pa_cons (pe_ix ix_list (pv 1) (pe_call ((ok_mix T).mono (by decide)) hr rfl T.m_mix T.F_mix.kp T.b_mix .nil pass0 (pa_cons (pv 0) (pa_cons pe_int (pa_cons pe_int pa_nil)))) (fun _ _ => rfl)) pa_nil)))) pa_nil)))
    (pss_cons (My.ps_comp (j := 4) (caps := []) (cn := []) (My.caps_of rfl rfl (by rfl) (by rfl) rfl trivial (by rfl) rfl trivial (by decide)) rfl sc_refused.nd rfl rfl (pi_list (pe_call ((ok_given T).mono (by decide)) hr rfl T.m_given T.F_given.kp T.b_given .nil pass0 (pa_cons (pv 0) (pa_cons (pv 1) (pa_cons (pv 2) pa_nil))))) (fun _ _ _ _ => My.pf_nil) (fun _ _ _ _ => (pe_tup (pa_cons (pe_ix ix_tup (pv 0) pe_int (fun _ _ => rfl)) (pa_cons (pe_op op_add pe_int (pe_op My.op_mulB (pe_ix ix_tup (pv 0) pe_int (fun _ _ => rfl)) (pe_op op_pow pe_int pe_int))) pa_nil)))))
    (pss_one (ps_ret (pe_lst (pa_cons (pe_ix ix_list (pv 3) (pe_call ((ok_mix T).mono (by decide)) hr rfl T.m_mix T.F_mix.kp T.b_mix .nil pass0 (pa_cons (pv 0) (pa_cons pe_int (pa_cons pe_int pa_nil)))) (fun _ _ => rfl)) (pa_cons (pe_ix ix_list (pv 1) (pe_call ((ok_mix T).mono (by decide)) hr rfl T.m_mix T.F_mix.kp T.b_mix .nil pass0 (pa_cons (pv 0) (pa_cons pe_int (pa_cons pe_int pa_nil)))) (fun _ _ => rfl)) (pa_cons (pe_ix ix_list (pv 2) pe_int (fun _ _ => rfl)) (pa_cons (pv 4) pa_nil)))))))))), ?_⟩
  try dsimp only [L2.cxOf, L2.Cx.nox, L2.Cx.wish, My.xw, My.pnd, My.suite]
  try dsimp only [My.cxC]
  refine r_start (σ := [some (.int c), some (.ref nl), some (.ref wl), none, none]) rfl ?_
  walk_at "go"
  refine ⟨c, nl, wl, z0, z1, z2, z3, ws, rfl, hC, fun pa s e n u f H1 s1 hk => ?_⟩
  have hC1 := hC.mono s1
  walk_at "go"
  refine u_mix (by decide) (by decide) (by decide) (by decide) fun r2 a0 a1 => ?_
  walk_at "go"
  refine ⟨_, wl, ws, rfl, hC1.wr, by omega, fun e2 f2 H2 s2 hA2 => ?_⟩
  have hC2 := hC1.mono s2
  have hk2 := hk.mono s2
  clear hk
  walk_at "go"
  rename_i pg hpg pd hpd
  have s3 := same_new hpg (.tup [.str (Str.ofString "grow"), .int (1 + r2), .ref e2])
  have s4 := same_new hpd (.lst [.ref pa, .ref pg])
  have hC4 := hC2.mono (s3.trans s4)
  have hk4 := hk2.mono (s3.trans s4)
  have hg4 : Gr _ pg (1 + r2) e2 f2 := Gr.mono s4 ⟨upd_same, hA2.mono s3⟩
  have ed := upd_same (H := upd H2 pg (.tup [.str (Str.ofString "grow"), .int (1 + r2), .ref e2])) (a := pd) (o := .lst [.ref pa, .ref pg])
  have nd : H pd = none := ((s1.trans s2).trans s3).free hpd
  have sm := ((s1.trans s2).trans s3).trans s4
  generalize upd (upd H2 pg (.tup [.str (Str.ofString "grow"), .int (1 + r2), .ref e2])) pd (.lst [.ref pa, .ref pg]) = H4 at *
  clear hk2 s3 s4 hA2 hC1 hC2 s1 s2 hpg hpd
  refine u_mix (by decide) (by decide) (by decide) (by decide) fun r3 b0 b1 => ?_
  refine r_word hC4.nmW (by omega) (by show _ < (4 : Int); omega) fun na _ => ?_
  walk_at "go"
  refine u_mix (by decide) (by decide) (by decide) (by decide) fun r4 c0 c1 => ?_
  refine r_word hC4.nmW (by omega) (by show _ < (4 : Int); omega) fun nb _ => ?_
  walk_at "go"
  rename_i pm hpm
  have s5 := same_new hpm (.tup [.str (Str.ofString "move"), .str na, .str nb])
  have ed5 := s5 _ _ ed
  have hC5 : Ct (upd (upd H4 pm (.tup [.str (Str.ofString "move"), .str na, .str nb])) pd (.lst ([.ref pa, .ref pg] ++ [.ref pm]))) nl wl z0 z1 z2 z3 ws := hC.mono (same_put (sm.trans s5) nd)
  have hk5 := (hk4.mono s5).put (ys := [.ref pa, .ref pg] ++ [.ref pm]) ed5
  have hg5 := (hg4.mono s5).put (ys := [.ref pa, .ref pg] ++ [.ref pm]) ed5
  have hm5 : (upd (upd H4 pm (.tup [.str (Str.ofString "move"), .str na, .str nb])) pd (.lst ([.ref pa, .ref pg] ++ [.ref pm]))) pm = some (.tup [.str (Str.ofString "move"), .str na, .str nb]) := by
    rw [upd_ne (ne_of_none ed hpm).symm]; exact upd_same
  have sm5 : Same H (upd (upd H4 pm (.tup [.str (Str.ofString "move"), .str na, .str nb])) pd (.lst ([.ref pa, .ref pg] ++ [.ref pm]))) := same_put (sm.trans s5) nd
  have e5 : (upd (upd H4 pm (.tup [.str (Str.ofString "move"), .str na, .str nb])) pd (.lst ([.ref pa, .ref pg] ++ [.ref pm]))) pd = some (.lst [.ref pa, .ref pg, .ref pm]) := upd_same
  generalize upd (upd H4 pm (.tup [.str (Str.ofString "move"), .str na, .str nb])) pd (.lst ([.ref pa, .ref pg] ++ [.ref pm])) = H5 at *
  clear ed ed5 hk4 hg4 hC4 s5 hpm sm
  refine ⟨c, nl, wl, z0, z1, z2, z3, ws, rfl, hC5, fun lg xs H6 s6 el hgv hxl => ?_⟩
  walk_at "go"
  intro C s0 H0 fp acc hacc
  refine c_by xs.length (fun i H' => ∃ ys : List V, Same H6 H' ∧ H' acc = some (.lst ys) ∧ ys.length = i ∧ ∀ y ∈ ys, Hd H' y) ⟨[], same_new hacc _, upd_same, rfl, fun y hy => absurd hy (by simp)⟩ ?_ ?_ ?_ ?_
  · rintro i H' hi ⟨ys, sm, _⟩
    exact ⟨xs, xs[i], SqL.of (sm _ _ el), List.getElem?_eq_getElem hi⟩
  · rintro H' ⟨ys, sm, _⟩
    exact ⟨xs, SqL.of (sm _ _ el), Nat.le_refl _⟩
  · rintro i H' v H'' hi ⟨ys, sm, ea, hy, hh⟩ ⟨rfl, hv⟩
    have hv := hv xs (SqL.of (sm _ _ el))
    rw [List.getElem?_eq_getElem hi] at hv
    cases hv
    obtain ⟨p, e', n', t1, t2, t3, f', hx, hp, hAm', n0, n1⟩ := (hgv xs[i] (List.getElem_mem hi)).mono sm
    rw [hx]
    have nb' : n'.natAbs < 2 ^ 600 := Nat.lt_of_le_of_lt (show n'.natAbs ≤ 1000 by omega) (by decide)
    walk_at "go"
    refine r_I ⟨nb', by decide⟩ ?_
    walk_at "go"
    rename_i py hpy
    have s7 := same_new hpy (.tup [.int n', .int (1 + n' * 10 ^ Int.toNat 20)])
    refine ⟨ys ++ [.ref py], same_put (sm.trans s7) hacc, upd_same, by rw [List.length_append, hy]; rfl, fun y hyy => ?_⟩
    rcases List.mem_append.mp hyy with h | h
    · exact ((hh y h).mono s7).put (s7 _ _ ea)
    · have := List.mem_singleton.mp h
      subst this
      exact Hd.put (s7 _ _ ea) ⟨py, _, _, rfl, upd_same⟩
  · rintro H7 ⟨ys, s7, ea, hy, hh⟩
    have s57 := s6.trans s7
    have hC7 := hC5.mono s57
    have e7 := s57 _ _ e5
    walk_at "go"
    refine u_mix (by decide) (by decide) (by decide) (by decide) fun r6 d0 d1 => ?_
    refine r_pick (SqL.of e7) d0 (by show _ < (3 : Int); exact d1) fun x hx => ?_
    have kx : TpR H7 x := by
      simp only [List.mem_cons, List.not_mem_nil, or_false] at hx
      rcases hx with rfl | rfl | rfl
      · exact ⟨_, (hk5.mono s57).tp, dp_low rfl, by simp⟩
      · exact ⟨_, (hg5.mono s57).tp, dp_low rfl, by simp⟩
      · exact ⟨_, mv_tp (s57 _ _ hm5), dp_low rfl, by simp⟩
    clear hx
    walk_at "go"
    refine u_mix (by decide) (by decide) (by decide) (by decide) fun r7 g0 g1 => ?_
    refine r_word hC7.nmW (by omega) (by show _ < (4 : Int); omega) fun nc _ => ?_
    walk_at "go"
    refine r_word hC7.wr (by decide) (by omega) fun wz _ => ?_
    walk_at "go"
    rename_i lr hlr
    have s8 := same_new hlr (.lst [x, .str nc, .str wz, .ref acc])
    exact q lr x nc wz (.ref acc) _ ((sm5.trans s57).trans s8) upd_same (kx.mono s8) (some_lst (s8 _ _ ea) (by omega) fun y hyy => ((hh y hyy).mono s8).any)
theorem rowdue {H : Hp} {r : Addr} {D : Option Tr} {due : V} {xs : List V} (hR : RowD H r D) (hx : H r = some (.tup xs)) (hz : xs.length ≤ 1000) (h : AllS 4 H xs) (hu : DueR H D due) : RowDue H r due := by
  obtain ⟨R, h1, h2⟩ := some_tup hx hz h.of
  exact ⟨R, D, hR, h1, h2, hu⟩
theorem TpR.any {H : Hp} {x : V} (h : TpR H x) : Some 3 H x := by
  obtain ⟨l, a, b, _⟩ := h
  exact ⟨_, a, b⟩
def sp_row (K : PySem.W.Frag) (d : Ad) : Sp := fun vs H Q _ => ∃ (w c : Int) (nl wl : Addr) (z0 z1 z2 z3 : Str) (ws : List Str), vs = [.int w, .int c, .ref nl, .ref wl] ∧ 0 ≤ w ∧ w < 8 ∧ Ct H nl wl z0 z1 z2 z3 ws ∧ ∀ (l r : Addr) (due : V) (H' : Hp), Same H H' → H' l = some (.lst [.ref r, due]) → RowDue H' r due → Q (.ref l) H'
theorem ok_row {P : Program} {w : World} {K : PySem.W.Frag} {mg : Str → Option Value} {base : Heap} {d : Ad} (T : Tx K mg d) : FnOk P w K mg base CX0 5 d.f_row d.fd_row ["_law_way", "_law_cell_here", "_law_names_here", "_law_wares"] (sp_row K d) := by
  refine T.F_row.ok sc_row (fun vs H Q E h => ?_) (fun cdv A outer s H vs Q E hr h => ?_)
  · obtain ⟨w, c, nl, wl, z0, z1, z2, z3, ws, rfl, _⟩ := h; rfl
  obtain ⟨w, c, nl, wl, z0, z1, z2, z3, ws, rfl, w0, w1, hC, q⟩ := h
  have lo := hC.lo
  have hi2 := hC.hi
  refine ⟨_, (pss_cons (ps_set (i := 4) sc_row.nd rfl (Or.inl rfl) (pe_op op_add pe_int (pe_call ((ok_mix T).mono (by decide)) hr rfl T.m_mix T.F_mix.kp T.b_mix .nil pass0 (pa_cons (pv 1) (pa_cons pe_int (pa_cons pe_int pa_nil))))))
    (pss_cons (ps_set (i := 5) sc_row.nd rfl (Or.inl rfl) (pe_call ((ok_amounts T).mono (by decide)) hr rfl T.m_amounts T.F_amounts.kp T.b_amounts .nil pass0 (pa_cons (pv 1) (pa_cons (pv 3) pa_nil))))
    (pss_cons (ps_set (i := 6) sc_row.nd rfl (Or.inl rfl) (pe_call ((ok_amounts T).mono (by decide)) hr rfl T.m_amounts T.F_amounts.kp T.b_amounts .nil pass0 (pa_cons (pe_op op_add (pv 1) pe_int) (pa_cons (pv 3) pa_nil))))
    (pss_cons (ps_if (pt_cmpR op_eq (pv 0) pe_int (nomark _)) (pss_one (ps_ret (pe_lst (pa_cons (pe_tup (pa_cons pe_str (pa_cons (pe_callB My.call_sortL rfl T.z_sorted PyProof.Rows.boot_sorted (pa_cons (pv 3) pa_nil)) (pa_cons (pe_ix ix_list (pv 2) pe_int (fun _ _ => rfl)) (pa_cons (pv 5) (pa_cons (pv 6) (pa_cons (pv 4) pa_nil))))))) (pa_cons pe_non pa_nil))))) pss_nil)
    (pss_cons (ps_if (pt_cmpR op_eq (pv 0) pe_int (nomark _)) (pss_one (ps_ret (pe_lst (pa_cons (pe_tup (pa_cons pe_str (pa_cons (pe_ix ix_list (pv 2) pe_int (fun _ _ => rfl)) (pa_cons (pe_ix ix_list (pv 2) pe_int (fun _ _ => rfl)) (pa_cons (pv 5) (pa_cons (pv 6) (pa_cons (pv 4) pa_nil))))))) (pa_cons (pe_tup (pa_cons pe_str (pa_cons (pe_ix ix_list (pv 2) pe_int (fun _ _ => rfl)) (pa_cons (pe_ix ix_list (pv 2) pe_int (fun _ _ => rfl)) (pa_cons (pv 5) (pa_cons (pv 6) (pa_cons (pv 4) pa_nil))))))) pa_nil))))) pss_nil)
    (pss_cons (ps_set (i := 7) sc_row.nd rfl (Or.inl rfl) (pe_cmpR op_eq (pe_call ((ok_mix T).mono (by decide)) hr rfl T.m_mix T.F_mix.kp T.b_mix .nil pass0 (pa_cons (pv 1) (pa_cons pe_int (pa_cons pe_int pa_nil)))) pe_int (nomark _)))
    (pss_cons (ps_set (i := 8) sc_row.nd rfl (Or.inl rfl) (pe_call ((ok_given T).mono (by decide)) hr rfl T.m_given T.F_given.kp T.b_given .nil pass0 (pa_cons (pv 1) (pa_cons (pv 2) (pa_cons (pv 3) pa_nil)))))
    (pss_cons (ps_if (pt_cmpR op_eq (pv 0) pe_int (nomark _)) (pss_cons (ps_set (i := 9) sc_row.nd rfl (Or.inl rfl) (pe_call ((ok_ask T).mono (by decide)) hr rfl T.m_ask T.F_ask.kp T.b_ask .nil pass0 (pa_cons (pv 1) (pa_cons (pv 2) (pa_cons (pv 3) pa_nil)))))
    (pss_one (ps_ret (pe_lst (pa_cons (pe_tup (pa_cons pe_str (pa_cons (pv 4) (pa_cons (pe_ix ix_tup (pv 9) pe_int (fun _ _ => rfl)) (pa_cons (pe_ix ix_tup (pv 9) pe_int (fun _ _ => rfl)) (pa_cons (pe_ix ix_tup (pv 9) pe_int (fun _ _ => rfl)) (pa_cons (pe_ix ix_tup (pv 9) pe_int (fun _ _ => rfl)) (pa_cons (pv 7) (pa_cons (pv 8) pa_nil))))))))) (pa_cons (pv 9) pa_nil)))))) pss_nil)
    (pss_cons (ps_if (pt_cmpR op_eq (pv 0) pe_int (nomark _)) (pss_one (ps_ret (pe_lst (pa_cons (pe_tup (pa_cons pe_str (pa_cons (pv 4) (pa_cons (pv 5) (pa_cons (pv 7) (pa_cons (pv 8) (pa_cons (pe_call ((ok_numbers T).mono (by decide)) hr rfl T.m_numbers T.F_numbers.kp T.b_numbers .nil pass0 (pa_cons (pv 1) (pa_cons pe_int pa_nil))) pa_nil))))))) (pa_cons (pe_tup (pa_cons pe_str (pa_cons (pv 4) (pa_cons (pv 5) pa_nil)))) pa_nil))))) pss_nil)
    (pss_cons (ps_if (pt_cmpR op_eq (pv 0) pe_int (nomark _)) (pss_one (ps_ret (pe_lst (pa_cons (pe_tup (pa_cons pe_str (pa_cons (pv 4) (pa_cons (pe_call ((ok_numbers T).mono (by decide)) hr rfl T.m_numbers T.F_numbers.kp T.b_numbers .nil pass0 (pa_cons (pv 1) (pa_cons pe_int pa_nil))) pa_nil)))) (pa_cons (pe_tup (pa_cons pe_str (pa_cons (pv 4) pa_nil))) pa_nil))))) pss_nil)
    (pss_cons (ps_if (pt_cmpR op_eq (pv 0) pe_int (nomark _)) (pss_one (ps_ret (pe_lst (pa_cons (pe_tup (pa_cons pe_str (pa_cons (pe_call ((ok_numbers T).mono (by decide)) hr rfl T.m_numbers T.F_numbers.kp T.b_numbers .nil pass0 (pa_cons (pv 1) (pa_cons pe_int pa_nil))) (pa_cons (pe_call ((ok_numbers T).mono (by decide)) hr rfl T.m_numbers T.F_numbers.kp T.b_numbers .nil pass0 (pa_cons (pv 1) (pa_cons pe_int pa_nil))) pa_nil)))) (pa_cons (pe_tup (pa_cons pe_str pa_nil)) pa_nil))))) pss_nil)
    (pss_cons (ps_if (pt_cmpR op_eq (pv 0) pe_int (nomark _)) (pss_one (ps_ret (pe_lst (pa_cons (pe_tup (pa_cons pe_str (pa_cons (pe_ix ix_list (pv 2) pe_int (fun _ _ => rfl)) (pa_cons (pe_ix ix_list (pv 2) pe_int (fun _ _ => rfl)) pa_nil)))) (pa_cons (pe_tup (pa_cons pe_str (pa_cons (pe_ix ix_list (pv 2) pe_int (fun _ _ => rfl)) (pa_cons (pe_ix ix_list (pv 2) pe_int (fun _ _ => rfl)) pa_nil)))) pa_nil))))) pss_nil)
    (pss_cons (ps_set (i := 10) sc_row.nd rfl (Or.inl rfl) (pe_call ((ok_refused T).mono (by decide)) hr rfl T.m_refused T.F_refused.kp T.b_refused .nil pass0 (pa_cons (pv 1) (pa_cons (pv 2) (pa_cons (pv 3) pa_nil)))))
    (pss_one (ps_ret (pe_lst (pa_cons (pe_tup (pa_cons pe_str (pa_cons (pe_ix ix_list (pv 10) pe_int (fun _ _ => rfl)) (pa_cons (pe_ix ix_list (pv 10) pe_int (fun _ _ => rfl)) (pa_cons (pe_ix ix_list (pv 10) pe_int (fun _ _ => rfl)) (pa_cons (pe_ix ix_list (pv 10) pe_int (fun _ _ => rfl)) pa_nil)))))) (pa_cons (pe_ix ix_list (pv 10) pe_int (fun _ _ => rfl)) pa_nil)))))))))))))))))), ?_⟩
  try dsimp only [L2.cxOf, L2.Cx.nox, L2.Cx.wish, My.xw, My.pnd, My.suite]
  refine r_start (σ := [some (.int w), some (.int c), some (.ref nl), some (.ref wl), none, none, none, none, none, none, none]) rfl ?_
  walk_at "go"
  refine u_mix (by decide) (by decide) (by decide) (by decide) fun r r0 r1 => ?_
  walk_at "go"
  refine ⟨_, wl, ws, rfl, hC.wr, by omega, fun e1 f1 H1 s1 hA1 => ?_⟩
  have hC1 := hC.mono s1
  walk_at "go"
  refine ⟨_, wl, ws, rfl, hC1.wr, by omega, fun e2 f2 H2 s2 hA2 => ?_⟩
  have hC2 := hC1.mono s2
  have hB1 := hA1.mono s2
  have sm2 := s1.trans s2
  have hn2 := hC2.nm
  generalize 1 + r = n at *
  clear hA1 hC1 s1 s2
  walk_at "go"
  refine i_2 (fun c0 => ?_) (fun c0 => ?_)
  · walk_at "go"
    refine r_sortL (ss := ws) (SqL.of hC2.wr) (by omega) fun ls ss' hls hp _ => ?_
    have s3 := same_new hls (.lst (ss'.map V.str))
    walk_at "go"
    rename_i p hp0 l hl0
    have s4 := same_new hp0 (.tup [.str (Str.ofString "first"), .ref ls, .str z0, .ref e1, .ref e2, .int n])
    have s5 := same_new hl0 (.lst [.ref p, .non])
    have sl := (s3.trans s4).trans s5
    have hlen := hp.length_eq
    refine q l p .non _ (sm2.trans sl) upd_same (rowdue (.first (s5 _ _ upd_same)) (s5 _ _ upd_same) (by simp) ⟨some_fl rfl, ?_, some_fl rfl, (hB1.mono sl).any, (hA2.mono sl).any, some_fl rfl, trivial⟩ rfl)
    refine some_lst (xs := ss'.map V.str) ((s4.trans s5) _ _ upd_same) (by rw [List.length_map]; omega) fun x hx => ?_
    obtain ⟨z, _, rfl⟩ := List.mem_map.mp hx
    exact some_fl rfl
  walk_at "go"
  refine i_2 (fun c1 => ?_) (fun c1 => ?_)
  · walk_at "go"
    rename_i p hp0 p' hp' l hl0
    have s4 := same_new hp0 (.tup [.str (Str.ofString "found"), .str z1, .str z2, .ref e1, .ref e2, .int n])
    have s5 := same_new hp' (.tup [.str (Str.ofString "found"), .str z1, .str z2, .ref e1, .ref e2, .int n])
    have s6 := same_new hl0 (.lst [.ref p, .ref p'])
    have sl := (s4.trans s5).trans s6
    have h1 := (s5.trans s6) _ _ (upd_same (H := H2) (a := p) (o := .tup [.str (Str.ofString "found"), .str z1, .str z2, .ref e1, .ref e2, .int n]))
    have hx : All2 E0 _ [.fl (.str (Str.ofString "found")), .fl (.str z1), .fl (.str z2), .dc f1, .dc f2, .fl (.int n)] [.str (Str.ofString "found"), .str z1, .str z2, .ref e1, .ref e2, .int n] := ⟨⟨rfl, rfl⟩, ⟨rfl, rfl⟩, ⟨rfl, rfl⟩, (hB1.mono sl).is, (hA2.mono sl).is, ⟨rfl, rfl⟩, trivial⟩
    exact q l p _ _ (sm2.trans sl) upd_same (rowdue (.found h1 (is_tp h1 rfl hx (by simp)) (dp_low rfl)) h1 (by simp) ⟨some_fl rfl, some_fl rfl, some_fl rfl, (hB1.mono sl).any, (hA2.mono sl).any, some_fl rfl, trivial⟩
      ⟨is_tp (s6 _ _ upd_same) rfl hx (by simp), dp_low rfl, _, rfl, by simp⟩)
  walk_at "go"
  refine u_mix (by decide) (by decide) (by decide) (by decide) fun r2 a0 a1 => ?_
  walk_at "go"
  refine ⟨c, nl, wl, z0, z1, z2, z3, ws, rfl, hC2, fun lg xs H3 s3 el hgv hxl => ?_⟩
  have hC3 := hC2.mono s3
  have hD1 := hB1.mono s3
  have sm3 := sm2.trans s3
  have hn3 := hC3.nm
  have hG : Some 3 H3 (.ref lg) := some_lst el (by omega) fun x hx => (hgv x hx).any
  clear hC2 hB1 hA2 sm2 s3 hgv el hn2
  walk_at "go"
  refine i_2 (fun c2 => ?_) (fun c2 => ?_)
  · walk_at "go"
    refine ⟨c, nl, wl, z0, z1, z2, z3, ws, rfl, hC3, fun pa s e m u f H4 s4 hk => ?_⟩
    have hk1 := hk.1
    walk_at "go"
    rename_i p hp0 l hl0
    have s5 := same_new hp0 (.tup [.str (Str.ofString "hold"), .int n, .str s, .ref e, .int m, u, .bl (decide (r2 = 0)), .ref lg])
    have s6 := same_new hl0 (.lst [.ref p, .ref pa])
    have sl := s5.trans s6
    have h1 := s6 _ _ (upd_same (H := H4) (a := p) (o := .tup [.str (Str.ofString "hold"), .int n, .str s, .ref e, .int m, u, .bl (decide (r2 = 0)), .ref lg]))
    have hA := (hk.2.2.mono sl)
    exact q l p _ _ ((sm3.trans s4).trans sl) upd_same (rowdue (.hold h1 (flS rfl) hA.is (flS rfl) (flS hk.2.1) .fl .dc .fl .fl) h1 (by simp) ⟨some_fl rfl, some_fl rfl, some_fl rfl, hA.any, some_fl rfl, some_fl hk.2.1, some_fl rfl, ((hG.mono s4).mono sl).le (by decide), trivial⟩
      ⟨(hk.mono sl).tp, dp_low rfl, _, rfl, by simp⟩)
  walk_at "go"
  refine i_2 (fun c3 => ?_) (fun c3 => ?_)
  · walk_at "go"
    refine ⟨c, 50, rfl, by decide, by decide, fun ln H4 s4 hN => ?_⟩
    walk_at "go"
    rename_i p hp0 p' hp' l hl0
    have s5 := same_new hp0 (.tup [.str (Str.ofString "grow"), .int n, .ref e1, .bl (decide (r2 = 0)), .ref lg, .ref ln])
    have s6 := same_new hp' (.tup [.str (Str.ofString "grow"), .int n, .ref e1])
    have s7 := same_new hl0 (.lst [.ref p, .ref p'])
    have sl := (s5.trans s6).trans s7
    have h1 := (s6.trans s7) _ _ (upd_same (H := H4) (a := p) (o := .tup [.str (Str.ofString "grow"), .int n, .ref e1, .bl (decide (r2 = 0)), .ref lg, .ref ln]))
    have hA := (hD1.mono s4).mono sl
    exact q l p _ _ ((sm3.trans s4).trans sl) upd_same (rowdue (.grow h1 (flS rfl) hA.is .fl .dc) h1 (by simp) ⟨some_fl rfl, some_fl rfl, hA.any, some_fl rfl, ((hG.mono s4).mono sl).le (by decide), (hN.mono sl).le (by decide), trivial⟩
      ⟨is_tp (s7 _ _ upd_same) rfl ⟨⟨rfl, rfl⟩, ⟨rfl, rfl⟩, hA.is, trivial⟩ (by simp), dp_low rfl, _, rfl, by simp⟩)
  walk_at "go"
  refine i_2 (fun c4 => ?_) (fun c4 => ?_)
  · walk_at "go"
    refine ⟨c, 50, rfl, by decide, by decide, fun ln H4 s4 hN => ?_⟩
    walk_at "go"
    rename_i p hp0 p' hp' l hl0
    have s5 := same_new hp0 (.tup [.str (Str.ofString "back"), .int n, .ref ln])
    have s6 := same_new hp' (.tup [.str (Str.ofString "back"), .int n])
    have s7 := same_new hl0 (.lst [.ref p, .ref p'])
    have sl := (s5.trans s6).trans s7
    have h1 := (s6.trans s7) _ _ (upd_same (H := H4) (a := p) (o := .tup [.str (Str.ofString "back"), .int n, .ref ln]))
    exact q l p _ _ ((sm3.trans s4).trans sl) upd_same (rowdue (.back h1) h1 (by simp) ⟨some_fl rfl, some_fl rfl, (hN.mono sl).le (by decide), trivial⟩
      ⟨is_tp (s7 _ _ upd_same) rfl ⟨⟨rfl, rfl⟩, ⟨rfl, rfl⟩, trivial⟩ (by simp), dp_low rfl, _, rfl, by simp⟩)
  walk_at "go"
  refine i_2 (fun c5 => ?_) (fun c5 => ?_)
  · walk_at "go"
    refine ⟨c, 50, rfl, by decide, by decide, fun ln H4 s4 hN => ?_⟩
    walk_at "go"
    refine ⟨c, 60, rfl, by decide, by decide, fun lm H5 s5' hM => ?_⟩
    walk_at "go"
    rename_i p hp0 p' hp' l hl0
    have s5 := same_new hp0 (.tup [.str (Str.ofString "turn"), .ref ln, .ref lm])
    have s6 := same_new hp' (.tup [.str (Str.ofString "turn")])
    have s7 := same_new hl0 (.lst [.ref p, .ref p'])
    have sl := (s5.trans s6).trans s7
    have h1 := (s6.trans s7) _ _ (upd_same (H := H5) (a := p) (o := .tup [.str (Str.ofString "turn"), .ref ln, .ref lm]))
    exact q l p _ _ (((sm3.trans s4).trans s5').trans sl) upd_same (rowdue (.turn h1) h1 (by simp) ⟨some_fl rfl, ((hN.mono s5').mono sl).le (by decide), (hM.mono sl).le (by decide), trivial⟩
      ⟨is_tp (s7 _ _ upd_same) rfl ⟨⟨rfl, rfl⟩, trivial⟩ (by simp), dp_low rfl, _, rfl, by simp⟩)
  walk_at "go"
  refine i_2 (fun c6 => ?_) (fun c6 => ?_)
  · walk_at "go"
    rename_i p hp0 p' hp' l hl0
    have s5 := same_new hp0 (.tup [.str (Str.ofString "move"), .str z3, .str z0])
    have s6 := same_new hp' (.tup [.str (Str.ofString "move"), .str z3, .str z0])
    have s7 := same_new hl0 (.lst [.ref p, .ref p'])
    have sl := (s5.trans s6).trans s7
    have h1 := (s6.trans s7) _ _ (upd_same (H := H3) (a := p) (o := .tup [.str (Str.ofString "move"), .str z3, .str z0]))
    exact q l p _ _ (sm3.trans sl) upd_same (rowdue (.move h1 (mv_tp h1) (dp_low rfl)) h1 (by simp) ⟨some_fl rfl, some_fl rfl, some_fl rfl, trivial⟩
      ⟨mv_tp (s7 _ _ upd_same), dp_low rfl, _, rfl, by simp⟩)
  walk_at "go"
  refine ⟨c, nl, wl, z0, z1, z2, z3, ws, rfl, hC3, fun lq x1 t2 t3 x4 H4 s4 hq kx h4 => ?_⟩
  walk_at "go"
  rename_i p hp0 l hl0
  have s5 := same_new hp0 (.tup [.str (Str.ofString "refused"), x1, .str t2, .str t3, x4])
  have s6 := same_new hl0 (.lst [.ref p, x1])
  have sl := s5.trans s6
  have h1 := s6 _ _ (upd_same (H := H4) (a := p) (o := .tup [.str (Str.ofString "refused"), x1, .str t2, .str t3, x4]))
  obtain ⟨lx, ix, dx, zx⟩ := kx.mono sl
  exact q l p _ _ ((sm3.trans s4).trans sl) upd_same (rowdue (.refused h1 ix dx.up) h1 (by simp) ⟨some_fl rfl, ((kx.mono sl).any).le (by decide), some_fl rfl, some_fl rfl, (h4.mono sl).le (by decide), trivial⟩
    ⟨ix, dx.up, _, rfl, zx⟩)
def sp_law0 (K : PySem.W.Frag) : Sp := fun vs H Q _ => ∃ (a : Addr) (ns : List Int), vs = [.ref a] ∧ SqL K H a (ns.map V.int) ∧ ns.length ≤ 63 ∧ ∀ H', Q (.bl true) H'
def sp_law (K : PySem.W.Frag) (d : Ad) : Sp := sp_law0 K
theorem ok_law {P : Program} {w : World} {K : PySem.W.Frag} {mg : Str → Option Value} {base : Heap} {d : Ad} (T : Tx K mg d) : FnOk P w K mg base CX0 10 d.f_law d.fd_law ["_law_script"] (sp_law K d) := by
  refine T.F_law.ok sc_law (fun vs H Q E h => ?_) (fun cdv A outer s H vs Q E hr h => ?_)
  · obtain ⟨a, ns, rfl, _⟩ := h; rfl
  obtain ⟨a, ns, rfl, hS, h63, q⟩ := h
  refine ⟨_, (pss_cons (ps_set (i := 1) sc_law.nd rfl (Or.inl rfl) (pe_call ((ok_names T).mono (by decide)) hr rfl T.m_names T.F_names.kp T.b_names .nil pass0 (pa_cons (pe_call ((ok_cell T).mono (by decide)) hr rfl T.m_cell T.F_cell.kp T.b_cell .nil pass0 (pa_cons (pv 0) (pa_cons pe_int pa_nil))) (pa_cons pe_int pa_nil))))
    (pss_cons (ps_set (i := 2) sc_law.nd rfl (Or.inl rfl) (pe_call ((ok_names T).mono (by decide)) hr rfl T.m_names T.F_names.kp T.b_names .nil pass0 (pa_cons (pe_call ((ok_cell T).mono (by decide)) hr rfl T.m_cell T.F_cell.kp T.b_cell .nil pass0 (pa_cons (pv 0) (pa_cons pe_int pa_nil))) (pa_cons (pe_op op_add pe_int (pe_call ((ok_mix T).mono (by decide)) hr rfl T.m_mix T.F_mix.kp T.b_mix .nil pass0 (pa_cons (pe_call ((ok_cell T).mono (by decide)) hr rfl T.m_cell T.F_cell.kp T.b_cell .nil pass0 (pa_cons (pv 0) (pa_cons pe_int pa_nil))) (pa_cons pe_int (pa_cons pe_int pa_nil))))) pa_nil))))
    (pss_cons (ps_set (i := 3) sc_law.nd rfl (Or.inl rfl) (pe_call ((ok_mix T).mono (by decide)) hr rfl T.m_mix T.F_mix.kp T.b_mix .nil pass0 (pa_cons (pe_call ((ok_cell T).mono (by decide)) hr rfl T.m_cell T.F_cell.kp T.b_cell .nil pass0 (pa_cons (pv 0) (pa_cons pe_int pa_nil))) (pa_cons pe_int (pa_cons pe_int pa_nil)))))
    (pss_cons (ps_for PassesOwn.never rfl (pi_range1 rfl T.z_range (pa_cons pe_int pa_nil)) (pg_name (i := 4) sc_law.nd rfl (Or.inl rfl)) (pss_cons (ps_asg (pe_call ((ok_row T).mono (by decide)) hr rfl T.m_row T.F_row.kp T.b_row .nil pass0 (pa_cons (pe_op op_mod (pe_op op_add (pv 3) (pe_op My.op_mulB pe_int (pv 4))) pe_int) (pa_cons (pe_call ((ok_cell T).mono (by decide)) hr rfl T.m_cell T.F_cell.kp T.b_cell .nil pass0 (pa_cons (pv 0) (pa_cons (pe_op op_add pe_int (pv 4)) pa_nil))) (pa_cons (pv 1) (pa_cons (pv 2) pa_nil))))) (My.pg_lst rfl (pgs_cons (pg_name (i := 5) sc_law.nd rfl (Or.inl rfl)) (pgs_cons (pg_name (i := 6) sc_law.nd rfl (Or.inl rfl)) pgs_nil))))
    (pss_one (ps_if (pt_not (pt_val (pe_call ((ok_right T).mono (by decide)) hr rfl T.m_right T.F_right.kp T.b_right .nil pass0 (pa_cons (pv 5) (pa_cons (pv 6) pa_nil))))) (pss_one (ps_ret pe_bl)) pss_nil))))
    (pss_one (ps_ret pe_bl)))))), ?_⟩
  try dsimp only [L2.cxOf, L2.Cx.nox, L2.Cx.wish, My.xw, My.pnd, My.suite]
  refine r_start (σ := [some (.ref a), none, none, none, none, none, none]) rfl ?_
  walk_at "go"
  refine ⟨a, ns, 0, rfl, hS, by decide, by decide, h63, fun c0 => ?_⟩
  walk_at "go"
  refine ⟨c0, 4, rfl, by decide, by decide, fun nl ss H1 s1 en hl => ?_⟩
  obtain ⟨z0, z1, z2, z3, rfl⟩ : ∃ z0 z1 z2 z3, ss = [z0, z1, z2, z3] := by
    match ss, hl with
    | [z0, z1, z2, z3], _ => exact ⟨z0, z1, z2, z3, rfl⟩
  have hS1 := s1.seq hS
  walk_at "go"
  refine ⟨a, ns, 1, rfl, hS1, by decide, by decide, h63, fun c1 => ?_⟩
  walk_at "go"
  refine ⟨a, ns, 1, rfl, hS1, by decide, by decide, h63, fun c1' => ?_⟩
  walk_at "go"
  refine u_mix (by decide) (by decide) (by decide) (by decide) fun r r0 r1 => ?_
  walk_at "go"
  refine ⟨c1, 1 + r, rfl, by omega, by omega, fun wl ws H2 s2 ew hw => ?_⟩
  have hS2 := s2.seq hS1
  have hC : Ct H2 nl wl z0 z1 z2 z3 ws := ⟨s2 _ _ en, ew, by omega, by omega⟩
  walk_at "go"
  refine ⟨a, ns, 2, rfl, hS2, by decide, by decide, h63, fun c2 => ?_⟩
  walk_at "go"
  refine u_mix (by decide) (by decide) (by decide) (by decide) fun r2 a0 a1 => ?_
  walk_at "go"
  refine f_range (fun i σ H' => ∃ w1 w2 w3 : Option V, σ = [some (V.ref a), some (V.ref nl), some (V.ref wl), some (V.int r2), w1, w2, w3] ∧ Same H2 H') ⟨_, _, _, rfl, Same.refl _⟩ ?_ ?_
  · rintro i σ H' hi ⟨w1, w2, w3, rfl, sm⟩
    have hi : i < 4 := hi
    have hS3 := sm.seq hS2
    have hC3 := hC.mono sm
    walk_at "go"
    refine ⟨a, ns, 3 + (0 + (i : Int)), rfl, hS3, by omega, by omega, h63, fun c3 => ?_⟩
    walk_at "go"
    refine ⟨_, c3, nl, wl, z0, z1, z2, z3, ws, rfl, Int.emod_nonneg _ (by decide), Int.emod_lt_of_pos _ (by decide), hC3, fun l rr due H3 s3 el hr3 => ?_⟩
    walk_at "go"
    refine ⟨rr, due, rfl, hr3, fun H4 s4 => ?_⟩
    walk_at "go"
    exact ⟨_, _, _, rfl, (sm.trans s3).trans s4⟩
  · rintro σ H' ⟨w1, w2, w3, rfl, sm⟩
    walk_at "go"
    exact q _
theorem txt_mk {K : PySem.W.Frag} {h : Heap} {mg : Str → Option Value} {fa : Addr} {f_copied f_deed_of f_cell f_mix f_names f_amounts f_given f_numbers f_ask f_refused f_row f_l_copied f_right f_law : Addr} (X : K.In h) (G : h.Ns mainGlobals mg) (hfa : mg "law" = some (.ref fa))
    {od_copied an_copied : Option Addr} {sl_copied : Array (Option Value)} {oc_copied kV_copied dc_copied pm_copied cd_copied ct_copied : Value}
    (a_copied : PySem.W.nsIn K mainGlobals "copied" = some (some (.ref f_copied))) (l_copied : K.lookup f_copied = some ⟨oc_copied, od_copied, .func (PySem.W.fnOf "copied" "copied" (defArgs s_copied) (defBody s_copied) (defScope s_copied) .none kV_copied dc_copied pm_copied an_copied cd_copied ct_copied), sl_copied⟩) (c_copied : PySem.W.codeIn K cd_copied "copied" = true) (k_copied : PySem.W.keepIn K (.ref f_copied) = true)
    {od_deed_of an_deed_of : Option Addr} {sl_deed_of : Array (Option Value)} {oc_deed_of kV_deed_of dc_deed_of pm_deed_of cd_deed_of ct_deed_of : Value}
    (a_deed_of : PySem.W.nsIn K mainGlobals "deed_of" = some (some (.ref f_deed_of))) (l_deed_of : K.lookup f_deed_of = some ⟨oc_deed_of, od_deed_of, .func (PySem.W.fnOf "deed_of" "deed_of" (defArgs s_deed_of) (defBody s_deed_of) (defScope s_deed_of) .none kV_deed_of dc_deed_of pm_deed_of an_deed_of cd_deed_of ct_deed_of), sl_deed_of⟩) (c_deed_of : PySem.W.codeIn K cd_deed_of "deed_of" = true) (k_deed_of : PySem.W.keepIn K (.ref f_deed_of) = true)
    {od_cell an_cell : Option Addr} {sl_cell : Array (Option Value)} {oc_cell kV_cell dc_cell pm_cell cd_cell ct_cell : Value}
    (a_cell : PySem.W.nsIn K mainGlobals "_law_cell" = some (some (.ref f_cell))) (l_cell : K.lookup f_cell = some ⟨oc_cell, od_cell, .func (PySem.W.fnOf "_law_cell" "_law_cell" (defArgs s_cell) (defBody s_cell) (defScope s_cell) .none kV_cell dc_cell pm_cell an_cell cd_cell ct_cell), sl_cell⟩) (c_cell : PySem.W.codeIn K cd_cell "_law_cell" = true) (k_cell : PySem.W.keepIn K (.ref f_cell) = true)
    {od_mix an_mix : Option Addr} {sl_mix : Array (Option Value)} {oc_mix kV_mix dc_mix pm_mix cd_mix ct_mix : Value}
    (a_mix : PySem.W.nsIn K mainGlobals "_law_mix" = some (some (.ref f_mix))) (l_mix : K.lookup f_mix = some ⟨oc_mix, od_mix, .func (PySem.W.fnOf "_law_mix" "_law_mix" (defArgs s_mix) (defBody s_mix) (defScope s_mix) .none kV_mix dc_mix pm_mix an_mix cd_mix ct_mix), sl_mix⟩) (c_mix : PySem.W.codeIn K cd_mix "_law_mix" = true) (k_mix : PySem.W.keepIn K (.ref f_mix) = true)
    {od_names an_names : Option Addr} {sl_names : Array (Option Value)} {oc_names kV_names dc_names pm_names cd_names ct_names : Value}
    (a_names : PySem.W.nsIn K mainGlobals "_law_names" = some (some (.ref f_names))) (l_names : K.lookup f_names = some ⟨oc_names, od_names, .func (PySem.W.fnOf "_law_names" "_law_names" (defArgs s_names) (defBody s_names) (defScope s_names) .none kV_names dc_names pm_names an_names cd_names ct_names), sl_names⟩) (c_names : PySem.W.codeIn K cd_names "_law_names" = true) (k_names : PySem.W.keepIn K (.ref f_names) = true)
    {od_amounts an_amounts : Option Addr} {sl_amounts : Array (Option Value)} {oc_amounts kV_amounts dc_amounts pm_amounts cd_amounts ct_amounts : Value}
    (a_amounts : PySem.W.nsIn K mainGlobals "_law_amounts" = some (some (.ref f_amounts))) (l_amounts : K.lookup f_amounts = some ⟨oc_amounts, od_amounts, .func (PySem.W.fnOf "_law_amounts" "_law_amounts" (defArgs s_amounts) (defBody s_amounts) (defScope s_amounts) .none kV_amounts dc_amounts pm_amounts an_amounts cd_amounts ct_amounts), sl_amounts⟩) (c_amounts : PySem.W.codeIn K cd_amounts "_law_amounts" = true) (k_amounts : PySem.W.keepIn K (.ref f_amounts) = true)
    {od_given an_given : Option Addr} {sl_given : Array (Option Value)} {oc_given kV_given dc_given pm_given cd_given ct_given : Value}
    (a_given : PySem.W.nsIn K mainGlobals "_law_given" = some (some (.ref f_given))) (l_given : K.lookup f_given = some ⟨oc_given, od_given, .func (PySem.W.fnOf "_law_given" "_law_given" (defArgs s_given) (defBody s_given) (defScope s_given) .none kV_given dc_given pm_given an_given cd_given ct_given), sl_given⟩) (c_given : PySem.W.codeIn K cd_given "_law_given" = true) (k_given : PySem.W.keepIn K (.ref f_given) = true)
    {od_numbers an_numbers : Option Addr} {sl_numbers : Array (Option Value)} {oc_numbers kV_numbers dc_numbers pm_numbers cd_numbers ct_numbers : Value}
    (a_numbers : PySem.W.nsIn K mainGlobals "_law_numbers" = some (some (.ref f_numbers))) (l_numbers : K.lookup f_numbers = some ⟨oc_numbers, od_numbers, .func (PySem.W.fnOf "_law_numbers" "_law_numbers" (defArgs s_numbers) (defBody s_numbers) (defScope s_numbers) .none kV_numbers dc_numbers pm_numbers an_numbers cd_numbers ct_numbers), sl_numbers⟩) (c_numbers : PySem.W.codeIn K cd_numbers "_law_numbers" = true) (k_numbers : PySem.W.keepIn K (.ref f_numbers) = true)
    {od_ask an_ask : Option Addr} {sl_ask : Array (Option Value)} {oc_ask kV_ask dc_ask pm_ask cd_ask ct_ask : Value}
    (a_ask : PySem.W.nsIn K mainGlobals "_law_ask" = some (some (.ref f_ask))) (l_ask : K.lookup f_ask = some ⟨oc_ask, od_ask, .func (PySem.W.fnOf "_law_ask" "_law_ask" (defArgs s_ask) (defBody s_ask) (defScope s_ask) .none kV_ask dc_ask pm_ask an_ask cd_ask ct_ask), sl_ask⟩) (c_ask : PySem.W.codeIn K cd_ask "_law_ask" = true) (k_ask : PySem.W.keepIn K (.ref f_ask) = true)
    {od_refused an_refused : Option Addr} {sl_refused : Array (Option Value)} {oc_refused kV_refused dc_refused pm_refused cd_refused ct_refused : Value}
    (a_refused : PySem.W.nsIn K mainGlobals "_law_refused" = some (some (.ref f_refused))) (l_refused : K.lookup f_refused = some ⟨oc_refused, od_refused, .func (PySem.W.fnOf "_law_refused" "_law_refused" (defArgs s_refused) (defBody s_refused) (defScope s_refused) .none kV_refused dc_refused pm_refused an_refused cd_refused ct_refused), sl_refused⟩) (c_refused : PySem.W.codeIn K cd_refused "_law_refused" = true) (k_refused : PySem.W.keepIn K (.ref f_refused) = true)
    {od_row an_row : Option Addr} {sl_row : Array (Option Value)} {oc_row kV_row dc_row pm_row cd_row ct_row : Value}
    (a_row : PySem.W.nsIn K mainGlobals "_law_row" = some (some (.ref f_row))) (l_row : K.lookup f_row = some ⟨oc_row, od_row, .func (PySem.W.fnOf "_law_row" "_law_row" (defArgs s_row) (defBody s_row) (defScope s_row) .none kV_row dc_row pm_row an_row cd_row ct_row), sl_row⟩) (c_row : PySem.W.codeIn K cd_row "_law_row" = true) (k_row : PySem.W.keepIn K (.ref f_row) = true)
    {od_l_copied an_l_copied : Option Addr} {sl_l_copied : Array (Option Value)} {oc_l_copied kV_l_copied dc_l_copied pm_l_copied cd_l_copied ct_l_copied : Value}
    (a_l_copied : PySem.W.nsIn K mainGlobals "_law_copied" = some (some (.ref f_l_copied))) (l_l_copied : K.lookup f_l_copied = some ⟨oc_l_copied, od_l_copied, .func (PySem.W.fnOf "_law_copied" "_law_copied" (defArgs s_l_copied) (defBody s_l_copied) (defScope s_l_copied) .none kV_l_copied dc_l_copied pm_l_copied an_l_copied cd_l_copied ct_l_copied), sl_l_copied⟩) (c_l_copied : PySem.W.codeIn K cd_l_copied "_law_copied" = true) (k_l_copied : PySem.W.keepIn K (.ref f_l_copied) = true)
    {od_right an_right : Option Addr} {sl_right : Array (Option Value)} {oc_right kV_right dc_right pm_right cd_right ct_right : Value}
    (a_right : PySem.W.nsIn K mainGlobals "_law_right" = some (some (.ref f_right))) (l_right : K.lookup f_right = some ⟨oc_right, od_right, .func (PySem.W.fnOf "_law_right" "_law_right" (defArgs s_right) (defBody s_right) (defScope s_right) .none kV_right dc_right pm_right an_right cd_right ct_right), sl_right⟩) (c_right : PySem.W.codeIn K cd_right "_law_right" = true) (k_right : PySem.W.keepIn K (.ref f_right) = true)
    {od_law an_law : Option Addr} {sl_law : Array (Option Value)} {oc_law kV_law dc_law pm_law cd_law ct_law : Value}
    (a_law : PySem.W.nsIn K mainGlobals "law" = some (some (.ref f_law))) (l_law : K.lookup f_law = some ⟨oc_law, od_law, .func (PySem.W.fnOf "law" "law" (defArgs s_law) (defBody s_law) (defScope s_law) .none kV_law dc_law pm_law an_law cd_law ct_law), sl_law⟩) (c_law : PySem.W.codeIn K cd_law "law" = true) (k_law : PySem.W.keepIn K (.ref f_law) = true)
    (y_dict : PySem.W.nsIn K mainGlobals "dict" = some none)
    (y_isinstance : PySem.W.nsIn K mainGlobals "isinstance" = some none)
    (y_len : PySem.W.nsIn K mainGlobals "len" = some none)
    (y_list : PySem.W.nsIn K mainGlobals "list" = some none)
    (y_range : PySem.W.nsIn K mainGlobals "range" = some none)
    (y_sorted : PySem.W.nsIn K mainGlobals "sorted" = some none)
    (y_tuple : PySem.W.nsIn K mainGlobals "tuple" = some none)
    : ∃ d : Ad, Tx K mg d ∧ fa = d.f_law ∧ ∀ (s : Shared) (v : Value), BindsTo s d.fd_law ⟨[v], []⟩ [("_law_script", v)] := by
  have e := hfa.symm.trans (PySem.W.mg_of X G a_law)
  cases e
  have F_copied := fun_mk (st := s_copied) l_copied c_copied k_copied
  have b_copied := F_copied.binds (ps := ["thing"]) fun _ _ _ _ _ _ us hl => match us, hl with | [_], _ => rfl
  have F_deed_of := fun_mk (st := s_deed_of) l_deed_of c_deed_of k_deed_of
  have b_deed_of := F_deed_of.binds (ps := ["row"]) fun _ _ _ _ _ _ us hl => match us, hl with | [_], _ => rfl
  have F_cell := fun_mk (st := s_cell) l_cell c_cell k_cell
  have b_cell := F_cell.binds (ps := ["_law_script", "_law_k"]) fun _ _ _ _ _ _ us hl => match us, hl with | [_, _], _ => rfl
  have F_mix := fun_mk (st := s_mix) l_mix c_mix k_mix
  have b_mix := F_mix.binds (ps := ["_law_cell_here", "_law_k", "_law_many"]) fun _ _ _ _ _ _ us hl => match us, hl with | [_, _, _], _ => rfl
  have F_names := fun_mk (st := s_names) l_names c_names k_names
  have b_names := F_names.binds (ps := ["_law_cell_here", "_law_many"]) fun _ _ _ _ _ _ us hl => match us, hl with | [_, _], _ => rfl
  have F_amounts := fun_mk (st := s_amounts) l_amounts c_amounts k_amounts
  have b_amounts := F_amounts.binds (ps := ["_law_cell_here", "_law_wares"]) fun _ _ _ _ _ _ us hl => match us, hl with | [_, _], _ => rfl
  have F_given := fun_mk (st := s_given) l_given c_given k_given
  have b_given := F_given.binds (ps := ["_law_cell_here", "_law_names_here", "_law_wares"]) fun _ _ _ _ _ _ us hl => match us, hl with | [_, _, _], _ => rfl
  have F_numbers := fun_mk (st := s_numbers) l_numbers c_numbers k_numbers
  have b_numbers := F_numbers.binds (ps := ["_law_cell_here", "_law_k"]) fun _ _ _ _ _ _ us hl => match us, hl with | [_, _], _ => rfl
  have F_ask := fun_mk (st := s_ask) l_ask c_ask k_ask
  have b_ask := F_ask.binds (ps := ["_law_cell_here", "_law_names_here", "_law_wares"]) fun _ _ _ _ _ _ us hl => match us, hl with | [_, _, _], _ => rfl
  have F_refused := fun_mk (st := s_refused) l_refused c_refused k_refused
  have b_refused := F_refused.binds (ps := ["_law_cell_here", "_law_names_here", "_law_wares"]) fun _ _ _ _ _ _ us hl => match us, hl with | [_, _, _], _ => rfl
  have F_row := fun_mk (st := s_row) l_row c_row k_row
  have b_row := F_row.binds (ps := ["_law_way", "_law_cell_here", "_law_names_here", "_law_wares"]) fun _ _ _ _ _ _ us hl => match us, hl with | [_, _, _, _], _ => rfl
  have F_l_copied := fun_mk (st := s_l_copied) l_l_copied c_l_copied k_l_copied
  have b_l_copied := F_l_copied.binds (ps := ["_law_thing"]) fun _ _ _ _ _ _ us hl => match us, hl with | [_], _ => rfl
  have F_right := fun_mk (st := s_right) l_right c_right k_right
  have b_right := F_right.binds (ps := ["_law_row_here", "_law_due"]) fun _ _ _ _ _ _ us hl => match us, hl with | [_, _], _ => rfl
  have F_law := fun_mk (st := s_law) l_law c_law k_law
  refine ⟨⟨_, _, _, _, _, _, _, _, _, _, _, _, _, _, _, _, _, _, _, _, _, _, _, _, _, _, _, _⟩, ⟨F_copied, PySem.W.mg_of X G a_copied, b_copied, F_deed_of, PySem.W.mg_of X G a_deed_of, b_deed_of, F_cell, PySem.W.mg_of X G a_cell, b_cell, F_mix, PySem.W.mg_of X G a_mix, b_mix, F_names, PySem.W.mg_of X G a_names, b_names, F_amounts, PySem.W.mg_of X G a_amounts, b_amounts, F_given, PySem.W.mg_of X G a_given, b_given, F_numbers, PySem.W.mg_of X G a_numbers, b_numbers, F_ask, PySem.W.mg_of X G a_ask, b_ask, F_refused, PySem.W.mg_of X G a_refused, b_refused, F_row, PySem.W.mg_of X G a_row, b_row, F_l_copied, PySem.W.mg_of X G a_l_copied, b_l_copied, F_right, PySem.W.mg_of X G a_right, b_right, F_law, PySem.W.mg_of X G a_law, PySem.W.mg_none_of X G y_dict, PySem.W.mg_none_of X G y_isinstance, PySem.W.mg_none_of X G y_len, PySem.W.mg_none_of X G y_list, PySem.W.mg_none_of X G y_range, PySem.W.mg_none_of X G y_sorted, PySem.W.mg_none_of X G y_tuple⟩, rfl, fun s v => .of_eq rfl⟩
theorem walk {l : PySem.W.OpenLaw} {q : Program} {loose : List Str} {XP : (Str → Option Value) → Heap → Prop} {YP : World → Heap → Prop} {e : DefRec} {K : Params → PySem.W.Frag} (hn : l.most = some 63) (hdf : e.params.defaults = []) (hlaw : e.name = "law")
    (hY : ∀ (w : World) (h : Heap), YP w h → (K w.params).In h)
    (F : ∀ (w : World) (mg : Str → Option Value) (fa : Addr) (h : Heap), (K w.params).In h → h.Ns mainGlobals mg → mg "law" = some (.ref fa) → ∃ d : Ad, Tx (K w.params) mg d ∧ fa = d.f_law ∧ ∀ (s : Shared) (v : Value), BindsTo s d.fd_law ⟨[v], []⟩ [("_law_script", v)]) :
    PySem.W.WalkO q loose XP YP l.row.toRowW e [] (fun f vs => PySem.call f vs) := by
  refine L2.walk_of (n := 63) (k := 10) (x := "_law_script") (CX := fun _ => CX0) (sp := fun w => sp_law0 (K w.params)) hn (by decide) hdf ⟨rfl, by decide, by decide⟩ hY (fun w mg fa h KX G hm => ?_) (fun _ _ a ns hl _ hS => ⟨a, ns, rfl, hS, hl, fun _ => rfl⟩) fun _ _ _ _ _ z => z
  rw [hlaw] at hm
  obtain ⟨d, T, rfl, hb⟩ := F w mg fa h KX G hm
  exact ⟨d.fd_law, hb, fun base _ _ => (ok_law (P := l.prog) (w := w) (base := base) T).imp fun vs H Q E q => q⟩
end Our
open PySem PySem.W PyProof.Rows
set_option maxRecDepth 100000 in
set_option maxHeartbeats 0 in
theorem PySem.Challenge.cw_quotatree_k71_deeds_of_rows_holds : PySem.Challenge.rw_quotatree_k71_deeds_of_rows.Holds := by
  w_on; o_law; k_head; (case hw => w_witness2)
  k_fill
  refine Our.walk (l := PySem.Challenge.rw_quotatree_k71_deeds_of_rows) rfl rfl rfl (fun w h Y => PySem.W.kIn_of Y) ?F
  case F =>
    intro w mg fa h KX G hmg
    refine' Our.txt_mk KX G hmg ?a_copied ?l_copied ?c_copied ?k_copied ?a_deed_of ?l_deed_of ?c_deed_of ?k_deed_of ?a_cell ?l_cell ?c_cell ?k_cell ?a_mix ?l_mix ?c_mix ?k_mix ?a_names ?l_names ?c_names ?k_names ?a_amounts ?l_amounts ?c_amounts ?k_amounts ?a_given ?l_given ?c_given ?k_given ?a_numbers ?l_numbers ?c_numbers ?k_numbers ?a_ask ?l_ask ?c_ask ?k_ask ?a_refused ?l_refused ?c_refused ?k_refused ?a_row ?l_row ?c_row ?k_row ?a_l_copied ?l_l_copied ?c_l_copied ?k_l_copied ?a_right ?l_right ?c_right ?k_right ?a_law ?l_law ?c_law ?k_law ?y_dict ?y_isinstance ?y_len ?y_list ?y_range ?y_sorted ?y_tuple
    (case a_copied => k_is); (case l_copied => k_is); (case c_copied => k_is); (case k_copied => k_is)
    (case a_deed_of => k_is); (case l_deed_of => k_is); (case c_deed_of => k_is); (case k_deed_of => k_is)
    (case a_cell => k_is); (case l_cell => k_is); (case c_cell => k_is); (case k_cell => k_is)
    (case a_mix => k_is); (case l_mix => k_is); (case c_mix => k_is); (case k_mix => k_is)
    (case a_names => k_is); (case l_names => k_is); (case c_names => k_is); (case k_names => k_is)
    (case a_amounts => k_is); (case l_amounts => k_is); (case c_amounts => k_is); (case k_amounts => k_is)
    (case a_given => k_is); (case l_given => k_is); (case c_given => k_is); (case k_given => k_is)
    (case a_numbers => k_is); (case l_numbers => k_is); (case c_numbers => k_is); (case k_numbers => k_is)
    (case a_ask => k_is); (case l_ask => k_is); (case c_ask => k_is); (case k_ask => k_is)
    (case a_refused => k_is); (case l_refused => k_is); (case c_refused => k_is); (case k_refused => k_is)
    (case a_row => k_is); (case l_row => k_is); (case c_row => k_is); (case k_row => k_is)
    (case a_l_copied => k_is); (case l_l_copied => k_is); (case c_l_copied => k_is); (case k_l_copied => k_is)
    (case a_right => k_is); (case l_right => k_is); (case c_right => k_is); (case k_right => k_is)
    (case a_law => k_is); (case l_law => k_is); (case c_law => k_is); (case k_law => k_is)
    (case y_dict => k_is)
    (case y_isinstance => k_is)
    (case y_len => k_is)
    (case y_list => k_is)
    (case y_range => k_is)
    (case y_sorted => k_is)
    (case y_tuple => k_is)
