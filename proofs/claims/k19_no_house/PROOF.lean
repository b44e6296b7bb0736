import PyProof.Rows.All
import Wide.All
import OpenK.AllK
import Wide.FinOn
import Lean
import PyProof.EqAt
import PyProof.EqKinds
import PyProof.TupleCall
import PyProof.NeKinds
import KE.KEqDict
import KE.KRevIter
import PyProof.FactsAll.range_2
import PyProof.ZipIter
import PyProof.FitsReplace
import PyProof.MeetsStr
import PyProof.ListRange
import PyProof.CollectWalk
import PyProof.DictItems
import PyProof.DictItemsLoops
import PyProof.DictValues
import PyProof.DictWalks
import PyProof.StrCalls
import KE.KIsAll
import PySem.Challenge.RW_quotatree_k19_no_house
set_option compiler.extract_closed false
set_option Elab.async false
set_option linter.all false
set_option maxRecDepth 100000
namespace L2
open PySem PySem.Spec PyProof.Rows
abbrev Key := Sum Int Str
def keyIs : Key → Value → Bool
  | .inl k, v => Value.isInt k v
  | .inr x, v => Value.isStrOf x v
def keyH (w : World) : Key → Int
  | .inl k => hashInt k
  | .inr x => hashStr w x
theorem keyIs_shape : ∀ {k : Key} {v : Value}, keyIs k v = true → (∃ i t, k = Sum.inl i ∧ v = Value.int i t) ∨ (∃ x t, k = Sum.inr x ∧ v = Value.str x t)
  | .inl i, v, h => by
    obtain ⟨t, e⟩ := Value.isInt_shape (k := i) (v := v) h
    exact .inl ⟨i, t, rfl, e⟩
  | .inr x, v, h => by
    obtain ⟨t, e⟩ := Value.isStrOf_shape (x := x) (v := v) h
    exact .inr ⟨x, t, rfl, e⟩
theorem keyIs_int (i : Int) (t : Tok) : keyIs (.inl i) (.int i t) = true := by simp [keyIs, Value.isInt]
theorem keyIs_str (x : Str) (t : Tok) : keyIs (.inr x) (.str x t) = true := by simp [keyIs, Value.isStrOf]
theorem key_ll (a b : Int) : decide ((Sum.inl a : Key) = Sum.inl b) = (a == b) := by
  by_cases e : a = b
  · subst e; simp
  · have h : ¬ (Sum.inl a : Key) = Sum.inl b := fun q => e (Sum.inl.inj q)
    rw [decide_eq_false h]
    exact (beq_eq_false_iff_ne.mpr e).symm
theorem key_rr (a b : Str) : decide ((Sum.inr a : Key) = Sum.inr b) = decide (a = b) := by
  by_cases e : a = b
  · subst e; simp
  · have h : ¬ (Sum.inr a : Key) = Sum.inr b := fun q => e (Sum.inr.inj q)
    rw [decide_eq_false h, decide_eq_false e]
theorem key_lr (a : Int) (b : Str) : decide ((Sum.inl a : Key) = Sum.inr b) = false := decide_eq_false (fun q => nomatch q)
theorem key_rl (a : Str) (b : Int) : decide ((Sum.inr a : Key) = Sum.inl b) = false := decide_eq_false (fun q => nomatch q)
def mixKind (prog : Program) (w : World) : PySem.KeyKind prog w Key where
  is := keyIs
  hash := keyH w
  inj := fun v a b ha hb => by
    rcases keyIs_shape ha with ⟨i, t, rfl, rfl⟩ | ⟨x, t, rfl, rfl⟩
    · rcases keyIs_shape hb with ⟨j, u, rfl, e⟩ | ⟨y, u, rfl, e⟩
      · injection e with e1 _; rw [e1]
      · exact nomatch e
    · rcases keyIs_shape hb with ⟨j, u, rfl, e⟩ | ⟨y, u, rfl, e⟩
      · exact nomatch e
      · injection e with e1 _; rw [e1]
  byValue := fun k v h => by
    rcases keyIs_shape h with ⟨i, t, rfl, rfl⟩ | ⟨x, t, rfl, rfl⟩ <;> rfl
  pyHash := fun hv h => by
    rcases keyIs_shape hv with ⟨i, t, rfl, rfl⟩ | ⟨x, t, rfl, rfl⟩
    · exact wpAny_pyHash_int h
    · exact wpAny_pyHash_str h
  eqBool := fun hu hv h => by
    rcases keyIs_shape hu with ⟨i, t, rfl, rfl⟩ | ⟨x, t, rfl, rfl⟩
    · rcases keyIs_shape hv with ⟨j, u, rfl, rfl⟩ | ⟨y, u, rfl, rfl⟩
      · rw [key_ll] at h; exact wpAny_eqBool_int h
      · rw [key_lr] at h; exact SeqAt.EqAt.int_str i t y u _ _ _ _ h
    · rcases keyIs_shape hv with ⟨j, u, rfl, rfl⟩ | ⟨y, u, rfl, rfl⟩
      · rw [key_rl] at h; exact SeqAt.EqAt.str_int x t j u _ _ _ _ h
      · rw [key_rr] at h; exact wpAny_eqBool_str h
  «strs» := fun k x t v h => by
    rcases keyIs_shape h with ⟨i, u, rfl, e⟩ | ⟨y, u, rfl, e⟩
    · exact nomatch e
    · injection e with e1 _
      subst e1
      cases v <;> rfl
theorem mixKind_int (prog : Program) (w : World) (i : Int) (t : Tok) : (mixKind prog w).is (.inl i) (.int i t) = true := keyIs_int i t
theorem mixKind_str (prog : Program) (w : World) (x : Str) (t : Tok) : (mixKind prog w).is (.inr x) (.str x t) = true := keyIs_str x t
end L2
namespace L2
open PySem PySem.Spec PyProof.Rows
inductive V where
  | non | bl (b : Bool) | int (i : Int) | str (x : Str) | byt (b : Array UInt8) | flt (b : UInt64) | ref (a : Addr) | ty (n : String)
  deriving DecidableEq
def RelV : V → Value → Prop
  | .non, u => u = Value.none
  | .bl b, u => u = Value.bool b
  | .int i, u => ∃ t, u = Value.int i t
  | .str x, u => ∃ t, u = Value.str x t
  | .byt b, u => ∃ t, u = Value.bytes b t
  | .flt b, u => ∃ t, u = Value.float b t
  | .ref a, u => u = Value.ref a
  | .ty n, u => u = Value.type n
abbrev Vals : List V → List Value → Prop := Paired RelV
theorem Vals.length {xs : List V} {us : List Value} (r : Vals xs us) : xs.length = us.length := Paired.length r
theorem Vals.get : ∀ {xs : List V} {us : List Value} {i : Nat} {x : V}, Vals xs us → xs[i]? = some x → ∃ u, us[i]? = some u ∧ RelV x u
  | _, _, _, _, .nil, e => by simp at e
  | _, _, 0, _, .cons r _, e => by simp at e; subst e; exact ⟨_, rfl, r⟩
  | _, _, i + 1, x, .cons _ t, e => by
    obtain ⟨u, h1, h2⟩ := Vals.get (i := i) (x := x) t (by simpa using e)
    exact ⟨u, by simpa using h1, h2⟩
theorem Vals.append : ∀ {xs ys : List V} {us ws : List Value}, Vals xs us → Vals ys ws → Vals (xs ++ ys) (us ++ ws)
  | _, _, _, _, .nil, s => s
  | _, _, _, _, .cons r t, s => .cons r (Vals.append t s)
def RelO : Option V → Option Value → Prop
  | some v, some u => RelV v u
  | none, none => True
  | _, _ => False
def KV {κ : Type} : List (κ × V) → List (κ × Value) → Prop := Paired fun (p : κ × V) (q : κ × Value) => p.1 = q.1 ∧ RelV p.2 q.2
def kV : Key → V
  | .inl i => .int i
  | .inr x => .str x
inductive HO where
  /-- a list -/
  | lst (xs : List V)
  /-- a tuple (never changes) -/
  | tup (xs : List V)
  /-- a dict whose keys are ints and texts; one whose keys are tuples of ints and texts (the empty one is both) -/
  | dK (kvs : List (Key × V)) | dT (kvs : List (List Key × V))
  /-- a set of ints: its members, its size -/
  | set (S : Int → Bool) (n : Nat)
  /-- an instance of the class at C, its dict at dx, its attributes -/
  | ins (C dx : Addr) (fs : List (Str × V))
  /-- the dict of the instance at x -/
  | own (x : Addr)
  /-- the dict of an exception -/
  | xd (fs : List (Str × V))
  /-- a bound method, f of x -/
  | met (f x : Addr)
  /-- a range object lo, lo + 1, .. below hi -/
  | rng (lo hi : Int)
  /-- a thing that is known to the object (the script; a dict while a loop walks it): read, never written while it is so -/
  | frz (o : Obj) (u : HO)
  /-- a code object's table -/
  | tbl (ps : Array Value)
  /-- any other thing, by what is true of its one object (a def of one's own: SetO a S n := HO.ext fun h => ..) -/
  | ext (φ : Heap → Prop)
abbrev Hp := Addr → Option HO
def upd (H : Hp) (a : Addr) (o : HO) : Hp := fun b => if b = a then some o else H b
theorem upd_same {H : Hp} {a : Addr} {o : HO} : upd H a o a = some o := by unfold upd; rw [if_pos rfl]
theorem upd_ne {H : Hp} {a b : Addr} {o : HO} (h : b ≠ a) : upd H a o b = H b := by unfold upd; rw [if_neg h]
theorem upd_upd {H : Hp} {a : Addr} {o u : HO} : upd (upd H a o) a u = upd H a u := by
  funext b; unfold upd; split <;> rfl
theorem ne_of {H : Hp} {a b : Addr} {o u : HO} (h : H a = some o) (h' : H b = some u) (d : o ≠ u) : a ≠ b := by
  intro e; subst e; rw [h] at h'; exact d (Option.some.inj h')
theorem ne_of_none {H : Hp} {a b : Addr} {o : HO} (h : H a = some o) (h' : H b = none) : a ≠ b := by
  intro e; subst e; rw [h] at h'; cases h'
section
variable (P : Program) (w : World)
def ObjOk (H : Hp) (h : Heap) (a : Addr) : HO → Prop
  | .lst xs => xs.length ≤ sizeLine ∧ ∃ (its : List Value) (n : Nat), Vals xs its ∧ h.get? a = some { cls := .type "list", data := .seq its.toArray n }
  | .tup xs => xs.length ≤ sizeLine ∧ ∃ its : List Value, Vals xs its ∧ IsTup h a its.toArray
  | .dK kvs => kvs.length ≤ sizeLine ∧ (a == sysModules) = false ∧ ∃ vs, KV kvs vs ∧ h.DictOf (mixKind P w) a vs
  | .dT kvs => kvs.length ≤ sizeLine ∧ (a == sysModules) = false ∧ ∃ xs : List (List Key × Addr × Value),
      Paired (fun (p : List Key × V) (q : List Key × Addr × Value) => p.1 = q.1 ∧ H q.2.1 = some (.tup (p.1.map kV)) ∧ RelV p.2 q.2.2) kvs xs ∧
      ∃ o es ep, h.get? a = some o ∧ o.ExactDict ∧ o.data = .dict es ep ∧ es.toList = xs.map (entryOfKey (tupleKind (mixKind P w))) ∧ (xs.map (·.1)).Nodup
  | .set S n => h.SetOf (intKind P w) a S n
  | .ins C dx fs => H dx = some (.own a) ∧ fs.length ≤ 1000 ∧ dx ≠ a ∧ h.get? a = some (PySem.W.instObj C dx) ∧
      ∃ mA, h.Ns1 dx mA ∧ (∀ f, RelO (fs.lookup f) (mA f)) ∧ PySem.Within mA (fs.map (·.1))
  | .own _ => ∃ o, h.get? a = some o
  | .xd fs => ∃ mA, h.Ns1 a mA ∧ ∀ f, RelO (fs.lookup f) (mA f)
  | .rng lo hi => ∃ t u v, h.get? a = some { cls := .type "range", data := .fields #[.int lo t, .int hi u, .int 1 v] }
  | .frz o u => h.get? a = some o ∧ ObjOk H h a u
  | .tbl ps => h.get? a = some { cls := .none, data := .fields ps }
  | .met f x => h.get? a = some (PySem.W.methodObj (.ref f) (.ref x))
  | .ext φ => φ h ∧ (∃ o, h.get? a = some o) ∧ ∀ h1 h2 : Heap, φ h1 → (∀ o, h1.get? a = some o → h2.get? a = some o) → φ h2
def HOk (H : Hp) (h : Heap) : Prop := ∀ a o, H a = some o → ObjOk P w H h a o
end
section
variable {P : Program} {w : World} {H H' : Hp} {h h' : Heap} {a : Addr} {o : HO}
theorem ObjOk.lt (x : ObjOk P w H h a o) : a < h.objs.size := by
  cases o with
  | lst xs => obtain ⟨_, _, _, _, e⟩ := x; exact Heap.lt_size e
  | tup xs => obtain ⟨_, _, _, p⟩ := x; exact p.lt
  | dK kvs => obtain ⟨_, _, _, _, o, _, _, e, _⟩ := x; exact Heap.lt_size e
  | dT kvs => obtain ⟨_, _, _, _, o, _, _, e, _⟩ := x; exact Heap.lt_size e
  | set S n => obtain ⟨o, _, _, _, e, _⟩ := x; exact Heap.lt_size e
  | ins C dx fs => obtain ⟨_, _, _, e, _⟩ := x; exact Heap.lt_size e
  | own y => obtain ⟨_, e⟩ := x; exact Heap.lt_size e
  | xd fs => obtain ⟨_, ⟨_, _, _, e, _⟩, _⟩ := x; exact Heap.lt_size e
  | rng lo hi => obtain ⟨_, _, _, e⟩ := x; exact Heap.lt_size e
  | frz ob u => obtain ⟨e, _⟩ := x; exact Heap.lt_size e
  | tbl ps => exact Heap.lt_size (show h.get? a = some _ from x)
  | met f y => exact Heap.lt_size (show h.get? a = some _ from x)
  | ext φ => obtain ⟨_, ⟨_, e⟩, _⟩ := x; exact Heap.lt_size e
theorem Paired.mapP {α β : Type} {F G : α → β → Prop} : ∀ {l₁ : List α} {l₂ : List β}, Paired F l₁ l₂ → (∀ a b, F a b → G a b) → Paired G l₁ l₂
  | _, _, .nil, _ => .nil
  | _, _, .cons r t, f => .cons (f _ _ r) (Paired.mapP t f)
theorem ObjOk.stay (x : ObjOk P w H h a o) (k : ∀ b u, (b = a ∨ H b = some (.own a)) → h.get? b = some u → h'.get? b = some u)
    (ho : ∀ b, H b = some (.own a) → H' b = some (.own a)) (ht : ∀ b xs, H b = some (.tup xs) → H' b = some (.tup xs)) : ObjOk P w H' h' a o := by
  induction o with
  | lst xs => obtain ⟨z, its, n, r, e⟩ := x; exact ⟨z, its, n, r, k _ _ (.inl rfl) e⟩
  | tup xs => obtain ⟨z, its, r, ob, e, c⟩ := x; exact ⟨z, its, r, ob, k _ _ (.inl rfl) e, c⟩
  | dK kvs => obtain ⟨z, y, vs, r, ob, es, ep, e, c⟩ := x; exact ⟨z, y, vs, r, ob, es, ep, k _ _ (.inl rfl) e, c⟩
  | dT kvs =>
    obtain ⟨z, y, xs, r, ob, es, ep, e, c⟩ := x
    exact ⟨z, y, xs, Paired.mapP r fun p q z => ⟨z.1, ht _ _ z.2.1, z.2.2⟩, ob, es, ep, k _ _ (.inl rfl) e, c⟩
  | set S n => obtain ⟨ob, es, ep, t, e, c⟩ := x; exact ⟨ob, es, ep, t, k _ _ (.inl rfl) e, c⟩
  | ins C dx fs =>
    obtain ⟨d, z, ne, e, mA, ⟨od, es, ep, e2, c⟩, r⟩ := x
    exact ⟨ho _ d, z, ne, k _ _ (.inl rfl) e, mA, ⟨od, es, ep, k _ _ (.inr d) e2, c⟩, r⟩
  | own y => obtain ⟨ob, e⟩ := x; exact ⟨ob, k _ _ (.inl rfl) e⟩
  | xd fs => obtain ⟨mA, ⟨od, es, ep, e, c⟩, r⟩ := x; exact ⟨mA, ⟨od, es, ep, k _ _ (.inl rfl) e, c⟩, r⟩
  | rng lo hi => obtain ⟨t, u, v, e⟩ := x; exact ⟨t, u, v, k _ _ (.inl rfl) e⟩
  | frz ob u ih => obtain ⟨e, q⟩ := x; exact ⟨k _ _ (.inl rfl) e, ih q⟩
  | tbl ps =>
    have e : h.get? a = some { cls := .none, data := .fields ps } := x
    show h'.get? a = some { cls := .none, data := .fields ps }
    exact k a _ (.inl rfl) e
  | met f y =>
    have e : h.get? a = some (PySem.W.methodObj (.ref f) (.ref y)) := x
    show h'.get? a = some (PySem.W.methodObj (.ref f) (.ref y))
    exact k a _ (.inl rfl) e
  | ext φ => obtain ⟨p, ⟨o, e⟩, st⟩ := x; exact ⟨st _ _ p fun o q => k _ _ (.inl rfl) q, ⟨o, k _ _ (.inl rfl) e⟩, st⟩
theorem HOk.lt (x : HOk P w H h) (e : H a = some o) : a < h.objs.size := (x a o e).lt
theorem HOk.fresh (x : HOk P w H h) (e : h.objs.size ≤ a) : H a = none := by
  cases q : H a with
  | none => rfl
  | some u => exact absurd (Nat.lt_of_lt_of_le (x.lt q) e) (Nat.lt_irrefl _)
theorem HOk.kept (x : HOk P w H h) (k : ∀ b u, h.get? b = some u → h'.get? b = some u) : HOk P w H h' := fun a o e =>
  (x a o e).stay (fun b u _ q => k b u q) (fun _ q => q) fun _ _ q => q
theorem HOk.laid (x : HOk P w H h) (k : ∀ b u, h.get? b = some u → h'.get? b = some u) (hp : h.objs.size ≤ a) (new : ObjOk P w (upd H a o) h' a o) : HOk P w (upd H a o) h' := fun b u e => by
  have hn := x.fresh hp
  by_cases hb : b = a
  · subst hb; rw [upd_same] at e; cases e; exact new
  · rw [upd_ne hb] at e
    exact (x b u e).stay (fun c v _ q => k c v q) (fun c q => by rw [upd_ne (ne_of_none q hn)]; exact q) fun c xs q => by rw [upd_ne (ne_of_none q hn)]; exact q
end
def Rd (H : Hp) (a : Addr) (u : HO) : Prop := H a = some u ∨ ∃ o, H a = some (.frz o u)
theorem Rd.of {H : Hp} {a : Addr} {u : HO} (h : H a = some u) : Rd H a u := .inl h
theorem Rd.ok {P : Program} {w : World} {H : Hp} {h : Heap} {a : Addr} {u : HO} (r : Rd H a u) (x : HOk P w H h) : ObjOk P w H h a u := by
  rcases r with r | ⟨o, r⟩
  · exact x a u r
  · obtain ⟨_, q⟩ := x a _ r
    exact q
def Mut : Option HO → Prop
  | some (.lst _) => True
  | some (.dK _) => True
  | some (.dT _) => True
  | some (.set _ _) => True
  | some (.ins _ _ _) => True
  | some (.ext _) => True
  | _ => False
section
variable {P : Program} {w : World} {H : Hp} {h h' : Heap} {x e : Addr} {o' : HO}
theorem HOk.write (ok : HOk P w H h) (mu : Mut (H x)) (he : e = x ∨ H e = some (.own x)) (k : ∀ b u, b ≠ e → h.get? b = some u → h'.get? b = some u) (heo : ∃ u, h'.get? e = some u)
    (new : ObjOk P w (upd H x o') h' x o') : HOk P w (upd H x o') h' := fun b u q => by
  have nown : ∀ c y, H c = some (.own y) → c ≠ x := fun c y r z => by subst z; rw [r] at mu; exact mu
  have ntup : ∀ c xs, H c = some (.tup xs) → c ≠ x := fun c xs r z => by subst z; rw [r] at mu; exact mu
  by_cases hb : b = x
  · subst hb; rw [upd_same] at q; cases q; exact new
  · rw [upd_ne hb] at q
    by_cases hbe : b = e
    · have q' : H b = some (.own x) := by
        rcases he with z | z
        · exact absurd (hbe.trans z) hb
        · rw [hbe]; exact z
      rw [q] at q'; cases q'
      obtain ⟨v, hv⟩ := heo
      exact ⟨v, by rw [hbe]; exact hv⟩
    · refine (ok b u q).stay (fun c v hc r => k c v ?_ r) (fun c r => by rw [upd_ne (nown c b r)]; exact r) fun c xs r => by rw [upd_ne (ntup c xs r)]; exact r
      rcases hc with rfl | hc
      · exact hbe
      · rintro rfl
        rcases he with z | z
        · exact nown c b hc z
        · rw [hc] at z; cases z; exact hb rfl
end
structure Un (fs ex : List Addr) (H H' : Hp) (h h' : Heap) : Prop where
  keep : ∀ b o, h.get? b = some o → H b = none → b ∉ fs → b ∉ ex → h'.get? b = some o
  slot : ∀ b o, h.get? b = some o → H b = none → b ∈ fs → b ∉ ex → ∃ sl, h'.get? b = some { o with slots := sl }
  free : ∀ b o, h.get? b = some o → H b = none → b ∉ ex → H' b = none
  there : ∀ b o, h.get? b = some o → b ∉ ex → ∃ o', h'.get? b = some o'
  tups : ∀ b xs, H b = some (.tup xs) → H' b = some (.tup xs)
  frzs : ∀ b o u, H b = some (.frz o u) → H' b = some (.frz o u)
  tbls : ∀ b ps, H b = some (.tbl ps) → ∃ more, H' b = some (.tbl (ps ++ more))
section
variable {fs fs' ex ex' : List Addr} {H H1 H2 : Hp} {h h1 h2 h' : Heap} {a x e : Addr} {o : HO}
theorem Un.any (u : Un fs ex H H1 h h1) {b : Addr} {ob : Obj} (q : h.get? b = some ob) (n : H b = none) (hx : b ∉ ex) : ∃ sl, h1.get? b = some { ob with slots := sl } := by
  by_cases hb : b ∈ fs
  · exact u.slot b ob q n hb hx
  · exact ⟨ob.slots, u.keep b ob q n hb hx⟩
theorem Un.kept (k : ∀ b u, h.get? b = some u → h'.get? b = some u) : Un fs ex H H h h' :=
  ⟨fun b ob q _ _ _ => k b ob q, fun b ob q _ _ _ => ⟨ob.slots, k b ob q⟩, fun _ _ _ n _ => n, fun b ob q _ => ⟨ob, k b ob q⟩, fun _ _ q => q, fun _ _ _ q => q, fun _ ps q => ⟨#[], by rw [q]; simp⟩⟩
theorem Un.refl : Un fs ex H H h h := Un.kept fun _ _ q => q
theorem Un.laid (k : ∀ b u, h.get? b = some u → h'.get? b = some u) (hp : h.objs.size ≤ a) (hn : H a = none) : Un fs ex H (upd H a o) h h' where
  keep := fun b u q _ _ _ => k b u q
  slot := fun b u q _ _ _ => ⟨u.slots, k b u q⟩
  free := fun b u q n _ => by rw [upd_ne (Nat.ne_of_lt (Nat.lt_of_lt_of_le (Heap.lt_size q) hp))]; exact n
  there := fun b u q _ => ⟨u, k b u q⟩
  tups := fun b xs q => by rw [upd_ne (ne_of_none q hn)]; exact q
  frzs := fun b u xs q => by rw [upd_ne (ne_of_none q hn)]; exact q
  tbls := fun b ps q => ⟨#[], by rw [upd_ne (ne_of_none q hn), q]; simp⟩
theorem Un.write (mu : Mut (H x)) (he : e = x ∨ H e = some (.own x)) (k : ∀ b u, b ≠ e → h.get? b = some u → h'.get? b = some u) (heo : ∃ u, h'.get? e = some u) : Un fs ex H (upd H x o) h h' := by
  have hx : ∀ b, H b = none → b ≠ x := fun b n z => by subst z; rw [n] at mu; exact mu
  have hb : ∀ b, H b = none → b ≠ e := fun b n z => by
    subst z
    rcases he with r | r
    · exact hx b n r
    · rw [n] at r; cases r
  have hm : ∀ b u, H b = some u → ¬ Mut (some u) → b ≠ x := fun b u q nm z => by subst z; rw [q] at mu; exact nm mu
  refine ⟨fun b u q n _ _ => k b u (hb b n) q, fun b u q n _ _ => ⟨u.slots, k b u (hb b n) q⟩, fun b u q n _ => by rw [upd_ne (hx b n)]; exact n, fun b u q _ => ?_,
    fun b xs q => by rw [upd_ne (hm b _ q fun z => z)]; exact q, fun b u xs q => by rw [upd_ne (hm b _ q fun z => z)]; exact q, fun b ps q => ⟨#[], by rw [upd_ne (hm b _ q fun z => z), q]; simp⟩⟩
  by_cases hbe : b = e
  · subst hbe; exact heo
  · exact ⟨u, k b u hbe q⟩
end
def trk (h : Heap) (H : Hp) : List Addr := (List.range h.objs.size).filter fun a => (H a).isSome
def hidT (h : Heap) (H : Hp) : Heap := PySem.W.hideAll h (trk h H)
theorem hidT_size (h : Heap) (H : Hp) : (hidT h H).objs.size = h.objs.size := PySem.W.hideAll_size _ _
theorem hidT_get {h : Heap} {H : Hp} {b : Addr} {o : Obj} (e : h.get? b = some o) (n : H b = none) : (hidT h H).get? b = some o :=
  PySem.W.hideAll_get _ e fun hm => by
    have q : (H b).isSome = true := (List.mem_filter.mp hm).2
    rw [n] at q; simp at q
theorem of_hidT {h : Heap} {H : Hp} {b : Addr} {o : Obj} (e : (hidT h H).get? b = some o) : h.get? b = some o ∧ H b = none := by
  have e' : h.get? b = some o := PySem.W.of_hideAll (trk h H) e
  refine ⟨e', ?_⟩
  cases q : H b with
  | none => rfl
  | some x =>
    have hm : b ∈ trk h H := List.mem_filter.mpr ⟨List.mem_range.mpr (Heap.lt_size e'), by simp [q]⟩
    have z : (hidT h H).get? b = none := PySem.W.hideAll_none (trk h H) hm
    rw [z] at e; cases e
def allNews (g h : Heap) (L : Addr) : List (Addr × Obj) := (List.range h.objs.size).filterMap fun a => if a = L ∨ (g.get? a).isSome = true then none else (h.get? a).map fun o => (a, o)
def rest (g h : Heap) (L d : Addr) : List (Addr × Obj) := (allNews g h L).filter fun p => decide (p.1 ≠ d)
end L2
namespace L2
open PySem PySem.Spec PyProof.Rows
structure Mod (K : PySem.W.Frag) (mg : Str → Option Value) (base : Heap) : Prop where
  kin : K.In base
  glob : base.Ns mainGlobals mg
  blt : ∃ mb, base.Ns builtinsNs mb ∧ ∀ x : Str, x ≠ "__name__" → mb x = bootBuiltins x
  nolimit : base.NoLimit
structure Cx where
  prog : Program
  w : World
  K : PySem.W.Frag
  mg : Str → Option Value
  base : Heap
  A : Around
  N : List Str
  s₀ : Shared
  H₀ : Hp
  env : Env
  outer : List Env
  stack : List Env
  ex : List Addr
  fn : Str → Bool
  calm : Bool
  pn : List (Addr × Obj)
  xe : Value → Shared → Prop
def frs (l : List Env) : List Addr := l.filterMap (·.frame)
abbrev Cx.fs (X : Cx) : List Addr := frs X.outer
def Vis (sc : Scope) (x : Str) : Prop := sc.names.lookup x = some .local ∨ sc.names.lookup x = some .cell ∨ sc.names.lookup x = some .free
def Loc (sc : Scope) (x : Str) : Prop := sc.names.lookup x = some .local ∨ sc.names.lookup x = some .cell
def Look (env : Env) (h : Heap) (m : Str → Option Value) (x : Str) (u : Value) : Prop :=
  (env.kindOf x = some .local ∧ m x = some u) ∨ ((env.kindOf x = some .cell ∨ env.kindOf x = some .free) ∧ ∃ c, env.cells.lookup x = some c ∧ h.IsCell c (some u))
structure Cx.Ok (X : Cx) : Prop where
  mod : Mod X.K X.mg X.base
  kind : X.env.scope.kind = .function
  glob : X.env.globals = mainGlobals
  blt : X.env.builtins = builtinsNs
  above : X.s₀.heap.objs.size ≤ X.env.locals
  inj : ∀ x y c, X.env.cells.lookup x = some c → X.env.cells.lookup y = some c → x = y
  has : ∀ x, (X.env.kindOf x = some .cell ∨ X.env.kindOf x = some .free) → ∃ c, X.env.cells.lookup x = some c
  cab : ∀ x c, X.fn x = true → X.env.cells.lookup x = some c → X.s₀.heap.objs.size ≤ c
  hd : X.calm = true → X.A.handled = none
  frames : X.A.frames = some X.stack
  stk : X.stack = X.outer ∨ (X.stack = X.env :: X.outer ∧ X.env.frame = some X.env.locals)
  exf : ∀ b ∈ X.ex, b ≠ X.env.locals ∧ ∀ x c, X.env.cells.lookup x = some c → c ≠ b
  bs : ∀ b o, X.base.get? b = some o → X.s₀.heap.get? b = some o ∧ X.H₀ b = none
  bsz : X.base.objs.size ≤ X.s₀.heap.objs.size
  noex : ∀ b o, X.base.get? b = some o → b ∉ X.ex
  exfs : ∀ b ∈ X.ex, b ∉ X.fs
  funs : X.s₀.heap.FunFrames X.base X.outer
  frf : ∀ b ∈ X.fs, X.H₀ b = none
structure Inv (X : Cx) (pins : List (Addr × Obj)) (σ : List (Option V)) (H : Hp) (s : Shared) : Prop where
  ok : X.Ok
  os : s.os = X.s₀.os
  bare : AllBare s.gens
  base : Un X.fs X.ex X.H₀ H X.s₀.heap s.heap
  loc : ∃ m, s.heap.Ns X.env.locals m ∧ ∀ (i : Nat) (x : Str) (v : V), X.N[i]? = some x → σ[i]? = some (some v) → Vis X.env.scope x → ∃ u, RelV v u ∧ Look X.env s.heap m x u
  cell : ∀ x c, X.env.cells.lookup x = some c → ∃ v, s.heap.IsCell c v
  free : H X.env.locals = none
  freeC : ∀ x c, X.env.cells.lookup x = some c → H c = none
  pin : ∀ p ∈ X.pn ++ pins, s.heap.get? p.1 = some p.2 ∧ H p.1 = none ∧ p.1 ≠ X.env.locals ∧ p.1 ∉ X.fs ∧ ∀ v, p.2.data ≠ .cell v
  hok : HOk X.prog X.w H s.heap
  len : σ.length = X.N.length
section
variable {X : Cx} {pins : List (Addr × Obj)} {σ : List (Option V)} {H H' : Hp} {s : Shared} {h' : Heap}
theorem Cx.Ok.nofr (ok : X.Ok) {b : Addr} {o : Obj} (e : X.base.get? b = some o) : b ∉ X.fs := fun hb => by
  have := (ok.funs.mem hb).1
  rw [e] at this; cases this
theorem Inv.bs (I : Inv X pins σ H s) : ∀ b o, X.base.get? b = some o → s.heap.get? b = some o ∧ H b = none := fun b o e =>
  ⟨I.base.keep b o (I.ok.bs b o e).1 (I.ok.bs b o e).2 (I.ok.nofr e) (I.ok.noex b o e), I.base.free b o (I.ok.bs b o e).1 (I.ok.bs b o e).2 (I.ok.noex b o e)⟩
theorem Inv.bk (I : Inv X pins σ H s) : ∀ b o, X.base.get? b = some o → s.heap.get? b = some o := fun b o e => (I.bs b o e).1
theorem Inv.mod (I : Inv X pins σ H s) : Mod X.K X.mg X.base := I.ok.mod
theorem Inv.kIn (I : Inv X pins σ H s) : X.K.In s.heap := I.ok.mod.kin.keeps I.bk
theorem Inv.lt (I : Inv X pins σ H s) : X.env.locals < s.heap.objs.size := let ⟨_, hn, _⟩ := I.loc; hn.lt
theorem Inv.sz (I : Inv X pins σ H s) : X.s₀.heap.objs.size ≤ s.heap.objs.size := Nat.le_trans I.ok.above (Nat.le_of_lt I.lt)
theorem Inv.nofs (I : Inv X pins σ H s) {a : Addr} (h : s.heap.objs.size ≤ a) : a ∉ X.fs := fun hb => by
  obtain ⟨_, o, ho, _⟩ := I.ok.funs.mem hb
  exact absurd (Nat.lt_of_lt_of_le (Heap.lt_size ho) (Nat.le_trans I.sz h)) (Nat.lt_irrefl _)
theorem Inv.cne (I : Inv X pins σ H s) : ∀ x c, X.env.cells.lookup x = some c → c ≠ X.env.locals := fun x c e z => by
  obtain ⟨v, o, ho, hd⟩ := I.cell x c e
  obtain ⟨m, ⟨o', es, ep, ho', hd', _⟩, _⟩ := I.loc
  rw [z, ho'] at ho; cases ho; rw [hd'] at hd; cases hd
theorem Inv.funs (I : Inv X pins σ H s) : s.heap.FunFrames X.base X.outer := by
  have all : ∀ (l : List Env), (∀ b ∈ frs l, b ∈ X.fs) → X.s₀.heap.FunFrames X.base l → s.heap.FunFrames X.base l := by
    intro l
    induction l with
    | nil => intro _ _; trivial
    | cons env r ih =>
      intro hs hl
      obtain ⟨hk, ⟨L, o, hf, hn, ho, hd⟩, hr⟩ := hl
      have hL : L ∈ X.fs := hs L (by unfold frs; rw [List.filterMap_cons, hf]; exact List.mem_cons_self)
      obtain ⟨sl, e⟩ := I.base.slot L o ho (I.ok.frf L hL) hL fun z => I.ok.exfs L z hL
      exact ⟨hk, ⟨L, _, hf, hn, e, hd⟩, ih (fun b hb => hs b (by unfold frs; rw [List.filterMap_cons, hf]; exact List.mem_cons_of_mem _ hb)) hr⟩
  exact all X.outer (fun _ hb => hb) I.ok.funs
theorem Inv.stack (I : Inv X pins σ H s) : s.heap.FunFrames X.base X.stack := by
  rcases I.ok.stk with e | ⟨e, hf⟩
  · rw [e]; exact I.funs
  · rw [e]
    obtain ⟨m, hn, _⟩ := I.loc
    refine .cons (by rw [I.ok.kind]; decide) hf hn ?_ I.funs
    exact Heap.get?_none_of_le (Nat.le_trans I.ok.bsz I.ok.above)
theorem Inv.stkSub (I : Inv X pins σ H s) : ∀ b ∈ frs X.stack, b ∈ X.env.locals :: X.fs := fun b hb => by
  rcases I.ok.stk with e | ⟨e, hf⟩
  · rw [e] at hb; exact List.mem_cons_of_mem _ hb
  · rw [e] at hb
    unfold frs at hb
    rw [List.filterMap_cons, hf] at hb
    exact hb
theorem Inv.stkFree (I : Inv X pins σ H s) : ∀ b ∈ frs X.stack, H b = none := fun b hb => by
  rcases List.mem_cons.mp (I.stkSub b hb) with e | hb
  · rw [e]; exact I.free
  · obtain ⟨_, o, ho, _⟩ := I.ok.funs.mem hb
    exact I.base.free b o ho (I.ok.frf b hb) fun z => I.ok.exfs b z hb
theorem Inv.step {g' : Array GenState} {t' : Nat} {d' : Drawn} {ch : List Addr} (I : Inv X pins σ H s)
    (hch : ∀ b ∈ ch, (b ∈ X.ex ∨ X.s₀.heap.objs.size ≤ b) ∧ b ≠ X.env.locals ∧ (∀ x c, X.env.cells.lookup x = some c → c ≠ b) ∧ ∀ p ∈ X.pn ++ pins, p.1 ≠ b)
    (keep : ∀ b o, b ≠ X.env.locals → b ∉ X.fs → b ∉ ch → s.heap.get? b = some o → H b = none → h'.get? b = some o)
    (slot : ∀ b o, b ≠ X.env.locals → b ∈ X.fs → b ∉ ch → s.heap.get? b = some o → H b = none → ∃ sl, h'.get? b = some { o with slots := sl }) (free : ∀ b o, b ∉ ch → s.heap.get? b = some o → H b = none → H' b = none)
    (there : ∀ b o, b ∉ ch → s.heap.get? b = some o → ∃ o', h'.get? b = some o')
    (tups : ∀ b xs, H b = some (.tup xs) → H' b = some (.tup xs)) (frzs : ∀ b o u, H b = some (.frz o u) → H' b = some (.frz o u)) (tbls : ∀ b ps, H b = some (.tbl ps) → ∃ more, H' b = some (.tbl (ps ++ more)))
    (ns : ∀ m, s.heap.Ns X.env.locals m → h'.Ns X.env.locals m) (hok : HOk X.prog X.w H' h') (hg : AllBare g') :
    Inv X pins σ H' { s with heap := h', gens := g', drawn := d', toks := t' } := by
  have neL : ∀ b o, X.s₀.heap.get? b = some o → b ≠ X.env.locals := fun b o e => Nat.ne_of_lt (Nat.lt_of_lt_of_le (Heap.lt_size e) I.ok.above)
  have neC : ∀ b o, X.s₀.heap.get? b = some o → b ∉ X.ex → b ∉ ch := fun b o e hx hb => by
    rcases (hch b hb).1 with z | z
    · exact hx z
    · exact absurd (Nat.lt_of_lt_of_le (Heap.lt_size e) z) (Nat.lt_irrefl _)
  have cellK : ∀ x c, X.env.cells.lookup x = some c → ∀ v, s.heap.IsCell c v → h'.IsCell c v := fun x c e v ⟨o, ho, hd⟩ => by
    have nch : c ∉ ch := fun z => (hch c z).2.2.1 x c e rfl
    by_cases hc : c ∈ X.fs
    · obtain ⟨sl, q⟩ := slot c o (I.cne x c e) hc nch ho (I.freeC x c e)
      exact ⟨_, q, hd⟩
    · exact ⟨o, keep c o (I.cne x c e) hc nch ho (I.freeC x c e), hd⟩
  refine ⟨I.ok, I.os, hg, ⟨fun b o e n hb hx => ?_, fun b o e n hb hx => ?_, fun b o e n hx => ?_, fun b o e hx => ?_, fun b xs e => tups b xs (I.base.tups b xs e), fun b o xs e => frzs b o xs (I.base.frzs b o xs e), fun b ps e => ?_⟩, ?_, fun x c e => ?_, ?_, fun x c e => ?_, fun p hp => ?_, hok, I.len⟩
  · exact keep b o (neL b o e) hb (neC b o e hx) (I.base.keep b o e n hb hx) (I.base.free b o e n hx)
  · obtain ⟨sl, e1⟩ := I.base.slot b o e n hb hx
    obtain ⟨sl', e2⟩ := slot b _ (neL b o e) hb (neC b o e hx) e1 (I.base.free b o e n hx)
    exact ⟨sl', e2⟩
  · obtain ⟨o', e1⟩ := I.base.there b o e hx
    exact free b o' (neC b o e hx) e1 (I.base.free b o e n hx)
  · obtain ⟨o', e1⟩ := I.base.there b o e hx
    exact there b o' (neC b o e hx) e1
  · obtain ⟨m1, e1⟩ := I.base.tbls b ps e
    obtain ⟨m2, e2⟩ := tbls b _ e1
    exact ⟨m1 ++ m2, by rw [e2, Array.append_assoc]⟩
  · obtain ⟨m, hn, hl⟩ := I.loc
    refine ⟨m, ns m hn, fun i x v e1 e2 e3 => ?_⟩
    obtain ⟨u, r, l⟩ := hl i x v e1 e2 e3
    refine ⟨u, r, ?_⟩
    rcases l with l | ⟨k, c, e, z⟩
    · exact .inl l
    · exact .inr ⟨k, c, e, cellK x c e _ z⟩
  · obtain ⟨v, z⟩ := I.cell x c e
    exact ⟨v, cellK x c e v z⟩
  · obtain ⟨m, ⟨o, _, _, ho, _⟩, _⟩ := I.loc
    exact free _ o (fun z => (hch _ z).2.1 rfl) ho I.free
  · obtain ⟨v, o, ho, hd⟩ := I.cell x c e
    exact free c o (fun z => (hch c z).2.2.1 x c e rfl) ho (I.freeC x c e)
  · obtain ⟨e, n, ne, nf, d⟩ := I.pin p hp
    have nch : p.1 ∉ ch := fun z => (hch p.1 z).2.2.2 p hp rfl
    exact ⟨keep p.1 p.2 ne nf nch e n, free p.1 p.2 nch e n, ne, nf, d⟩
theorem Inv.un {t' : Nat} (I : Inv X pins σ H s) (u : Un X.fs [] H H' s.heap h') (hok : HOk X.prog X.w H' h') : Inv X pins σ H' { s with heap := h', toks := t' } := by
  obtain ⟨m, ⟨o, es, ep, ho, r⟩, _⟩ := id I.loc
  obtain ⟨sl, hL⟩ := u.any ho I.free (by simp)
  exact I.step (g' := s.gens) (d' := s.drawn) (ch := []) (fun _ z => nomatch z) (fun b o _ hb _ e n => u.keep b o e n hb (by simp)) (fun b o _ hb _ e n => u.slot b o e n hb (by simp)) (fun b o _ e n => u.free b o e n (by simp)) (fun b o _ e => u.there b o e (by simp)) u.tups u.frzs u.tbls (fun m' hm => by
    obtain ⟨o', es', ep', ho', r'⟩ := hm
    rw [ho] at ho'; cases ho'
    exact ⟨_, es', ep', hL, r'⟩) hok I.bare
theorem Inv.call {g' : Array GenState} {t' : Nat} {d' : Drawn} {ch : List Addr} (I : Inv X pins σ H s) (u : Un (frs X.stack) ch H H' s.heap h') (hok : HOk X.prog X.w H' h') (hg : AllBare g')
    (hch : ∀ b ∈ ch, (b ∈ X.ex ∨ X.s₀.heap.objs.size ≤ b) ∧ b ≠ X.env.locals ∧ (∀ x c, X.env.cells.lookup x = some c → c ≠ b) ∧ ∀ p ∈ X.pn ++ pins, p.1 ≠ b) :
    Inv X pins σ H' { s with heap := h', gens := g', drawn := d', toks := t' } := by
  obtain ⟨m, ⟨o, es, ep, ho, r⟩, _⟩ := id I.loc
  obtain ⟨sl, hL⟩ := u.any ho I.free fun z => (hch _ z).2.1 rfl
  exact I.step (ch := ch) hch (fun b o hL hb hc e n => u.keep b o e n (fun z => (List.mem_cons.mp (I.stkSub b z)).elim hL hb) hc) (fun b o _ _ hc e n => u.any e n hc) (fun b o hc e n => u.free b o e n hc) (fun b o hc e => u.there b o e hc) u.tups u.frzs u.tbls (fun m' hm => by
    obtain ⟨o', es', ep', ho', r'⟩ := hm
    rw [ho] at ho'; cases ho'
    exact ⟨_, es', ep', hL, r'⟩) hok hg
theorem Inv.turned {t' : Nat} {it : Addr} (I : Inv X pins σ H s) (k : ∀ b o, b ≠ it → s.heap.get? b = some o → h'.get? b = some o) (hn : H it = none) (hL : it ≠ X.env.locals)
    (h1 : it ∈ X.ex ∨ X.s₀.heap.objs.size ≤ it) (h2 : ∀ x c, X.env.cells.lookup x = some c → c ≠ it) (h3 : ∀ p ∈ X.pn ++ pins, p.1 ≠ it) : Inv X pins σ H { s with heap := h', toks := t' } := by
  have nit : ∀ b u, H b = some u → b ≠ it := fun b u e z => by rw [z, hn] at e; cases e
  refine I.step (g' := s.gens) (d' := s.drawn) (ch := [it]) (fun b hb => ?_) (fun b o _ _ hc e _ => k b o (fun z => hc (by simp [z])) e) (fun b o _ _ hc e _ => ⟨o.slots, k b o (fun z => hc (by simp [z])) e⟩) (fun _ _ _ _ n => n)
    (fun b o hc e => ⟨o, k b o (fun z => hc (by simp [z])) e⟩) (fun _ _ e => e) (fun _ _ _ e => e) (fun b ps e => ⟨#[], by rw [e]; simp⟩) (fun m hm => ?_) (fun b u e => ?_) I.bare
  · have e : b = it := by simpa using hb
    subst e
    exact ⟨h1, hL, h2, h3⟩
  · obtain ⟨o, es, ep, ho, r⟩ := hm
    exact ⟨o, es, ep, k _ o (Ne.symm hL) ho, r⟩
  · refine (I.hok b u e).stay (fun c v hc q => k c v ?_ q) (fun _ q => q) fun _ _ q => q
    rcases hc with z | z
    · rw [z]; exact nit b u e
    · exact nit c _ z
theorem Inv.tok (I : Inv X pins σ H s) (t : Nat) : Inv X pins σ H { s with toks := t } := I.un (h' := s.heap) (t' := t) Un.refl I.hok
theorem Inv.kept {t' : Nat} (I : Inv X pins σ H s) (k : ∀ b u, s.heap.get? b = some u → h'.get? b = some u) : Inv X pins σ H { s with heap := h', toks := t' } := I.un (Un.kept k) (I.hok.kept k)
theorem Inv.laid {a : Addr} {o : HO} {t' : Nat} (I : Inv X pins σ H s) (k : ∀ b u, s.heap.get? b = some u → h'.get? b = some u) (hp : s.heap.objs.size ≤ a) (new : ObjOk X.prog X.w (upd H a o) h' a o) :
    Inv X pins σ (upd H a o) { s with heap := h', toks := t' } := I.un (Un.laid k hp (I.hok.fresh hp)) (I.hok.laid k hp new)
theorem Inv.write {x e : Addr} {o : HO} {t' : Nat} (I : Inv X pins σ H s) (mu : Mut (H x)) (he : e = x ∨ H e = some (.own x)) (k : ∀ b u, b ≠ e → s.heap.get? b = some u → h'.get? b = some u) (heo : ∃ u, h'.get? e = some u)
    (new : ObjOk X.prog X.w (upd H x o) h' x o) : Inv X pins σ (upd H x o) { s with heap := h', toks := t' } := I.un (Un.write mu he k heo) (I.hok.write mu he k heo new)
theorem Inv.pins_of {pins' : List (Addr × Obj)} (I : Inv X pins σ H s) (h : ∀ p ∈ pins', s.heap.get? p.1 = some p.2 ∧ H p.1 = none ∧ p.1 ≠ X.env.locals ∧ p.1 ∉ X.fs ∧ ∀ v, p.2.data ≠ .cell v) : Inv X pins' σ H s :=
  ⟨I.ok, I.os, I.bare, I.base, I.loc, I.cell, I.free, I.freeC, fun p hp => (List.mem_append.mp hp).elim (fun z => I.pin p (List.mem_append_left _ z)) (h p), I.hok, I.len⟩
theorem nodup_ix {N : List Str} (hN : N.Nodup) {i j : Nat} {x : Str} (a : N[i]? = some x) (b : N[j]? = some x) : i = j := by
  obtain ⟨h1, e1⟩ := List.getElem?_eq_some_iff.mp a
  obtain ⟨h2, e2⟩ := List.getElem?_eq_some_iff.mp b
  exact (List.getElem_inj hN).mp (e1.trans e2.symm)
theorem store_ok2 {M : Model} {A : Around} {E : Value → Shared → Prop} {i : Nat} {x : Str} {v : V} {u : Value} {Q : Unit → Shared → Prop} (I : Inv X pins σ H s) (hN : X.N.Nodup) (hi : X.N[i]? = some x) (hx : Loc X.env.scope x) (r : RelV v u)
    (h : ∀ s', Inv X pins (σ.set i (some v)) H s' → (∃ a, Heap.SameBut a s.heap s'.heap ∧ (a = X.env.locals ∨ X.env.cells.lookup x = some a)) → Q () s') (hf : X.fn x = true ∨ X.env.scope.names.lookup x = some .local := by first | exact .inl rfl | exact .inr rfl | assumption) : wpAny M A (storeName X.env x u) Q E s := by
  obtain ⟨m, hn, hl⟩ := id I.loc
  have hcls : (X.env.scope.kind == .class || (X.env.scope.kind == .module && X.env.locals != X.env.globals)) = false := by rw [I.ok.kind]; rfl
  have hiσ : i < σ.length := by rw [I.len]; exact (List.getElem?_eq_some_iff.mp hi).1
  have cne := I.cne
  have tracked : ∀ {a : Addr} {h' : Heap}, (∃ o, s.heap.get? a = some o ∧ H a = none) → Heap.SameBut a s.heap h' → HOk X.prog X.w H h' := fun {a h'} ha hs b ob e => by
    obtain ⟨_, _, hfree⟩ := ha
    refine (I.hok b ob e).stay (fun c w' hc q => (hs.2 c ?_).trans q) (fun _ q => q) fun _ _ q => q
    rintro rfl
    rcases hc with rfl | hc
    · rw [hfree] at e; cases e
    · rw [hfree] at hc; cases hc
  rcases hx with hk | hk
  · refine wpAny_storeName_local hk hn (fun h' hn' hs => ?_) hcls
    obtain ⟨oL, _, _, hoL, _⟩ := id hn
    refine h _ ⟨I.ok, I.os, I.bare, ⟨fun b o e n hb hx => ?_, fun b o e n hb hx => ?_, I.base.free, fun b o e hx => ?_, I.base.tups, I.base.frzs, I.base.tbls⟩, ⟨_, hn', fun j y v' e1 e2 e3 => ?_⟩, fun y c e => ?_, I.free, I.freeC, fun p hp => ?_, tracked ⟨oL, hoL, I.free⟩ hs, by simpa using I.len⟩ ⟨_, hs, .inl rfl⟩
    · exact (hs.2 b (Nat.ne_of_lt (Nat.lt_of_lt_of_le (Heap.lt_size e) I.ok.above))).trans (I.base.keep b o e n hb hx)
    · obtain ⟨sl, e1⟩ := I.base.slot b o e n hb hx
      exact ⟨sl, (hs.2 b (Nat.ne_of_lt (Nat.lt_of_lt_of_le (Heap.lt_size e) I.ok.above))).trans e1⟩
    · obtain ⟨o', e1⟩ := I.base.there b o e hx
      exact ⟨o', (hs.2 b (Nat.ne_of_lt (Nat.lt_of_lt_of_le (Heap.lt_size e) I.ok.above))).trans e1⟩
    · by_cases hj : j = i
      · subst hj
        rw [hi] at e1; cases e1
        rw [List.getElem?_set_self hiσ] at e2
        cases e2
        exact ⟨u, r, .inl ⟨hk, by simp⟩⟩
      · rw [List.getElem?_set_ne (Ne.symm hj)] at e2
        obtain ⟨u', r', q⟩ := hl j y v' e1 e2 e3
        refine ⟨u', r', ?_⟩
        rcases q with ⟨k, e⟩ | ⟨k, c, e, z⟩
        · refine .inl ⟨k, ?_⟩
          have : y ≠ x := fun e => hj (nodup_ix hN e1 (e ▸ hi))
          simp [this, e]
        · exact .inr ⟨k, c, e, z.sameBut hs (cne y c e)⟩
    · obtain ⟨w', z⟩ := I.cell y c e
      exact ⟨w', z.sameBut hs (cne y c e)⟩
    · obtain ⟨e, n, ne, nf, d⟩ := I.pin p hp
      exact ⟨(hs.2 p.1 ne).trans e, n, ne, nf, d⟩
  · have hfn : X.fn x = true := by
      rcases hf with z | z
      · exact z
      · rw [z] at hk; cases hk
    obtain ⟨c, hc⟩ := I.ok.has x (.inl hk)
    obtain ⟨w', z⟩ := I.cell x c hc
    refine wpAny_storeName_cell I.ok.kind hk hc z (fun h' hc' hs => ?_)
    obtain ⟨oc, hoc, hocd⟩ := id z
    refine h { s with heap := h' } ⟨I.ok, I.os, I.bare, ⟨fun b o e n hb hx => ?_, fun b o e n hb hx => ?_, I.base.free, fun b o e hx => ?_, I.base.tups, I.base.frzs, I.base.tbls⟩, ⟨m, hn.sameBut hs (Ne.symm (cne x c hc)), fun j y v' e1 e2 e3 => ?_⟩, fun y c' e => ?_, I.free, I.freeC, fun p hp => ?_, tracked ⟨oc, hoc, I.freeC x c hc⟩ hs, by simpa using I.len⟩ ⟨c, hs, .inr hc⟩
    · exact (hs.2 b (Nat.ne_of_lt (Nat.lt_of_lt_of_le (Heap.lt_size e) (I.ok.cab x c hfn hc)))).trans (I.base.keep b o e n hb hx)
    · obtain ⟨sl, e1⟩ := I.base.slot b o e n hb hx
      exact ⟨sl, (hs.2 b (Nat.ne_of_lt (Nat.lt_of_lt_of_le (Heap.lt_size e) (I.ok.cab x c hfn hc)))).trans e1⟩
    · obtain ⟨o', e1⟩ := I.base.there b o e hx
      exact ⟨o', (hs.2 b (Nat.ne_of_lt (Nat.lt_of_lt_of_le (Heap.lt_size e) (I.ok.cab x c hfn hc)))).trans e1⟩
    · by_cases hj : j = i
      · subst hj
        rw [hi] at e1; cases e1
        rw [List.getElem?_set_self hiσ] at e2
        cases e2
        exact ⟨u, r, .inr ⟨.inl hk, c, hc, hc'⟩⟩
      · rw [List.getElem?_set_ne (Ne.symm hj)] at e2
        obtain ⟨u', r', q⟩ := hl j y v' e1 e2 e3
        refine ⟨u', r', ?_⟩
        rcases q with q | ⟨k, c', e, z'⟩
        · exact .inl q
        · refine .inr ⟨k, c', e, z'.sameBut hs ?_⟩
          rintro rfl
          exact hj (nodup_ix hN e1 (I.ok.inj _ _ _ e hc ▸ hi))
    · by_cases hcc : c' = c
      · subst hcc; exact ⟨_, hc'⟩
      · obtain ⟨w2, z2⟩ := I.cell y c' e
        exact ⟨w2, z2.sameBut hs hcc⟩
    · obtain ⟨e, n, ne, nf, d⟩ := I.pin p hp
      refine ⟨(hs.2 p.1 ?_).trans e, n, ne, nf, d⟩
      intro q
      rw [q, hoc] at e
      have q' : oc = p.2 := Option.some.inj e
      exact d w' (by rw [← q']; exact hocd)
theorem store_ok {M : Model} {A : Around} {E : Value → Shared → Prop} {i : Nat} {x : Str} {v : V} {u : Value} {Q : Unit → Shared → Prop} (I : Inv X pins σ H s) (hN : X.N.Nodup) (hi : X.N[i]? = some x) (hx : Loc X.env.scope x) (r : RelV v u)
    (h : ∀ s', Inv X pins (σ.set i (some v)) H s' → Q () s') (hf : X.fn x = true ∨ X.env.scope.names.lookup x = some .local := by first | exact .inl rfl | exact .inr rfl | assumption) : wpAny M A (storeName X.env x u) Q E s :=
  store_ok2 I hN hi hx r (fun s' I' _ => h s' I') hf
theorem Inv.call' {s' : Shared} {ch : List Addr} (I : Inv X pins σ H s) (ho : s'.os = s.os) (u : Un (frs X.stack) ch H H' s.heap s'.heap) (hok : HOk X.prog X.w H' s'.heap) (hg : AllBare s'.gens)
    (hch : ∀ b ∈ ch, (b ∈ X.ex ∨ X.s₀.heap.objs.size ≤ b) ∧ b ≠ X.env.locals ∧ (∀ x c, X.env.cells.lookup x = some c → c ≠ b) ∧ ∀ p ∈ X.pn ++ pins, p.1 ≠ b) : Inv X pins σ H' s' := by
  obtain ⟨h', g', d', t', o'⟩ := s'
  have e : o' = s.os := ho
  subst e
  exact I.call (g' := g') (t' := t') (d' := d') u hok hg hch
end
abbrev XK := Value → Option Addr → Hp → Prop
abbrev St := List (Option V)
abbrev VK := V → Hp → Prop
abbrev TE := St → Hp → VK → Prop
abbrev TT := St → Hp → (Bool → Hp → Prop) → Prop
abbrev TA := St → Hp → (List V → Hp → Prop) → Prop
structure Ends where
  nx : St → Hp → Prop
  rt : VK
  bk : St → Hp → Prop := fun _ _ => False
  ct : St → Hp → Prop := fun _ _ => False
abbrev TS := Ends → St → Hp → Prop
def EP (X : Cx) (pins : List (Addr × Obj)) (σ : St) (Q : VK) (u : Value) (s' : Shared) : Prop := ∃ v H', Inv X pins σ H' s' ∧ RelV v u ∧ Q v H'
def TP (X : Cx) (pins : List (Addr × Obj)) (σ : St) (Q : Bool → Hp → Prop) (b : Bool) (s' : Shared) : Prop := ∃ H', Inv X pins σ H' s' ∧ Q b H'
def AP (X : Cx) (pins : List (Addr × Obj)) (σ : St) (Q : List V → Hp → Prop) (us : List Value) (s' : Shared) : Prop := ∃ vs H', Inv X pins σ H' s' ∧ Vals vs us ∧ Q vs H'
def SP (X : Cx) (pins : List (Addr × Obj)) (D : Ends) (f : Flow) (s' : Shared) : Prop :=
  match f with
  | .next => ∃ σ' H', Inv X pins σ' H' s' ∧ D.nx σ' H'
  | .brk => ∃ σ' H', Inv X pins σ' H' s' ∧ D.bk σ' H'
  | .cont => ∃ σ' H', Inv X pins σ' H' s' ∧ D.ct σ' H'
  | .ret u => ∃ v σ' H', Inv X pins σ' H' s' ∧ RelV v u ∧ D.rt v H'
def PE (X : Cx) (e : Expr) (t : TE) : Prop :=
  ∀ (pins : List (Addr × Obj)) (s : Shared) (σ : St) (H : Hp) (Q : VK), Inv X pins σ H s → t σ H Q → wpAny (model X.prog X.w) X.A (eval e X.env) (EP X pins σ Q) X.xe s
def PT (X : Cx) (e : Expr) (t : TT) : Prop :=
  ∀ (pins : List (Addr × Obj)) (s : Shared) (σ : St) (H : Hp) (Q : Bool → Hp → Prop), Inv X pins σ H s → t σ H Q → wpAny (model X.prog X.w) X.A (isTrue e X.env (eval e X.env)) (TP X pins σ Q) X.xe s
def PW (X : Cx) (e : Expr) (t : TT) : Prop :=
  ∀ (whole : Sem Value) (pins : List (Addr × Obj)) (s : Shared) (σ : St) (H : Hp) (Q : Bool → Hp → Prop), Inv X pins σ H s → t σ H Q → wpAny (model X.prog X.w) X.A (isTrue e X.env whole) (TP X pins σ Q) X.xe s
theorem PW.pt {X : Cx} {e : Expr} {t : TT} (h : PW X e t) : PT X e t := h _
def PA (X : Cx) (es : List Expr) (t : TA) : Prop :=
  ∀ (pos : Pos) (pins : List (Addr × Obj)) (s : Shared) (σ : St) (H : Hp) (Q : List V → Hp → Prop), Inv X pins σ H s → t σ H Q → wpAny (model X.prog X.w) X.A (spliced (backTo pos (starEach es X.env))) (AP X pins σ Q) X.xe s
def PS (X : Cx) (st : Stmt) (t : TS) : Prop :=
  ∀ (pins : List (Addr × Obj)) (s : Shared) (σ : St) (H : Hp) (D : Ends), Inv X pins σ H s → t D σ H → wpAny (model X.prog X.w) X.A (exec st X.env) (SP X pins D) X.xe s
def PSs (X : Cx) (st : List Stmt) (t : TS) : Prop :=
  ∀ (pins : List (Addr × Obj)) (s : Shared) (σ : St) (H : Hp) (D : Ends), Inv X pins σ H s → t D σ H → wpAny (model X.prog X.w) X.A (execs st X.env) (SP X pins D) X.xe s
theorem thn {α : Type} {t : Sem α} {Q Q' : α → Shared → Prop} {M : Model} {A : Around} {E : Value → Shared → Prop} {s : Shared} (h : wpAny M A t Q E s) (hQ : ∀ a s, Q a s → Q' a s) : wpAny M A t Q' E s := wpAny_mono h hQ fun _ _ x => x
end L2
namespace L2
open PySem PySem.Spec PyProof.Rows
section
variable {X : Cx}
theorem bin {a b : Expr} {ta tb : TE} (ha : PE X a ta) (hb : PE X b tb) {pins : List (Addr × Obj)} {s : Shared} {σ : St} {H : Hp} {R : V → V → Hp → Prop} (I : Inv X pins σ H s) (h : ta σ H fun x H1 => tb σ H1 fun y H2 => R x y H2)
    {α : Type} {Q : α → Shared → Prop} {f : Value → Value → Sem α}
    (hf : ∀ v u s2 x y H2, Inv X pins σ H2 s2 → RelV x v → RelV y u → R x y H2 → wpAny (model X.prog X.w) X.A (f v u) Q X.xe s2) :
    wpAny (model X.prog X.w) X.A (eval a X.env) (fun v s₁ => wpAny (model X.prog X.w) X.A (eval b X.env) (fun u s₂ => wpAny (model X.prog X.w) X.A (f v u) Q X.xe s₂) X.xe s₁) X.xe s := by
  refine thn (ha pins s σ H _ I h) fun v s1 ⟨x, H1, I1, r1, q1⟩ => ?_
  refine thn (hb pins s1 σ H1 _ I1 q1) fun u s2 ⟨y, H2, I2, r2, q2⟩ => ?_
  exact hf v u s2 x y H2 I2 r1 r2 q2
def tVar (i : Nat) : TE := fun σ H Q => ∃ v, σ[i]? = some (some v) ∧ Q v H
def tC (v : V) : TE := fun _ H Q => Q v H
theorem pe_var {i : Nat} {x : Str} {pos : Pos} (hN : X.N[i]? = some x) (hv : Vis X.env.scope x) (hd : (x == ("__debug__" : Str)) = false := by decide) (hcd : (x == ("__classdict__" : Str)) = false := by decide) : PE X (.Name x pos) (tVar i) := by
  intro pins s σ H Q I h
  obtain ⟨v, e, h⟩ := h
  obtain ⟨m, hn, hl⟩ := I.loc
  obtain ⟨u, r, l⟩ := hl i x v hN e hv
  have fin : EP X pins σ Q u s := ⟨v, H, I, r, h⟩
  rcases l with ⟨hk, hm⟩ | ⟨hk, c, hc, hcell⟩
  · exact wpAny_Name (wpAny_loadName_local I.ok.kind hk hn hm fin) hd
  · rcases hk with hk | hk
    · exact wpAny_Name (wpAny_loadName_cell I.ok.kind hk hc hcell fin) hd
    · exact wpAny_Name (wpAny_loadName_free I.ok.kind hk hc hcell fin hcd) hd
theorem pe_int {i j pos} : PE X (.Constant (.int i) j pos) (tC (.int i)) := fun _ _ _ H _ I h => wpAny_Constant_int ⟨.int i, H, I.tok _, ⟨_, rfl⟩, h⟩
theorem pe_bl {b j pos} : PE X (.Constant (.bool b) j pos) (tC (.bl b)) := fun _ _ _ H _ I h => Constant_bool ⟨.bl b, H, I, rfl, h⟩
theorem pe_non {j pos} : PE X (.Constant .none j pos) (tC .non) := fun _ _ _ H _ I h => Constant_none ⟨.non, H, I, rfl, h⟩
theorem pe_str {x j pos} : PE X (.Constant (.str x) j pos) (tC (.str x)) := fun _ _ _ H _ I h => Calls.Constant_str ⟨.str x, H, I.tok _, ⟨_, rfl⟩, h⟩
def Gl (X : Cx) (x : Str) : Prop := X.env.kindOf x = some .globalImplicit
theorem ld_glob {E : Value → Shared → Prop} {pins : List (Addr × Obj)} {s : Shared} {σ : St} {H : Hp} {x : Str} {u : Value} {pos : Pos} {Q : Value → Shared → Prop} (I : Inv X pins σ H s) (hg : Gl X x) (hm : X.mg x = some u) (h : Q u s)
    (hd : (x == ("__debug__" : Str)) = false := by decide) : wpAny (model X.prog X.w) X.A (eval (.Name x pos) X.env) Q E s :=
  Calls.Name_function_global I.ok.kind hg (Calls.loadGlobal_global (by rw [I.ok.glob]; exact I.mod.glob.keeps I.bk) hm h) hd
theorem ld_blt {E : Value → Shared → Prop} {pins : List (Addr × Obj)} {s : Shared} {σ : St} {H : Hp} {x : Str} {u : Value} {pos : Pos} {Q : Value → Shared → Prop} (I : Inv X pins σ H s) (hg : Gl X x) (hm : X.mg x = none) (hv : bootBuiltins x = some u) (h : Q u s)
    (hn : x ≠ "__name__" := by decide) (hd : (x == ("__debug__" : Str)) = false := by decide) : wpAny (model X.prog X.w) X.A (eval (.Name x pos) X.env) Q E s := by
  obtain ⟨mb, h1, h2⟩ := I.mod.blt
  exact Calls.Name_function_global I.ok.kind hg (Calls.loadGlobal_builtin (by rw [I.ok.glob]; exact I.mod.glob.keeps I.bk) hm (by rw [I.ok.blt]; exact h1.keeps I.bk) ((h2 x hn).trans hv) h) hd
theorem pe_glob {x : Str} {v : V} {u : Value} {pos : Pos} (hg : Gl X x) (hm : X.mg x = some u) (r : RelV v u) (hd : (x == ("__debug__" : Str)) = false := by decide) : PE X (.Name x pos) (tC v) :=
  fun _ _ _ H _ I h => ld_glob I hg hm ⟨v, H, I, r, h⟩ hd
theorem pe_bltn {x : Str} {v : V} {u : Value} {pos : Pos} (hg : Gl X x) (hm : X.mg x = none) (hv : bootBuiltins x = some u) (r : RelV v u) (hn : x ≠ "__name__" := by decide) (hd : (x == ("__debug__" : Str)) = false := by decide) : PE X (.Name x pos) (tC v) :=
  fun _ _ _ H _ I h => ld_blt I hg hm hv ⟨v, H, I, r, h⟩ hn hd
variable {a b : Expr} {ta tb : TE} {pos : Pos}
def PC (X : Cx) (op : CmpOp) (a b : Expr) (t : TE) : Prop :=
  ∀ (pins : List (Addr × Obj)) (s : Shared) (σ : St) (H : Hp) (Q : VK), Inv X pins σ H s → t σ H Q →
    wpAny (model X.prog X.w) X.A (eval a X.env) (fun v s₁ => wpAny (model X.prog X.w) X.A (eval b X.env) (fun u s₂ => wpAny (model X.prog X.w) X.A (compareOp op v u) (EP X pins σ Q) X.xe s₂) X.xe s₁) X.xe s
def tB (t : TE) : TT := fun σ H Q => t σ H fun x H1 => ∃ c, x = .bl c ∧ Q c H1
theorem pe_cmp {op : CmpOp} {t : TE} (h : PC X op a b t) (h1 : behindInMarks op b = false := by first | exact nobehind _ (by decide) (by decide) | rfl) : PE X (.Compare a [op] [b] pos) t := fun pins s σ H Q I hw => wpAny_Compare1 (h pins s σ H Q I hw) h1
theorem pt_cmp {op : CmpOp} {t : TE} (h : PC X op a b t) (h1 : behindInMarks op b = false := by first | exact nobehind _ (by decide) (by decide) | rfl) : PT X (.Compare a [op] [b] pos) (tB t) := by
  intro pins s σ H Q I hw
  refine wpAny_isTrue_Compare1 (thn (h pins s σ H _ I hw) fun v s1 h1 => thn h1 fun u s2 h2 => thn h2 fun c s3 ⟨x, H1, I1, r1, q1⟩ => ?_) h1
  obtain ⟨d, rfl, q⟩ := q1
  cases r1
  exact wpAny_truthy_bool ⟨H1, I1, q⟩
theorem pt_val {e : Expr} {t : TE} (h : PE X e t) (he : ∀ whole, isTrue e X.env whole = (do let v ← whole; standAt e.pos; holding [v] (truthy v)) := by intro _; rfl) : PT X e (tB t) := by
  intro pins s σ H Q I hw
  refine isTrue_plain (thn (h pins s σ H _ I hw) fun v s1 ⟨x, H1, I1, r1, q1⟩ => ?_) (he _)
  obtain ⟨d, rfl, q⟩ := q1
  cases r1
  exact wpAny_truthy_bool ⟨H1, I1, q⟩
variable {tA tB' : TT} {rest : List Expr}
def tAnd (t u : TT) : TT := fun σ H Q => t σ H fun c H1 => if c = true then u σ H1 Q else Q false H1
def tOr (t u : TT) : TT := fun σ H Q => t σ H fun c H1 => if c = true then Q true H1 else u σ H1 Q
def tNot (t : TT) : TT := fun σ H Q => t σ H fun c H1 => Q (!c) H1
theorem pw_and1 (ha : PT X a tA) : PW X (.BoolOp .And [a] pos) tA := by
  intro wh pins s σ H Q I h
  refine isTrue_and (thn (ha pins s σ H Q I h) fun c s1 e => ?_)
  cases c with
  | true => exact isTrue_and_nil e
  | false => exact e
theorem pw_or1 (ha : PT X a tA) : PW X (.BoolOp .Or [a] pos) tA := by
  intro wh pins s σ H Q I h
  refine isTrue_or (thn (ha pins s σ H Q I h) fun c s1 e => ?_)
  cases c with
  | false => exact isTrue_or_nil e
  | true => exact e
theorem pw_and (ha : PT X a tA) (hb : PW X (.BoolOp .And (b :: rest) pos) tB') : PW X (.BoolOp .And (a :: b :: rest) pos) (tAnd tA tB') := by
  intro wh pins s σ H Q I h
  refine isTrue_and (thn (ha pins s σ H _ I h) fun c s1 ⟨H1, I1, q1⟩ => ?_)
  cases c with
  | true => exact hb wh pins s1 σ H1 Q I1 q1
  | false => exact ⟨H1, I1, q1⟩
theorem pw_or (ha : PT X a tA) (hb : PW X (.BoolOp .Or (b :: rest) pos) tB') : PW X (.BoolOp .Or (a :: b :: rest) pos) (tOr tA tB') := by
  intro wh pins s σ H Q I h
  refine isTrue_or (thn (ha pins s σ H _ I h) fun c s1 ⟨H1, I1, q1⟩ => ?_)
  cases c with
  | true => exact ⟨H1, I1, q1⟩
  | false => exact hb wh pins s1 σ H1 Q I1 q1
theorem pt_not (ha : PT X a tA) : PT X (.UnaryOp .Not a pos) (tNot tA) := by
  intro pins s σ H Q I h
  exact isTrue_not (ha pins s σ H (fun c H1 => Q (!c) H1) I h)
def tAndV (ta tb : TE) : TE := fun σ H Q => ta σ H fun x H1 => ∃ c, x = .bl c ∧ if c = true then tb σ H1 Q else Q (.bl false) H1
def tOrV (ta tb : TE) : TE := fun σ H Q => ta σ H fun x H1 => ∃ c, x = .bl c ∧ if c = true then Q (.bl true) H1 else tb σ H1 Q
def tNotV (ta : TE) : TE := fun σ H Q => ta σ H fun x H1 => ∃ c, x = .bl c ∧ Q (.bl (!c)) H1
theorem pe_one {op} {t : TE} (h : PE X a t) : PE X (.BoolOp op [a] pos) t := fun pins s σ H Q I hw => BoolOp_one (h pins s σ H Q I hw)
theorem pe_and (ha : PE X a ta) (hb : PE X (.BoolOp .And (b :: rest) pos) tb) : PE X (.BoolOp .And (a :: b :: rest) pos) (tAndV ta tb) := by
  intro pins s σ H Q I h
  refine BoolOp_and (thn (ha pins s σ H _ I h) fun v s1 ⟨x, H1, I1, r1, q1⟩ => ?_)
  obtain ⟨c, rfl, q1⟩ := q1
  cases r1
  refine wpAny_truthy_bool ?_
  cases c with
  | true => exact hb pins s1 σ H1 Q I1 q1
  | false => exact ⟨.bl false, H1, I1, rfl, q1⟩
theorem pe_or (ha : PE X a ta) (hb : PE X (.BoolOp .Or (b :: rest) pos) tb) : PE X (.BoolOp .Or (a :: b :: rest) pos) (tOrV ta tb) := by
  intro pins s σ H Q I h
  refine BoolOp_or (thn (ha pins s σ H _ I h) fun v s1 ⟨x, H1, I1, r1, q1⟩ => ?_)
  obtain ⟨c, rfl, q1⟩ := q1
  cases r1
  refine wpAny_truthy_bool ?_
  cases c with
  | false => exact hb pins s1 σ H1 Q I1 q1
  | true => exact ⟨.bl true, H1, I1, rfl, q1⟩
theorem pe_not (ha : PE X a ta) : PE X (.UnaryOp .Not a pos) (tNotV ta) := by
  intro pins s σ H Q I h
  refine UnaryOp_ (thn (ha pins s σ H _ I h) fun v s1 ⟨x, H1, I1, r1, q1⟩ => ?_)
  obtain ⟨c, rfl, q1⟩ := q1
  cases r1
  exact not_of (wpAny_truthy_bool ⟨.bl (!c), H1, I1, rfl, q1⟩)
end
end L2
namespace L2
open PySem PySem.Spec PyProof.Rows
def SqL (K : PySem.W.Frag) (H : Hp) (a : Addr) (xs : List V) : Prop :=
  Rd H a (.lst xs) ∨
    ∃ (o : Obj) (its : Array Value) (n : Nat), K.lookup a = some o ∧ o.cls = .type "list" ∧ o.dict = none ∧ o.data = .seq its n ∧ its.size ≤ sizeLine ∧ Vals xs its.toList
def SqT (K : PySem.W.Frag) (H : Hp) (a : Addr) (xs : List V) : Prop :=
  Rd H a (.tup xs) ∨
    ∃ (o : Obj) (its : Array Value) (n : Nat), K.lookup a = some o ∧ o.cls = .type "tuple" ∧ o.data = .seq its n ∧ its.size ≤ sizeLine ∧ Vals xs its.toList
def absV : Value → Option V
  | .none => some .non
  | .bool b => some (.bl b)
  | .int i _ => some (.int i)
  | .str x _ => some (.str x)
  | .bytes b _ => some (.byt b)
  | .float b _ => some (.flt b)
  | .ref a => some (.ref a)
  | .type n => some (.ty n)
  | _ => none
theorem RelV.abs {x : V} {u : Value} (r : RelV x u) : absV u = some x := by
  cases x with
  | non => cases r; rfl
  | bl _ => cases r; rfl
  | int _ => obtain ⟨t, rfl⟩ := r; rfl
  | str _ => obtain ⟨t, rfl⟩ := r; rfl
  | byt _ => obtain ⟨t, rfl⟩ := r; rfl
  | flt _ => obtain ⟨t, rfl⟩ := r; rfl
  | ref _ => cases r; rfl
  | ty _ => cases r; rfl
theorem RelV.inj {x y : V} {u : Value} (r : RelV x u) (q : RelV y u) : x = y := Option.some.inj (r.abs.symm.trans q.abs)
theorem Vals.inj : ∀ {xs ys : List V} {us : List Value}, Vals xs us → Vals ys us → xs = ys
  | _, _, _, .nil, .nil => rfl
  | _, _, _, .cons r t, .cons r' t' => by rw [r.inj r', Vals.inj t t']
section
variable {X : Cx} {pins : List (Addr × Obj)} {σ : St} {H : Hp} {s : Shared} {a : Addr} {xs ys : List V}
theorem SqL.of {K : PySem.W.Frag} (h : H a = some (.lst xs)) : SqL K H a xs := .inl (.inl h)
theorem SqT.of {K : PySem.W.Frag} (h : H a = some (.tup xs)) : SqT K H a xs := .inl (.inl h)
theorem Inv.list (I : Inv X pins σ H s) (h : SqL X.K H a xs) : ∃ its : List Value, Vals xs its ∧ PlainL s.heap a its.toArray ∧ xs.length ≤ sizeLine := by
  rcases h with h | ⟨o, its, n, hk, hc, hd, hs, hz, r⟩
  · obtain ⟨z, its, n, r, e⟩ := h.ok I.hok
    exact ⟨its, r, ⟨_, n, e, rfl, rfl, rfl⟩, z⟩
  · refine ⟨its.toList, r, ⟨o, n, I.kIn a o hk, hc, hd, by simpa using hs⟩, ?_⟩
    have e := r.length
    simp only [Array.length_toList] at e
    omega
theorem Inv.tuple (I : Inv X pins σ H s) (h : SqT X.K H a xs) : ∃ its : List Value, Vals xs its ∧ IsTup s.heap a its.toArray ∧ xs.length ≤ sizeLine := by
  rcases h with h | ⟨o, its, n, hk, hc, hs, hz, r⟩
  · obtain ⟨z, its, r, p⟩ := h.ok I.hok
    exact ⟨its, r, p, z⟩
  · refine ⟨its.toList, r, ⟨o, I.kIn a o hk, hc, n, by simpa using hs⟩, ?_⟩
    have e := r.length
    simp only [Array.length_toList] at e
    omega
theorem Inv.list_inj (I : Inv X pins σ H s) (h : SqL X.K H a xs) (h' : SqL X.K H a ys) : xs = ys := by
  obtain ⟨its, r, ⟨o, n, e, _, _, d⟩, _⟩ := I.list h
  obtain ⟨its', r', ⟨o', n', e', _, _, d'⟩, _⟩ := I.list h'
  rw [e] at e'; cases e'
  rw [d] at d'
  injection d' with d1 _
  have : its = its' := by simpa using congrArg Array.toList d1
  subst this
  exact r.inj r'
end
abbrev Cx.wish (X : Cx) (E : Value → Shared → Prop) : Cx := { X with xe := E }
abbrev Cx.nox (X : Cx) : Cx := X.wish fun _ _ => False
theorem Cx.Ok.wish {X : Cx} (ok : X.Ok) (E : Value → Shared → Prop) : (X.wish E).Ok :=
  ⟨ok.mod, ok.kind, ok.glob, ok.blt, ok.above, ok.inj, ok.has, ok.cab, ok.hd, ok.frames, ok.stk, ok.exf, ok.bs, ok.bsz, ok.noex, ok.exfs, ok.funs, ok.frf⟩
theorem Cx.Ok.unwish {X : Cx} {E : Value → Shared → Prop} (ok : (X.wish E).Ok) : X.Ok :=
  ⟨ok.mod, ok.kind, ok.glob, ok.blt, ok.above, ok.inj, ok.has, ok.cab, ok.hd, ok.frames, ok.stk, ok.exf, ok.bs, ok.bsz, ok.noex, ok.exfs, ok.funs, ok.frf⟩
section
variable {X : Cx} {pins : List (Addr × Obj)} {σ : St} {H : Hp} {s : Shared} {E : Value → Shared → Prop}
theorem Inv.wish (I : Inv X pins σ H s) (E : Value → Shared → Prop) : Inv (X.wish E) pins σ H s := ⟨I.ok.wish E, I.os, I.bare, I.base, I.loc, I.cell, I.free, I.freeC, I.pin, I.hok, I.len⟩
theorem Inv.unwish (I : Inv (X.wish E) pins σ H s) : Inv X pins σ H s := ⟨I.ok.unwish, I.os, I.bare, I.base, I.loc, I.cell, I.free, I.freeC, I.pin, I.hok, I.len⟩
theorem SP.unwish {D : Ends} {f : Flow} {s' : Shared} (h : SP (X.wish E) pins D f s') : SP X pins D f s' := by
  cases f with
  | next => obtain ⟨σ', H', I, q⟩ := h; exact ⟨σ', H', I.unwish, q⟩
  | brk => obtain ⟨σ', H', I, q⟩ := h; exact ⟨σ', H', I.unwish, q⟩
  | cont => obtain ⟨σ', H', I, q⟩ := h; exact ⟨σ', H', I.unwish, q⟩
  | ret u => obtain ⟨v, σ', H', I, r, q⟩ := h; exact ⟨v, σ', H', I.unwish, r, q⟩
theorem PSs.nox {st : List Stmt} {t : TS} (h : PSs X.nox st t) : PSs X st t := fun pins s σ H D I hw =>
  wpAny_mono (h pins s σ H D (I.wish _) hw) (fun _ _ q => q.unwish) fun _ _ z => False.elim z
end
section
variable {X : Cx} {st : Stmt} {rest : List Stmt} {t u : TS} {e : Expr} {te : TE} {pos : Pos}
def tNext : TS := fun D σ H => D.nx σ H
def tSeq (t u : TS) : TS := fun D σ H => t { D with nx := u D } σ H
theorem pss_nil : PSs X [] tNext := fun _ _ σ H _ I h => wpAny_execs_nil ⟨σ, H, I, h⟩
theorem pss_cons (h1 : PS X st t) (h2 : PSs X rest u) : PSs X (st :: rest) (tSeq t u) := by
  intro pins s σ H D I h
  refine wpAny_execs_cons (thn (h1 pins s σ H { D with nx := u D } I h) fun f s1 q => ?_)
  cases f with
  | next =>
    obtain ⟨σ', H', I', q⟩ := q
    exact h2 pins s1 σ' H' D I' q
  | ret v => exact q
  | brk => exact q
  | cont => exact q
theorem pss_one (h1 : PS X st t) : PSs X [st] t := by
  intro pins s σ H D I h
  refine wpAny_execs_cons (thn (h1 pins s σ H D I h) fun f s1 q => ?_)
  cases f with
  | next => exact wpAny_execs_nil q
  | ret v => exact q
  | brk => exact q
  | cont => exact q
theorem Inv.quiet {pins : List (Addr × Obj)} {σ : St} {H : Hp} {s : Shared} (I : Inv X pins σ H s) : interactive X.env = false := by simp [interactive, I.ok.kind]
def tDrop (te : TE) : TS := fun D σ H => te σ H fun _ H1 => D.nx σ H1
theorem ps_expr (he : PE X e te) (hs : swapsWith e none pos.line X.env = pure false := by rfl) : PS X (.Expr e pos) (tDrop te) := by
  intro pins s σ H D I h
  exact wpAny_Expr_any (thn (he pins s σ H _ I h) fun v s1 ⟨x, H1, I1, r1, q1⟩ => ⟨σ, H1, I1, q1⟩) I.quiet hs
def tRet (te : TE) : TS := fun D σ H => te σ H D.rt
theorem ps_ret (he : PE X e te) : PS X (.Return (some e) pos) (tRet te) := by
  intro pins s σ H D I h
  exact wpAny_Return_some (thn (he pins s σ H _ I h) fun v s1 ⟨x, H1, I1, r1, q1⟩ => ⟨x, σ, H1, I1, r1, q1⟩)
def tIfS (c : TT) (t u : TS) : TS := fun D σ H => c σ H fun b H1 => if b = true then t D σ H1 else u D σ H1
theorem ps_if {c : Expr} {a b : List Stmt} {tc : TT} (hc : PT X c tc) (ha : PSs X a t) (hb : PSs X b u) : PS X (.If c a b pos) (tIfS tc t u) := by
  intro pins s σ H D I h
  refine wpAny_If (thn (hc pins s σ H _ I h) fun d s1 ⟨H1, I1, q1⟩ => ?_)
  cases d with
  | true => exact ha pins s1 σ H1 D I1 q1
  | false => exact hb pins s1 σ H1 D I1 q1
end
abbrev TG := V → St → Hp → (St → Hp → Prop) → Prop
abbrev TGs := List V → St → Hp → (St → Hp → Prop) → Prop
def PG (X : Cx) (target : Expr) (t : TG) : Prop :=
  ∀ (pins : List (Addr × Obj)) (s : Shared) (σ : St) (H : Hp) (v : V) (u : Value) (Q : St → Hp → Prop), Inv X pins σ H s → RelV v u → t v σ H Q →
    wpAny (model X.prog X.w) X.A (assign target X.env u) (fun _ s' => ∃ σ' H', Inv X pins σ' H' s' ∧ Q σ' H') X.xe s
def PGs (X : Cx) (ts : List Expr) (t : TGs) : Prop :=
  ∀ (pins : List (Addr × Obj)) (s : Shared) (σ : St) (H : Hp) (vs : List V) (us : List Value) (Q : St → Hp → Prop), Inv X pins σ H s → Vals vs us → t vs σ H Q →
    wpAny (model X.prog X.w) X.A (assignInOrder ((assignEach ts X.env).map (·.2)) us) (fun _ s' => ∃ σ' H', Inv X pins σ' H' s' ∧ Q σ' H') X.xe s
section
variable {X : Cx} {pos : Pos}
def gName (i : Nat) : TG := fun v σ H Q => Q (σ.set i (some v)) H
theorem pg_name {i : Nat} {x : Str} (hN : X.N.Nodup) (hi : X.N[i]? = some x) (hx : Loc X.env.scope x) (hf : X.fn x = true ∨ X.env.scope.names.lookup x = some .local := by first | exact .inl rfl | exact .inr rfl | assumption) : PG X (.Name x pos) (gName i) := by
  intro pins s σ H v u Q I r h
  exact wpAny_assign_Name (store_ok I hN hi hx r (fun s' I' => ⟨_, H, I', h⟩) hf)
def gNil : TGs := fun vs σ H Q => vs = [] ∧ Q σ H
def gCons (t : TG) (u : TGs) : TGs := fun vs σ H Q => ∃ v r, vs = v :: r ∧ t v σ H fun σ' H' => u r σ' H' Q
theorem pgs_nil : PGs X [] gNil := by
  intro pins s σ H vs us Q I r h
  obtain ⟨e, h⟩ := h
  subst e
  cases r
  exact assignInOrder_nil ⟨σ, H, I, h⟩
theorem pgs_cons {e : Expr} {es : List Expr} {t : TG} {u : TGs} (h1 : PG X e t) (h2 : PGs X es u)
    (hs : (assignEach (e :: es) X.env).map (·.2) = assign e X.env :: (assignEach es X.env).map (·.2) := by rfl) : PGs X (e :: es) (gCons t u) := by
  intro pins s σ H vs us Q I r h
  obtain ⟨v, vr, e1, h⟩ := h
  subst e1
  cases r with
  | cons r rr =>
    rw [hs]
    refine assignInOrder_cons (thn (h1 pins s σ H _ _ _ I r h) fun _ s1 ⟨σ1, H1, I1, q1⟩ => ?_)
    exact h2 pins s1 σ1 H1 _ _ Q I1 rr q1
def gTup (K : PySem.W.Frag) (n : Nat) (t : TGs) : TG := fun v σ H Q => ∃ a xs, v = .ref a ∧ SqT K H a xs ∧ xs.length = n ∧ t xs σ H Q
theorem pg_tup {es : List Expr} {k : Nat} {t : TGs} {n : Nat} (hc : X.calm = true) (h : PGs X es t)
    (hn : (assignEach es X.env).length = n := by rfl) (hst : (assignEach es X.env).findIdx? (·.1) = none := by rfl) : PG X (.Tuple es k pos) (gTup X.K n t) := by
  intro pins s σ H v u Q I r hw
  obtain ⟨a, xs, e1, hq, hl, hw⟩ := hw
  subst e1
  cases r
  obtain ⟨its, rv, ht, hz⟩ := I.tuple hq
  refine assign_Tuple_tuple (I.ok.hd hc) ht (by simp [hn, ← hl, rv.length]) hst fun h' hx => ?_
  have I1 : Inv X pins σ H { s with heap := h' } := I.kept (t' := s.toks) fun b o e => hx b o (Nat.ne_of_lt (Heap.lt_size e)) e
  exact h pins _ σ H xs _ Q I1 (by simpa using rv) hw
def tAsg (te : TE) (g : TG) : TS := fun D σ H => te σ H fun x H1 => g x σ H1 D.nx
theorem ps_asg {tg e : Expr} {te : TE} {g : TG} (he : PE X e te) (hg : PG X tg g) (hs : swapsWithSole [tg] e pos.line X.env = pure false := by rfl) (hw : swappedStores [tg] e X.env = pure none := by rfl)
    (h1 : (assignEach [tg] X.env).map (·.2) = [assign tg X.env] := by rfl) : PS X (.Assign [tg] e pos) (tAsg te g) := by
  intro pins s σ H D I h
  refine wpAny_Assign_stores (thn (he pins s σ H _ I h) fun v s1 ⟨x, H1, I1, r1, q1⟩ => ?_) hs hw
  rw [h1]
  exact thn (hg pins s1 σ H1 x v _ I1 r1 q1) fun _ s2 q => q
theorem ps_set {i : Nat} {x : Str} {e : Expr} {te : TE} {pos' : Pos} (hN : X.N.Nodup) (hi : X.N[i]? = some x) (hx : Loc X.env.scope x) (he : PE X e te) (hs : swapsWith e (some (.Name x pos')) pos.line X.env = pure false := by rfl) (hf : X.fn x = true ∨ X.env.scope.names.lookup x = some .local := by first | exact .inl rfl | exact .inr rfl | assumption) :
    PS X (.Assign [.Name x pos'] e pos) (tAsg te (gName i)) := by
  intro pins s σ H D I h
  refine wpAny_Assign_Name (thn (he pins s σ H _ I h) fun v s1 ⟨y, H1, I1, r1, q1⟩ => ?_) hs
  exact store_ok I1 hN hi hx r1 (fun s2 I2 => ⟨_, H1, I2, q1⟩) hf
end
section
variable {X : Cx} {pos : Pos}
def tWhile (c : TT) (tb : TS) : TS := fun D σ H => ∃ W : Nat → St → Hp → Prop, (∃ m, W m σ H) ∧ ∀ m σ H, W m σ H →
  c σ H fun b H1 => if b = true then ∃ N : St → Hp → Prop, (∀ σ' H', N σ' H' → ∃ m', m' < m ∧ W m' σ' H') ∧ tb { D with nx := N, ct := N, bk := D.nx } σ H1 else D.nx σ H1
theorem ps_while {c : Expr} {body : List Stmt} {tc : TT} {tb : TS} (hp : PassesOwn (model X.prog X.w) X.A X.env X.xe) (hc : PT X c tc) (hb : PSs X body tb) : PS X (.While c body [] pos) (tWhile tc tb) := by
  intro pins s σ H D I h
  obtain ⟨W, ⟨m0, w0⟩, turn⟩ := h
  refine wpAny_While (codeAny_whileLoop (fun n s' => ∃ σ' H', Inv X pins σ' H' s' ∧ W n σ' H') ?_ m0 ⟨σ, H, I, w0⟩)
  rintro n s1 ⟨σ1, H1, I1, w1⟩
  refine wpAny_passesOwn hp (thn (hc pins s1 σ1 H1 _ I1 (turn n σ1 H1 w1)) fun b s2 ⟨H2, I2, q2⟩ => ?_)
  cases b with
  | true =>
    obtain ⟨N, hN, q2⟩ := q2
    rw [if_pos rfl]
    refine wpAny_passesOwn hp (thn (hb pins s2 σ1 H2 _ I2 q2) fun f s3 q3 => ?_)
    cases f with
    | next =>
      obtain ⟨σ3, H3, I3, n3⟩ := q3
      obtain ⟨m', hm, w3⟩ := hN σ3 H3 n3
      exact ⟨m', hm, σ3, H3, I3, w3⟩
    | cont =>
      obtain ⟨σ3, H3, I3, n3⟩ := q3
      obtain ⟨m', hm, w3⟩ := hN σ3 H3 n3
      exact ⟨m', hm, σ3, H3, I3, w3⟩
    | brk => exact q3
    | ret v => exact q3
  | false =>
    rw [if_neg Bool.false_ne_true]
    exact wpAny_execs_nil ⟨σ1, H2, I2, q2⟩
end
structure It where
  go : Nat → Hp → Prop
  yld : Nat → Hp → V → Hp → Prop
  stop : Nat → Hp → Prop
def FpOk (X : Cx) (pins : List (Addr × Obj)) (H : Hp) (b : Addr) : Prop :=
  H b = none ∧ b ≠ X.env.locals ∧ b ∉ X.fs ∧ (b ∈ X.ex ∨ X.s₀.heap.objs.size ≤ b) ∧ (∀ x c, X.env.cells.lookup x = some c → c ≠ b) ∧ ∀ p ∈ X.pn ++ pins, p.1 ≠ b
theorem Inv.fpOk {X : Cx} {pins : List (Addr × Obj)} {σ : St} {H H' : Hp} {s : Shared} {b : Addr} (I : Inv X pins σ H s) (hb : s.heap.objs.size ≤ b) (hn : H' b = none) : FpOk X pins H' b := by
  refine ⟨hn, Nat.ne_of_gt (Nat.lt_of_lt_of_le I.lt hb), I.nofs hb, .inr (Nat.le_trans I.sz hb), fun x c e z => ?_, fun p hp z => ?_⟩
  · obtain ⟨v, q⟩ := I.cell x c e
    exact absurd (Nat.lt_of_lt_of_le q.lt (by rw [z]; exact hb)) (Nat.lt_irrefl _)
  · exact absurd (Nat.lt_of_lt_of_le (Heap.lt_size (I.pin p hp).1) (by rw [z]; exact hb)) (Nat.lt_irrefl _)
structure Turn (P : Program) (w : World) (K : PySem.W.Frag) (tg : Expr) (J : It) (fp : List Addr) (it : Addr) (tn : Nat → Heap → Prop) : Prop where
  mem : it ∈ fp
  obj : ∀ i h, tn i h → ∀ b ∈ fp, ∃ o, h.get? b = some o ∧ ∀ v, o.data ≠ .cell v
  keep : ∀ i h h', tn i h → (∀ b ∈ fp, ∀ o, h.get? b = some o → h'.get? b = some o) → tn i h'
  item : ∀ (X : Cx), X.prog = P → X.w = w → X.K = K → X.calm = true → ∀ (i : Nat) (pins : List (Addr × Obj)) (s : Shared) (σ : St) (H : Hp) (E : Value → Shared → Prop), Inv X pins σ H s → (∀ b ∈ fp, FpOk X pins H b) → tn i s.heap → J.go i H →
    wpAny (model P w) X.A (pyNext (.ref it)) (fun r s1 => ∃ u, r = some u ∧
      wpAny (model P w) X.A (letOwnedTupleGo tg (.ref it) u) (fun _ s2 => ∃ x H', Inv X pins σ H' s2 ∧ RelV x u ∧ J.yld i H x H' ∧ tn (i + 1) s2.heap ∧ ∀ b ∈ fp, H' b = none) E s1) E s
  done : ∀ (X : Cx), X.prog = P → X.w = w → X.K = K → X.calm = true → ∀ (i : Nat) (pins : List (Addr × Obj)) (s : Shared) (σ : St) (H : Hp) (E : Value → Shared → Prop), Inv X pins σ H s → (∀ b ∈ fp, FpOk X pins H b) → tn i s.heap → J.stop i H →
    wpAny (model P w) X.A (pyNext (.ref it)) (fun r s1 => r = none ∧ Inv X pins σ H s1) E s
  self : ∀ (A : Around) (i : Nat) (s : Shared) (Q : Value → Shared → Prop) (E : Value → Shared → Prop), tn i s.heap → Q (.ref it) s → wpAny (model P w) A (pyIter (.ref it)) Q E s
abbrev TI := St → Hp → (It → Hp → Prop) → Prop
def PIE (X : Cx) (pins : List (Addr × Obj)) (σ : St) (tg : Expr) (R : It → Hp → Prop) (itv : Value) (s2 : Shared) : Prop :=
  ∃ (it : Addr) (fp : List Addr) (tn : Nat → Heap → Prop) (J : It) (H' : Hp), itv = .ref it ∧ Inv X pins σ H' s2 ∧ Turn X.prog X.w X.K tg J fp it tn ∧ tn 0 s2.heap ∧ (∀ b ∈ fp, FpOk X pins H' b) ∧ R J H'
def PI (X : Cx) (tg iter : Expr) (wi : TI) : Prop :=
  ∀ (pins : List (Addr × Obj)) (s : Shared) (σ : St) (H : Hp) (R : It → Hp → Prop), Inv X pins σ H s → wi σ H R →
    wpAny (model X.prog X.w) X.A (eval iter X.env) (fun v s1 => wpAny (model X.prog X.w) X.A (pyIter v) (PIE X pins σ tg R) X.xe s1) X.xe s
theorem go_of {M : Model} {A : Around} {E : Value → Shared → Prop} {s : Shared} {tg : Expr} {it : Addr} {u : Value} {o : Obj} {n : String} {vs : Array Value} {Q : Unit → Shared → Prop} (ho : s.heap.get? it = some o) (hc : o.cls = .type n) (hd : o.data = .fields vs)
    (hn : ["enumerate", "zip", "dict_itemiterator", "dict_reverseitemiterator", "odict_iterator", "itertools.zip_longest", "itertools.pairwise"].contains n = false) (hQ : Q () s) : wpAny M A (letOwnedTupleGo tg (.ref it) u) Q E s := by
  unfold letOwnedTupleGo
  cases tg <;> first
    | exact wpAny_pure hQ
    | (cases u <;> first
        | exact wpAny_pure hQ
        | (refine wpAny_bind (wpAny_load ho ?_)
           rw [hc, hd]
           show wpAny M A (if (["enumerate", "zip", "dict_itemiterator", "dict_reverseitemiterator", "odict_iterator", "itertools.zip_longest", "itertools.pairwise"].contains n && vs[0]? == some (rawInt _)) = true then _ else _) Q E s
           rw [if_neg (by intro h; rw [hn, Bool.false_and] at h; cases h)]
           exact wpAny_pure hQ))
def Itl (K : PySem.W.Frag) (a : Addr) : It :=
  ⟨fun i H => ∃ xs x, SqL K H a xs ∧ xs[i]? = some x, fun i H x H' => H' = H ∧ ∀ xs, SqL K H a xs → xs[i]? = some x, fun i H => ∃ xs, SqL K H a xs ∧ xs.length ≤ i⟩
def Itr (lo : Int) (n : Nat) : It := ⟨fun i _ => i < n, fun i H x H' => H' = H ∧ x = .int (lo + i), fun i _ => n ≤ i⟩
theorem turn_list {P : Program} {w : World} {K : PySem.W.Frag} {tg : Expr} (a it : Addr) : Turn P w K tg (Itl K a) [it] it (fun i h => h.IsListIter it a i) where
  mem := by simp
  obj := fun i h st b hb => by
    have e : b = it := by simpa using hb
    subst e
    obtain ⟨o, e, c, d⟩ := st
    exact ⟨o, e, fun v z => by rw [d] at z; cases z⟩
  keep := fun i h h' st k => st.at fun o e => k it (by simp) o e
  item := by
    intro X hP hw hK hc i pins s σ H E I hf st hg
    subst hP hw hK
    obtain ⟨xs, x, hq, hx⟩ := hg
    obtain ⟨its, rv, p, hz⟩ := I.list hq
    obtain ⟨u, hu, ru⟩ := rv.get hx
    obtain ⟨f0, f1, f2, f3, f4, f5⟩ := hf it (by simp)
    refine wpAny_pyNext_list_item st p.isList (x := u) (by simpa using hu) fun h' st' sb => ?_
    have I1 : Inv X pins σ H { s with heap := h' } := I.turned (t' := s.toks) (fun b o hb e => (sb.2 b hb).trans e) f0 f1 f3 f4 f5
    obtain ⟨o, e, c, d⟩ := id st'
    exact ⟨u, rfl, go_of (s := { s with heap := h' }) e c d (by decide) ⟨x, H, I1, ru, ⟨rfl, fun ys hy => by rw [I.list_inj hy hq]; exact hx⟩, st', fun b hb => (hf b hb).1⟩⟩
  done := by
    intro X hP hw hK hc i pins s σ H E I hf st hg
    subst hP hw hK
    obtain ⟨xs, hq, hx⟩ := hg
    obtain ⟨its, rv, p, hz⟩ := I.list hq
    obtain ⟨f0, f1, f2, f3, f4, f5⟩ := hf it (by simp)
    have hl := rv.length
    exact wpAny_pyNext_list_end (I.ok.hd hc) st p.isList (by simp; omega) fun h' eb => ⟨rfl, I.turned (t' := s.toks) (fun b o hb e => eb b o hb e) f0 f1 f3 f4 f5⟩
  self := fun _ _ _ _ _ st h => wpAny_pyIter_listiter st h
theorem turn_range {P : Program} {w : World} {K : PySem.W.Frag} {tg : Expr} (it : Addr) (lo : Int) (n : Nat) : Turn P w K tg (Itr lo n) [it] it (fun i h => IsRangeIter h it (lo + (i : Nat) * 1) ((n : Int) - (i : Nat)) 1) where
  mem := by simp
  obj := fun i h st b hb => by
    have e : b = it := by simpa using hb
    subst e
    exact ⟨_, st, fun v z => by
      have z' : Data.fields _ = Data.cell v := z
      cases z'⟩
  keep := fun i h h' st k => k it (by simp) _ st
  item := by
    intro X hP hw hK hc i pins s σ H E I hf st hg
    subst hP hw hK
    obtain ⟨f0, f1, f2, f3, f4, f5⟩ := hf it (by simp)
    have W := Walks.range (prog := X.prog) (w := X.w) (I.ok.hd hc) it lo 1 n
    refine W.item i s _ _ hg st fun v h' tk hv st' kk => ?_
    obtain ⟨t, rfl⟩ := hv
    have I1 : Inv X pins σ H { s with heap := h', toks := tk } := I.turned (fun b o hb e => kk b o (by simpa using hb) e) f0 f1 f3 f4 f5
    refine ⟨_, rfl, go_of (s := { s with heap := h', toks := tk }) (n := "range_iterator") st' rfl rfl (by decide) ⟨.int (lo + i), H, I1, ⟨t, ?_⟩, ⟨rfl, rfl⟩, st', fun b hb => (hf b hb).1⟩⟩
    rw [Int.mul_one]
  done := by
    intro X hP hw hK hc i pins s σ H E I hf st hg
    subst hP hw hK
    obtain ⟨f0, f1, f2, f3, f4, f5⟩ := hf it (by simp)
    exact wpAny_pyNext_range_end (I.ok.hd hc) st (by have : n ≤ i := hg; omega) fun h' eb => ⟨rfl, I.turned (t' := s.toks) (fun b o hb e => eb b o hb e) f0 f1 f3 f4 f5⟩
  self := fun _ _ _ _ _ st h => wpAny_pyIter_rangeiter st h
end L2
namespace L2
open PySem PySem.Spec PyProof.Rows
section
variable {X : Cx} {tg : Expr}
def iList (K : PySem.W.Frag) (tl : TE) : TI := fun σ H R => tl σ H fun x H1 => ∃ a, x = .ref a ∧ (∃ xs, SqL K H1 a xs) ∧ R (Itl K a) H1
theorem pi_list {l : Expr} {tl : TE} (hl : PE X l tl) : PI X tg l (iList X.K tl) := by
  intro pins s σ H R I h
  refine thn (hl pins s σ H _ I h) fun v s1 ⟨x, H1, I1, r1, q1⟩ => ?_
  obtain ⟨a, e, ⟨xs, hq⟩, q⟩ := q1
  subst e
  cases r1
  obtain ⟨its, rv, p, hz⟩ := I1.list hq
  refine wpAny_pyIter_list p.isList ?_
  refine ⟨s1.heap.objs.size, [s1.heap.objs.size], _, _, H1, rfl, I1.kept (t' := s1.toks) fun b o e => Heap.get?_push_of_some _ e, turn_list a _, ⟨_, Heap.get?_push_size _ rfl, rfl, rfl⟩, fun b hb => ?_, q⟩
  have e : b = s1.heap.objs.size := by simpa using hb
  subst e
  exact I1.fpOk (Nat.le_refl _) (I1.hok.fresh (Nat.le_refl _))
theorem range_it {pins : List (Addr × Obj)} {σ : St} {H : Hp} {s : Shared} {R : It → Hp → Prop} {E : Value → Shared → Prop} {lo hi : Int} {t u v : Tok} {tk : Nat} (I : Inv X pins σ H s) (h1 : -(2 ^ 62) ≤ lo) (h2 : lo < 2 ^ 62) (h3 : -(2 ^ 62) ≤ hi) (h4 : hi < 2 ^ 62)
    (q : R (Itr lo (hi - lo).toNat) H) : wpAny (model X.prog X.w) X.A (pyIter (.ref s.heap.objs.size)) (PIE X pins σ tg R) E { s with heap := s.heap.push { cls := .type "range", data := .fields #[.int lo t, .int hi u, .int 1 v] }, toks := tk } := by
  refine wpAny_pyIter_range (IsRange.new ..) (small_one h1 h2 h3 h4) ?_
  have I1 : Inv X pins σ H { s with heap := s.heap.push { cls := .type "range", data := .fields #[.int lo t, .int hi u, .int 1 v] }, toks := tk } := I.kept fun b o e => Heap.get?_push_of_some _ e
  refine ⟨(s.heap.push { cls := .type "range", data := .fields #[.int lo t, .int hi u, .int 1 v] }).objs.size, [(s.heap.push { cls := .type "range", data := .fields #[.int lo t, .int hi u, .int 1 v] }).objs.size], _, _, H, rfl,
    I1.kept (t' := tk) fun b o e => Heap.get?_push_of_some _ e, turn_range _ lo (hi - lo).toNat, ?_, fun b hb => ?_, q⟩
  · have e1 : lo + ((0 : Nat) : Int) * 1 = lo := by simp
    have e2 : (((hi - lo).toNat : Nat) : Int) - ((0 : Nat) : Int) = Builtin.Range.rangeSize lo hi 1 := by rw [rangeSize_one]; split <;> omega
    show IsRangeIter _ _ (lo + ((0 : Nat) : Int) * 1) ((((hi - lo).toNat : Nat) : Int) - ((0 : Nat) : Int)) 1
    rw [e1, e2]
    exact Heap.get?_push_size _ rfl
  · have e : b = (s.heap.push { cls := .type "range", data := .fields #[.int lo t, .int hi u, .int 1 v] }).objs.size := by simpa using hb
    subst e
    exact I1.fpOk (Nat.le_refl _) (I1.hok.fresh (Nat.le_refl _))
def iRng1 (ta : TA) : TI := fun σ H R => ta σ H fun vs H1 => ∃ j : Int, vs = [.int j] ∧ -(2 ^ 62) ≤ j ∧ j < 2 ^ 62 ∧ R (Itr 0 j.toNat) H1
def iRng2 (ta : TA) : TI := fun σ H R => ta σ H fun vs H1 => ∃ i j : Int, vs = [.int i, .int j] ∧ (-(2 ^ 62) ≤ i ∧ i < 2 ^ 62 ∧ -(2 ^ 62) ≤ j ∧ j < 2 ^ 62) ∧ R (Itr i (j - i).toNat) H1
theorem pi_range1 {a : Expr} {ta : TA} {p pos : Pos} (hg : Gl X "range") (hm : X.mg "range" = none) (ha : PA X [a] ta) (hs : starEach [a] X.env = [(false, eval a X.env)] := by rfl) : PI X tg (.Call (.Name "range" p) [a] [] pos) (iRng1 ta) := by
  intro pins s σ H R I h
  refine Call_ (ld_blt I hg hm boot_range (PyProof.Rows.callWith_type1 (thn (ha pos pins s σ H _ I h) fun us s1 ⟨vs, H1, I1, r1, q1⟩ => ?_) hs rfl))
  obtain ⟨j, e, q1, q2, q⟩ := q1
  subst e
  cases r1 with
  | cons r rr =>
    cases rr
    obtain ⟨t, rfl⟩ := r
    exact call_range_1 (range_it I1 (by omega) (by omega) q1 q2 (by simpa using q))
theorem pi_range2 {a b : Expr} {ta : TA} {p pos : Pos} (hg : Gl X "range") (hm : X.mg "range" = none) (ha : PA X [a, b] ta) (hs : starEach [a, b] X.env = [(false, eval a X.env), (false, eval b X.env)] := by rfl) (hs2 : starEach [b] X.env = [(false, eval b X.env)] := by rfl) :
    PI X tg (.Call (.Name "range" p) [a, b] [] pos) (iRng2 ta) := by
  intro pins s σ H R I h
  refine Call_ (ld_blt I hg hm boot_range (PyProof.Rows.callWith_type1 (thn (ha pos pins s σ H _ I h) fun us s1 ⟨vs, H1, I1, r1, q1⟩ => ?_) (by rw [hs, hs2]) (by rw [hs2]; rfl)))
  obtain ⟨i, j, e, ⟨q1, q2, q3, q4⟩, q⟩ := q1
  subst e
  cases r1 with
  | cons r rr =>
    cases rr with
    | cons r' rr =>
      cases rr
      obtain ⟨t, rfl⟩ := r
      obtain ⟨t', rfl⟩ := r'
      exact call_range_2 (range_it I1 q1 q2 q3 q4 q)
def tFor (wi : TI) (g : TG) (tb : TS) : TS := fun D σ H => wi σ H fun J H1 => ∃ W : Nat → Nat → St → Hp → Prop, (∃ m, W 0 m σ H1) ∧ ∀ i m σ H, W i m σ H →
  (J.stop i H ∧ D.nx σ H) ∨ (J.go i H ∧ ∃ N : St → Hp → Prop, (∀ σ' H', N σ' H' → ∃ m', m' < m ∧ W (i + 1) m' σ' H') ∧ ∀ x H', J.yld i H x H' → g x σ H' fun σ2 H2 => tb { D with nx := N, ct := N, bk := D.nx } σ2 H2)
def pinsAt (fp : List Addr) (h : Heap) : List (Addr × Obj) := fp.filterMap fun b => (h.get? b).map fun o => (b, o)
theorem mem_pinsAt {fp : List Addr} {h : Heap} {b : Addr} {o : Obj} (hb : b ∈ fp) (e : h.get? b = some o) : (b, o) ∈ pinsAt fp h := List.mem_filterMap.mpr ⟨b, hb, by rw [e]; rfl⟩
theorem of_pinsAt {fp : List Addr} {h : Heap} {p : Addr × Obj} (hp : p ∈ pinsAt fp h) : p.1 ∈ fp ∧ h.get? p.1 = some p.2 := by
  obtain ⟨b, hb, e⟩ := List.mem_filterMap.mp hp
  cases q : h.get? b with
  | none => rw [q] at e; cases e
  | some o =>
    rw [q] at e
    have e' : (b, o) = p := Option.some.inj e
    subst e'
    exact ⟨hb, q⟩
theorem Inv.pinned {pins : List (Addr × Obj)} {σ : St} {H : Hp} {s : Shared} {fp : List Addr} (I : Inv X pins σ H s) (hf : ∀ b ∈ fp, FpOk X pins H b) (ho : ∀ b ∈ fp, ∃ o, s.heap.get? b = some o ∧ ∀ v, o.data ≠ .cell v) : Inv X (pins ++ pinsAt fp s.heap) σ H s :=
  I.pins_of fun p hp => (List.mem_append.mp hp).elim (fun z => I.pin p (List.mem_append_right _ z)) fun z => by
    obtain ⟨hb, e⟩ := of_pinsAt z
    obtain ⟨f0, f1, f2, _⟩ := hf p.1 hb
    obtain ⟨o, e', d⟩ := ho p.1 hb
    rw [e] at e'; cases e'
    exact ⟨e, f0, f1, f2, d⟩
theorem Inv.unpinned {pins pl : List (Addr × Obj)} {σ : St} {H : Hp} {s : Shared} (I : Inv X (pins ++ pl) σ H s) : Inv X pins σ H s := I.pins_of fun p hp => I.pin p (List.mem_append_right _ (List.mem_append_left _ hp))
theorem ps_for {iter : Expr} {body : List Stmt} {wi : TI} {g : TG} {tb : TS} {pos : Pos} (hp : PassesOwn (model X.prog X.w) X.A X.env X.xe) (hc : X.calm = true) (hi : PI X tg iter wi) (hg : PG X tg g) (hb : PSs X body tb)
    (hs : ∀ x, foldedSetIterable iter X.env x = pure x := by intro _; rfl) : PS X (.For tg iter body [] pos) (tFor wi g tb) := by
  intro pins s σ H D I h
  refine wpAny_For (thn (hi pins s σ H _ I h) fun v s1 h1 => thn h1 fun itv s2 h2 => ?_) hs
  obtain ⟨it, fp, tn, J, H2, e, I2, T, st2, f2, W, ⟨m0, w0⟩, turn⟩ := h2
  subst e
  -- what stays true of the iterator's objects through the loop
  have stat : ∀ {H' : Hp}, (∀ b ∈ fp, H' b = none) → ∀ b ∈ fp, FpOk X pins H' b := fun hn b hb => ⟨hn b hb, (f2 b hb).2⟩
  refine codeAny_forLoop_any (fun n s' => ∃ i σ' H', Inv X pins σ' H' s' ∧ tn i s'.heap ∧ (∀ b ∈ fp, H' b = none) ∧ W i n σ' H') ?_ m0 ⟨0, σ, H2, I2, st2, fun b hb => (f2 b hb).1, w0⟩
  rintro n s3 ⟨i, σ3, H3, I3, st3, fr3, w3⟩
  rcases turn i n σ3 H3 w3 with ⟨stop, qn⟩ | ⟨go, N, hN, step⟩
  · refine wpAny_passesOwn hp (thn (T.done X rfl rfl rfl hc i pins s3 σ3 H3 X.xe I3 (stat fr3) st3 stop) fun r s4 ⟨hr, I4⟩ => ?_)
    subst hr
    exact wpAny_execs_nil ⟨σ3, H3, I4, qn⟩
  · refine wpAny_passesOwn hp (thn (T.item X rfl rfl rfl hc i pins s3 σ3 H3 X.xe I3 (stat fr3) st3 go) fun r s4 ⟨u, hr, h4⟩ => ?_)
    subst hr
    refine wpAny_passesOwn hp (thn h4 fun _ s5 ⟨x, H5, I5, r5, y5, st5, fr5⟩ => ?_)
    have I5' := I5.pinned (stat fr5) (T.obj _ _ st5)
    refine wpAny_passesOwn hp (thn (hg _ s5 σ3 H5 x u _ I5' r5 (step x H5 y5)) fun _ s6 ⟨σ6, H6, I6, q6⟩ => ?_)
    refine wpAny_passesOwn hp (thn (hb _ s6 σ6 H6 _ I6 q6) fun f s7 q7 => ?_)
    have again : ∀ {σ7 : St} {H7 : Hp}, Inv X (pins ++ pinsAt fp s5.heap) σ7 H7 s7 → N σ7 H7 → ∃ m, m < n ∧ ∃ i σ' H', Inv X pins σ' H' s7 ∧ tn i s7.heap ∧ (∀ b ∈ fp, H' b = none) ∧ W i m σ' H' := fun {σ7 H7} I7 n7 => by
      obtain ⟨m', hm, w7⟩ := hN σ7 H7 n7
      refine ⟨m', hm, i + 1, σ7, H7, I7.unpinned, T.keep _ _ _ st5 fun b hb o e => (I7.pin (b, o) (List.mem_append_right _ (List.mem_append_right _ (mem_pinsAt hb e)))).1, fun b hb => ?_, w7⟩
      obtain ⟨o, e, d⟩ := T.obj _ _ st5 b hb
      exact (I7.pin (b, o) (List.mem_append_right _ (List.mem_append_right _ (mem_pinsAt hb e)))).2.1
    cases f with
    | next => obtain ⟨σ7, H7, I7, n7⟩ := q7; exact again I7 n7
    | cont => obtain ⟨σ7, H7, I7, n7⟩ := q7; exact again I7 n7
    | brk => obtain ⟨σ7, H7, I7, q7⟩ := q7; exact ⟨σ7, H7, I7.unpinned, q7⟩
    | ret v => obtain ⟨x7, σ7, H7, I7, r7, q7⟩ := q7; exact ⟨x7, σ7, H7, I7.unpinned, r7, q7⟩
end
theorem for_list {K : PySem.W.Frag} {a : Addr} {xs : List V} {g : TG} {tb : TS} {D : Ends} {σ : St} {H : Hp} (Pv : Nat → St → Hp → Prop) (h0 : Pv 0 σ H) (hl : ∀ i σ H, i ≤ xs.length → Pv i σ H → SqL K H a xs)
    (hs : ∀ i x σ H, xs[i]? = some x → Pv i σ H → g x σ H fun σ2 H2 => tb { D with nx := Pv (i + 1), ct := Pv (i + 1), bk := D.nx } σ2 H2) (hd : ∀ σ H, Pv xs.length σ H → D.nx σ H) :
    ∃ W : Nat → Nat → St → Hp → Prop, (∃ m, W 0 m σ H) ∧ ∀ i m σ H, W i m σ H →
      ((Itl K a).stop i H ∧ D.nx σ H) ∨ ((Itl K a).go i H ∧ ∃ N : St → Hp → Prop, (∀ σ' H', N σ' H' → ∃ m', m' < m ∧ W (i + 1) m' σ' H') ∧ ∀ x H', (Itl K a).yld i H x H' → g x σ H' fun σ2 H2 => tb { D with nx := N, ct := N, bk := D.nx } σ2 H2) := by
  refine ⟨fun i m σ H => m = xs.length - i ∧ i ≤ xs.length ∧ Pv i σ H, ⟨xs.length, by simp, Nat.zero_le _, h0⟩, ?_⟩
  rintro i m σ H ⟨rfl, hi, p⟩
  have q := hl i σ H hi p
  by_cases hlt : i < xs.length
  · refine .inr ⟨⟨xs, xs[i], q, by simp [hlt]⟩, Pv (i + 1), fun σ' H' p' => ⟨xs.length - (i + 1), by omega, rfl, hlt, p'⟩, fun x H' y => ?_⟩
    obtain ⟨e, y⟩ := y
    subst e
    exact hs i x σ _ (y xs q) p
  · have e : i = xs.length := by omega
    subst e
    exact .inl ⟨⟨xs, q, Nat.le_refl _⟩, hd σ H p⟩
theorem for_range {lo : Int} {n : Nat} {g : TG} {tb : TS} {D : Ends} {σ : St} {H : Hp} (Pv : Nat → St → Hp → Prop) (h0 : Pv 0 σ H)
    (hs : ∀ i σ H, i < n → Pv i σ H → g (.int (lo + i)) σ H fun σ2 H2 => tb { D with nx := Pv (i + 1), ct := Pv (i + 1), bk := D.nx } σ2 H2) (hd : ∀ σ H, Pv n σ H → D.nx σ H) :
    ∃ W : Nat → Nat → St → Hp → Prop, (∃ m, W 0 m σ H) ∧ ∀ i m σ H, W i m σ H →
      ((Itr lo n).stop i H ∧ D.nx σ H) ∨ ((Itr lo n).go i H ∧ ∃ N : St → Hp → Prop, (∀ σ' H', N σ' H' → ∃ m', m' < m ∧ W (i + 1) m' σ' H') ∧ ∀ x H', (Itr lo n).yld i H x H' → g x σ H' fun σ2 H2 => tb { D with nx := N, ct := N, bk := D.nx } σ2 H2) := by
  refine ⟨fun i m σ H => m = n - i ∧ i ≤ n ∧ Pv i σ H, ⟨n, by simp, Nat.zero_le _, h0⟩, ?_⟩
  rintro i m σ H ⟨rfl, hi, p⟩
  by_cases hlt : i < n
  · refine .inr ⟨hlt, Pv (i + 1), fun σ' H' p' => ⟨n - (i + 1), by omega, rfl, hlt, p'⟩, fun x H' y => ?_⟩
    obtain ⟨e, y⟩ := y
    subst e y
    exact hs i σ _ hlt p
  · have e : i = n := by omega
    subst e
    exact .inl ⟨Nat.le_refl _, hd σ H p⟩
theorem while_by {c : TT} {tb : TS} {D : Ends} {σ : St} {H : Hp} (Pv : St → Hp → Prop) (μ : St → Hp → Nat) (h0 : Pv σ H)
    (hs : ∀ σ H, Pv σ H → c σ H fun b H1 => if b = true then tb { D with nx := fun σ' H' => Pv σ' H' ∧ μ σ' H' < μ σ H, ct := fun σ' H' => Pv σ' H' ∧ μ σ' H' < μ σ H, bk := D.nx } σ H1 else D.nx σ H1)
    (mono : ∀ σ H Q Q', (∀ b H1, Q b H1 → Q' b H1) → c σ H Q → c σ H Q') : tWhile c tb D σ H := by
  refine ⟨fun m σ H => m = μ σ H ∧ Pv σ H, ⟨_, rfl, h0⟩, ?_⟩
  rintro m σ H ⟨rfl, p⟩
  refine mono σ H _ _ (fun b H1 q => ?_) (hs σ H p)
  cases b with
  | true => exact ⟨_, fun σ' H' ⟨p', l⟩ => ⟨_, l, rfl, p'⟩, q⟩
  | false => exact q
end L2
namespace L2
open PySem PySem.Spec PyProof.Rows
abbrev R2 := V → V → Hp → VK → Prop
def OpR (X : Cx) (f : Value → Value → Sem Value) (r : R2) : Prop :=
  ∀ (pins : List (Addr × Obj)) (s : Shared) (σ : St) (H : Hp) (x y : V) (v u : Value) (Q : VK), Inv X pins σ H s → RelV x v → RelV y u → r x y H Q →
    wpAny (model X.prog X.w) X.A (f v u) (EP X pins σ Q) X.xe s
def UnR (X : Cx) (f : Value → Sem Value) (r : V → Hp → VK → Prop) : Prop :=
  ∀ (pins : List (Addr × Obj)) (s : Shared) (σ : St) (H : Hp) (x : V) (v : Value) (Q : VK), Inv X pins σ H s → RelV x v → r x H Q →
    wpAny (model X.prog X.w) X.A (f v) (EP X pins σ Q) X.xe s
def CallR (X : Cx) (f : Value) (r : List V → Hp → VK → Prop) : Prop :=
  ∀ (pins : List (Addr × Obj)) (s : Shared) (σ : St) (H : Hp) (xs : List V) (us : List Value) (Q : VK), Inv X pins σ H s → Vals xs us → r xs H Q →
    wpAny (model X.prog X.w) X.A (call f us) (EP X pins σ Q) X.xe s
def tOp (r : R2) (ta tb : TE) : TE := fun σ H Q => ta σ H fun x H1 => tb σ H1 fun y H2 => r x y H2 Q
def tUn (r : V → Hp → VK → Prop) (ta : TE) : TE := fun σ H Q => ta σ H fun x H1 => r x H1 Q
def rI (C : Int → Int → Prop) (g : Int → Int → V) : R2 := fun x y H Q => ∃ i j, x = .int i ∧ y = .int j ∧ C i j ∧ Q (g i j) H
def rI0 (g : Int → Int → V) : R2 := fun x y H Q => ∃ i j, x = .int i ∧ y = .int j ∧ Q (g i j) H
def rU (g : Int → V) : V → Hp → VK → Prop := fun x H Q => ∃ i, x = .int i ∧ Q (g i) H
section
variable {X : Cx} {a b c : Expr} {ta tb tc : TE} {pos : Pos}
theorem binT (ha : PE X a ta) (hb : PE X b tb) {pins : List (Addr × Obj)} {s : Shared} {σ : St} {H : Hp} {R : V → V → Hp → Prop} (I : Inv X pins σ H s)
    (h : ta σ H fun x H1 => tb σ H1 fun y H2 => R x y H2) {Q : Value → Shared → Prop} {f : Value → Value → Sem Value}
    (hf : ∀ v u s2 x y H2, Inv X pins σ H2 s2 → RelV x v → RelV y u → R x y H2 → wpAny (model X.prog X.w) X.A (f v u) Q X.xe s2) :
    wpAny (model X.prog X.w) X.A (eval a X.env) (fun v s₁ => wpAny (model X.prog X.w) X.A (eval b X.env) (fun u s₂ => wpAny (model X.prog X.w) X.A (f v u) Q X.xe s₂) X.xe s₁) X.xe s := by
  refine thn (ha pins s σ H _ I h) fun v s1 ⟨x, H1, I1, r1, q1⟩ => ?_
  refine thn (hb pins s1 σ H1 _ I1 q1) fun u s2 ⟨y, H2, I2, r2, q2⟩ => ?_
  exact hf v u s2 x y H2 I2 r1 r2 q2
theorem pe_op {op : Operator} {r : R2} (ho : OpR X (binaryOp op) r) (ha : PE X a ta) (hb : PE X b tb) : PE X (.BinOp a op b pos) (tOp r ta tb) := by
  intro pins s σ H Q I h
  exact wpAny_BinOp (binT ha hb I h fun v u s2 x y H2 I2 rx ry q => ho pins s2 σ H2 x y v u Q I2 rx ry q)
theorem pe_un {op : UnaryOp} {r : V → Hp → VK → Prop} (ho : UnR X (unaryOp op) r) (ha : PE X a ta) : PE X (.UnaryOp op a pos) (tUn r ta) := by
  intro pins s σ H Q I h
  exact UnaryOp_ (thn (ha pins s σ H _ I h) fun v s1 ⟨x, H1, I1, r1, q1⟩ => ho pins s1 σ H1 x v Q I1 r1 q1)
theorem opI {f : Value → Value → Sem Value} {C : Int → Int → Prop} {g : Int → Int → Int}
    (rule : ∀ (i j : Int) (t u : Tok) (s : Shared) (Q : Value → Shared → Prop) (E : Value → Shared → Prop), C i j → Q (.int (g i j) s.toks) { s with toks := s.toks + 1 } → wpAny (model X.prog X.w) X.A (f (.int i t) (.int j u)) Q E s) :
    OpR X f (rI C fun i j => .int (g i j)) := by
  intro pins s σ H x y v u Q I rx ry h
  obtain ⟨i, j, rfl, rfl, hc, q⟩ := h
  obtain ⟨t, rfl⟩ := rx
  obtain ⟨t', rfl⟩ := ry
  exact rule i j t t' s _ _ hc ⟨.int (g i j), H, I.tok _, ⟨_, rfl⟩, q⟩
theorem opI0 {f : Value → Value → Sem Value} {g : Int → Int → Int}
    (rule : ∀ (i j : Int) (t u : Tok) (s : Shared) (Q : Value → Shared → Prop) (E : Value → Shared → Prop), Q (.int (g i j) s.toks) { s with toks := s.toks + 1 } → wpAny (model X.prog X.w) X.A (f (.int i t) (.int j u)) Q E s) :
    OpR X f (rI0 fun i j => .int (g i j)) := by
  intro pins s σ H x y v u Q I rx ry h
  obtain ⟨i, j, rfl, rfl, q⟩ := h
  obtain ⟨t, rfl⟩ := rx
  obtain ⟨t', rfl⟩ := ry
  exact rule i j t t' s _ _ ⟨.int (g i j), H, I.tok _, ⟨_, rfl⟩, q⟩
theorem opB0 {f : Value → Value → Sem Value} {g : Int → Int → Bool}
    (rule : ∀ (i j : Int) (t u : Tok) (s : Shared) (Q : Value → Shared → Prop) (E : Value → Shared → Prop), Q (.bool (g i j)) s → wpAny (model X.prog X.w) X.A (f (.int i t) (.int j u)) Q E s) :
    OpR X f (rI0 fun i j => .bl (g i j)) := by
  intro pins s σ H x y v u Q I rx ry h
  obtain ⟨i, j, rfl, rfl, q⟩ := h
  obtain ⟨t, rfl⟩ := rx
  obtain ⟨t', rfl⟩ := ry
  exact rule i j t t' s _ _ ⟨.bl (g i j), H, I, rfl, q⟩
def CPow (i j : Int) : Prop := 0 ≤ j ∧ j ≤ 1000000 ∧ i.natAbs < 2 ^ 64
theorem op_add : OpR X (binaryOp .Add) (rI0 fun i j => .int (i + j)) := opI0 fun _ _ _ _ _ _ _ q => add_int q
theorem op_sub : OpR X (binaryOp .Sub) (rI0 fun i j => .int (i - j)) := opI0 fun _ _ _ _ _ _ _ q => sub_int q
theorem op_mod : OpR X (binaryOp .Mod) (rI (fun _ j => 0 < j) fun i j => .int (i % j)) := opI fun i j _ _ _ _ _ hc q => by
  have h1 : (0 : Int) < j := hc
  exact mod_int' (by omega) (by rw [Int.fmod_eq_emod_of_nonneg i (by omega)]; exact q)
theorem op_pow : OpR X (binaryOp .Pow) (rI CPow fun i j => .int (i ^ j.toNat)) := opI fun _ _ _ _ _ _ _ hc q => pow_int_small hc.1 hc.2.1 hc.2.2 q
theorem unI {f : Value → Sem Value} {g : Int → Int}
    (rule : ∀ (i : Int) (t : Tok) (s : Shared) (Q : Value → Shared → Prop) (E : Value → Shared → Prop), Q (.int (g i) s.toks) { s with toks := s.toks + 1 } → wpAny (model X.prog X.w) X.A (f (.int i t)) Q E s) :
    UnR X f (rU fun i => .int (g i)) := by
  intro pins s σ H x v Q I rx h
  obtain ⟨i, rfl, q⟩ := h
  obtain ⟨t, rfl⟩ := rx
  exact rule i t s _ _ ⟨.int (g i), H, I.tok _, ⟨_, rfl⟩, q⟩
theorem un_neg : UnR X (unaryOp .USub) (rU fun i => .int (-i)) := unI fun _ _ _ _ _ q => neg_int q
end
def scal : V → V → Bool
  | .non, .non => true | .non, .int _ => true | .int _, .non => true | .non, .bl _ => true | .bl _, .non => true | .non, .str _ => true | .str _, .non => true
  | .int _, .int _ => true | .bl _, .bl _ => true | .str _, .str _ => true | .byt _, .byt _ => true
  | .int _, .str _ => true | .str _, .int _ => true | .bl _, .str _ => true | .str _, .bl _ => true
  | _, _ => false
def rEq : R2 := fun x y H Q => scal x y = true ∧ Q (.bl (decide (x = y))) H
def rNe : R2 := fun x y H Q => scal x y = true ∧ Q (.bl (!decide (x = y))) H
theorem dec_int {i j : Int} : decide (V.int i = V.int j) = (i == j) := by
  rw [Bool.eq_iff_iff]
  simp
theorem dec_bl {i j : Bool} : decide (V.bl i = V.bl j) = (i == j) := by
  rw [Bool.eq_iff_iff]
  simp
theorem dec_str {i j : Str} : decide (V.str i = V.str j) = (i == j) := by
  rw [Bool.eq_iff_iff]
  simp
theorem dec_byt {i j : Array UInt8} : decide (V.byt i = V.byt j) = (i.toList == j.toList) := by
  rw [Bool.eq_iff_iff]
  cases i
  cases j
  simp
section
variable {X : Cx} {a b c : Expr} {ta tb tc : TE} {pos : Pos}
theorem fin_bl {pins : List (Addr × Obj)} {σ : St} {H : Hp} {s : Shared} {Q : VK} {k k' : Bool} (I : Inv X pins σ H s) (q : Q (.bl k) H) (e : k = k') : EP X pins σ Q (.bool k') s := by
  subst e
  exact ⟨.bl k, H, I, rfl, q⟩
theorem op_eq : OpR X (compareOp .Eq) rEq := by
  intro pins s σ H x y v u Q I rx ry h
  obtain ⟨hs, q⟩ := h
  cases x with
  | non =>
    cases rx
    cases y with
    | non => cases ry; exact PySem.EqNone.eq_none_none (fin_bl I q (by simp))
    | bl j => cases ry; exact PySem.EqNone.eq_none_bool (fin_bl I q (by simp))
    | int j => obtain ⟨t', rfl⟩ := ry; exact PySem.EqNone.eq_none_int (fin_bl I q (by simp))
    | str j => obtain ⟨t', rfl⟩ := ry; exact PySem.EqNone.eq_none_str (fin_bl I q (by simp))
    | _ => exact absurd (show false = true from hs) Bool.false_ne_true
  | bl i =>
    cases rx
    cases y with
    | non => cases ry; exact PySem.EqNone.eq_bool_none (fin_bl I q (by simp))
    | bl j => cases ry; exact eq_bool (fin_bl I q dec_bl)
    | str j => obtain ⟨t', rfl⟩ := ry; exact PySem.EqMixed.eq_bool_str (fin_bl I q (by simp))
    | _ => exact absurd (show false = true from hs) Bool.false_ne_true
  | int i =>
    obtain ⟨t, rfl⟩ := rx
    cases y with
    | non => cases ry; exact PySem.EqNone.eq_int_none (fin_bl I q (by simp))
    | int j => obtain ⟨t', rfl⟩ := ry; exact eq_int (fin_bl I q dec_int)
    | str j => obtain ⟨t', rfl⟩ := ry; exact PySem.EqMixed.eq_int_str (fin_bl I q (by simp))
    | _ => exact absurd (show false = true from hs) Bool.false_ne_true
  | str i =>
    obtain ⟨t, rfl⟩ := rx
    cases y with
    | non => cases ry; exact PySem.EqNone.eq_str_none (fin_bl I q (by simp))
    | bl j => cases ry; exact PySem.EqMixed.eq_str_bool (fin_bl I q (by simp))
    | int j => obtain ⟨t', rfl⟩ := ry; exact PySem.EqMixed.eq_str_int (fin_bl I q (by simp))
    | str j => obtain ⟨t', rfl⟩ := ry; exact eq_str (fin_bl I q dec_str)
    | _ => exact absurd (show false = true from hs) Bool.false_ne_true
  | byt i =>
    obtain ⟨t, rfl⟩ := rx
    cases y with
    | byt j => obtain ⟨t', rfl⟩ := ry; exact PySem.W.eq_bytes (fin_bl I q dec_byt)
    | _ => exact absurd (show false = true from hs) Bool.false_ne_true
  | _ => cases y <;> exact absurd (show false = true from hs) Bool.false_ne_true
theorem op_ne : OpR X (compareOp .NotEq) rNe := by
  intro pins s σ H x y v u Q I rx ry h
  obtain ⟨hs, q⟩ := h
  cases x with
  | non =>
    cases rx
    cases y with
    | non => cases ry; exact PySem.EqNone.ne_none_none (fin_bl I q (by simp))
    | bl j => cases ry; exact PySem.EqNone.ne_none_bool (fin_bl I q (by simp))
    | int j => obtain ⟨t', rfl⟩ := ry; exact PySem.EqNone.ne_none_int (fin_bl I q (by simp))
    | str j => obtain ⟨t', rfl⟩ := ry; exact PySem.EqNone.ne_none_str (fin_bl I q (by simp))
    | _ => exact absurd (show false = true from hs) Bool.false_ne_true
  | bl i =>
    cases rx
    cases y with
    | non => cases ry; exact PySem.EqNone.ne_bool_none (fin_bl I q (by simp))
    | bl j => cases ry; exact ne_bool (fin_bl I q (congrArg not dec_bl))
    | str j => obtain ⟨t', rfl⟩ := ry; exact PySem.EqMixed.ne_bool_str (fin_bl I q (by simp))
    | _ => exact absurd (show false = true from hs) Bool.false_ne_true
  | int i =>
    obtain ⟨t, rfl⟩ := rx
    cases y with
    | non => cases ry; exact PySem.EqNone.ne_int_none (fin_bl I q (by simp))
    | int j => obtain ⟨t', rfl⟩ := ry; exact ne_int (fin_bl I q (congrArg not dec_int))
    | str j => obtain ⟨t', rfl⟩ := ry; exact PySem.EqMixed.ne_int_str (fin_bl I q (by simp))
    | _ => exact absurd (show false = true from hs) Bool.false_ne_true
  | str i =>
    obtain ⟨t, rfl⟩ := rx
    cases y with
    | non => cases ry; exact PySem.EqNone.ne_str_none (fin_bl I q (by simp))
    | bl j => cases ry; exact PySem.EqMixed.ne_str_bool (fin_bl I q (by simp))
    | int j => obtain ⟨t', rfl⟩ := ry; exact PySem.EqMixed.ne_str_int (fin_bl I q (by simp))
    | str j => obtain ⟨t', rfl⟩ := ry; exact ne_str (fin_bl I q (congrArg not dec_str))
    | _ => exact absurd (show false = true from hs) Bool.false_ne_true
  | byt i =>
    obtain ⟨t, rfl⟩ := rx
    cases y with
    | byt j => obtain ⟨t', rfl⟩ := ry; exact PySem.W.ne_bytes (fin_bl I q (congrArg not dec_byt))
    | _ => exact absurd (show false = true from hs) Bool.false_ne_true
  | _ => cases y <;> exact absurd (show false = true from hs) Bool.false_ne_true
theorem op_lt : OpR X (compareOp .Lt) (rI0 fun i j => .bl (decide (i < j))) := opB0 fun _ _ _ _ _ _ _ q => lt_int q
theorem op_le : OpR X (compareOp .LtE) (rI0 fun i j => .bl (decide (i ≤ j))) := opB0 fun _ _ _ _ _ _ _ q => le_int q
theorem op_gt : OpR X (compareOp .Gt) (rI0 fun i j => .bl (decide (j < i))) := opB0 fun _ _ _ _ _ _ _ q => gt_int q
theorem op_ge : OpR X (compareOp .GtE) (rI0 fun i j => .bl (decide (j ≤ i))) := opB0 fun _ _ _ _ _ _ _ q => ge_int q
theorem op_in_str : OpR X (compareOp .In) (fun x y H Q => ∃ i j, x = .str i ∧ y = .str j ∧ Q (.bl (!(Builtin.Str.occurrences j i 0 j.length 1).isEmpty)) H) := by
  intro pins s σ H x y v u Q I rx ry h
  obtain ⟨i, j, rfl, rfl, q⟩ := h
  obtain ⟨t, rfl⟩ := rx
  obtain ⟨t', rfl⟩ := ry
  exact in_str (fin_bl I q rfl)
theorem op_notN : OpR X (compareOp .IsNot) (fun x y H Q => y = .non ∧ Q (.bl (!decide (x = .non))) H) := by
  intro pins s σ H x y v u Q I rx ry h
  obtain ⟨rfl, q⟩ := h
  cases ry
  refine isnot_none_gen (fin_bl I q ?_)
  cases x <;> first
    | (cases rx; rfl)
    | (obtain ⟨t, rfl⟩ := rx; rfl)
theorem nomark (b : Expr) {op : CmpOp} (h : op ≠ .In := by decide) (h2 : op ≠ .NotIn := by decide) : behindInMarks op b = false := by
  have e1 : (op == CmpOp.In) = false := by cases op <;> first | rfl | exact absurd rfl h
  have e2 : (op == CmpOp.NotIn) = false := by cases op <;> first | rfl | exact absurd rfl h2
  cases b <;> simp [behindInMarks, e1, e2]
theorem pe_cmpR {op : CmpOp} {r : R2} (ho : OpR X (compareOp op) r) (ha : PE X a ta) (hb : PE X b tb) (hm : behindInMarks op b = false) : PE X (.Compare a [op] [b] pos) (tOp r ta tb) := by
  intro pins s σ H Q I h
  exact wpAny_Compare1 (binT ha hb I h fun v u s2 x y H2 I2 rx ry q => ho pins s2 σ H2 x y v u Q I2 rx ry q) hm
def tTest (t : TE) : TT := fun σ H Q => t σ H fun x H' => ∃ k, x = .bl k ∧ Q k H'
theorem pt_cmpR {op : CmpOp} {r : R2} (ho : OpR X (compareOp op) r) (ha : PE X a ta) (hb : PE X b tb) (hm : behindInMarks op b = false) : PT X (.Compare a [op] [b] pos) (tTest (tOp r ta tb)) := by
  intro pins s σ H Q I h
  refine wpAny_isTrue_Compare1 (thn (ha pins s σ H _ I h) fun v s1 ⟨x, H1, I1, r1, q1⟩ => thn (hb pins s1 σ H1 _ I1 q1) fun u s2 ⟨y, H2, I2, r2, q2⟩ =>
    thn (ho pins s2 σ H2 x y v u _ I2 r1 r2 q2) fun c s3 ⟨z, H3, I3, r3, k, e, q3⟩ => ?_) hm
  subst e
  cases r3
  exact wpAny_truthy_bool ⟨H3, I3, q3⟩
def tChain (r r' : R2) (ta tb tc : TE) : TE := fun σ H Q => ta σ H fun x H1 => tb σ H1 fun y H2 => r x y H2 fun z H3 => ∃ k, z = .bl k ∧
  (if k = true then tc σ H3 fun w' H4 => r' y w' H4 Q else Q (.bl false) H3)
theorem pe_chain {op op' : CmpOp} {r r' : R2} (ho : OpR X (compareOp op) r) (ho' : OpR X (compareOp op') r') (ha : PE X a ta) (hb : PE X b tb) (hc : PE X c tc)
    (hm : lastMarks [op, op'] [b, c] = false := by with_unfolding_all rfl) : PE X (.Compare a [op, op'] [b, c] pos) (tChain r r' ta tb tc) := by
  intro pins s σ H Q I h
  refine Compare_chain (thn (ha pins s σ H _ I h) fun v s1 ⟨x, H1, I1, r1, q1⟩ => chain_link (thn (hb pins s1 σ H1 _ I1 q1) fun u s2 ⟨y, H2, I2, r2, q2⟩ =>
    thn (ho pins s2 σ H2 x y v u _ I2 r1 r2 q2) fun d s3 ⟨z, H3, I3, r3, k, e, q3⟩ => ?_)) hm
  subst e
  cases r3
  refine wpAny_truthy_bool ?_
  cases k with
  | false => exact ite_ff ⟨.bl false, H3, I3, rfl, q3⟩
  | true => exact ite_tt (chain_last (thn (hc pins s3 σ H3 _ I3 q3) fun w' s4 ⟨z', H4, I4, r4, q4⟩ => ho' pins s4 σ H4 y z' u w' Q I4 r2 r4 q4))
theorem line63 : (sizeLine : Nat) < 2 ^ 63 := by rw [sizeLine_eq]; decide
theorem op_add_str : OpR X (binaryOp .Add) (fun x y H Q => ∃ i j, x = .str i ∧ y = .str j ∧ i.length + j.length ≤ sizeLine ∧ Q (.str (i ++ j)) H) := by
  intro pins s σ H x y v u Q I rx ry h
  obtain ⟨i, j, rfl, rfl, hz, q⟩ := h
  obtain ⟨t, rfl⟩ := rx
  obtain ⟨t', rfl⟩ := ry
  exact add_str (fun t' tk => ⟨.str (i ++ j), H, I.tok _, ⟨_, rfl⟩, q⟩) hz
theorem vals1 {x : V} {us : List Value} (r : Vals [x] us) : ∃ u, us = [u] ∧ RelV x u := by
  cases r with
  | cons r1 r2 => cases r2; exact ⟨_, rfl, r1⟩
theorem vals2 {x y : V} {us : List Value} (r : Vals [x, y] us) : ∃ u w', us = [u, w'] ∧ RelV x u ∧ RelV y w' := by
  cases r with
  | cons r1 r2 =>
    cases r2 with
    | cons r3 r4 => cases r4; exact ⟨_, _, rfl, r1, r3⟩
theorem call_max2 (hc : X.calm = true) : CallR X (.builtin "max") (fun xs H Q => ∃ i j, xs = [.int i, .int j] ∧ Q (.int (if j > i then j else i)) H) := by
  intro pins s σ H xs us Q I r h
  obtain ⟨i, j, rfl, q⟩ := h
  obtain ⟨u, w', rfl, ⟨t, rfl⟩, ⟨t', rfl⟩⟩ := vals2 r
  refine max_two_ints (I.ok.hd hc) fun h' tk k => ⟨_, H, I.kept k, ?_, q⟩
  by_cases hj : j > i
  · rw [if_pos hj, if_pos hj]; exact ⟨_, rfl⟩
  · rw [if_neg hj, if_neg hj]; exact ⟨_, rfl⟩
theorem call_min2 (hc : X.calm = true) : CallR X (.builtin "min") (fun xs H Q => ∃ i j, xs = [.int i, .int j] ∧ Q (.int (if j < i then j else i)) H) := by
  intro pins s σ H xs us Q I r h
  obtain ⟨i, j, rfl, q⟩ := h
  obtain ⟨u, w', rfl, ⟨t, rfl⟩, ⟨t', rfl⟩⟩ := vals2 r
  refine min_two_ints (I.ok.hd hc) fun h' tk k => ⟨_, H, I.kept k, ?_, q⟩
  by_cases hj : j < i
  · rw [if_pos hj, if_pos hj]; exact ⟨_, rfl⟩
  · rw [if_neg hj, if_neg hj]; exact ⟨_, rfl⟩
end
end L2
namespace L2
open PySem PySem.Spec PyProof.Rows
structure ObjM (h : Heap) (x dx C : Addr) (mA : Str → Option Value) : Prop where
  obj : h.get? x = some (PySem.W.instObj C dx)
  ns : h.Ns1 dx mA
  ne : dx ≠ x
theorem lookIn_ns {h : Heap} {dx : Addr} {mA : Str → Option Value} (n : h.Ns1 dx mA) : ∃ od, h.get? dx = some od ∧ ∀ name, PySem.W.lookIn name od = some (mA name) := by
  obtain ⟨o, es, ep, ho, hd, hk, _, hm⟩ := n
  refine ⟨o, ho, fun name => ?_⟩
  have e := hm name
  unfold nsFind findBy at e
  rw [← Array.find?_toList] at e
  unfold PySem.W.lookIn
  rw [hd]
  dsimp only
  split
  · rename_i y q
    rw [q] at e
    exact congrArg some e
  · rename_i q
    rw [q] at e
    have a : es.toList.any (·.refKey) = false := by
      rw [List.any_eq_false]
      intro y hy
      obtain ⟨z, t, hkey⟩ := hk y (Array.mem_toList_iff.mp hy)
      simp [DictEntry.refKey, hkey]
    have a' : ¬ es.toList.any (·.refKey) = true := by rw [a]; exact Bool.false_ne_true
    rw [if_neg a']
    exact congrArg some e
theorem ObjM.look {h : Heap} {x dx C : Addr} {mA : Str → Option Value} (I : ObjM h x dx C mA) : ∃ od, PySem.W.InstAt h x (PySem.W.instObj C dx) C (some od) ∧ ∀ name, PySem.W.lookIn name od = some (mA name) :=
  let ⟨od, ho, hl⟩ := lookIn_ns I.ns
  ⟨od, ⟨I.obj, rfl, rfl, ho⟩, hl⟩
section
variable {prog : Program} {w : World} {A : Around} {E : Value → Shared → Prop} {s : Shared} {K : PySem.W.Frag} {x dx C f : Addr} {mA : Str → Option Value} {name : Str} {v : Value}
theorem get_map {expr : Bool} {Q : Value → Shared → Prop} (X : K.In s.heap) (I : ObjM s.heap x dx C mA) (hg : PySem.W.plainGet K C name = true) (hh : PySem.W.hasDictIn K C = true)
    (ha : PySem.W.findIn K (.ref C) name = some none) (hv : mA name = some v) (hv' : PySem.W.handedIn v = true) (h : Q v { s with toks := s.toks + 1 }) :
    wpAny (model prog w) A (getAttr (.ref x) name expr) Q E s := by
  obtain ⟨od, J, hl⟩ := I.look
  exact PySem.W.get_value X J (PySem.W.plainGet_of hg).1 (PySem.W.findObj_own hh ha rfl (by rw [hl, hv])) hv' h
theorem get_meth {pl : Sem Bool} {Q : Value × List Value → Shared → Prop} (X : K.In s.heap) (I : ObjM s.heap x dx C mA) (hg : PySem.W.plainGet K C name = true)
    (hf : PySem.W.findIn K (.ref C) name = some (some (.ref f))) (ht : PySem.W.isFn K (.ref f) = true) (hv : mA name = none) (h : Q (.ref f, [.ref x]) s) :
    wpAny (model prog w) A (getMethod (.ref x) name pl) Q E s := by
  obtain ⟨od, J, hl⟩ := I.look
  exact PySem.W.method_fn X J (PySem.W.plainGet_of hg).1 (PySem.W.plainGet_of hg).2 hf (beq_iff_eq.mp ht) (by show (PySem.W.lookIn name od).map (·.isSome) = some false; rw [hl, hv]; rfl) h
theorem set_map {ns : List Str} {Q : Unit → Shared → Prop} (X : K.In s.heap) (I : ObjM s.heap x dx C mA)
    (hs : PySem.W.findIn K (.ref C) "__setattr__" = some (some (.builtin "object.__setattr__"))) (hp : PySem.W.plainOver K C = true) (ht : PySem.W.takerIn K C name = some none) (hh : PySem.W.hasDictIn K C = true)
    (hw : PySem.Within mA ns) (hsz : ns.length ≤ sizeLine)
    (h : ∀ h', ObjM h' x dx C (fun y => if y = name then some v else mA y) → Heap.SameBut dx s.heap h' → Q () { s with heap := h', toks := s.toks + 2 }) :
    wpAny (model prog w) A (setAttr (.ref x) name v) Q E s := by
  obtain ⟨od, J, hl⟩ := I.look
  refine PySem.W.set_plain X J hs (PySem.W.osa_open (s := { s with toks := s.toks + 1 }) (r := none) X J hp ht fun b => ?_)
  obtain ⟨cd, hc, hd'⟩ := PySem.W.any_some hh
  have hx : s.heap.get? x = some ⟨.ref C, some dx, .plain, #[]⟩ := I.obj
  refine wpAny_bind (wpAny_pure (wpAny_bind (wpAny_bind (wpAny_loadPart hx (wpAny_bind (PySem.W.Looks.here (s := { s with toks := s.toks + 1 }) (PySem.W.looks_clsIn X hc) ?_))))))
  rw [hd']
  refine wpAny_pure (a := some dx) (wpAny_bind (wpAny_pure (wpAny_bind ?_)))
  refine wpAny_nsSet1 (s := { s with toks := s.toks + 1 }) I.ns fun h' hn2 hs2 => ?_
  obtain ⟨oD, esD, epD, hoD, hdD, hcD⟩ := hn2.count (PySem.Within.cons name v hw)
  refine wpAny_bind (wpAny_lookBehind hoD (by rw [hdD]; exact pastItsLine_dict (Nat.le_trans hcD (by rw [List.length_cons]; omega))) ?_)
  exact wpAny_pure (h _ ⟨(hs2.2 _ (Ne.symm I.ne)).trans I.obj, hn2, I.ne⟩ hs2)
theorem make_map {R : Result → Shared → Prop} {vs : List Value} {kw : List (Str × Value)} (X : K.In s.heap) (hm : PySem.W.makesIn K C = true)
    (hi : PySem.W.findIn K (.ref C) "__init__" = some (some (.ref f))) (hf : PySem.W.typeIn K (.ref f) = some (.type "function"))
    (h : codeAny (model prog w) (A.under (.builtin "type.__call__" ⟨.ref C :: vs, kw⟩)) (.call (.ref f) ⟨.ref (s.heap.objs.size + 1) :: vs, kw⟩) (PySem.W.InitBack (s.heap.objs.size + 1) R)
      { s with heap := (s.heap.push PySem.W.emptyDict).push (PySem.W.instObj C s.heap.objs.size) }) :
    codeAny (model prog w) A (.call (.ref C) ⟨vs, kw⟩) R s := by
  obtain ⟨hh, g, d, t, os⟩ := s
  exact PySem.W.make_core (PySem.W.makes_of X hm) (PySem.W.looks_findIn X hi) (fun self => PySem.W.bind_fn X self hf) (.inl rfl) h
end
def putF (f : Str) (v : V) : List (Str × V) → List (Str × V)
  | [] => [(f, v)]
  | (g, x) :: r => if g = f then (g, v) :: r else (g, x) :: putF f v r
theorem lookup_putF (f g : Str) (v : V) : ∀ fs : List (Str × V), (putF f v fs).lookup g = if g = f then some v else fs.lookup g
  | [] => by
    show List.lookup g [(f, v)] = _
    by_cases h : g = f
    · have hb : (g == f) = true := beq_iff_eq.mpr h
      simp only [List.lookup, hb, if_pos h]
    · have hb : (g == f) = false := beq_eq_false_iff_ne.mpr h
      simp only [List.lookup, hb, if_neg h]
  | (k, x) :: r => by
    have ih := lookup_putF f g v r
    rw [show putF f v ((k, x) :: r) = (if k = f then (k, v) :: r else (k, x) :: putF f v r) from rfl]
    by_cases hk : k = f
    · rw [if_pos hk]
      by_cases h : g = k
      · have hb : (g == k) = true := beq_iff_eq.mpr h
        simp only [List.lookup, hb, if_pos (h.trans hk)]
      · have hb : (g == k) = false := beq_eq_false_iff_ne.mpr h
        simp only [List.lookup, hb, if_neg (fun e : g = f => h (e.trans hk.symm))]
    · rw [if_neg hk]
      by_cases h : g = k
      · have hb : (g == k) = true := beq_iff_eq.mpr h
        simp only [List.lookup, hb, if_neg (fun e : g = f => hk (h.symm.trans e))]
      · have hb : (g == k) = false := beq_eq_false_iff_ne.mpr h
        simp only [List.lookup, hb]
        exact ih
theorem keys_putF (f : Str) (v : V) : ∀ fs : List (Str × V), f ∈ (putF f v fs).map (·.1) ∧ ∀ g, g ∈ fs.map (·.1) → g ∈ (putF f v fs).map (·.1)
  | [] => ⟨by simp [putF], fun g h => by simp at h⟩
  | (k, x) :: r => by
    obtain ⟨i1, i2⟩ := keys_putF f v r
    rw [show putF f v ((k, x) :: r) = (if k = f then (k, v) :: r else (k, x) :: putF f v r) from rfl]
    by_cases hk : k = f
    · rw [if_pos hk]
      subst hk
      exact ⟨by simp, fun g h => by simpa using h⟩
    · rw [if_neg hk]
      refine ⟨?_, fun g h => ?_⟩
      · rw [List.map_cons]
        exact List.mem_cons_of_mem _ i1
      · rw [List.map_cons] at h ⊢
        rcases List.mem_cons.mp h with e | e
        · exact List.mem_cons.mpr (.inl e)
        · exact List.mem_cons_of_mem _ (i2 g e)
theorem length_putF (f : Str) (v : V) : ∀ fs : List (Str × V), (putF f v fs).length ≤ fs.length + 1
  | [] => by simp [putF]
  | (k, x) :: r => by
    have ih := length_putF f v r
    rw [show putF f v ((k, x) :: r) = (if k = f then (k, v) :: r else (k, x) :: putF f v r) from rfl]
    by_cases hk : k = f
    · rw [if_pos hk, List.length_cons, List.length_cons]; omega
    · rw [if_neg hk, List.length_cons, List.length_cons]; omega
theorem RelO.some_of {v : V} {o : Option Value} (r : RelO (some v) o) : ∃ u, o = some u ∧ RelV v u := by
  cases o with
  | none => exact (show False from r).elim
  | some u => exact ⟨u, rfl, r⟩
theorem RelO.none_of {o : Option Value} (r : RelO none o) : o = none := by
  cases o with
  | none => rfl
  | some u => exact (show False from r).elim
theorem handed_of {v : V} {u : Value} (r : RelV v u) : PySem.W.handedIn u = true := by
  cases v with
  | non => cases (show u = Value.none from r); rfl
  | bl b => cases (show u = Value.bool b from r); rfl
  | int i => obtain ⟨t, e⟩ := (show ∃ t, u = Value.int i t from r); cases e; rfl
  | str x => obtain ⟨t, e⟩ := (show ∃ t, u = Value.str x t from r); cases e; rfl
  | byt b => obtain ⟨t, e⟩ := (show ∃ t, u = Value.bytes b t from r); cases e; rfl
  | flt b => obtain ⟨t, e⟩ := (show ∃ t, u = Value.float b t from r); cases e; rfl
  | ref a => cases (show u = Value.ref a from r); rfl
  | ty n => cases (show u = Value.type n from r); rfl
section
variable {P : Program} {w : World} {H H' : Hp} {h h' : Heap} {a C dx : Addr} {fs fs' : List (Str × V)}
theorem ins_get (hok : HOk P w H h) (e : H a = some (.ins C dx fs)) : ∃ mA, ObjM h a dx C mA ∧ (∀ f, RelO (fs.lookup f) (mA f)) ∧ PySem.Within mA (fs.map (·.1)) ∧ fs.length ≤ 1000 ∧ H dx = some (.own a) := by
  obtain ⟨d, z, ne, ob, mA, n, r, q⟩ := (show ObjOk P w H h a (.ins C dx fs) from hok a _ e)
  exact ⟨mA, ⟨ob, n, ne⟩, r, q, z, d⟩
end
structure Cls (K : PySem.W.Frag) (C : Addr) : Prop where
  pg : PySem.W.plainGet K C Str.empty = true
  hd : PySem.W.hasDictIn K C = true
  po : PySem.W.plainOver K C = true
  sa : PySem.W.findIn K (.ref C) "__setattr__" = some (some (.builtin "object.__setattr__"))
theorem Cls.get {K : PySem.W.Frag} {C : Addr} (c : Cls K C) (f : Str) : PySem.W.plainGet K C f = true := c.pg
def NoAttr (K : PySem.W.Frag) (C : Addr) (f : Str) : Prop := PySem.W.findIn K (.ref C) f = some none
theorem NoAttr.taker {K : PySem.W.Frag} {C : Addr} {f : Str} (n : NoAttr K C f) : PySem.W.takerIn K C f = some none := by
  unfold PySem.W.takerIn
  rw [show PySem.W.findIn K (.ref C) f = some none from n]
  rfl
structure Con (K : PySem.W.Frag) (C : Addr) (f : Str) (v : V) (u : Value) : Prop where
  at_ : PySem.W.findIn K (.ref C) f = some (some u)
  rel : RelV v u
  get : PySem.W.specialIn K u "__get__" = some none
  cp : PySem.W.copiedNames.contains f = false
structure Meth (K : PySem.W.Frag) (C : Addr) (m : Str) (f : Addr) : Prop where
  at_ : PySem.W.findIn K (.ref C) m = some (some (.ref f))
  fn : PySem.W.isFn K (.ref f) = true
  kp : PySem.W.keepIn K (.ref f) = true
section
variable {X : Cx} {pins : List (Addr × Obj)} {σ : St} {H : Hp} {s : Shared} {a C dx : Addr} {fs : List (Str × V)} {f : Str} {v : V} {A : Around} {E : Value → Shared → Prop}
theorem getattr_ok {b : Bool} {Q : Value → Shared → Prop} (I : Inv X pins σ H s) (e : H a = some (.ins C dx fs)) (c : Cls X.K C) (n : NoAttr X.K C f) (l : fs.lookup f = some v)
    (h : ∀ u s', Inv X pins σ H s' → RelV v u → Q u s') : wpAny (model X.prog X.w) A (getAttr (.ref a) f b) Q E s := by
  obtain ⟨mA, O, r, _, _, _⟩ := ins_get I.hok e
  obtain ⟨u, hu, ru⟩ := RelO.some_of (v := v) (o := mA f) (by rw [← l]; exact r f)
  exact get_map I.kIn O (c.get f) c.hd n hu (handed_of ru) (h u _ (I.tok _) ru)
theorem getmeth_ok {m : Str} {g : Addr} {pl : Sem Bool} {Q : Value × List Value → Shared → Prop} (I : Inv X pins σ H s) (e : H a = some (.ins C dx fs)) (c : Cls X.K C) (k : Meth X.K C m g) (l : fs.lookup m = none)
    (h : Q (.ref g, [.ref a]) s) : wpAny (model X.prog X.w) A (getMethod (.ref a) m pl) Q E s := by
  obtain ⟨mA, O, r, _, _, _⟩ := ins_get I.hok e
  have hn : mA m = none := RelO.none_of (by rw [← l]; exact r m)
  exact get_meth I.kIn O (c.get m) k.at_ k.fn hn h
theorem setattr_ok {y : V} {u : Value} {Q : Unit → Shared → Prop} (I : Inv X pins σ H s) (e : H a = some (.ins C dx fs)) (c : Cls X.K C) (n : NoAttr X.K C f) (hl : fs.length < 1000) (ry : RelV y u)
    (h : ∀ s', Inv X pins σ (upd H a (.ins C dx (putF f y fs))) s' → Q () s') : wpAny (model X.prog X.w) A (setAttr (.ref a) f u) Q E s := by
  obtain ⟨mA, O, r, wi, _, ho⟩ := ins_get I.hok e
  have hz : (fs.map (·.1)).length ≤ sizeLine := by rw [List.length_map, sizeLine_eq]; omega
  refine set_map I.kIn O c.sa c.po n.taker c.hd wi hz fun h' O' sb => h _ ?_
  have hd : ∃ o, h'.get? dx = some o := let ⟨o, _, _, e', _⟩ := O'.ns; ⟨o, e'⟩
  refine I.write (x := a) (e := dx) (by rw [e]; exact True.intro) (.inr ho) (fun b q hb z => (sb.2 b hb).trans z) hd ?_
  refine ⟨by rw [upd_ne O.ne]; exact ho, ?_, O.ne, O'.obj, _, O'.ns, fun g => ?_, fun g hg => ?_⟩
  · have := length_putF f y fs; omega
  · show RelO ((putF f y fs).lookup g) (if g = f then some u else mA g)
    rw [lookup_putF]
    by_cases q : g = f
    · rw [if_pos q, if_pos q]; exact ry
    · rw [if_neg q, if_neg q]; exact r g
  · by_cases q : g = f
    · rw [q]; exact (keys_putF f y fs).1
    · refine (keys_putF f y fs).2 g (wi g fun z => hg ?_)
      show (if g = f then some u else mA g) = none
      rw [if_neg q]; exact z
theorem Inv.made (I : Inv X pins σ H s) : Inv X pins σ (upd (upd H s.heap.objs.size (.own (s.heap.objs.size + 1))) (s.heap.objs.size + 1) (.ins C s.heap.objs.size []))
    { s with heap := (s.heap.push PySem.W.emptyDict).push (PySem.W.instObj C s.heap.objs.size) } := by
  have e1 : (s.heap.push PySem.W.emptyDict).get? s.heap.objs.size = some PySem.W.emptyDict := Heap.get?_push_size s.heap rfl
  have e2 : ((s.heap.push PySem.W.emptyDict).push (PySem.W.instObj C s.heap.objs.size)).get? (s.heap.objs.size + 1) = some (PySem.W.instObj C s.heap.objs.size) := by
    have := Heap.get?_push_size (s.heap.push PySem.W.emptyDict) (o := PySem.W.instObj C s.heap.objs.size) rfl
    rwa [Heap.size_push] at this
  have e3 : (s.heap.push PySem.W.emptyDict).Ns s.heap.objs.size (fun _ => none) := ⟨PySem.W.emptyDict, #[], _, e1, rfl, (fun e he => absurd he (by simp)), fun _ => rfl⟩
  have I1 := I.laid (a := s.heap.objs.size) (o := .own (s.heap.objs.size + 1)) (h' := s.heap.push PySem.W.emptyDict) (t' := s.toks) (fun b u q => Heap.get?_push_of_some _ q) (Nat.le_refl _) ⟨_, e1⟩
  refine I1.laid (a := s.heap.objs.size + 1) (o := .ins C s.heap.objs.size []) (t' := s.toks) (fun b u q => Heap.get?_push_of_some _ q) (Nat.le_of_eq (Heap.size_push _ _)) ?_
  have ne : s.heap.objs.size ≠ s.heap.objs.size + 1 := Nat.ne_of_lt (Nat.lt_succ_self _)
  refine ⟨by rw [upd_ne ne, upd_same], Nat.zero_le _, ne, e2, fun _ => none, (Heap.Ns1.of_empty e3).at fun o q => Heap.get?_push_of_some _ q, fun _ => True.intro, fun y hy => absurd rfl hy⟩
theorem attr_of {prog : Program} {w : World} {env : Env} {e : Expr} {f : Str} {pos : Pos} {s : Shared} {Q : Value → Shared → Prop} (hb : attributeBase e f env (eval e env) = eval e env)
    (h : wpAny (model prog w) A (eval e env) (fun o s₁ => wpAny (model prog w) A (getAttr o f true) Q E s₁) E s) : wpAny (model prog w) A (eval (.Attribute e f pos) env) Q E s :=
  Attribute_any_ h (by rw [arm_eval_Attribute, hb])
end
def tFld (K : PySem.W.Frag) (ta : TE) (f : Str) : TE := fun σ H Q => ta σ H fun x H1 => ∃ a C dx fs v, x = .ref a ∧ H1 a = some (.ins C dx fs) ∧ Cls K C ∧ NoAttr K C f ∧ fs.lookup f = some v ∧ Q v H1
def sFld (K : PySem.W.Frag) (ta tv : TE) (f : Str) : TS := fun D σ H => tv σ H fun y H1 => ta σ H1 fun x H2 => ∃ a C dx fs, x = .ref a ∧ H2 a = some (.ins C dx fs) ∧ Cls K C ∧ NoAttr K C f ∧ fs.length < 1000 ∧
  D.nx σ (upd H2 a (.ins C dx (putF f y fs)))
section
variable {X : Cx} {o e value : Expr} {f : Str} {pos pos' tpos : Pos} {ta tv : TE}
theorem pe_fld (he : PE X e ta) (hb : attributeBase e f X.env (eval e X.env) = eval e X.env) : PE X (.Attribute e f pos) (tFld X.K ta f) := by
  intro pins s σ H Q I h
  refine attr_of hb (thn (he pins s σ H _ I h) fun u s1 ⟨x, H1, I1, rx, a, C, dx, fs, v, ex, ea, c, n, l, q⟩ => ?_)
  subst ex
  obtain rfl : u = Value.ref a := rx
  exact getattr_ok I1 ea c n l fun u' s2 I2 ru => ⟨v, H1, I2, ru, q⟩
theorem ps_fld (ha : PE X o ta) (hv : PE X value tv) (hs : swapsWith value (some (.Attribute o f pos')) pos.line X.env = pure false) : PS X (.Assign [.Attribute o f pos'] value pos) (sFld X.K ta tv f) := by
  intro pins s σ H D I h
  refine plainObj_wpAny_Assign_Attribute (thn (hv pins s σ H _ I h) fun u s1 ⟨y, H1, I1, ry, q⟩ => thn (ha pins s1 σ H1 _ I1 q) fun ov s2 ⟨x, H2, I2, rx, a, C, dx, fs, ex, ea, c, n, l, q2⟩ => ?_) hs
  subst ex
  obtain rfl : ov = Value.ref a := rx
  exact setattr_ok I2 ea c n l ry fun s3 I3 => ⟨σ, _, I3, q2⟩
theorem methcall_of {pl : Sem Bool} {m : Str} {apos : Pos} {args : List Expr} {pins : List (Addr × Obj)} {s : Shared} {σ : St} {H : Hp} {Q : Value → Shared → Prop} {te : TE} (he : PE X e te) (I : Inv X pins σ H s)
    (h : te σ H fun x H1 => ∃ a C dx fs g, x = .ref a ∧ H1 a = some (.ins C dx fs) ∧ Cls X.K C ∧ Meth X.K C m g ∧ fs.lookup m = none ∧
      ∀ s1, Inv X pins σ H1 s1 → wpAny (model X.prog X.w) X.A (callWith pos (.ref g) [.ref a] (backTo pos (starEach args X.env)) (backToKw pos (keywordEach [] X.env))) Q X.xe s1)
    (ht : eval (.Call (.Attribute e m apos) args [] pos) X.env = (do
      let ov ← eval e X.env
      standAt apos.atName
      let (f, first) ← holding [ov] (getMethod ov m pl)
      callWith pos f first (backTo pos (starEach args X.env)) (backToKw pos (keywordEach [] X.env)))) :
    wpAny (model X.prog X.w) X.A (eval (.Call (.Attribute e m apos) args [] pos) X.env) Q X.xe s := by
  refine PySem.W.methodCall_KW (pl := pl) (thn (he pins s σ H _ I h) fun u s1 ⟨x, H1, I1, rx, a, C, dx, fs, g, ex, ea, c, k, l, q⟩ => ?_) ht
  subst ex
  obtain rfl : u = Value.ref a := rx
  exact getmeth_ok I1 ea c k l (q s1 I1)
end
section
variable {X : Cx} {pins : List (Addr × Obj)} {σ : St} {H : Hp} {s : Shared} {A : Around} {E : Value → Shared → Prop} {Q : Value → Shared → Prop} {c : Value} {b : Bool}
inductive TyOf (K : PySem.W.Frag) (H : Hp) : V → Value → Prop where
  | non : TyOf K H .non (.type "NoneType")
  | bl (x : Bool) : TyOf K H (.bl x) (.type "bool")
  | int (i : Int) : TyOf K H (.int i) (.type "int")
  | str (x : Str) : TyOf K H (.str x) (.type "str")
  | flt (x : UInt64) : TyOf K H (.flt x) (.type "float")
  | lst {a : Addr} {xs : List V} (e : H a = some (.lst xs)) : TyOf K H (.ref a) (.type "list")
  | frz {a : Addr} {o : Obj} {xs : List V} (e : H a = some (.frz o (.lst xs))) : TyOf K H (.ref a) (.type "list")
  | tup {a : Addr} {xs : List V} (e : H a = some (.tup xs)) : TyOf K H (.ref a) (.type "tuple")
  | dK {a : Addr} {kvs : List (Key × V)} (e : H a = some (.dK kvs)) : TyOf K H (.ref a) (.type "dict")
  | dT {a : Addr} {kvs : List (List Key × V)} (e : H a = some (.dT kvs)) : TyOf K H (.ref a) (.type "dict")
  | ins {a C dx : Addr} {fs : List (Str × V)} (e : H a = some (.ins C dx fs)) (cl : Cls K C) (ha : PySem.W.findIn K (.ref C) "__class__" = some (some (.builtin "object.__class__")))
      (hn : PySem.W.specialIn K (.builtin "object.__class__") "__get__" = some (some (.builtin "getset_descriptor.__get__"))) (htk : PySem.W.takesIn K (.builtin "object.__class__") = some true)
      (hm : PySem.W.mroIn K C (.type "object") = some true) : TyOf K H (.ref a) (.ref C)
theorem isinst_ok {x : V} {u t : Value} (I : Inv X pins σ H s) (rx : RelV x u) (ty : TyOf X.K H x t) (e : PySem.W.kitOne X.K t c = some b) (h : ∀ tk, Q (.bool b) { s with toks := tk }) :
    wpAny (model X.prog X.w) A (call (.builtin "isinstance") [u, c]) Q E s := by
  cases ty with
  | non => cases (show u = Value.none from rx); exact PySem.W.kia_one PySem.W.kitx_none I.kIn True.intro e (fun z => nomatch z) h
  | bl y => cases (show u = Value.bool y from rx); exact PySem.W.kia_one PySem.W.kitx_bool I.kIn True.intro e (fun z => nomatch z) h
  | int i => obtain ⟨t, q⟩ := (show ∃ t, u = Value.int i t from rx); cases q; exact PySem.W.kia_one PySem.W.kitx_int I.kIn True.intro e (fun z => nomatch z) h
  | str y => obtain ⟨t, q⟩ := (show ∃ t, u = Value.str y t from rx); cases q; exact PySem.W.kia_one PySem.W.kitx_str I.kIn True.intro e (fun z => nomatch z) h
  | flt y => obtain ⟨t, q⟩ := (show ∃ t, u = Value.float y t from rx); cases q; exact PySem.W.kia_one PySem.W.kitx_float I.kIn True.intro e (fun z => nomatch z) h
  | @lst a xs ea =>
    cases (show u = Value.ref a from rx)
    obtain ⟨_, _, n, _, h1⟩ := (show ObjOk X.prog X.w H s.heap a (.lst xs) from I.hok a _ ea)
    exact PySem.W.kia_one PySem.W.kitx_list I.kIn ⟨_, h1, rfl⟩ e (fun z => nomatch z) h
  | @frz a ob xs ea =>
    cases (show u = Value.ref a from rx)
    obtain ⟨_, _, _, n, _, h1⟩ := (show ObjOk X.prog X.w H s.heap a (.frz ob (.lst xs)) from I.hok a _ ea)
    exact PySem.W.kia_one PySem.W.kitx_list I.kIn ⟨_, h1, rfl⟩ e (fun z => nomatch z) h
  | @tup a xs ea =>
    cases (show u = Value.ref a from rx)
    obtain ⟨_, _, _, p⟩ := (show ObjOk X.prog X.w H s.heap a (.tup xs) from I.hok a _ ea)
    obtain ⟨o, h1, h2, _⟩ := p
    exact PySem.W.kia_one PySem.W.kitx_tuple I.kIn ⟨o, h1, h2⟩ e (fun z => nomatch z) h
  | @dK a kvs ea =>
    cases (show u = Value.ref a from rx)
    obtain ⟨_, _, vs, _, p⟩ := (show ObjOk X.prog X.w H s.heap a (.dK kvs) from I.hok a _ ea)
    obtain ⟨o, es, ep, h1, h2, _⟩ := p
    exact PySem.W.kia_one PySem.W.kitx_dict I.kIn ⟨o, h1, h2.1⟩ e (fun z => nomatch z) h
  | @dT a kvs ea =>
    cases (show u = Value.ref a from rx)
    obtain ⟨_, _, xs, _, o, es, ep, h1, h2, _⟩ := (show ObjOk X.prog X.w H s.heap a (.dT kvs) from I.hok a _ ea)
    exact PySem.W.kia_one PySem.W.kitx_dict I.kIn ⟨o, h1, h2.1⟩ e (fun z => nomatch z) h
  | @ins a C dx fs ea cl ha hn htk hm =>
    cases (show u = Value.ref a from rx)
    obtain ⟨mA, O, _⟩ := ins_get I.hok ea
    obtain ⟨od, J, _⟩ := O.look
    exact PySem.W.kia_one (PySem.W.kitx_own (cl.get _) cl.hd ha hn htk hm) I.kIn J e (fun z => nomatch z) h
end
end L2
namespace L2
open PySem PySem.Spec PyProof.Rows
structure Room (k : Nat) (A : Around) : Prop where
  hd : A.handled = none
  dp : A.depth + 3 * k + 5 < recursionLimit
  un : A.units + 16 * k + 200 < cLine
theorem Room.mono {j k : Nat} {A : Around} (r : Room k A) (h : j ≤ k) : Room j A := ⟨r.hd, by have := r.dp; omega, by have := r.un; omega⟩
theorem Room.deeper {k : Nat} {A : Around} (r : Room (k + 1) A) (env : Env) : Room k (A.deeper env) :=
  ⟨r.hd, by have := r.dp; show A.depth + 1 + 3 * k + 5 < _; omega, by have := r.un; show A.units + 3 + 16 * k + 200 < _; omega⟩
theorem make_depth {A : Around} {C : Addr} {us : List Value} {kw : List (Str × Value)} : (A.under (.builtin "type.__call__" ⟨.ref C :: us, kw⟩)).depth = A.depth + 1 := by
  first | rfl | simp [Around.under, Code.weight, Code.isCreation, Code.isGuard, Code.isCaller, Code.frames, Code.isFrame, guardIds]
theorem make_units {A : Around} {C : Addr} {us : List Value} {kw : List (Str × Value)} : (A.under (.builtin "type.__call__" ⟨.ref C :: us, kw⟩)).units = A.units + 1 := by
  first | rfl | simp [Around.under, Code.cUnits, Code.frames, Code.isFrame]
theorem Room.make {k : Nat} {A : Around} (r : Room (k + 1) A) (C : Addr) (us : List Value) (kw : List (Str × Value)) : Room k (A.under (.builtin "type.__call__" ⟨.ref C :: us, kw⟩)) :=
  ⟨r.hd, by have := r.dp; rw [make_depth]; omega, by have := r.un; rw [make_units]; omega⟩
theorem Room.depth {k : Nat} {A : Around} (r : Room k A) : A.depth < recursionLimit := by have := r.dp; omega
theorem Room.units {k : Nat} {A : Around} (r : Room k A) : A.units + 64 < cLine := by have := r.un; omega
def tNil : TA := fun _ H Q => Q [] H
def tCons (ta : TE) (tr : TA) : TA := fun σ H Q => ta σ H fun x H1 => tr σ H1 fun xs H2 => Q (x :: xs) H2
section
variable {X : Cx} {e : Expr} {es : List Expr} {te : TE} {t : TA} {pos : Pos}
theorem pa_nil : PA X [] tNil := fun _ _ _ _ H Q I h => Calls.spliced_nil ⟨[], H, I, .nil, h⟩
theorem pa_cons (ha : PE X e te) (hr : PA X es t) (hs : starEach (e :: es) X.env = (false, eval e X.env) :: starEach es X.env := by rfl) : PA X (e :: es) (tCons te t) := by
  intro pos pins s σ H Q I h
  rw [hs]
  show wpAny _ _ (spliced ((false, eval e X.env) :: backTo pos (starEach es X.env))) _ _ s
  refine Calls.spliced_cons (thn (ha pins s σ H _ I h) fun u s1 ⟨x, H1, I1, r1, q1⟩ => ?_)
  exact thn (hr pos pins s1 σ H1 _ I1 q1) fun us s2 ⟨xs, H2, I2, r2, q2⟩ => ⟨x :: xs, H2, I2, .cons r1 r2, q2⟩
def tTup (t : TA) : TE := fun σ H Q => t σ H fun xs H1 => xs.length ≤ sizeLine ∧ ∀ p, H1 p = none → Q (.ref p) (upd H1 p (.tup xs))
def tLst (t : TA) : TE := fun σ H Q => t σ H fun xs H1 => xs.length ≤ sizeLine ∧ ∀ p, H1 p = none → Q (.ref p) (upd H1 p (.lst xs))
theorem pe_tup {x1} (h : PA X es t) : PE X (.Tuple es x1 pos) (tTup t) := by
  intro pins s σ H Q I hq
  refine wpAny_Tuple_spliced (thn (h pos pins s σ H _ I hq) fun us s1 ⟨xs, H1, I1, r, z, q⟩ => ⟨by rw [← r.length]; exact z, ?_⟩)
  have hf : H1 s1.heap.objs.size = none := I1.hok.fresh (Nat.le_refl _)
  refine ⟨.ref s1.heap.objs.size, upd H1 s1.heap.objs.size (.tup xs), I1.laid (t' := s1.toks) (fun b u e => Heap.get?_push_of_some _ e) (Nat.le_refl _) ?_, rfl, q _ hf⟩
  exact ⟨z, us, r, ⟨_, Heap.get?_push_size _ rfl, rfl, _, rfl⟩⟩
theorem pe_lst (h : PA X es t) : PE X (.List es pos) (tLst t) := by
  intro pins s σ H Q I hq
  refine wpAny_List_spliced (thn (h pos pins s σ H _ I hq) fun us s1 ⟨xs, H1, I1, r, z, q⟩ => ⟨by rw [← r.length]; exact z, ?_⟩)
  have hf : H1 s1.heap.objs.size = none := I1.hok.fresh (Nat.le_refl _)
  refine ⟨.ref s1.heap.objs.size, upd H1 s1.heap.objs.size (.lst xs), I1.laid (t' := s1.toks) (fun b u e => Heap.get?_push_of_some _ e) (Nat.le_refl _) ?_, rfl, q _ hf⟩
  exact ⟨z, us, 0, r, Heap.get?_push_size _ rfl⟩
end
abbrev Sp := List V → Hp → VK → XK → Prop
abbrev CXT := List Env → Hp → Shared → XK → Value → Shared → Prop
structure Env0 (P : Program) (w : World) (K : PySem.W.Frag) (mg : Str → Option Value) (base : Heap) (A : Around) (outer : List Env) (s : Shared) (H : Hp) : Prop where
  frames : A.frames = some outer
  mod : Mod K mg base
  bs : ∀ b o, base.get? b = some o → s.heap.get? b = some o ∧ H b = none
  bsz : base.objs.size ≤ s.heap.objs.size
  funs : s.heap.FunFrames base outer
  frf : ∀ b ∈ frs outer, H b = none
  hok : HOk P w H s.heap
  bare : AllBare s.gens
def CE (outer : List Env) (P : Program) (w : World) (H : Hp) (s : Shared) (Q : VK) (u : Value) (s' : Shared) : Prop :=
  ∃ v H', s'.os = s.os ∧ AllBare s'.gens ∧ Un (frs outer) [] H H' s.heap s'.heap ∧ HOk P w H' s'.heap ∧ RelV v u ∧ Q v H'
def CR (CX : CXT) (outer : List Env) (P : Program) (w : World) (H : Hp) (s : Shared) (Q : VK) (E : XK) (r : Result) (s' : Shared) : Prop :=
  match r with
  | .ok (.ret u) => CE outer P w H s Q u s'
  | .ok _ => False
  | .error e => CX outer H s E e s'
structure FnOk (P : Program) (w : World) (K : PySem.W.Frag) (mg : Str → Option Value) (base : Heap) (CX : CXT) (k : Nat) (f : Addr) (fd : FuncData) (ps : List Str) (sp : Sp) : Prop where
  len : ∀ vs H Q E, sp vs H Q E → vs.length = ps.length
  run : ∀ (A : Around) (outer : List Env) (s : Shared) (H : Hp) (args : Args) (us : List Value) (vs : List V) (Q : VK) (E : XK), Room k A → Env0 P w K mg base A outer s H → BindsTo s fd args (ps.zip us) → Vals vs us → sp vs H Q E →
    codeAny (model P w) A (.call (.ref f) args) (CR CX outer P w H s Q E) s
theorem FnOk.mono {P : Program} {w : World} {K : PySem.W.Frag} {mg : Str → Option Value} {base : Heap} {CX : CXT} {j k : Nat} {f : Addr} {fd : FuncData} {ps : List Str} {sp : Sp} (F : FnOk P w K mg base CX j f fd ps sp) (h : j ≤ k) :
    FnOk P w K mg base CX k f fd ps sp := ⟨F.len, fun A outer s H args us vs Q E hr => F.run A outer s H args us vs Q E (hr.mono h)⟩
theorem FnOk.imp {P : Program} {w : World} {K : PySem.W.Frag} {mg : Str → Option Value} {base : Heap} {CX : CXT} {k : Nat} {f : Addr} {fd : FuncData} {ps : List Str} {sp sp' : Sp} (F : FnOk P w K mg base CX k f fd ps sp)
    (h : ∀ vs H Q E, sp' vs H Q E → sp vs H Q E) : FnOk P w K mg base CX k f fd ps sp' :=
  ⟨fun vs H Q E q => F.len vs H Q E (h _ _ _ _ q), fun A outer s H args us vs Q E hr he hb hv hs => F.run A outer s H args us vs Q E hr he hb hv (h _ _ _ _ hs)⟩
theorem Env0.make {P : Program} {w : World} {K : PySem.W.Frag} {mg : Str → Option Value} {base : Heap} {A : Around} {outer : List Env} {s : Shared} {H : Hp} (e : Env0 P w K mg base A outer s H) (C : Addr) (us : List Value) (kw : List (Str × Value)) :
    Env0 P w K mg base (A.under (.builtin "type.__call__" ⟨.ref C :: us, kw⟩)) outer s H := ⟨by first | exact e.frames | (simpa [Around.under, Code.envs, Code.isFrame, pushEnvs] using e.frames), e.mod, e.bs, e.bsz, e.funs, e.frf, e.hok, e.bare⟩
section
variable {X : Cx} {pins : List (Addr × Obj)} {σ : St} {H : Hp} {s s' : Shared}
theorem Inv.env0 (I : Inv X pins σ H s) : Env0 X.prog X.w X.K X.mg X.base X.A X.stack s H :=
  ⟨I.ok.frames, I.ok.mod, I.bs, Nat.le_trans I.ok.bsz I.sz, I.stack, I.stkFree, I.hok, I.bare⟩
theorem Inv.after {Q : VK} {u : Value} (I : Inv X pins σ H s) (h : CE X.stack X.prog X.w H s Q u s') : EP X pins σ Q u s' := by
  obtain ⟨v, H', os, bare, un, hok, r, q⟩ := h
  obtain ⟨hh, g, d, t, os'⟩ := s'
  obtain rfl : os' = s.os := os
  exact ⟨v, H', I.call (h' := hh) (g' := g) (d' := d) (t' := t) (ch := []) un hok bare (fun b z => absurd z (by simp)), r, q⟩
end
def tCall (sp : Sp) (dvs : List V) (E : XK) (t : TA) : TE := fun σ H Q => t σ H fun vs H1 => sp (vs ++ dvs) H1 Q E
def tMeth (C : Addr) (m : Str) (sp : Sp) (dvs : List V) (E : XK) (ta : TE) (t : TA) : TE := fun σ H Q => ta σ H fun x H1 => ∃ a dx fs, x = .ref a ∧ H1 a = some (.ins C dx fs) ∧ fs.lookup m = none ∧
  t σ H1 fun vs H2 => sp (x :: (vs ++ dvs)) H2 Q E
def tMake (C : Addr) (sp : Sp) (dvs : List V) (E : XK) (t : TA) : TE := fun σ H Q => t σ H fun vs H1 => ∀ x dx, H1 x = none → H1 dx = none → dx ≠ x →
  sp (.ref x :: (vs ++ dvs)) (upd (upd H1 dx (.own x)) x (.ins C dx [])) (fun v H2 => v = .non ∧ Q (.ref x) H2) E
def Binds (K : PySem.W.Frag) (fd : FuncData) (ps : List Str) (ds : List Value) : Prop :=
  ∀ (s : Shared) (us : List Value), K.In s.heap → (us ++ ds).length = ps.length → BindsTo s fd ⟨us, []⟩ (ps.zip (us ++ ds))
theorem Binds.all {K : PySem.W.Frag} {fd : FuncData} {ps : List Str} (h : ∀ us : List Value, us.length = ps.length → bindArgs fd ⟨us, []⟩ = pure (ps.zip us)) : Binds K fd ps [] := fun s us _ hl => by
  rw [List.append_nil] at hl ⊢
  exact .of_eq (h us hl)
def Passes (CX : CXT) (X : Cx) (E : XK) : Prop := ∀ (pins : List (Addr × Obj)) (σ : St) (H : Hp) (s : Shared) (e : Value) (s' : Shared), Inv X pins σ H s → CX X.stack H s E e s' → X.xe e s'
section
variable {X : Cx} {CX : CXT} {k : Nat} {f C : Addr} {fd : FuncData} {ps : List Str} {sp : Sp} {dvs : List V} {ds : List Value} {E : XK} {x m : Str} {p pos apos : Pos} {e o : Expr} {es : List Expr} {ta : TE} {t : TA}
theorem run_fn {pins : List (Addr × Obj)} {σ : St} {H : Hp} {s : Shared} {Q : VK} {us : List Value} {vs : List V} (F : FnOk X.prog X.w X.K X.mg X.base CX k f fd ps sp) (hr : Room k X.A) (hb : Binds X.K fd ps ds) (hd : Vals dvs ds) (hx : Passes CX X E)
    (I : Inv X pins σ H s) (r : Vals vs us) (h : sp (vs ++ dvs) H Q E) : wpAny (model X.prog X.w) X.A (call (.ref f) us) (EP X pins σ Q) X.xe s := by
  have r2 : Vals (vs ++ dvs) (us ++ ds) := r.append hd
  have hl : (us ++ ds).length = ps.length := by rw [← r2.length]; exact F.len _ _ _ _ h
  refine wpAny_call (codeAny_mono (F.run X.A X.stack s H ⟨us, []⟩ (us ++ ds) (vs ++ dvs) Q E hr I.env0 (hb s us I.kIn hl) r2 h) fun r s' hq => ?_)
  cases r with
  | error e => exact hx pins σ H s e s' I hq
  | ok fl =>
    cases fl with
    | ret u => exact I.after hq
    | next => exact False.elim hq
    | brk => exact False.elim hq
    | cont => exact False.elim hq
theorem pe_call (F : FnOk X.prog X.w X.K X.mg X.base CX k f fd ps sp) (hr : Room k X.A) (hg : Gl X x) (hm : X.mg x = some (.ref f)) (hk : PySem.W.keepIn X.K (.ref f) = true) (hb : Binds X.K fd ps ds) (hd : Vals dvs ds) (hx : Passes CX X E)
    (ha : PA X (e :: es) t) (hdb : (x == ("__debug__" : Str)) = false := by decide) (he : starEach (e :: es) X.env = (false, eval e X.env) :: starEach es X.env := by rfl) (hpl : (backTo pos (starEach es X.env)).any (·.1) = false := by rfl) :
    PE X (.Call (.Name x p) (e :: es) [] pos) (tCall sp dvs E t) := by
  intro pins s σ H Q I h
  refine wpAny_Call_Name_kw (ld_glob I hg hm ?_ hdb)
  refine PySem.W.callWith_K (h₀ := X.base) I.ok.mod.kin hk (thn (ha pos pins s σ H _ I h) fun us s1 ⟨vs, H1, I1, r, q⟩ => ⟨I1.kIn, ?_⟩) he hpl
  exact run_fn F hr hb hd hx I1 r q
theorem pe_meth {pl : Sem Bool} (he : PE X o ta) (c : Cls X.K C) (hm : Meth X.K C m f) (F : FnOk X.prog X.w X.K X.mg X.base CX k f fd ps sp) (hr : Room k X.A) (hb : Binds X.K fd ps ds) (hd : Vals dvs ds) (hx : Passes CX X E) (ha : PA X (e :: es) t)
    (hst : starEach (e :: es) X.env = (false, eval e X.env) :: starEach es X.env := by rfl) (hpl : (backTo pos (starEach es X.env)).any (·.1) = false := by rfl)
    (ht : eval (.Call (.Attribute o m apos) (e :: es) [] pos) X.env = (do
      let ov ← eval o X.env
      standAt apos.atName
      let (f, first) ← holding [ov] (getMethod ov m pl)
      callWith pos f first (backTo pos (starEach (e :: es) X.env)) (backToKw pos (keywordEach [] X.env))) := by rfl) :
    PE X (.Call (.Attribute o m apos) (e :: es) [] pos) (tMeth C m sp dvs E ta t) := by
  intro pins s σ H Q I h
  refine PySem.W.methodCall_KW (pl := pl) (thn (he pins s σ H _ I h) fun u s1 ⟨x, H1, I1, rx, a, dx, fs, ex, ea, l, q⟩ => ?_) ht
  subst ex
  obtain rfl : u = Value.ref a := rx
  refine getmeth_ok I1 ea c hm l ?_
  refine PySem.W.callWith_K (first := [.ref a]) (h₀ := X.base) I.ok.mod.kin hm.kp (thn (ha pos pins s1 σ H1 _ I1 q) fun us s2 ⟨vs, H2, I2, r, q2⟩ => ⟨I2.kIn, ?_⟩) hst hpl
  exact run_fn (us := .ref a :: us) (vs := .ref a :: vs) F hr hb hd hx I2 (.cons rfl r) q2
theorem pe_meth0 {pl : Sem Bool} (he : PE X o ta) (c : Cls X.K C) (hm : Meth X.K C m f) (F : FnOk X.prog X.w X.K X.mg X.base CX k f fd ps sp) (hr : Room k X.A) (hb : Binds X.K fd ps ds) (hd : Vals dvs ds) (hx : Passes CX X E)
    (ht : eval (.Call (.Attribute o m apos) [] [] pos) X.env = (do
      let ov ← eval o X.env
      standAt apos.atName
      let (f, first) ← holding [ov] (getMethod ov m pl)
      callWith pos f first (backTo pos (starEach [] X.env)) (backToKw pos (keywordEach [] X.env))) := by rfl) :
    PE X (.Call (.Attribute o m apos) [] [] pos) (tMeth C m sp dvs E ta tNil) := by
  intro pins s σ H Q I h
  refine PySem.W.methodCall_KW (pl := pl) (thn (he pins s σ H _ I h) fun u s1 ⟨x, H1, I1, rx, a, dx, fs, ex, ea, l, q⟩ => ?_) ht
  subst ex
  obtain rfl : u = Value.ref a := rx
  refine getmeth_ok I1 ea c hm l ?_
  exact PySem.W.callWith_K0 (first := [.ref a]) I1.kIn hm.kp (run_fn (us := [.ref a]) (vs := [.ref a]) F hr hb hd hx I1 (.cons rfl .nil) q)
structure Mk (K : PySem.W.Frag) (C f : Addr) : Prop where
  makes : PySem.W.makesIn K C = true
  init : PySem.W.findIn K (.ref C) "__init__" = some (some (.ref f))
  fn : PySem.W.isFn K (.ref f) = true
  kp : PySem.W.keepIn K (.ref C) = true
theorem run_make {pins : List (Addr × Obj)} {σ : St} {H : Hp} {s : Shared} {Q : VK} {us : List Value} {vs : List V} (M : Mk X.K C f) (F : FnOk X.prog X.w X.K X.mg X.base CX k f fd ps sp) (hr : Room (k + 1) X.A) (hb : Binds X.K fd ps ds) (hd : Vals dvs ds)
    (hx : Passes CX X E) (I : Inv X pins σ H s) (r : Vals vs us)
    (h : ∀ x dx, H x = none → H dx = none → dx ≠ x → sp (.ref x :: (vs ++ dvs)) (upd (upd H dx (.own x)) x (.ins C dx [])) (fun v H2 => v = .non ∧ Q (.ref x) H2) E) :
    wpAny (model X.prog X.w) X.A (call (.ref C) us) (EP X pins σ Q) X.xe s := by
  have hq := h (s.heap.objs.size + 1) s.heap.objs.size (I.hok.fresh (Nat.le_succ _)) (I.hok.fresh (Nat.le_refl _)) (Nat.ne_of_lt (Nat.lt_succ_self _))
  have I2 := Inv.made (C := C) I
  have r2 : Vals (V.ref (s.heap.objs.size + 1) :: (vs ++ dvs)) (Value.ref (s.heap.objs.size + 1) :: (us ++ ds)) := .cons rfl (r.append hd)
  have hl : (Value.ref (s.heap.objs.size + 1) :: us ++ ds).length = ps.length := by
    have e := r2.length
    rw [F.len _ _ _ _ hq] at e
    exact e.symm
  refine wpAny_call (make_map (f := f) I.kIn M.makes M.init (beq_iff_eq.mp M.fn) (codeAny_mono (F.run _ X.stack _ _ ⟨Value.ref (s.heap.objs.size + 1) :: us, []⟩ (Value.ref (s.heap.objs.size + 1) :: (us ++ ds)) _ _ E (hr.make C us [])
    (I2.env0.make C us []) (hb _ (Value.ref (s.heap.objs.size + 1) :: us) I2.kIn hl) r2 hq) fun r s' hq' => ?_))
  cases r with
  | error e => exact hx pins σ _ _ e s' I2 hq'
  | ok fl =>
    cases fl with
    | ret u =>
      obtain ⟨v, H', I3, rv, ev, q3⟩ := I2.after hq'
      subst ev
      exact ⟨rv, ⟨V.ref (s.heap.objs.size + 1), H', I3, rfl, q3⟩⟩
    | next => exact False.elim hq'
    | brk => exact False.elim hq'
    | cont => exact False.elim hq'
theorem pe_make (M : Mk X.K C f) (F : FnOk X.prog X.w X.K X.mg X.base CX k f fd ps sp) (hr : Room (k + 1) X.A) (hg : Gl X x) (hm : X.mg x = some (.ref C)) (hb : Binds X.K fd ps ds) (hd : Vals dvs ds) (hx : Passes CX X E)
    (ha : PA X (e :: es) t) (hdb : (x == ("__debug__" : Str)) = false := by decide) (he : starEach (e :: es) X.env = (false, eval e X.env) :: starEach es X.env := by rfl) (hpl : (backTo pos (starEach es X.env)).any (·.1) = false := by rfl) :
    PE X (.Call (.Name x p) (e :: es) [] pos) (tMake C sp dvs E t) := by
  intro pins s σ H Q I h
  refine wpAny_Call_Name_kw (ld_glob I hg hm ?_ hdb)
  refine PySem.W.callWith_K (h₀ := X.base) I.ok.mod.kin M.kp (thn (ha pos pins s σ H _ I h) fun us s1 ⟨vs, H1, I1, r, q⟩ => ⟨I1.kIn, ?_⟩) he hpl
  exact run_make M F hr hb hd hx I1 r q
end
section
variable {X : Cx} {CX : CXT} {k : Nat} {f C : Addr} {fd : FuncData} {ps ks : List Str} {sp : Sp} {E : XK} {x m : Str} {p pos apos kpos : Pos} {e o : Expr} {es : List Expr} {kws : List Keyword} {te ta : TE} {t tk : TA} {nm : Option Str}
structure KBinds (K : PySem.W.Frag) (fd : FuncData) (ps ks : List Str) (g : List Value → List Value → List Value) (gV : List V → List V → List V) : Prop where
  to : ∀ (s : Shared) (us ws : List Value), K.In s.heap → (g us ws).length = ps.length → BindsTo s fd ⟨us, ks.zip ws⟩ (ps.zip (g us ws))
  rel : ∀ {vs : List V} {us : List Value} {zs : List V} {ws : List Value}, Vals vs us → Vals zs ws → Vals (gV vs zs) (g us ws)
variable {g : List Value → List Value → List Value} {gV : List V → List V → List V}
end
structure FnScope (N P : List Str) (sc : Scope) : Prop where
  kind : sc.kind = .function
  co : sc.isCoroutine = false
  gen : sc.isGenerator = false
  nd : N.Nodup
  pre : N.take P.length = P
  par : ∀ x ∈ P, sc.names.lookup x = some .local ∨ sc.names.lookup x = some .cell
  nofree : ∀ y ∈ sc.names, y.2 ≠ .free
theorem bindL_out {kindOf : Str → Option NameKind} {x : Str} : ∀ {binds : List (Str × Value)} {m : Str → Option Value}, (∀ v, (x, v) ∉ binds) → bindL kindOf binds m x = m x
  | [], _, _ => rfl
  | (n, v) :: r, m, h => by
    unfold bindL
    rw [bindL_out fun w hw => h w (List.mem_cons_of_mem _ hw)]
    split
    · have : x ≠ n := by rintro rfl; exact h v List.mem_cons_self
      simp [this]
    · rfl
theorem bindC_out {kindOf : Str → Option NameKind} {x : Str} : ∀ {binds : List (Str × Value)} {m : Str → Option Value}, (∀ v, (x, v) ∉ binds) → bindC kindOf binds m x = m x
  | [], _, _ => rfl
  | (n, v) :: r, m, h => by
    unfold bindC
    rw [bindC_out fun w hw => h w (List.mem_cons_of_mem _ hw)]
    split
    · rfl
    · have : x ≠ n := by rintro rfl; exact h v List.mem_cons_self
      simp [this]
theorem bindL_get {kindOf : Str → Option NameKind} {x : Str} {v : Value} : ∀ {P : List Str} {vs : List Value} {i : Nat} {m : Str → Option Value}, P.Nodup → P[i]? = some x → vs[i]? = some v → kindOf x = some .local →
    bindL kindOf (P.zip vs) m x = some v
  | [], _, _, _, _, h, _, _ => by simp at h
  | _ :: _, [], _, _, _, _, h, _ => by simp at h
  | p :: P, w :: vs, 0, m, nd, h1, h2, hk => by
    simp at h1 h2; subst h1; subst h2
    show bindL kindOf ((p, w) :: P.zip vs) m p = _
    unfold bindL
    rw [bindL_out fun v hv => (List.nodup_cons.mp nd).1 (List.of_mem_zip hv).1, if_pos hk]
    simp
  | p :: P, w :: vs, i + 1, m, nd, h1, h2, hk => by
    show bindL kindOf ((p, w) :: P.zip vs) m x = _
    unfold bindL
    exact bindL_get (i := i) (List.nodup_cons.mp nd).2 (by simpa using h1) (by simpa using h2) hk
theorem bindC_get {kindOf : Str → Option NameKind} {x : Str} {v : Value} : ∀ {P : List Str} {vs : List Value} {i : Nat} {m : Str → Option Value}, P.Nodup → P[i]? = some x → vs[i]? = some v → kindOf x ≠ some .local →
    bindC kindOf (P.zip vs) m x = some v
  | [], _, _, _, _, h, _, _ => by simp at h
  | _ :: _, [], _, _, _, _, h, _ => by simp at h
  | p :: P, w :: vs, 0, m, nd, h1, h2, hk => by
    simp at h1 h2; subst h1; subst h2
    show bindC kindOf ((p, w) :: P.zip vs) m p = _
    unfold bindC
    rw [bindC_out fun v hv => (List.nodup_cons.mp nd).1 (List.of_mem_zip hv).1, if_neg hk]
    simp
  | p :: P, w :: vs, i + 1, m, nd, h1, h2, hk => by
    show bindC kindOf ((p, w) :: P.zip vs) m x = _
    unfold bindC
    exact bindC_get (i := i) (List.nodup_cons.mp nd).2 (by simpa using h1) (by simpa using h2) hk
def start (N : List Str) (vs : List V) : St := vs.map some ++ List.replicate (N.length - vs.length) none
def cxOf (CX : CXT) (P : Program) (w : World) (K : PySem.W.Frag) (mg : Str → Option Value) (base : Heap) (N : List Str) (qual : Str) (scope : Scope) (f : Addr) (cd : Value) (A : Around) (outer : List Env) (s : Shared) (H : Hp) (E : XK) : Cx where
  prog := P
  w := w
  K := K
  mg := mg
  base := base
  A := A.deeper (envOfC qual scope s.heap.objs.size f cd)
  N := N
  s₀ := s
  H₀ := H
  env := envOfC qual scope s.heap.objs.size f cd
  outer := outer
  stack := envOfC qual scope s.heap.objs.size f cd :: outer
  ex := []
  calm := true
  fn := fun _ => true
  pn := []
  xe := fun e s' => wpAny (model P w) (A.deeper (envOfC qual scope s.heap.objs.size f cd)) (leaving (envOfC qual scope s.heap.objs.size f cd) e) (fun _ s'' => CX outer H s E e s'') (fun e' s'' => CX outer H s E e' s'') s'
theorem cell_has {sc : Scope} {n : Nat} {x : Str} (h : sc.names.lookup x = some .cell) : ∃ c, (cellsFrom n sc.names []).lookup x = some c := by
  have q := PySem.W.cellsFrom_some sc.names n [] (.inl h)
  exact Option.isSome_iff_exists.mp q
theorem inv_start {CX : CXT} {P : Program} {w : World} {K : PySem.W.Frag} {mg : Str → Option Value} {base : Heap} {N ps : List Str} {qual : Str} {scope : Scope} {f : Addr} {cd : Value} {A : Around} {outer : List Env} {s s1 : Shared} {H : Hp} {E : XK} {us : List Value} {vs : List V}
    (S : FnScope N ps scope) (hd : A.handled = none) (e0 : Env0 P w K mg base A outer s H) (hl : vs.length = ps.length) (r : Vals vs us)
    (x : InCallC s s.heap.objs.size (bindL (envOfC qual scope s.heap.objs.size f cd).kindOf (ps.zip us) fun _ => none) (cellsFrom (s.heap.objs.size + 1) scope.names []) (bindC (envOfC qual scope s.heap.objs.size f cd).kindOf (ps.zip us) fun _ => none) s1) :
    Inv (cxOf CX P w K mg base N qual scope f cd A outer s H E) [] (start N vs) H s1 := by
  have hpl : ps.length ≤ N.length := by have := congrArg List.length S.pre; rw [List.length_take] at this; omega
  obtain ⟨h1, tk, rfl, hk⟩ := x.done
  have noA : ∀ b : Addr, b ∉ (cxOf CX P w K mg base N qual scope f cd A outer s H E).ex := fun b z => absurd (show b ∈ ([] : List Addr) from z) (by simp)
  refine ⟨⟨e0.mod, S.kind, rfl, rfl, Nat.le_refl _, fun y z c h1 h2 => ?_, fun y hy => ?_, fun y c _ h => ?_, fun _ => hd, Around.frames_deeper e0.frames, .inr ⟨rfl, rfl⟩, fun b z => absurd z (noA b), e0.bs, e0.bsz, fun b _ _ => noA b, fun b z => absurd z (noA b), e0.funs, e0.frf⟩,
    rfl, e0.bare, Un.kept hk, ⟨_, x.toInCall.ns, fun i y v h1 h2 h3 => ?_⟩, fun y c h => ⟨_, x.cell y c h⟩, e0.hok.fresh (Nat.le_refl _), fun y c h => ?_, fun p hp => absurd (show p ∈ ([] : List (Addr × Obj)) from hp) (by simp), e0.hok.kept hk, ?_⟩
  · exact name_of_addr x.apart (PySem.mem_of_lookup h1) (PySem.mem_of_lookup h2)
  · have hy : scope.names.lookup y = some .cell ∨ scope.names.lookup y = some .free := hy
    rcases hy with hy | hy
    · exact cell_has hy
    · exact absurd rfl (S.nofree _ (PySem.mem_of_lookup hy))
  · exact Nat.le_of_lt (x.above y c (PySem.mem_of_lookup h))
  · have hi : i < vs.length := by
      unfold start at h2
      by_cases hi : i < vs.length
      · exact hi
      · rw [List.getElem?_append_right (by simpa using hi)] at h2
        rw [List.getElem?_replicate] at h2
        split at h2 <;> cases h2
    have ha : vs[i]? = some v := by
      unfold start at h2
      rw [List.getElem?_append_left (by simpa using hi), List.getElem?_map] at h2
      cases e : vs[i]? with
      | none => rw [e] at h2; cases h2
      | some a => rw [e] at h2; cases h2; rfl
    obtain ⟨u, hu, rv⟩ := r.get ha
    have hp : ps[i]? = some y := by
      rw [← S.pre, List.getElem?_take_of_lt (by omega)]; exact h1
    have ndP : ps.Nodup := by rw [← S.pre]; exact S.nd.sublist (List.take_sublist _ _)
    refine ⟨u, rv, ?_⟩
    rcases S.par y (List.mem_of_getElem? hp) with k | k
    · exact .inl ⟨k, bindL_get ndP hp hu k⟩
    · obtain ⟨c, e⟩ := cell_has (n := s.heap.objs.size + 1) k
      refine .inr ⟨.inl k, c, e, ?_⟩
      have q := x.cell y c e
      rw [bindC_get ndP hp hu (by show scope.names.lookup y ≠ _; rw [k]; decide)] at q
      exact q
  · exact e0.hok.fresh (Nat.le_of_lt (x.above y c (PySem.mem_of_lookup h)))
  · unfold start
    show _ = N.length
    rw [List.length_append, List.length_map, List.length_replicate]
    omega
theorem fn_of {CX : CXT} {P : Program} {w : World} {K : PySem.W.Frag} {mg : Str → Option Value} {base : Heap} {k : Nat} {f : Addr} {name qual : Str} {params : Arguments} {body : List Stmt} {scope : Scope} {dV kV doc pm cdv ct oc : Value} {an od : Option Addr}
    {osl : Array (Option Value)} {N ps : List Str} {sp : Sp} (lk : K.lookup f = some ⟨oc, od, .func (PySem.W.fnOf name qual params body scope dV kV doc pm an cdv ct), osl⟩) (hcd : PySem.W.codeIn K cdv qual = true) (S : FnScope N ps scope)
    (len : ∀ vs H Q E, sp vs H Q E → vs.length = ps.length)
    (hbody : ∀ (A : Around) (outer : List Env) (s : Shared) (H : Hp) (vs : List V) (Q : VK) (E : XK), Room k (A.deeper (envOfC qual scope s.heap.objs.size f cdv)) → sp vs H Q E →
      ∃ t, PSs (cxOf CX P w K mg base N qual scope f cdv A outer s H E) body t ∧ t { nx := fun _ H' => Q .non H', rt := Q } (start N vs) H) :
    FnOk P w K mg base CX (k + 1) f (PySem.W.fnOf name qual params body scope dV kV doc pm an cdv ct) ps sp := by
  refine ⟨len, fun A outer s H args us vs Q E hr e0 hb r hsp => ?_⟩
  have hl := len _ _ _ _ hsp
  have KX : K.In s.heap := e0.mod.kin.keeps fun b o e => (e0.bs b o e).1
  have lim : s.heap.NoLimit := e0.mod.nolimit.keeps fun b o e => (e0.bs b o e).1
  have hkind : ∀ y ∈ ps.zip us, scope.names.lookup y.1 = some .local ∨ (scope.names.lookup y.1 = some .cell ∧ ((cellsFrom (s.heap.objs.size + 1) scope.names []).lookup y.1).isSome = true) := fun ⟨n, v⟩ hy => by
    rcases S.par n (List.of_mem_zip hy).1 with q | q
    · exact .inl q
    · exact .inr ⟨q, PySem.W.cellsFrom_some _ _ _ (.inl q)⟩
  refine codeAny_call_function hr.depth (KX _ _ lk) rfl S.co S.gen rfl (PySem.W.codeRec_of KX hcd) (hb _ _ _ _ ?_)
  refine wpAny_newFunctionEnv_cells S.kind hkind fun env he s1 x => ?_
  subst he
  refine ⟨lim.keeps x.toInCall.keep, codeAny_func ?_⟩
  obtain ⟨t, ht, hq⟩ := hbody A outer s H vs Q E (hr.deeper _) hsp
  have I : Inv (cxOf CX P w K mg base N qual scope f cdv A outer s H E) [] (start N vs) H s1 := inv_start S hr.hd e0 hl r x
  refine wpAny_mono (ht [] s1 (start N vs) H _ I hq) (fun fl s' hs => ?_) fun e s' hs => hs
  have fin : ∀ {σ' : St} {H' : Hp} {v : V} {u : Value}, Inv (cxOf CX P w K mg base N qual scope f cdv A outer s H E) [] σ' H' s' → RelV v u → Q v H' → CE outer P w H s Q u s' :=
    fun {σ' H' v u} J rv q => ⟨v, H', J.os, J.bare, J.base, J.hok, rv, q⟩
  cases fl with
  | ret u =>
    obtain ⟨v, σ', H', J, rv, q⟩ := hs
    exact fin J rv q
  | next =>
    obtain ⟨σ', H', J, q⟩ := hs
    exact fin (v := V.non) (u := Value.none) J rfl q
  | brk =>
    obtain ⟨_, _, _, q⟩ := hs
    exact False.elim q
  | cont =>
    obtain ⟨_, _, _, q⟩ := hs
    exact False.elim q
end L2
namespace L2
open PySem PySem.Spec PyProof.Rows
section
variable {X : Cx} {x : Str} {p pos : Pos} {e : Expr} {es : List Expr} {t : TA} {id T : String} {r : List V → Hp → VK → Prop}
def tCB (r : List V → Hp → VK → Prop) (t : TA) : TE := fun σ H Q => t σ H fun vs H1 => r vs H1 Q
theorem pe_callB (hc : CallR X (.builtin id) r) (hg : Gl X x) (hm : X.mg x = none) (hv : bootBuiltins x = some (.builtin id)) (ha : PA X (e :: es) t) (hn : x ≠ "__name__" := by decide) (hdb : (x == ("__debug__" : Str)) = false := by decide)
    (he : starEach (e :: es) X.env = (false, eval e X.env) :: starEach es X.env := by rfl) (hpl : (backTo pos (starEach es X.env)).any (·.1) = false := by rfl) : PE X (.Call (.Name x p) (e :: es) [] pos) (tCB r t) := by
  intro pins s σ H Q I h
  refine wpAny_Call_Name_kw (ld_blt I hg hm hv ?_ hn hdb)
  exact PyProof.Rows.callWith_builtin1 (thn (ha pos pins s σ H _ I h) fun us s1 ⟨vs, H1, I1, r1, q1⟩ => hc pins s1 σ H1 vs us Q I1 r1 q1) he hpl
theorem pe_callTy (hc : CallR X (.type T) r) (hg : Gl X x) (hm : X.mg x = none) (hv : bootBuiltins x = some (.type T)) (ha : PA X (e :: es) t) (hn : x ≠ "__name__" := by decide) (hdb : (x == ("__debug__" : Str)) = false := by decide)
    (he : starEach (e :: es) X.env = (false, eval e X.env) :: starEach es X.env := by rfl) (hpl : (backTo pos (starEach es X.env)).any (·.1) = false := by rfl) : PE X (.Call (.Name x p) (e :: es) [] pos) (tCB r t) := by
  intro pins s σ H Q I h
  refine wpAny_Call_Name_kw (ld_blt I hg hm hv ?_ hn hdb)
  exact PyProof.Rows.callWith_type1 (thn (ha pos pins s σ H _ I h) fun us s1 ⟨vs, H1, I1, r1, q1⟩ => hc pins s1 σ H1 vs us Q I1 r1 q1) he hpl
end
end L2
namespace HT
open PySem PyProof.Rows
section
open PySem.SeqAt
open PySem.AutoSeq1 (wpAny_loadPart')
open PySem.MeetsSeq PySem.MeetsSeq2 PySem.MeetsSeq3
end
section
variable {prog : Program} {w : World} {A : Around} {E : Value → Shared → Prop} {s : Shared}
def sIx (n d : Nat) : Option Int → Nat
  | none => d
  | some v => if v < 0 then (v + (n : Int)).toNat else min v.toNat n
end
end HT
namespace L2
open PySem PySem.Spec PyProof.Rows
abbrev TO := St → Hp → (Option Int → Hp → Prop) → Prop
def PO (X : Cx) (e : Option Expr) (t : TO) : Prop :=
  ∀ (pins : List (Addr × Obj)) (s : Shared) (σ : St) (H : Hp) (Q : Option Int → Hp → Prop), Inv X pins σ H s → t σ H Q →
    wpAny (model X.prog X.w) X.A (evalPart e X.env) (fun u s' => ∃ o H', Inv X pins σ H' s' ∧ IsPart u o ∧ Q o H') X.xe s
def tNoPart : TO := fun _ H Q => Q none H
def tPart (t : TE) : TO := fun σ H Q => t σ H fun x H1 => ∃ i, x = .int i ∧ Q (some i) H1
section
variable {X : Cx} {e : Expr} {te : TE} {lo hi : Option Expr} {tl th : TO} {pos p2 : Pos}
theorem po_none : PO X none tNoPart := by
  intro pins s σ H Q I h
  rw [evalPart_none]
  exact wpAny_pure ⟨none, H, I, .none, h⟩
theorem po_some (h : PE X e te) : PO X (some e) (tPart te) := by
  intro pins s σ H Q I hw
  rw [evalPart_some]
  refine thn (h pins s σ H _ I hw) fun u s1 ⟨x, H1, I1, r1, q1⟩ => ?_
  obtain ⟨i, rfl, q⟩ := q1
  obtain ⟨t, rfl⟩ := r1
  exact ⟨some i, H1, I1, .int i t, q⟩
def SlR (X : Cx) (r : V → Option Int → Option Int → Hp → VK → Prop) : Prop :=
  ∀ (pins : List (Addr × Obj)) (s : Shared) (σ : St) (H : Hp) (x : V) (v vl vu : Value) (lo hi : Option Int) (sl : Addr) (Q : VK), Inv X pins σ H s → RelV x v → s.heap.IsSliceOf sl vl vu .none → IsPart vl lo → IsPart vu hi → r x lo hi H Q →
    ∃ T id, typeLookup (.type T) "__getitem__" = pure (some (.builtin id)) ∧ s.TypeIs v T ∧ wpAny (model X.prog X.w) X.A (getItem v (.ref sl)) (EP X pins σ Q) X.xe s
def tSl (r : V → Option Int → Option Int → Hp → VK → Prop) (te : TE) (tl th : TO) : TE := fun σ H Q => te σ H fun x H1 => tl σ H1 fun l H2 => th σ H2 fun u H3 => r x l u H3 Q
theorem pe_slice {r : V → Option Int → Option Int → Hp → VK → Prop} (hr : SlR X r) (he : PE X e te) (hl : PO X lo tl) (hu : PO X hi th) : PE X (.Subscript e (.Slice lo hi none p2) pos) (tSl r te tl th) := by
  intro pins s σ H Q I h
  refine Subscript_ (thn (he pins s σ H _ I h) fun v s1 ⟨x, H1, I1, r1, q1⟩ => ?_)
  refine wpAny_Slice (thn (hl pins s1 σ H1 _ I1 q1) fun vl s2 ⟨l, H2, I2, pl, q2⟩ => thn (hu pins s2 σ H2 _ I2 q2) fun vu s3 ⟨u, H3, I3, pu, q3⟩ => ?_)
  rw [evalPart_none]
  refine wpAny_pure ?_
  have I4 : Inv X pins σ H3 { s3 with heap := s3.heap.push { cls := .type "slice", data := .fields #[vl, vu, .none] } } := I3.kept (t' := s3.toks) fun b ob q => Heap.get?_push_of_some _ q
  obtain ⟨T, id, hT, ht, hg⟩ := hr pins { s3 with heap := s3.heap.push { cls := .type "slice", data := .fields #[vl, vu, .none] } } σ H3 x v vl vu l u s3.heap.objs.size Q I4 r1 (Heap.IsSliceOf.new ..) pl pu q3
  show wpAny (model X.prog X.w) X.A (subscriptTail e (.Slice lo hi none p2) v (.ref s3.heap.objs.size)) (EP X pins σ Q) X.xe { s3 with heap := s3.heap.push { cls := .type "slice", data := .fields #[vl, vu, .none] } }
  exact tail_any (ops := [.ref s3.heap.objs.size, v]) ht hT hg (by with_unfolding_all rfl)
def cutV (xs : List V) (lo hi : Option Int) : List V := (xs.drop (HT.sIx xs.length 0 lo)).take (HT.sIx xs.length xs.length hi - HT.sIx xs.length 0 lo)
end
end L2
namespace L2
open PySem PySem.Spec PyProof.Rows
def ixN (n : Nat) (i : Int) : Option Nat := if 0 ≤ i then (if i < n then some i.toNat else none) else if -(n : Int) ≤ i then some (i + n).toNat else none
def atI {α : Type} (xs : List α) (i : Int) : Option α := (ixN xs.length i).bind fun j => xs[j]?
theorem ixN_seq {n : Nat} {i : Int} {j : Nat} (h : ixN n i = some j) : seqIndex? i n = some j ∧ j < n ∧ -(n : Int) ≤ i ∧ i < n := by
  unfold ixN at h
  by_cases h0 : 0 ≤ i
  · rw [if_pos h0] at h
    by_cases h1 : i < n
    · rw [if_pos h1] at h
      have e : i.toNat = j := Option.some.inj h
      exact ⟨by rw [seqIndex_of h0 h1, e], by omega, by omega, h1⟩
    · rw [if_neg h1] at h; cases h
  · rw [if_neg h0] at h
    by_cases h1 : -(n : Int) ≤ i
    · rw [if_pos h1] at h
      have e : (i + n).toNat = j := Option.some.inj h
      exact ⟨by rw [seqIndex_neg (by omega) h1, e], by omega, h1, by omega⟩
    · rw [if_neg h1] at h; cases h
theorem atI_get {α : Type} {xs : List α} {i : Int} {v : α} (h : atI xs i = some v) : ∃ j, seqIndex? i xs.length = some j ∧ xs[j]? = some v ∧ j < xs.length ∧ -(xs.length : Int) ≤ i ∧ i < xs.length := by
  unfold atI at h
  cases e : ixN xs.length i with
  | none => rw [e] at h; cases h
  | some j =>
    rw [e] at h
    obtain ⟨h1, h2, h3, h4⟩ := ixN_seq e
    exact ⟨j, h1, h, h2, h3, h4⟩
theorem atI_nat {α : Type} {xs : List α} {j : Nat} {v : α} (h : xs[j]? = some v) : atI xs (j : Int) = some v := by
  have hj : j < xs.length := (List.getElem?_eq_some_iff.mp h).1
  have e : ixN xs.length (j : Int) = some j := by
    unfold ixN
    rw [if_pos (by omega), if_pos (by omega)]; simp
  unfold atI; rw [e]; exact h
def PlainIx (b : Expr) : Prop := ∀ o i, subscripted b false o i = operate [o, i] (getItem o i)
def IxR (X : Cx) (r : R2) : Prop :=
  ∀ (value slice : Expr) (pins : List (Addr × Obj)) (s : Shared) (σ : St) (H : Hp) (x y : V) (v u : Value) (Q : VK), Inv X pins σ H s → RelV x v → RelV y u → r x y H Q →
    subscripted slice false v u = operate [v, u] (getItem v u) → wpAny (model X.prog X.w) X.A (subscriptTail value slice v u) (EP X pins σ Q) X.xe s
def MtR (X : Cx) (id : String) (r : V → List V → Hp → VK → Prop) : Prop :=
  ∀ (pins : List (Addr × Obj)) (s : Shared) (σ : St) (H : Hp) (x : V) (xs : List V) (v : Value) (us : List Value) (Q : VK), Inv X pins σ H s → RelV x v → Vals xs us → r x xs H Q →
    wpAny (model X.prog X.w) X.A (call (.builtin id) (v :: us)) (EP X pins σ Q) X.xe s
section
variable {X : Cx} {a b : Expr} {ta tb : TE} {pos : Pos}
theorem pe_ix {r : R2} (hr : IxR X r) (ha : PE X a ta) (hb : PE X b tb) (hs : PlainIx b) : PE X (.Subscript a b pos) (tOp r ta tb) := by
  intro pins s σ H Q I h
  exact Subscript_ (binT ha hb I h fun v u s2 x y H2 I2 rx ry q => hr a b pins s2 σ H2 x y v u Q I2 rx ry q (hs _ _))
def rIxL (K : PySem.W.Frag) : R2 := fun x y H Q => ∃ p xs i v, x = .ref p ∧ y = .int i ∧ SqL K H p xs ∧ atI xs i = some v ∧ Q v H
def rIxS : R2 := fun x y H Q => ∃ z i c, x = .str z ∧ y = .int i ∧ z.length ≤ sizeLine ∧ atI z.cps.toList i = some c ∧ Q (.str ⟨#[c]⟩) H
theorem ix_list : IxR X (rIxL X.K) := by
  intro value slice pins s σ H x y v u Q I rx ry h hs
  obtain ⟨p, xs, i, z, rfl, rfl, hq, he, q⟩ := h
  cases rx
  obtain ⟨t, rfl⟩ := ry
  obtain ⟨its, r, pl, hz⟩ := I.list hq
  obtain ⟨j, h1, h2, h3, h4, h5⟩ := atI_get he
  obtain ⟨w, ew, rw'⟩ := r.get h2
  have hl := r.length
  have hn := line63
  have fin : EP X pins σ Q w s := ⟨z, H, I, rw', q⟩
  by_cases h0 : 0 ≤ i
  · have hj : i.toNat = j := by
      rw [seqIndex_of h0 h5] at h1
      exact Option.some.inj h1
    exact item_listR pl.isList h0 (by omega) (by rw [hj]; simpa using ew) fin hs
  · have hj : (i + (its.toArray.size : Int)).toNat = j := by
      rw [seqIndex_neg (by omega) h4] at h1
      rw [List.size_toArray, ← hl]
      exact Option.some.inj h1
    exact subscriptTail_builtinR (x := w) pl.isList.typeIs slot_list_getitem.lookup
      (wpAny_getItem_list_neg (Q := fun r s' => r = w ∧ EP X pins σ Q r s') pl.isList (by omega) (by rw [List.size_toArray] <;> omega) (by omega) (by rw [hj]; simpa using ew) ⟨rfl, fin⟩) hs
theorem ix_str : IxR X rIxS := by
  intro value slice pins s σ H x y v u Q I rx ry h hs
  obtain ⟨z, i, c, rfl, rfl, hz, he, q⟩ := h
  obtain ⟨t, rfl⟩ := rx
  obtain ⟨t', rfl⟩ := ry
  obtain ⟨j, h1, h2, h3, h4, h5⟩ := atI_get he
  have hl : z.cps.toList.length = z.length := by simp [Str.length]
  rw [hl] at h1 h4 h5
  have hn := line63
  exact tail_any (typeIs_str s z t) slot_str_getitem.lookup (getItem_str (c := c) (by
    have e1 : decide (i < -(2 ^ 63 : Int)) = false := decide_eq_false (by omega)
    have e2 : decide (i ≥ 2 ^ 63) = false := decide_eq_false (by omega)
    rw [e1, e2, Bool.or_false]) (by rw [h1]; simpa using h2) ⟨.str ⟨#[c]⟩, H, I.tok _, ⟨_, rfl⟩, q⟩) hs
def rSlL (K : PySem.W.Frag) : V → Option Int → Option Int → Hp → VK → Prop := fun x lo hi H Q => ∃ a xs, x = .ref a ∧ SqL K H a xs ∧ ∀ p, H p = none → Q (.ref p) (upd H p (.lst (cutV xs lo hi)))
def flatV : V → Bool
  | .non => true
  | .bl _ => true
  | .int _ => true
  | .str _ => true
  | _ => false
def eqV : V → V → Bool
  | .non, .non => true
  | .bl a, .bl b => a == b
  | .bl a, .int b => (if a then 1 else 0) == b
  | .int a, .bl b => a == (if b then 1 else 0)
  | .int a, .int b => a == b
  | .str a, .str b => a == b
  | _, _ => false
theorem eqAt_V {A : Around} {s : Shared} {y x : V} {u v : Value} (ry : RelV y u) (rx : RelV x v) (fy : flatV y = true) (fx : flatV x = true) : SeqAt.EqAt A s u v (eqV y x) := by
  cases y with
  | non =>
    cases ry
    cases x with
    | non => cases rx; exact SeqAt.EqAt.same _
    | bl b => cases rx; exact SeqAt.EqAt.none_bool b
    | int b => obtain ⟨t, rfl⟩ := rx; exact SeqAt.EqAt.none_int b t
    | str b => obtain ⟨t, rfl⟩ := rx; exact SeqAt.EqAt.none_str b t
    | _ => exact absurd (show false = true from fx) Bool.false_ne_true
  | bl a =>
    cases ry
    cases x with
    | non => cases rx; exact SeqAt.EqAt.bool_none a
    | bl b => cases rx; exact SeqAt.EqAt.bool_bool a b
    | int b => obtain ⟨t, rfl⟩ := rx; exact SeqAt.EqAt.bool_int a b t
    | str b => obtain ⟨t, rfl⟩ := rx; exact SeqAt.EqAt.bool_str a b t
    | _ => exact absurd (show false = true from fx) Bool.false_ne_true
  | int a =>
    obtain ⟨t', rfl⟩ := ry
    cases x with
    | non => cases rx; exact SeqAt.EqAt.int_none a t'
    | bl b => cases rx; exact SeqAt.EqAt.int_bool a t' b
    | int b => obtain ⟨t, rfl⟩ := rx; exact SeqAt.EqAt.int_int a t' b t
    | str b => obtain ⟨t, rfl⟩ := rx; exact SeqAt.EqAt.int_str a t' b t
    | _ => exact absurd (show false = true from fx) Bool.false_ne_true
  | str a =>
    obtain ⟨t', rfl⟩ := ry
    cases x with
    | non => cases rx; exact SeqAt.EqAt.str_none a t'
    | bl b => cases rx; exact SeqAt.EqAt.str_bool a t' b
    | int b => obtain ⟨t, rfl⟩ := rx; exact SeqAt.EqAt.str_int a t' b t
    | str b => obtain ⟨t, rfl⟩ := rx; exact SeqAt.EqAt.str_str a t' b t
    | _ => exact absurd (show false = true from fx) Bool.false_ne_true
  | _ => exact absurd (show false = true from fy) Bool.false_ne_true
def eqU (x : V) (u : Value) : Bool := match u with
  | .none => eqV .non x
  | .bool b => eqV (.bl b) x
  | .int i _ => eqV (.int i) x
  | .str z _ => eqV (.str z) x
  | _ => false
theorem eqU_of {x y : V} {u : Value} (r : RelV y u) (f : flatV y = true) : eqU x u = eqV y x := by
  cases y with
  | non => cases r; rfl
  | bl b => cases r; rfl
  | int i => obtain ⟨t, rfl⟩ := r; rfl
  | str z => obtain ⟨t, rfl⟩ := r; rfl
  | _ => exact absurd (show false = true from f) Bool.false_ne_true
theorem any_eqU {x : V} : ∀ {xs : List V} {us : List Value}, Vals xs us → xs.all flatV = true → us.any (eqU x) = xs.any fun y => eqV y x
  | _, _, .nil, _ => rfl
  | y :: xs, u :: us, .cons r t, f => by
    rw [List.all_cons, Bool.and_eq_true] at f
    rw [List.any_cons, List.any_cons, eqU_of r f.1, any_eqU t f.2]
theorem mem_eqAt {A : Around} {s : Shared} {x : V} {v : Value} (rx : RelV x v) (fx : flatV x = true) : ∀ {xs : List V} {us : List Value}, Vals xs us → xs.all flatV = true → ∀ u ∈ us, SeqAt.EqAt A s u v (eqU x u)
  | _, _, .nil, _ => fun u hu => by cases hu
  | y :: xs, u :: us, .cons r t, f => fun u' hu => by
    rw [List.all_cons, Bool.and_eq_true] at f
    rcases List.mem_cons.mp hu with rfl | hu
    · rw [eqU_of r f.1]; exact eqAt_V r rx f.1 fx
    · exact mem_eqAt rx fx t f.2 u' hu
def inV (x : V) (xs : List V) : Bool := xs.any fun y => eqV y x
def rIn (K : PySem.W.Frag) (neg : Bool) : R2 := fun x y H Q => ∃ p xs, y = .ref p ∧ (SqL K H p xs ∨ SqT K H p xs) ∧ flatV x = true ∧ xs.all flatV = true ∧ Q (.bl (if neg then !inV x xs else inV x xs)) H
theorem op_in_seq : OpR X (compareOp .In) (rIn X.K false) := by
  intro pins s σ H x y v u Q I rx ry h
  obtain ⟨p, xs, rfl, hq, fx, fs, q⟩ := h
  cases ry
  rcases hq with hq | hq
  · obtain ⟨its, r, pl, hz⟩ := I.list hq
    refine SeqAt.in_listAt (eqU x) pl.isList (fun w hw => mem_eqAt rx fx r fs w (by simpa using hw)) ⟨.bl _, H, I, rfl, ?_⟩
    rw [show its.toArray.any (eqU x) = its.any (eqU x) by simp, any_eqU r fs]
    exact q
  · obtain ⟨its, r, pl, hz⟩ := I.tuple hq
    refine SeqAt.in_tupleAt (eqU x) pl (fun w hw => mem_eqAt rx fx r fs w (by simpa using hw)) ⟨.bl _, H, I, rfl, ?_⟩
    rw [show its.toArray.any (eqU x) = its.any (eqU x) by simp, any_eqU r fs]
    exact q
theorem op_notIn_seq : OpR X (compareOp .NotIn) (rIn X.K true) := by
  intro pins s σ H x y v u Q I rx ry h
  obtain ⟨p, xs, rfl, hq, fx, fs, q⟩ := h
  cases ry
  rcases hq with hq | hq
  · obtain ⟨its, r, pl, hz⟩ := I.list hq
    refine SeqAt.notIn_listAt (eqU x) pl.isList (fun w hw => mem_eqAt rx fx r fs w (by simpa using hw)) ⟨.bl _, H, I, rfl, ?_⟩
    rw [show its.toArray.any (eqU x) = its.any (eqU x) by simp, any_eqU r fs]
    exact q
  · obtain ⟨its, r, pl, hz⟩ := I.tuple hq
    refine SeqAt.notIn_tupleAt (eqU x) pl (fun w hw => mem_eqAt rx fx r fs w (by simpa using hw)) ⟨.bl _, H, I, rfl, ?_⟩
    rw [show its.toArray.any (eqU x) = its.any (eqU x) by simp, any_eqU r fs]
    exact q
theorem call_len_seq : CallR X (.builtin "len") (fun xs H Q => ∃ p ys, xs = [.ref p] ∧ (SqL X.K H p ys ∨ SqT X.K H p ys) ∧ Q (.int ys.length) H) := by
  intro pins s σ H xs us Q I r h
  obtain ⟨p, ys, rfl, hq, q⟩ := h
  obtain ⟨u, rfl, rx⟩ := vals1 r
  cases rx
  have hn := line63
  rcases hq with hq | hq
  · obtain ⟨its, r', pl, hz⟩ := I.list hq
    have hlen := r'.length
    exact Calls.call_len_list pl.isList (by simp only [List.size_toArray] <;> omega) ⟨.int ys.length, H, I.tok _, ⟨s.toks + 1, by rw [List.size_toArray, hlen]⟩, q⟩
  · obtain ⟨its, r', pl, hz⟩ := I.tuple hq
    have hlen := r'.length
    exact len_tuple pl (by simp only [List.size_toArray] <;> omega) ⟨.int ys.length, H, I.tok _, ⟨s.toks + 1, by rw [List.size_toArray, hlen]⟩, q⟩
theorem call_len_str : CallR X (.builtin "len") (fun xs H Q => ∃ z, xs = [.str z] ∧ z.length ≤ sizeLine ∧ Q (.int z.length) H) := by
  intro pins s σ H xs us Q I r h
  obtain ⟨z, rfl, hz, q⟩ := h
  obtain ⟨u, rfl, t, rfl⟩ := vals1 r
  have hn := line63
  exact len_str (by omega) ⟨.int z.length, H, I.tok _, ⟨_, rfl⟩, q⟩
theorem call_list_of : CallR X (.type "list") (fun xs H Q => ∃ p ys, xs = [.ref p] ∧ (SqL X.K H p ys ∨ SqT X.K H p ys) ∧ ∀ l, H l = none → Q (.ref l) (upd H l (.lst ys))) := by
  intro pins s σ H xs us Q I r h
  obtain ⟨p, ys, rfl, hq, q⟩ := h
  obtain ⟨u, rfl, rx⟩ := vals1 r
  cases rx
  have fin : ∀ (its : List Value), Vals ys its → ys.length ≤ sizeLine → ∀ (h' : Heap) (c' : Nat), (∀ b o', s.heap.get? b = some o' → h'.get? b = some o') →
      h'.get? s.heap.objs.size = some { cls := .type "list", dict := none, data := .seq its.toArray c', slots := #[] } → EP X pins σ Q (.ref s.heap.objs.size) { s with heap := h' } := fun its r' hz h' c' kp e =>
    ⟨.ref s.heap.objs.size, _, I.laid (t' := s.toks) kp (Nat.le_refl _) (show ObjOk X.prog X.w _ h' _ (.lst ys) from ⟨hz, its, c', r', e⟩), rfl, q _ (I.hok.fresh (Nat.le_refl _))⟩
  rcases hq with hq | hq
  · obtain ⟨its, r', pl, hz⟩ := I.list hq
    have hlen := r'.length
    obtain ⟨o, ho, hc, n, hd⟩ := pl.isList
    exact call_list_seq p (.inl rfl) ho hc hd (fun h' c' kp e => fin its r' hz h' c' kp e) (by simp only [List.size_toArray] <;> omega)
  · obtain ⟨its, r', pl, hz⟩ := I.tuple hq
    have hlen := r'.length
    obtain ⟨o, ho, hc, n, hd⟩ := pl
    exact call_list_seq p (.inr rfl) ho hc hd (fun h' c' kp e => fin its r' hz h' c' kp e) (by simp only [List.size_toArray] <;> omega)
def tyV (K : PySem.W.Frag) (T : String) (x : V) (H : Hp) : Prop := match x with
  | .str _ => T = "str"
  | .int _ => T = "int"
  | .ref p => (T = "list" ∧ ∃ xs, SqL K H p xs) ∨ (T = "tuple" ∧ ∃ o, K.lookup p = some o ∧ o.cls = .type "tuple" ∧ o.dict = none) ∨
      (T = "dict" ∧ ((∃ kvs, H p = some (.dK kvs)) ∨ ∃ kvs, H p = some (.dT kvs))) ∨ (T = "set" ∧ ∃ S n, H p = some (.set S n))
  | _ => False
theorem tyV_is {pins : List (Addr × Obj)} {σ : St} {H : Hp} {s : Shared} {T : String} {x : V} {v : Value} (I : Inv X pins σ H s) (r : RelV x v) (ty : tyV X.K T x H) :
    s.TypeIs v T ∧ ∀ a, v = .ref a → ∃ ob, s.heap.get? a = some ob ∧ ob.dict = none := by
  cases x with
  | str z =>
    obtain ⟨t, rfl⟩ := r
    cases (show T = "str" from ty)
    exact ⟨typeIs_str s z t, fun _ e => nomatch e⟩
  | int i =>
    obtain ⟨t, rfl⟩ := r
    cases (show T = "int" from ty)
    exact ⟨typeIs_int s i t, fun _ e => nomatch e⟩
  | ref p =>
    cases r
    rcases ty with ⟨rfl, xs, hq⟩ | ⟨rfl, o, hk, hc, hd⟩ | ⟨rfl, hk⟩ | ⟨rfl, S, n, hk⟩
    · obtain ⟨its, _, pl, _⟩ := I.list hq
      refine ⟨pl.isList.typeIs, fun a e => ?_⟩
      cases e
      obtain ⟨o, n, e, c, hd, _⟩ := pl
      exact ⟨o, e, hd⟩
    · refine ⟨⟨o, I.kIn p o hk, hc⟩, fun a e => ?_⟩
      cases e
      exact ⟨o, I.kIn _ o hk, hd⟩
    · have z : ∃ o, s.heap.get? p = some o ∧ o.ExactDict := by
        rcases hk with ⟨kvs, hk⟩ | ⟨kvs, hk⟩
        · obtain ⟨_, _, _, _, o, _, _, e, ex, _⟩ := I.hok p _ hk
          exact ⟨o, e, ex⟩
        · obtain ⟨_, _, _, _, o, _, _, e, ex, _⟩ := I.hok p _ hk
          exact ⟨o, e, ex⟩
      obtain ⟨o, e, ex⟩ := z
      refine ⟨⟨o, e, ex.1⟩, fun a e2 => ?_⟩
      cases e2
      exact ⟨o, e, ex.2.1⟩
    · obtain ⟨o, _, _, _, e, ex, _⟩ := I.hok p _ hk
      refine ⟨⟨o, e, ex.1⟩, fun a e2 => ?_⟩
      cases e2
      exact ⟨o, e, ex.2.1⟩
  | _ => exact False.elim ty
def tBM0 (K : PySem.W.Frag) (T : String) (r : V → List V → Hp → VK → Prop) (to : TE) : TE := fun σ H Q => to σ H fun x H1 => tyV K T x H1 ∧ r x [] H1 Q
def tBM (K : PySem.W.Frag) (T : String) (r : V → List V → Hp → VK → Prop) (to : TE) (t : TA) : TE := fun σ H Q => to σ H fun x H1 => tyV K T x H1 ∧ t σ H1 fun xs H2 => r x xs H2 Q
variable {o e : Expr} {es : List Expr} {to : TE} {t : TA} {name : Str} {apos cpos : Pos} {T id : String} {r : V → List V → Hp → VK → Prop}
theorem pe_bm0 (pa : PlainAttrs T) (slot : Slot T name id) (hty : typeOf (.builtin id) = pure (.type "method_descriptor")) (hm : MtR X id r) (ho : PE X o to)
    (hbase : attributeBase o name X.env (eval o X.env) = eval o X.env := by rfl) (hline : (apos.endLine == cpos.line) = true := by rfl) : PE X (.Call (.Attribute o name apos) [] [] cpos) (tBM0 X.K T r to) := by
  intro pins s σ H Q I h
  refine wpAny_Call_method0_late hbase hline (thn (ho pins s σ H _ I h) fun v s1 ⟨x, H1, I1, r1, ty, q1⟩ => ?_)
  obtain ⟨h1, h2⟩ := tyV_is I1 r1 ty
  exact ⟨T, id, pa, slot, hty, h1, h2, Calls.callWith_builtin rfl (PySem.evalArgs_none (hm pins s1 σ H1 x [] v [] Q I1 r1 .nil q1))⟩
theorem pe_bm (pa : PlainAttrs T) (slot : Slot T name id) (hty : typeOf (.builtin id) = pure (.type "method_descriptor")) (hm : MtR X id r) (ho : PE X o to) (ha : PA X (e :: es) t)
    (hbase : attributeBase o name X.env (eval o X.env) = eval o X.env := by rfl)
    (hfew : ((backTo cpos (starEach (e :: es) X.env)).all (fun x => !x.1) && (backToKw cpos (keywordEach [] X.env)).all (fun x => x.1.isSome)
      && decide ((e :: es).length + ([] : List Keyword).length + (if ([] : List Keyword).isEmpty then 0 else 1) < 30)) = true := by rfl)
    (hline : (apos.endLine == cpos.line) = true := by rfl) (hs : starEach (e :: es) X.env = (false, eval e X.env) :: starEach es X.env := by rfl) (hplain : (backTo cpos (starEach es X.env)).any (·.1) = false := by rfl) :
    PE X (.Call (.Attribute o name apos) (e :: es) [] cpos) (tBM X.K T r to t) := by
  intro pins s σ H Q I h
  refine wpAny_Call_method_late hbase hfew hline rfl (thn (ho pins s σ H _ I h) fun v s1 ⟨x, H1, I1, r1, ty, q1⟩ => ?_)
  obtain ⟨h1, h2⟩ := tyV_is I1 r1 ty
  refine ⟨T, id, pa, slot, hty, h1, h2, ?_⟩
  have hA := ha cpos pins s1 σ H1 _ I1 q1
  rw [hs] at hA ⊢
  refine Calls.callWith_builtin (by show (false || (backTo cpos (starEach es X.env)).any (·.1)) = false; rw [hplain] <;> rfl) (Calls.evalArgs_plain ?_)
  exact thn hA fun us s2 ⟨vs, H2, I2, r2, q2⟩ => hm pins s2 σ H2 x vs v us Q I2 r1 r2 q2
end
end L2
namespace L2
open PySem PySem.Spec PyProof.Rows
def MtM (X : Cx) (id : String) (r : V → List V → Hp → VK → Prop) : Prop :=
  ∀ (pins : List (Addr × Obj)) (s : Shared) (σ : St) (H : Hp) (x : V) (xs : List V) (v : Value) (us : List Value) (Q : VK), Inv X pins σ H s → RelV x v → Vals xs us → r x xs H Q →
    wpAny (model X.prog X.w) X.A (call (.builtin id) (v :: us)) (EP X pins σ Q) X.xe s
theorem Vals.one : ∀ {x : V} {us : List Value}, Vals [x] us → ∃ u, us = [u] ∧ RelV x u
  | _, _, .cons r .nil => ⟨_, rfl, r⟩
theorem Vals.zero : ∀ {us : List Value}, Vals [] us → us = []
  | _, .nil => rfl
section
variable {X : Cx} {pins : List (Addr × Obj)} {σ : St} {H : Hp} {s : Shared} {l b : Addr} {xs ys zs : List V}
theorem Inv.lset {its its' : List Value} {n : Nat} {f : Array Value → Array Value} {t' : Nat} (I : Inv X pins σ H s) (hH : H l = some (.lst xs))
    (e : s.heap.get? l = some { cls := .type "list", data := .seq its.toArray n }) (hf : f its.toArray = its'.toArray) (hv : Vals ys its') (hz : ys.length ≤ sizeLine) :
    Inv X pins σ (upd H l (.lst ys)) { s with heap := s.heap.update l (Obj.mapSeq f), toks := t' } := by
  have q := PySem.IsL.update e f
  rw [hf] at q
  refine I.write (x := l) (e := l) (by rw [hH]; exact trivial) (.inl rfl) (fun b' u hb hu => (Heap.get?_update_other s.heap (Obj.mapSeq f) (Ne.symm hb)).trans hu) ⟨_, q⟩ ?_
  exact ⟨hz, its', _, hv, q⟩
theorem Inv.lnew {its : List Value} {t' : Nat} (I : Inv X pins σ H s) (hv : Vals ys its) (hz : ys.length ≤ sizeLine) :
    Inv X pins σ (upd H s.heap.objs.size (.lst ys)) { s with heap := s.heap.push { cls := .type "list", data := .seq its.toArray }, toks := t' } :=
  I.laid (fun _ _ q => Heap.get?_push_of_some _ q) (Nat.le_refl _) ⟨hz, its, 0, hv, Heap.get?_push_size _ rfl⟩
theorem Inv.fresh (I : Inv X pins σ H s) : H s.heap.objs.size = none := I.hok.fresh (Nat.le_refl _)
theorem Inv.lstM (I : Inv X pins σ H s) (hH : H l = some (.lst xs)) : xs.length ≤ sizeLine ∧ ∃ (its : List Value) (n : Nat), Vals xs its ∧ xs.length = its.length ∧ s.heap.get? l = some { cls := .type "list", data := .seq its.toArray n } := by
  obtain ⟨z, its, n, r, e⟩ := I.hok l _ hH
  exact ⟨z, its, n, r, r.length, e⟩
theorem notLongL {n : Nat} (h : n ≤ sizeLine) : Builtin.List.listTooLong n = false := by
  unfold Builtin.List.listTooLong
  exact decide_eq_false (by omega)
end
section
variable {X : Cx}
def rAppend : V → List V → Hp → VK → Prop := fun x vs H Q => ∃ l xs y, x = .ref l ∧ vs = [y] ∧ H l = some (.lst xs) ∧ xs.length < sizeLine ∧ Q .non (upd H l (.lst (xs ++ [y])))
theorem mt_append : MtM X "list.append" rAppend := by
  intro pins s σ H x vs v us Q I rx rv h
  obtain ⟨l, xs, y, rfl, rfl, hH, hz, q⟩ := h
  cases rx
  obtain ⟨u, rfl, ru⟩ := rv.one
  obtain ⟨z, its, n, r, hl, e⟩ := I.lstM hH
  refine call_meets F.slot_list_append ⟨_, e, rfl⟩ F.entry_list_append (F.args_list_append_2 _ _) (PySem.list_append l its.toArray n u (by rw [List.size_toArray]; omega)) ⟨e, ?_⟩
  refine ⟨.non, _, I.lset (its' := its ++ [u]) hH e (by simp) (r.append (.cons ru .nil)) ?_, rfl, q⟩
  rw [List.length_append, List.length_singleton]
  omega
def rExtend : V → List V → Hp → VK → Prop := fun x vs H Q => ∃ l b xs zs, x = .ref l ∧ vs = [.ref b] ∧ H l = some (.lst xs) ∧ H b = some (.lst zs) ∧ xs.length + zs.length ≤ sizeLine ∧ Q .non (upd H l (.lst (xs ++ zs)))
theorem mt_extend : MtM X "list.extend" rExtend := by
  intro pins s σ H x vs v us Q I rx rv h
  obtain ⟨l, b, xs, zs, rfl, rfl, hH, hB, hz, q⟩ := h
  cases rx
  obtain ⟨u, rfl, ru⟩ := rv.one
  cases ru
  obtain ⟨z, its, n, r, hl, e⟩ := I.lstM hH
  obtain ⟨z2, its2, n2, r2, hl2, e2⟩ := I.lstM hB
  have hsz : its.toArray.size + its2.toArray.size ≤ sizeLine := by rw [List.size_toArray, List.size_toArray]; omega
  have hlong : ¬ (!its.toArray.isEmpty && Builtin.List.listTooLong (its.toArray.size + its2.toArray.size)) = true := by
    rw [notLongL hsz, Bool.and_false]
    exact Bool.false_ne_true
  refine call_meets F.slot_list_extend ⟨_, e, rfl⟩ F.entry_list_extend (F.args_list_extend_2 _ _)
    (AutoSeq1.list_extend_list_list_0 l its.toArray n b its2.toArray n2 hlong (by rw [List.size_toArray]; omega) (by omega)) ⟨e, e2, ?_⟩
  refine ⟨.non, _, I.lset (its' := its ++ its2) hH e (by simp) (r.append r2) ?_, rfl, q⟩
  rw [List.length_append]
  omega
def rCat : R2 := fun x y H Q => ∃ l b xs zs, x = .ref l ∧ y = .ref b ∧ H l = some (.lst xs) ∧ H b = some (.lst zs) ∧ xs.length + zs.length ≤ sizeLine ∧ ∀ p, H p = none → Q (.ref p) (upd H p (.lst (xs ++ zs)))
theorem op_cat : OpR X (binaryOp .Add) rCat := by
  intro pins s σ H x y v u Q I rx ry h
  obtain ⟨l, b, xs, zs, rfl, rfl, hH, hB, hz, q⟩ := h
  cases rx
  cases ry
  obtain ⟨z, its, n, r, hl, e⟩ := I.lstM hH
  obtain ⟨z2, its2, n2, r2, hl2, e2⟩ := I.lstM hB
  refine PySem.P.add_list e e2 ?_ (by rw [List.size_toArray, List.size_toArray]; omega)
  have ea : its.toArray ++ its2.toArray = (its ++ its2).toArray := by simp
  rw [ea]
  exact ⟨.ref _, _, I.lnew (t' := s.toks) (r.append r2) (by rw [List.length_append]; omega), rfl, q _ I.fresh⟩
def rRep : R2 := fun x y H Q => ∃ l k xs, x = .ref l ∧ y = .int k ∧ H l = some (.lst xs) ∧ -(2 ^ 63) ≤ k ∧ k < 2 ^ 63 ∧ xs.length * k.toNat ≤ sizeLine ∧
  ∀ p, H p = none → Q (.ref p) (upd H p (.lst (List.replicate k.toNat xs).flatten))
end
section
variable {prog : Program} {w : World} {A : Around} {E : Value → Shared → Prop} {s : Shared}
set_option maxRecDepth 100000 in
end
section
variable {X : Cx}
end
end L2
namespace Att
open PySem PySem.W PySem.Calls PyProof.Rows
theorem ints_of_wellAll {P : Params} {h : Heap} : ∀ (ns : List Int) (vs : List Value), WellAll P h vs (ns.map WData.int) → IntsAre vs ns := by
  intro ns
  induction ns with
  | nil =>
    intro vs w
    rw [List.map_nil] at w
    cases w
    exact .nil
  | cons n ns ih =>
    intro vs w
    rw [List.map_cons] at w
    cases w with
    | cons a b =>
      cases a
      exact .cons _ _ (ih _ b)
theorem script_of {l : OpenLaw} {n : Nat} (hn : l.most = some n) {P : Params} {h : Heap} {args : List WData} {vals : List Value}
    (hpre : l.row.toRowW.claim.pre args = true) (hwl : WellAll P h vals args) :
    ∃ a vs ns, vals = [Value.ref a] ∧ args = [WData.list (ns.map WData.int)] ∧ h.get? a = some { cls := .type "list", data := .seq vs.toArray } ∧ IntsAre vs ns ∧ ns.length ≤ n := by
  have hsh : WShape.hasAll [] args [.list .int] = true := (pre_splitW hpre).1
  have hc : l.pre.holds [] { args := args } = true := (pre_splitW hpre).2
  obtain ⟨d, r, rfl, h1, h2⟩ := hasAllW_cons hsh
  obtain rfl := hasAllW_nil h2
  obtain ⟨xs, rfl, h3⟩ := hasW_list h1
  obtain ⟨ns, rfl⟩ := items_int h3
  have hlen : ns.length ≤ n := by
    unfold OpenLaw.pre at hc
    have h4 : (WTm.not (.lt (.lit (.int (n : Int))) (.len (.arg 0)))).holds [] { args := [.list (ns.map .int)] } = true := by
      have h4 := (holds_andW hc).1
      rw [hn] at h4
      exact h4
    have h5 := condW_of h4 (w_not (w_lt w_lit (w_len_list (w_arg rfl))))
    rw [List.length_map] at h5
    refine Nat.le_of_not_lt fun q => ?_
    have q' : (n : Int) < ((ns.length : Nat) : Int) := by omega
    first
      | (rw [decide_eq_true q'] at h5; exact absurd h5 (by decide))
      | (simp at h5; omega)
  cases hwl with
  | cons w1 w2 =>
    cases w2
    cases w1 with
    | list ho hall => exact ⟨_, _, ns, rfl, rfl, ho, ints_of_wellAll ns _ hall, hlen⟩
theorem post_true (l : OpenLaw) (args : List WData) : l.row.toRowW.claim.post args (.bool true) args = true :=
  postW_of (r := l.row.toRowW) (X := (true == true))
    (show WShape.has [] (.bool true) .bool = true by first | rfl | decide | simp [WShape.has, WShape.arms, WShape.armsAll])
    (show (WTm.eq .res (.lit (.bool true))).value [] { args := args, res := some (.bool true), after := args } = some (.bool (true == true)) from w_eq_bool (w_res rfl) w_lit) rfl
theorem attach_call {l : OpenLaw} {n : Nat} {q : Program} {loose : List Str} {XP : (Str → Option Value) → Heap → Prop} {YP : World → Heap → Prop} {d : DefRec}
    (hn : l.most = some n) (hdf : d.params.defaults = [])
    (call : ∀ (w : World) (s₀ s₁ : Shared) (mg mb : Str → Option Value) (fa : Addr) (o : Obj) (pm cd doc : Value) (a : Addr) (vs : List Value) (ns : List Int),
      Ground q loose [] XP w s₀ mg mb s₁.heap → YP w s₁.heap →
      s₁.heap.get? fa = some o → o.data = .func (docDef d.name d.params d.body d.scope pm cd doc) → s₁.heap.CodeRec cd d.name → mg d.name = some (.ref fa) →
      s₁.heap.get? a = some { cls := .type "list", data := .seq vs.toArray } → IntsAre vs ns → ns.length ≤ n → s₁.gens = #[] →
      codeAny (model l.prog w) callerA (.call (.ref fa) ⟨[.ref a], []⟩) (fun r s' => r = .ok (.ret (.bool true)) ∧ OldK s₁.heap s'.heap ∧ s'.os = s₁.os ∧ AllBare s'.gens) s₁) :
    WalkO q loose XP YP l.row.toRowW d [] (fun f vs => PySem.call f vs) := by
  intro w s₀ s₁ mg mb G Y fa o pm cd doc dV kV ho hd hcd hD hmg hg args vals as hpre hlay hrd hwl hlo
  obtain rfl : dV = .none := Dflts.none hD hdf
  obtain rfl : kV = .none := Dflts.noKw hD
  obtain ⟨a, vs, ns, rfl, rfl, hobj, hints, hlen⟩ := script_of hn hpre hwl
  refine enter_call (codeAny_mono (call w s₀ s₁ mg mb fa o pm cd doc a vs ns G Y ho (fd_plain hd) hcd hmg hobj hints hlen hg) fun r s' hq => ?_)
  obtain ⟨rfl, h2, h3, h4⟩ := hq
  exact ⟨.inl ⟨.bool true, .bool true, [], rfl, fun _ => rfl, .bool true, post_true l _, fun _ => ⟨List.Pairwise.nil, fun _ hm => (nomatch hm)⟩⟩, h2, h3, h4⟩
section
variable {prog : Program} {w : World} {A : Around} {E : Value → Shared → Prop} {s : Shared} {K : Frag}
end
end Att
namespace L2
open PySem PySem.Spec PyProof.Rows
theorem vals_ints : ∀ {vs : List Value} {ns : List Int}, IntsAre vs ns → Vals (ns.map V.int) vs
  | _, _, .nil => .nil
  | _, _, .cons n t h => .cons ⟨t, rfl⟩ (vals_ints h)
def Only (H : Hp) : Prop := ∀ b, H b = none ∨ ∃ o xs, H b = some (.frz o (.lst xs))
theorem law_call {P : Program} {w : World} {K : PySem.W.Frag} {mg mb : Str → Option Value} {CX : CXT} {k : Nat} {fa a : Addr} {fd : FuncData} {x : Str} {sp : Sp} {s₁ : Shared} {vs : List Value} {ns : List Int}
    (KX : K.In s₁.heap) (hns : s₁.heap.Ns mainGlobals mg) (hb : s₁.heap.Ns builtinsNs mb) (hbb : ∀ x : Str, x ≠ "__name__" → mb x = bootBuiltins x) (hlim : s₁.heap.NoLimit) (hg : s₁.gens = #[])
    (ha : s₁.heap.get? a = some { cls := .type "list", data := .seq vs.toArray }) (hi : IntsAre vs ns) (hl : ns.length ≤ sizeLine) (hr : Room k callerA)
    (F : ∀ base : Heap, K.In base → base.Ns mainGlobals mg → FnOk P w K mg base CX k fa fd [x] sp) (hbind : ∀ (s : Shared) (u : Value), BindsTo s fd ⟨[u], []⟩ [(x, u)])
    (hsp : ∀ H : Hp, Only H → SqL K H a (ns.map V.int) → sp [.ref a] H (fun v _ => v = .bl true) fun _ _ _ => False)
    (hCX : ∀ H e s', CX [] H s₁ (fun _ _ _ => False) e s' → False) :
    codeAny (model P w) callerA (.call (.ref fa) ⟨[.ref a], []⟩) (fun r s' => r = .ok (.ret (.bool true)) ∧ OldK s₁.heap s'.heap ∧ s'.os = s₁.os ∧ AllBare s'.gens) s₁ := by
  have rv := vals_ints hi
  have lenV := hi.length
  -- from an abstract heap in which nothing but the script may be tracked
  have core : ∀ H : Hp, Only H → SqL K H a (ns.map V.int) → HOk P w H s₁.heap → (∀ b, H b ≠ none → b = a) → (H a ≠ none → K.lookup a = none) →
      codeAny (model P w) callerA (.call (.ref fa) ⟨[.ref a], []⟩) (fun r s' => r = .ok (.ret (.bool true)) ∧ OldK s₁.heap s'.heap ∧ s'.os = s₁.os ∧ AllBare s'.gens) s₁ := by
    intro H hO hS hok hA hK
    have base_of : ∀ {b : Addr} {o : Obj}, s₁.heap.get? b = some o → H b = none → (hidT s₁.heap H).get? b = some o := fun e n => hidT_get e n
    have noA : ∀ {b : Addr} {o : Obj} {es : Array DictEntry} {ep : Nat}, s₁.heap.get? b = some o → o.data = .dict es ep → H b = none := fun {b o es ep} e d => by
      cases q : H b with
      | none => rfl
      | some u =>
        have e' : b = a := hA b (by rw [q]; simp)
        subst e'
        rw [ha] at e; cases e
        have d' : Data.seq vs.toArray _ = Data.dict es ep := d
        cases d'
    have nsK : ∀ {b : Addr} {m : Str → Option Value}, s₁.heap.Ns b m → (hidT s₁.heap H).Ns b m := fun {b m} ⟨o, es, ep, e, d, r⟩ => ⟨o, es, ep, base_of e (noA e d), d, r⟩
    have hKb : K.In (hidT s₁.heap H) := fun b o e => base_of (KX b o e) (by
      cases q : H b with
      | none => rfl
      | some u =>
        have e' : b = a := hA b (by rw [q]; simp)
        subst e'
        rw [hK (by rw [q]; simp)] at e; cases e)
    have hM : Mod K mg (hidT s₁.heap H) := ⟨hKb, nsK hns, ⟨mb, nsK hb, hbb⟩, let ⟨mc, h1, h2⟩ := hlim; ⟨mc, nsK h1, h2⟩⟩
    have e0 : Env0 P w K mg (hidT s₁.heap H) callerA [] s₁ H := ⟨rfl, hM, fun b o e => of_hidT e, Nat.le_of_eq (hidT_size _ _), trivial, fun b hb => absurd (show b ∈ ([] : List Addr) from hb) (by simp), hok, .of_eq hg⟩
    refine codeAny_mono ((F _ hKb (nsK hns)).run callerA [] s₁ H ⟨[.ref a], []⟩ [.ref a] [.ref a] _ _ hr e0 (hbind s₁ (.ref a)) (.cons rfl .nil) (hsp H hO hS)) fun r s' h => ?_
    cases r with
    | error e => exact (hCX H e s' h).elim
    | ok fl =>
      cases fl with
      | next => exact False.elim h
      | brk => exact False.elim h
      | cont => exact False.elim h
      | ret u =>
        obtain ⟨v, H', os, bare, un, hok', r', q⟩ := h
        have q' : v = .bl true := q
        subst q'
        obtain rfl : u = Value.bool true := r'
        refine ⟨rfl, OldK.of_keep fun b o e => ?_, os, bare⟩
        cases q : H b with
        | none => exact un.keep b o e q (by intro z; exact absurd (show b ∈ ([] : List Addr) from z) (by simp)) (by simp)
        | some u =>
          rcases hO b with z | ⟨ob, xs, z⟩
          · rw [q] at z; cases z
          · have z2 := un.frzs b ob _ z
            obtain ⟨e1, _⟩ := hok b _ z
            obtain ⟨e2, _⟩ := hok' b _ z2
            rw [e] at e1; cases e1
            exact e2
  cases hk : K.lookup a with
  | some o =>
    -- the script is one of the module's own objects
    have e := KX a o hk
    rw [ha] at e
    cases e
    refine core (fun _ => none) (fun _ => .inl rfl) (.inr ⟨_, vs.toArray, _, hk, rfl, rfl, rfl, by rw [List.size_toArray, lenV]; exact hl, by simpa using rv⟩) (fun b u z => by have z' : (none : Option HO) = some u := z; cases z') (fun b z => absurd rfl z) fun z => absurd rfl z
  | none =>
    refine core (fun b => if b = a then some (.frz { cls := .type "list", data := .seq vs.toArray } (.lst (ns.map V.int))) else none) (fun b => ?_) (.inl (.inr ⟨{ cls := .type "list", data := .seq vs.toArray }, if_pos rfl⟩)) (fun b u z => ?_) (fun b z => ?_) fun _ => hk
    · by_cases hb : b = a
      · exact .inr ⟨_, _, if_pos hb⟩
      · exact .inl (if_neg hb)
    · by_cases hb : b = a
      · have z' := (if_pos hb).symm.trans z
        cases z'
        subst hb
        exact ⟨ha, by rw [List.length_map]; exact hl, vs, _, rv, ha⟩
      · have z' := (if_neg hb).symm.trans z
        cases z'
    · by_cases hb : b = a
      · exact hb
      · exact absurd (if_neg hb) z
end L2
namespace L2
open PySem PySem.Spec PyProof.Rows
theorem walk_of {l : PySem.W.OpenLaw} {n k : Nat} {q : Program} {loose : List Str} {XP : (Str → Option Value) → Heap → Prop} {YP : World → Heap → Prop} {d : DefRec} {K : Params → PySem.W.Frag} {CX : World → CXT} {sp : World → Sp} {x : Str}
    (hn : l.most = some n) (hn2 : n ≤ sizeLine) (hdf : d.params.defaults = []) (hr : Room k callerA)
    (hY : ∀ (w : World) (h : Heap), YP w h → (K w.params).In h)
    (F : ∀ (w : World) (mg : Str → Option Value) (fa : Addr) (h : Heap), (K w.params).In h → h.Ns mainGlobals mg → mg d.name = some (.ref fa) →
      ∃ fd : FuncData, (∀ (s : Shared) (u : Value), BindsTo s fd ⟨[u], []⟩ [(x, u)]) ∧
        ∀ base : Heap, (K w.params).In base → base.Ns mainGlobals mg → FnOk l.prog w (K w.params) mg base (CX w) k fa fd [x] (sp w))
    (hsp : ∀ (w : World) (H : Hp) (a : Addr) (ns : List Int), ns.length ≤ n → Only H → SqL (K w.params) H a (ns.map V.int) → sp w [.ref a] H (fun v _ => v = .bl true) fun _ _ _ => False)
    (hCX : ∀ (w : World) (H : Hp) (s : Shared) (e : Value) (s' : Shared), CX w [] H s (fun _ _ _ => False) e s' → False) :
    PySem.W.WalkO q loose XP YP l.row.toRowW d [] (fun f vs => PySem.call f vs) := by
  refine Att.attach_call hn hdf fun w s₀ s₁ mg mb fa o pm cd doc a vs ns G Y ho hd hcd hmg hobj hints hlen hg => ?_
  have KX := hY w _ Y
  obtain ⟨fd, hb, hF⟩ := F w mg fa _ KX G.T.g hmg
  exact law_call KX G.T.g G.T.b G.T.builtins G.T.nolimit hg hobj hints (Nat.le_trans hlen hn2) hr hF hb (fun H hO hS => hsp w H a ns hlen hO hS) fun H e s' => hCX w H s₁ e s'
end L2
namespace L2
open PySem PySem.Spec PyProof.Rows
def defArgs (s : Stmt) : Arguments := match s with
  | .FunctionDef _ a _ _ _ _ _ _ _ _ => a
  | _ => { posonlyargs := [], args := [], vararg := none, kwonlyargs := [], kw_defaults := [], kwarg := none, defaults := [] }
def defBody (s : Stmt) : List Stmt := match s with
  | .FunctionDef _ _ b _ _ _ _ _ _ _ => b
  | _ => []
def defScope (s : Stmt) : Scope := match s with
  | .FunctionDef _ _ _ _ _ _ sc _ _ _ => sc
  | _ => { kind := .function, names := [], isGenerator := false, isCoroutine := false }
abbrev CX0 : CXT := fun _ _ _ _ _ _ => False
abbrev E0 : XK := fun _ _ _ => False
theorem pass0 {X : Cx} : Passes CX0 X E0 := fun _ _ _ _ _ _ _ h => h.elim
structure Fun (K : PySem.W.Frag) (x qual : Str) (st : Stmt) (f : Addr) (fd : FuncData) : Prop where
  ex : ∃ (oc : Value) (od : Option Addr) (kV doc pm : Value) (an : Option Addr) (cdv ct : Value) (osl : Array (Option Value)),
    fd = PySem.W.fnOf x qual (defArgs st) (defBody st) (defScope st) .none kV doc pm an cdv ct ∧ K.lookup f = some ⟨oc, od, .func fd, osl⟩ ∧ PySem.W.codeIn K cdv qual = true
  kp : PySem.W.keepIn K (.ref f) = true
section
variable {P : Program} {w : World} {K : PySem.W.Frag} {mg : Str → Option Value} {base : Heap}
theorem Fun.ok {x qual : Str} {st : Stmt} {f : Addr} {fd : FuncData} {N ps : List Str} {k : Nat} {sp : Sp} (F : Fun K x qual st f fd) (S : FnScope N ps (defScope st)) (len : ∀ vs H Q E, sp vs H Q E → vs.length = ps.length)
    (hbody : ∀ (cdv : Value) (A : Around) (outer : List Env) (s : Shared) (H : Hp) (vs : List V) (Q : VK) (E : XK), Room k (A.deeper (envOfC qual (defScope st) s.heap.objs.size f cdv)) → sp vs H Q E →
      ∃ t, PSs (cxOf CX0 P w K mg base N qual (defScope st) f cdv A outer s H E).nox (defBody st) t ∧ t { nx := fun _ H' => Q .non H', rt := Q } (start N vs) H) : FnOk P w K mg base CX0 (k + 1) f fd ps sp := by
  obtain ⟨oc, od, kV, doc, pm, an, cdv, ct, osl, rfl, lk, hcd⟩ := F.ex
  refine fn_of lk hcd S len fun A outer s H vs Q E hr hsp => ?_
  obtain ⟨t, h, q⟩ := hbody cdv A outer s H vs Q E hr hsp
  exact ⟨t, h.nox, q⟩
theorem Fun.binds {x qual : Str} {st : Stmt} {f : Addr} {fd : FuncData} {ps : List Str} (F : Fun K x qual st f fd)
    (h : ∀ (kV doc pm : Value) (an : Option Addr) (cdv ct : Value) (us : List Value), us.length = ps.length → bindArgs (PySem.W.fnOf x qual (defArgs st) (defBody st) (defScope st) .none kV doc pm an cdv ct) ⟨us, []⟩ = pure (ps.zip us)) : Binds K fd ps [] := by
  obtain ⟨oc, od, kV, doc, pm, an, cdv, ct, osl, rfl, lk, hcd⟩ := F.ex
  exact .all (h kV doc pm an cdv ct)
theorem fun_mk {x qual : Str} {st : Stmt} {f : Addr} {oc : Value} {od an : Option Addr} {osl : Array (Option Value)} {kV doc pm cdv ct : Value} (l : K.lookup f = some ⟨oc, od, .func (PySem.W.fnOf x qual (defArgs st) (defBody st) (defScope st) .none kV doc pm an cdv ct), osl⟩)
    (c : PySem.W.codeIn K cdv qual = true) (k : PySem.W.keepIn K (.ref f) = true) : Fun K x qual st f (PySem.W.fnOf x qual (defArgs st) (defBody st) (defScope st) .none kV doc pm an cdv ct) := ⟨⟨oc, od, kV, doc, pm, an, cdv, ct, osl, rfl, l, c⟩, k⟩
end
theorem hu_of {A : Around} {k : Nat} (hr : Room k A) : A.units + 1 < cLine := Nat.lt_of_le_of_lt (Nat.add_le_add_left (by decide : 1 ≤ 64) _) hr.units
section
variable {X : Cx}
theorem pv (i : Nat) {x : Str} {pos : Pos} (hN : X.N[i]? = some x := by rfl) (hv : Vis X.env.scope x := by first | exact Or.inl rfl | exact Or.inr (Or.inl rfl) | exact Or.inr (Or.inr rfl)) (hd : (x == ("__debug__" : Str)) = false := by decide)
    (hcd : (x == ("__classdict__" : Str)) = false := by decide) : PE X (.Name x pos) (tVar i) := pe_var hN hv hd hcd
end
theorem iteF {A B : Prop} (h : B) : if false = true then A else B := by
  rw [if_neg Bool.false_ne_true]
  exact h
theorem iteT {A B : Prop} (h : A) : if true = true then A else B := by
  rw [if_pos rfl]
  exact h
def Same (H H' : Hp) : Prop := ∀ b o, H b = some o → H' b = some o
theorem Same.refl (H : Hp) : Same H H := fun _ _ h => h
theorem Same.trans {H H1 H2 : Hp} (a : Same H H1) (b : Same H1 H2) : Same H H2 := fun c o h => b c o (a c o h)
theorem Same.free {H H' : Hp} (e : Same H H') {l : Addr} (h : H' l = Option.none) : H l = Option.none := by
  cases q : H l with
  | none => rfl
  | some o =>
    rw [e l o q] at h
    cases h
theorem Same.seq {K : PySem.W.Frag} {H H' : Hp} {a : Addr} {xs : List V} (e : Same H H') (h : SqL K H a xs) : SqL K H' a xs := by
  rcases h with (h | ⟨o, h⟩) | h
  · exact .inl (.inl (e _ _ h))
  · exact .inl (.inr ⟨o, e _ _ h⟩)
  · exact .inr h
end L2
set_option Elab.async false
set_option linter.all false
set_option maxRecDepth 100000
namespace My
open PySem PySem.Spec PyProof.Rows L2
section
variable {X : Cx}
theorem bits600 {k : Int} (h : k.natAbs < 2 ^ 600) : Builtin.Int.intBits k ≤ 2 ^ 20 :=
  Nat.le_trans (PyProof.Rows.intBits_le (k := 600) h) (by decide)
def CBig (i j : Int) : Prop := i.natAbs < 2 ^ 600 ∧ j.natAbs < 2 ^ 600
theorem op_mulB : OpR X (binaryOp .Mult) (rI CBig fun i j => .int (i * j)) := opI fun _ _ _ _ _ _ _ hc q => mul_int q (IntMulOk.of_bits (bits600 hc.1) (bits600 hc.2))
def CDivB (i j : Int) : Prop := j ≠ 0 ∧ j.natAbs < 2 ^ 600
theorem noPy {x y : Int} (h : y.natAbs < 2 ^ 600) : Builtin.divisionGoesByPylong x y = false := by
  refine PyProof.noPylong_of_log2 ?_
  by_cases h0 : y.natAbs = 0
  · rw [h0]; decide +kernel
  · have h30 : y.natAbs.log2 < 600 := (Nat.log2_lt h0).mpr h
    omega
theorem op_fdivB : OpR X (binaryOp .FloorDiv) (rI CDivB fun i j => .int (i.fdiv j)) := opI fun _ _ _ _ _ _ _ hc q => floordiv_int hc.1 q (.inl (noPy hc.2))
end
theorem same_new {H : Hp} {p : Addr} (h : H p = none) (o : HO) : Same H (upd H p o) := fun b u q => by rw [upd_ne (ne_of_none q h)]; exact q
def cell (ns : List Int) (k : Int) : Int := (ns[k.toNat]?).getD 0
theorem cell_at {ns : List Int} {k : Int} (h0 : 0 ≤ k) (h : k < (ns.length : Int)) : atI (ns.map V.int) k = some (.int (cell ns k)) := by
  have hk : k.toNat < ns.length := by omega
  have ek : k = ((k.toNat : Nat) : Int) := by omega
  have q : atI (ns.map V.int) ((k.toNat : Nat) : Int) = some (.int ns[k.toNat]) := atI_nat (by rw [List.getElem?_map, List.getElem?_eq_getElem hk] <;> rfl)
  rw [← ek] at q
  rw [q]
  unfold cell
  rw [List.getElem?_eq_getElem hk]
  rfl
theorem cell_out {ns : List Int} {k : Int} (h : ¬ k < (ns.length : Int)) (h0 : 0 ≤ k) : cell ns k = 0 := by
  unfold cell
  rw [List.getElem?_eq_none (by omega)]
  rfl
end My
set_option Elab.async false
set_option linter.all false
set_option maxRecDepth 100000
namespace My
open PySem PySem.Spec PyProof.Rows L2
section
variable {X : Cx}
end
end My
set_option Elab.async false
set_option linter.all false
set_option maxRecDepth 100000
set_option maxHeartbeats 1000000
namespace My
open PySem PySem.Spec PyProof.Rows L2
section
variable {X : Cx} {pins : List (Addr × Obj)} {σ : L2.St} {H : Hp} {s : Shared} {h' : Heap}
structure Rec (X : Cx) (pins : List (Addr × Obj)) (H : Hp) (h : Heap) (b : Addr) : Prop where
  nw : X.s₀.heap.get? b = none
  un : H b = none
  pin : ∀ p ∈ X.pn ++ pins, p.1 ≠ b
  ob : ∃ o vs, h.get? b = some o ∧ o.data = .fields vs
theorem Rec.loc (I : Inv X pins σ H s) {b : Addr} (r : Rec X pins H s.heap b) : b ≠ X.env.locals := fun z => by
  obtain ⟨o, vs, e, d⟩ := r.ob
  obtain ⟨m, ⟨o', es, ep, e', d', _⟩, _⟩ := I.loc
  rw [z, e'] at e; cases e; rw [d'] at d; cases d
theorem Rec.cel (I : Inv X pins σ H s) {b : Addr} (r : Rec X pins H s.heap b) : ∀ x c, X.env.cells.lookup x = some c → c ≠ b := fun x c hc z => by
  obtain ⟨o, vs, e, d⟩ := r.ob
  obtain ⟨v, o', e', d'⟩ := I.cell x c hc
  rw [z, e] at e'; cases e'; rw [d] at d'; cases d'
theorem Rec.frs (I : Inv X pins σ H s) {b : Addr} (r : Rec X pins H s.heap b) : b ∉ frs X.stack := fun z => by
  obtain ⟨o, vs, e, d⟩ := r.ob
  obtain ⟨_, o', e', d'⟩ := I.stack.mem z
  rw [e] at e'; cases e'; exact d' vs d
theorem Inv.marks {ch : List Addr} {t' : Nat} (I : Inv X pins σ H s) (hch : ∀ b ∈ ch, Rec X pins H s.heap b)
    (k1 : ∀ b o, b ∉ frs X.stack → b ∉ ch → s.heap.get? b = some o → h'.get? b = some o)
    (k2 : ∀ b o, b ∉ ch → s.heap.get? b = some o → ∃ sl, h'.get? b = some { o with slots := sl }) : Inv X pins σ H { s with heap := h', toks := t' } := by
  have sub : ∀ b, b ≠ X.env.locals → b ∉ X.fs → b ∉ frs X.stack := fun b h1 h2 z => (List.mem_cons.mp (I.stkSub b z)).elim h1 h2
  have neL : ∀ b o, X.s₀.heap.get? b = some o → b ≠ X.env.locals := fun b o e => Nat.ne_of_lt (Nat.lt_of_lt_of_le (Heap.lt_size e) I.ok.above)
  have neC : ∀ b o, X.s₀.heap.get? b = some o → b ∉ ch := fun b o e z => by rw [(hch b z).nw] at e; cases e
  have cel : ∀ x c, X.env.cells.lookup x = some c → ∀ v, s.heap.IsCell c v → h'.IsCell c v := fun x c e v ⟨o, ho, hd⟩ => by
    obtain ⟨sl, q⟩ := k2 c o (fun z => (hch c z).cel I x c e rfl) ho
    exact ⟨_, q, hd⟩
  refine ⟨I.ok, I.os, I.bare, ⟨fun b o e n hb hx => k1 b o (sub b (neL b o e) hb) (neC b o e) (I.base.keep b o e n hb hx), fun b o e n hb hx => ?_, I.base.free, fun b o e hx => ?_, I.base.tups, I.base.frzs, I.base.tbls⟩,
    ?_, fun x c e => ?_, I.free, I.freeC, fun p hp => ?_, fun a o e => ?_, I.len⟩
  · obtain ⟨sl, e1⟩ := I.base.slot b o e n hb hx
    obtain ⟨sl', e2⟩ := k2 b _ (neC b o e) e1
    exact ⟨sl', e2⟩
  · obtain ⟨o', e1⟩ := I.base.there b o e hx
    obtain ⟨sl', e2⟩ := k2 b _ (neC b o e) e1
    exact ⟨_, e2⟩
  · obtain ⟨m, hm, hl⟩ := I.loc
    have hm' : h'.Ns X.env.locals m := by
      obtain ⟨o, es, ep, e, r⟩ := hm
      obtain ⟨sl, q⟩ := k2 _ o (fun z => (hch _ z).loc I rfl) e
      exact ⟨_, es, ep, q, r⟩
    refine ⟨m, hm', fun i x v e1 e2 e3 => ?_⟩
    obtain ⟨u, r, l⟩ := hl i x v e1 e2 e3
    refine ⟨u, r, ?_⟩
    rcases l with l | ⟨k, c, e, z⟩
    · exact .inl l
    · exact .inr ⟨k, c, e, cel x c e _ z⟩
  · obtain ⟨v, z⟩ := I.cell x c e
    exact ⟨v, cel x c e v z⟩
  · obtain ⟨e, n, ne, nf, d⟩ := I.pin p hp
    exact ⟨k1 p.1 p.2 (sub p.1 ne nf) (fun z => (hch p.1 z).pin p hp rfl) e, n, ne, nf, d⟩
  · refine (I.hok a o e).stay (fun b u hb q => k1 b u ?_ ?_ q) (fun _ q => q) fun _ _ q => q
    · intro z
      have n := I.stkFree b z
      rcases hb with rfl | hb
      · rw [n] at e; cases e
      · rw [n] at hb; cases hb
    · intro z
      have n := (hch b z).un
      rcases hb with rfl | hb
      · rw [n] at e; cases e
      · rw [n] at hb; cases hb
theorem obj_there {P : Program} {w : World} {H : Hp} {h : Heap} {a : Addr} {o : HO} (x : ObjOk P w H h a o) : ∃ ob, h.get? a = some ob := by
  cases o with
  | lst xs => obtain ⟨_, _, _, _, e⟩ := x; exact ⟨_, e⟩
  | tup xs => obtain ⟨_, _, _, ob, e, _⟩ := x; exact ⟨_, e⟩
  | dK kvs => obtain ⟨_, _, _, _, o, _, _, e, _⟩ := x; exact ⟨_, e⟩
  | dT kvs => obtain ⟨_, _, _, _, o, _, _, e, _⟩ := x; exact ⟨_, e⟩
  | set S n => obtain ⟨o, _, _, _, e, _⟩ := x; exact ⟨_, e⟩
  | ins C dx fs => obtain ⟨_, _, _, e, _⟩ := x; exact ⟨_, e⟩
  | own y => exact x
  | xd fs => obtain ⟨_, ⟨_, _, _, e, _⟩, _⟩ := x; exact ⟨_, e⟩
  | rng lo hi => obtain ⟨_, _, _, e⟩ := x; exact ⟨_, e⟩
  | frz ob u => obtain ⟨e, _⟩ := x; exact ⟨_, e⟩
  | tbl ps => exact ⟨_, (show h.get? a = some _ from x)⟩
  | met f y => exact ⟨_, (show h.get? a = some _ from x)⟩
  | ext φ => obtain ⟨_, e, _⟩ := x; exact e
theorem un_of {P : Program} {w : World} {H : Hp} {h : Heap} {a : Addr} (x : HOk P w H h) (e : h.get? a = none) : H a = none := by
  cases q : H a with
  | none => rfl
  | some o => obtain ⟨ob, z⟩ := obj_there (x a o q); rw [e] at z; cases z
theorem new_of (I : Inv X pins σ H s) (hex : X.ex = []) {b : Addr} (e : s.heap.get? b = none) : X.s₀.heap.get? b = none := by
  cases q : X.s₀.heap.get? b with
  | none => rfl
  | some o => obtain ⟨o', z⟩ := I.base.there b o q (by rw [hex]; simp); rw [e] at z; cases z
def XNew (h : Heap) (e : Addr) (C : Value) (d : Option Addr) : Prop :=
  ∃ oe vs, h.get? e = some oe ∧ oe.cls = C ∧ oe.dict = d ∧ oe.data = .fields vs ∧ vs[1]? = some .none
def XTr (h : Heap) (e : Addr) (C : Value) (d : Option Addr) (fl : Value) (T : Addr) : Prop :=
  ∃ oe vs oT ts, h.get? e = some oe ∧ oe.cls = C ∧ oe.dict = d ∧ oe.data = .fields vs ∧ vs[1]? = some (.ref T) ∧ T ≠ e ∧ h.get? T = some oT ∧ oT.data = .fields ts ∧ ts[3]? = some fl
def XIn (X : Cx) (pins : List (Addr × Obj)) (H : Hp) (h : Heap) (e : Addr) (C : Value) (d : Option Addr) : Prop :=
  Rec X pins H h e ∧ (XNew h e C d ∨ ∃ T, Rec X pins H h T ∧ (XTr h e C d .none T ∨ XTr h e C d (rawInt X.env.locals) T))
def XHeld (X : Cx) (pins : List (Addr × Obj)) (H : Hp) (h : Heap) (e : Addr) (C : Value) (d : Option Addr) (fl : Value) : Prop :=
  Rec X pins H h e ∧ ∃ T, Rec X pins H h T ∧ XTr h e C d fl T
theorem dict_mapF (f : Array Value → Array Value) (o : Obj) : (o.mapFields f).dict = o.dict := by
  obtain ⟨c, d, dt, sl⟩ := o
  cases dt <;> rfl
theorem entry_x {M : Model} {A : Around} {E : Value → Shared → Prop} {e : Addr} {C : Value} {d : Option Addr} {head : Value} {hadNext : Bool} {Q : Unit → Shared → Prop}
    (I : Inv X pins σ H s) (hA : A.frames = some X.stack) (hst : X.stack = X.env :: X.outer) (hf : X.env.frame = some X.env.locals) (r : Rec X pins H s.heap e)
    (ho : ∃ oe vs, s.heap.get? e = some oe ∧ oe.cls = C ∧ oe.dict = d ∧ oe.data = .fields vs ∧ 1 < vs.size)
    (h : ∀ s', Inv X pins σ H s' → XHeld X pins H s'.heap e C d (rawInt X.env.locals) → Q () s') :
    wpAny M A (do let a ← frameOf X.env; let pl ← entryPlaceOf X.env.locals hadNext; let b ← EntryCells.newEntry head a .none (rawInt X.env.locals) .none pl; setField (.ref e) 1 b) Q E s := by
  obtain ⟨oe, vs, he, hc, hdd, hd, hsz⟩ := ho
  have hl := I.stack
  rw [hst] at hl hA
  have ne : e ∉ L2.frs X.stack := r.frs I
  refine wpAny_bind (wpAny_frameOf_fun hA hl hf fun h₁ hs₁ => wpAny_bind (wpAny_entryPlaceOf fun pl hpl => ?_))
  unfold EntryCells.newEntry newFields
  refine wpAny_bind (wpAny_newObj_type ?_ (hpl.sizeOk5 _ _ _ _ _))
  rw [← hst] at hs₁
  have he1 : h₁.get? e = some oe := (hs₁.2.1 e ne).trans he
  generalize hN : ({ cls := .type "traceback", dict := none, data := .fields ([head, .ref X.env.locals, .none, rawInt X.env.locals, .none] ++ (if pl.isEmpty then List.replicate 6 Value.none else pl)).toArray } : Obj) = N
  have he2 : (h₁.push N).get? e = some oe := Heap.get?_push_of_some _ he1
  refine wpAny_setField he2 hd hsz (h _ ?_ ?_)
  · refine Inv.marks (s := s) (ch := [e]) (t' := s.toks) I (fun b hb => by rw [List.mem_singleton.mp hb]; exact r) (fun b o h1 h2 q => ?_) fun b o h2 q => ?_
    · have hb : b ≠ e := fun z => h2 (by simp [z])
      rw [Heap.get?_update_other _ _ (Ne.symm hb)]
      exact Heap.get?_push_of_some _ ((hs₁.2.1 b h1).trans q)
    · have hb : b ≠ e := fun z => h2 (by simp [z])
      obtain ⟨sl, q1⟩ := hs₁.2.2 b o q
      exact ⟨sl, by rw [Heap.get?_update_other _ _ (Ne.symm hb)]; exact Heap.get?_push_of_some _ q1⟩
  · have sz1 : h₁.objs.size = s.heap.objs.size := hs₁.1
    have hTe : h₁.objs.size ≠ e := Nat.ne_of_gt (Heap.lt_size he1)
    have d3 := Obj.data_mapFields hd (·.setIfInBounds 1 (Value.ref h₁.objs.size))
    have e3 := Heap.get?_update_self (Obj.mapFields (·.setIfInBounds 1 (Value.ref h₁.objs.size))) he2 (Obj.isFreed_of_fields d3)
    have nf : N.isFreed = false := by rw [← hN]; rfl
    have t3 := (Heap.get?_update_other (h₁.push N) (Obj.mapFields (·.setIfInBounds 1 (Value.ref h₁.objs.size))) (Ne.symm hTe)).trans (Heap.get?_push_size h₁ nf)
    have rT : Rec X pins H ((h₁.push N).update e (Obj.mapFields (·.setIfInBounds 1 (Value.ref h₁.objs.size)))) h₁.objs.size := by
      refine ⟨Heap.get?_none_of_le (by rw [sz1]; exact I.sz), I.hok.fresh (by rw [sz1]; exact Nat.le_refl _), fun p hp z => ?_, ⟨N, _, t3, by rw [← hN]⟩⟩
      obtain ⟨q, _⟩ := I.pin p hp
      have w := Heap.lt_size q
      rw [z, sz1] at w
      exact absurd w (Nat.lt_irrefl _)
    refine ⟨⟨r.nw, r.un, r.pin, ⟨_, _, e3, d3⟩⟩, h₁.objs.size, rT, _, _, N, _, e3, (Obj.cls_mapFields _ _).trans hc, ?_, d3, by simp [hsz], hTe, t3, by rw [← hN], ?_⟩
    · rw [← hdd]; exact dict_mapF _ _
    · first | (simp; done) | (rcases hpl with rfl | ⟨_, _, _, _, _, _, _, rfl⟩ <;> simp)
theorem note_x {M : Model} {A : Around} {E : Value → Shared → Prop} {e : Addr} {C : Value} {d : Option Addr} {Q : Unit → Shared → Prop}
    (I : Inv X pins σ H s) (hA : A.frames = some X.stack) (hst : X.stack = X.env :: X.outer) (hf : X.env.frame = some X.env.locals) (x : XIn X pins H s.heap e C d)
    (h : ∀ s', Inv X pins σ H s' → XHeld X pins H s'.heap e C d (rawInt X.env.locals) → Q () s') : wpAny M A (noteFrame (.ref e) X.env) Q E s := by
  obtain ⟨r, x⟩ := x
  unfold noteFrame
  simp only [hf]
  rcases x with ⟨oe, vs, he, hc, hdd, hd, h1⟩ | ⟨T, rT, ⟨oe, vs, oT, ts, he, hc, hdd, hd, h1, hTe, hT, hdT, h3⟩ | ⟨oe, vs, oT, ts, he, hc, hdd, hd, h1, hTe, hT, hdT, h3⟩⟩
  · refine wpAny_bind (wpAny_field he hd h1 ?_)
    rw [if_neg (by decide)]
    exact entry_x I hA hst hf r ⟨oe, vs, he, hc, hdd, hd, (Array.getElem?_eq_some_iff.mp h1).1⟩ h
  · refine wpAny_bind (wpAny_field he hd h1 ?_)
    rw [if_pos (show (Value.ref T != Value.none) = true from by simp)]
    refine wpAny_bind (wpAny_field hT hdT h3 ?_)
    rw [if_neg (show ¬ ((Value.none == rawInt X.env.locals) = true) from by simp [rawInt])]
    refine wpAny_bind (wpAny_setField hT hdT (Array.getElem?_eq_some_iff.mp h3).1 ?_)
    have oth : ∀ b, b ≠ T → (s.heap.update T (Obj.mapFields (·.setIfInBounds 3 Value.none))).get? b = s.heap.get? b := fun b hb => Heap.get?_update_other _ _ (Ne.symm hb)
    have J : Inv X pins σ H { s with heap := s.heap.update T (Obj.mapFields (·.setIfInBounds 3 Value.none)) } :=
      Inv.marks (s := s) (ch := [T]) (t' := s.toks) I (fun b hb => by rw [List.mem_singleton.mp hb]; exact rT) (fun b o _ h2 q => (oth b fun z => h2 (by simp [z])).trans q) fun b o h2 q => ⟨o.slots, (oth b fun z => h2 (by simp [z])).trans q⟩
    have he' := (oth e (Ne.symm hTe)).trans he
    exact entry_x J hA hst hf ⟨r.nw, r.un, r.pin, ⟨oe, vs, he', hd⟩⟩ ⟨oe, vs, he', hc, hdd, hd, (Array.getElem?_eq_some_iff.mp h1).1⟩ h
  · refine wpAny_bind (wpAny_field he hd h1 ?_)
    rw [if_pos (show (Value.ref T != Value.none) = true from by simp)]
    refine wpAny_bind (wpAny_field hT hdT h3 ?_)
    rw [if_pos (show (rawInt X.env.locals == rawInt X.env.locals) = true from by first | (simp; done) | exact beq_self_eq_true _)]
    exact wpAny_pure (h s I ⟨r, T, rT, oe, vs, oT, ts, he, hc, hdd, hd, h1, hTe, hT, hdT, h3⟩)
theorem flight_g (fr : Option Addr) {M : Model} {A : Around} {E : Value → Shared → Prop} {e : Addr} {C fl : Value} {d : Option Addr} {Q : Unit → Shared → Prop}
    (I : Inv X pins σ H s) (x : XHeld X pins H s.heap e C d fl)
    (h : ∀ s', Inv X pins σ H s' → XHeld X pins H s'.heap e C d (fr.elim Value.none fun f => rawInt f) → Q () s') : wpAny M A (setFlight (.ref e) fr) Q E s := by
  obtain ⟨r, T, rT, oe, vs, oT, ts, he, hc, hdd, hd, h1, hTe, hT, hdT, h3⟩ := x
  have hsz := (Array.getElem?_eq_some_iff.mp h3).1
  unfold setFlight
  refine wpAny_bind (wpAny_field he hd h1 ?_)
  rw [if_pos (show (Value.ref T != Value.none) = true from by simp)]
  refine wpAny_setField hT hdT hsz (h _ ?_ ?_)
  all_goals have oth : ∀ b, b ≠ T → (s.heap.update T (Obj.mapFields (·.setIfInBounds 3 (fr.elim Value.none fun f => rawInt f)))).get? b = s.heap.get? b := fun b hb => Heap.get?_update_other _ _ (Ne.symm hb)
  · exact Inv.marks (s := s) (ch := [T]) (t' := s.toks) I (fun b hb => by rw [List.mem_singleton.mp hb]; exact rT) (fun b o _ h2 q => (oth b fun z => h2 (by simp [z])).trans q) fun b o h2 q => ⟨o.slots, (oth b fun z => h2 (by simp [z])).trans q⟩
  · have he' := (oth e (Ne.symm hTe)).trans he
    have d3 := Obj.data_mapFields hdT (·.setIfInBounds 3 (fr.elim Value.none fun f => rawInt f))
    have hT' := Heap.get?_update_self (Obj.mapFields (·.setIfInBounds 3 (fr.elim Value.none fun f => rawInt f))) hT (Obj.isFreed_of_fields d3)
    exact ⟨⟨r.nw, r.un, r.pin, ⟨oe, vs, he', hd⟩⟩, T, ⟨rT.nw, rT.un, rT.pin, ⟨_, _, hT', d3⟩⟩, oe, vs, _, _, he', hc, hdd, hd, h1, hTe, hT', d3, by simp [hsz]⟩
theorem flight_x {M : Model} {A : Around} {E : Value → Shared → Prop} {e : Addr} {C fl : Value} {d : Option Addr} {Q : Unit → Shared → Prop}
    (I : Inv X pins σ H s) (x : XHeld X pins H s.heap e C d fl)
    (h : ∀ s', Inv X pins σ H s' → XHeld X pins H s'.heap e C d .none → Q () s') : wpAny M A (setFlight (.ref e) none) Q E s := flight_g none I x h
theorem XHeld.xinL {h : Heap} {e : Addr} {C : Value} {d : Option Addr} (x : XHeld X pins H h e C d (rawInt X.env.locals)) : XIn X pins H h e C d :=
  let ⟨r, T, rT, q⟩ := x
  ⟨r, .inr ⟨T, rT, .inr q⟩⟩
def CX1 (P : Program) (w : World) : CXT := fun outer H s E e s' => ∃ (a : Addr) (C : Value) (d : Option Addr) (H' : Hp), e = .ref a ∧ s'.os = s.os ∧ AllBare s'.gens ∧ Un (L2.frs outer) [] H H' s.heap s'.heap ∧ HOk P w H' s'.heap ∧
  s.heap.get? a = none ∧ H' a = none ∧ (∃ T, s.heap.get? T = none ∧ H' T = none ∧ XTr s'.heap a C d .none T) ∧ E C d H'
def Xes (X : Cx) (W : L2.St → XK) : Prop := ∀ (pins : List (Addr × Obj)) (σ : L2.St) (H : Hp) (s : Shared) (a : Addr) (C : Value) (d : Option Addr), Inv X pins σ H s → XIn X pins H s.heap a C d → W σ C d H → X.xe (.ref a) s
theorem xes_call {W : L2.St → XK} (h : Xes X W) (hex : X.ex = []) {e : Value} {s' : Shared} (I : Inv X pins σ H s) (q : CX1 X.prog X.w X.stack H s (W σ) e s') : X.xe e s' := by
  obtain ⟨a, C, d, H', rfl, os, bare, un, hok, la, na, ⟨T, lT, nT, x⟩, w⟩ := q
  have J : Inv X pins σ H' s' := I.call' (ch := []) os un hok bare (fun b z => absurd z (by simp))
  have pn : ∀ b, s.heap.get? b = none → ∀ p ∈ X.pn ++ pins, p.1 ≠ b := fun b lb p hp z => by
    have w := (I.pin p hp).1
    rw [z, lb] at w
    cases w
  obtain ⟨oe, vs, oT, ts, he, hc, hdd, hd, h1, hTe, hT, hdT, h3⟩ := id x
  exact h pins σ H' s' a C d J ⟨⟨new_of I hex la, na, pn a la, ⟨oe, vs, he, hd⟩⟩, .inr ⟨T, ⟨new_of I hex lT, nT, pn T lT, ⟨oT, ts, hT, hdT⟩⟩, .inl x⟩⟩ w
end
end My
set_option Elab.async false
set_option linter.all false
set_option maxRecDepth 100000
set_option maxHeartbeats 1000000
namespace My
open PySem PySem.Spec PyProof.Rows L2
section
variable {X : Cx} {pins : List (Addr × Obj)} {σ : L2.St} {H : Hp} {s : Shared} {W : L2.St → XK}
def XSt (X : Cx) (W : L2.St → XK) (e : Value) (s : Shared) : Prop := ∃ (a : Addr) (C : Value) (d : Option Addr) (σ : L2.St) (H : Hp), e = .ref a ∧ Inv X [] σ H s ∧ XIn X [] H s.heap a C d ∧ W σ C d H
abbrev xw (X : Cx) (W : L2.St → XK) : Cx := X.wish (XSt X W)
theorem Rec.less {h : Heap} {b : Addr} (r : Rec X pins H h b) : Rec X [] H h b := ⟨r.nw, r.un, fun p hp => r.pin p (by rw [List.append_nil] at hp; exact List.mem_append_left _ hp), r.ob⟩
theorem XIn.less {h : Heap} {a : Addr} {C : Value} {d : Option Addr} (x : XIn X pins H h a C d) : XIn X [] H h a C d := by
  obtain ⟨r, x⟩ := x
  rcases x with x | ⟨T, rT, x⟩
  · exact ⟨r.less, .inl x⟩
  · exact ⟨r.less, .inr ⟨T, rT.less, x⟩⟩
theorem Rec.unwish {E : Value → Shared → Prop} {h : Heap} {b : Addr} (r : Rec (X.wish E) pins H h b) : Rec X pins H h b := ⟨r.nw, r.un, r.pin, r.ob⟩
theorem XIn.unwish {E : Value → Shared → Prop} {h : Heap} {a : Addr} {C : Value} {d : Option Addr} (x : XIn (X.wish E) pins H h a C d) : XIn X pins H h a C d := by
  obtain ⟨r, x⟩ := x
  rcases x with x | ⟨T, rT, x⟩
  · exact ⟨r.unwish, .inl x⟩
  · exact ⟨r.unwish, .inr ⟨T, rT.unwish, x⟩⟩
theorem xes_xw : Xes (xw X W) W := fun pins σ H s a C d I x w => ⟨a, C, d, σ, H, rfl, I.unwish.pins_of (fun _ z => nomatch z), x.unwish.less, w⟩
theorem pass_xw (hst : X.stack = X.env :: X.outer) (hf : X.env.frame = some X.env.locals) : PassesOwn (model X.prog X.w) X.A X.env (XSt X W) := by
  rintro e s' ⟨a, C, d, σ, H, rfl, I, x, w⟩
  show wpAny _ _ (noteFrame (.ref a) X.env) _ _ s'
  refine note_x I I.ok.frames hst hf x fun s2 I2 x2 => ?_
  obtain ⟨r, T, rT, oe, vs, oT, ts, he, hc, hdd, hd, h1, r2⟩ := id x2
  unfold cameBackBy
  refine wpAny_bind (wpAny_field he hd h1 ?_)
  have fin : wpAny (model X.prog X.w) X.A (setFlight (.ref a) X.env.frame) (fun _ s'' => XSt X W (.ref a) s'') (XSt X W) s2 := by
    rw [hf]
    exact flight_g (some X.env.locals) I2 x2 fun s3 I3 x3 => ⟨a, C, d, σ, H, rfl, I3, XHeld.xinL x3, w⟩
  first
    | (rw [if_neg (show ¬ ((Value.ref T == Value.none) = true) from by simp)]; exact fin)
    | (rw [if_neg (show ¬ ((Value.ref T == Value.none) = true) from by simp)]; exact wpAny_bind (wpAny_pure fin))
    | (refine wpAny_bind ?_; rw [if_neg (show ¬ ((Value.ref T == Value.none) = true) from by simp)]; exact wpAny_pure fin)
theorem PSs.xes {st : List Stmt} {t : TS} (hx : Xes X W) (h : PSs (xw X W) st t) : PSs X st t := fun pins s σ H D I hw =>
  wpAny_mono (h pins s σ H D (I.wish _) hw) (fun _ _ q => q.unwish) fun _ _ ⟨a, C, d, σ', H', e, I', x, w⟩ => by subst e; exact hx [] σ' H' _ a C d I' x w
end
section
variable {P : Program} {w : World} {K : PySem.W.Frag} {mg : Str → Option Value} {base : Heap}
theorem xes_fn {N : List Str} {qual : Str} {scope : Scope} {f : Addr} {cd : Value} {A : Around} {outer : List Env} {s : Shared} {H : Hp} {E : XK} :
    Xes (cxOf (CX1 P w) P w K mg base N qual scope f cd A outer s H E) (fun _ => E) := by
  intro pins σ H1 s1 a C d I x wE
  show wpAny _ _ (leaving _ _) _ _ s1
  unfold leaving
  refine wpAny_bind (note_x I I.ok.frames rfl rfl x fun s2 I2 x2 => flight_x I2 x2 fun s3 I3 x3 => ?_)
  obtain ⟨r, T, rT, xt⟩ := x3
  exact ⟨a, C, d, H1, rfl, I3.os, I3.bare, I3.base, I3.hok, r.nw, r.un, ⟨T, rT.nw, rT.un, xt⟩, wE⟩
theorem okX {x qual : Str} {st : Stmt} {f : Addr} {fd : FuncData} {N ps : List Str} {k : Nat} {sp : Sp} (F : Fun K x qual st f fd) (S : FnScope N ps (defScope st)) (len : ∀ vs H Q E, sp vs H Q E → vs.length = ps.length)
    (hbody : ∀ (cdv : Value) (A : Around) (outer : List Env) (s : Shared) (H : Hp) (vs : List V) (Q : VK) (E : XK), Room k (A.deeper (envOfC qual (defScope st) s.heap.objs.size f cdv)) → sp vs H Q E →
      ∃ t, PSs (xw (cxOf (CX1 P w) P w K mg base N qual (defScope st) f cdv A outer s H E) (fun _ => E)) (defBody st) t ∧ t { nx := fun _ H' => Q .non H', rt := Q } (start N vs) H) : FnOk P w K mg base (CX1 P w) (k + 1) f fd ps sp := by
  obtain ⟨oc, od, kV, doc, pm, an, cdv, ct, osl, rfl, lk, hcd⟩ := F.ex
  refine fn_of lk hcd S len fun A outer s H vs Q E hr hsp => ?_
  obtain ⟨t, ht, q⟩ := hbody cdv A outer s H vs Q E hr hsp
  exact ⟨t, PSs.xes xes_fn ht, q⟩
end
section
variable {X : Cx} {k : Nat} {f : Addr} {fd : FuncData} {ps : List Str} {sp : Sp} {dvs : List V} {ds : List Value} {W : L2.St → XK} {x : Str} {p pos : Pos} {e : Expr} {es : List Expr} {t : TA}
def tCallX (sp : Sp) (dvs : List V) (W : L2.St → XK) (t : TA) : TE := fun σ H Q => t σ H fun vs H1 => sp (vs ++ dvs) H1 Q (W σ)
theorem run_fnX {pins : List (Addr × Obj)} {σ : L2.St} {H : Hp} {s : Shared} {Q : VK} {us : List Value} {vs : List V} (F : FnOk X.prog X.w X.K X.mg X.base (CX1 X.prog X.w) k f fd ps sp) (hr : Room k X.A) (hb : Binds X.K fd ps ds) (hd : Vals dvs ds) (hx : Xes X W) (hex : X.ex = [])
    (I : Inv X pins σ H s) (r : Vals vs us) (h : sp (vs ++ dvs) H Q (W σ)) : wpAny (model X.prog X.w) X.A (call (.ref f) us) (EP X pins σ Q) X.xe s := by
  have r2 : Vals (vs ++ dvs) (us ++ ds) := r.append hd
  have hl : (us ++ ds).length = ps.length := by rw [← r2.length]; exact F.len _ _ _ _ h
  refine wpAny_call (codeAny_mono (F.run X.A X.stack s H ⟨us, []⟩ (us ++ ds) (vs ++ dvs) Q (W σ) hr I.env0 (hb s us I.kIn hl) r2 h) fun r s' hq => ?_)
  match r, hq with
  | .error e, hq => exact xes_call hx hex I hq
  | .ok (.ret u), hq => exact I.after hq
  | .ok .next, hq => exact False.elim hq
  | .ok .brk, hq => exact False.elim hq
  | .ok .cont, hq => exact False.elim hq
theorem pe_callX (F : FnOk X.prog X.w X.K X.mg X.base (CX1 X.prog X.w) k f fd ps sp) (hr : Room k X.A) (hg : Gl X x) (hm : X.mg x = some (.ref f)) (hk : PySem.W.keepIn X.K (.ref f) = true) (hb : Binds X.K fd ps ds) (hd : Vals dvs ds) (hx : Xes X W)
    (ha : PA X (e :: es) t) (hex : X.ex = [] := by rfl) (hdb : (x == ("__debug__" : Str)) = false := by decide) (he : starEach (e :: es) X.env = (false, eval e X.env) :: starEach es X.env := by rfl) (hpl : (backTo pos (starEach es X.env)).any (·.1) = false := by rfl) :
    PE X (.Call (.Name x p) (e :: es) [] pos) (tCallX sp dvs W t) := by
  intro pins s σ H Q I h
  refine wpAny_Call_Name_kw (ld_glob I hg hm ?_ hdb)
  refine PySem.W.callWith_K (h₀ := X.base) I.ok.mod.kin hk (thn (ha pos pins s σ H _ I h) fun us s1 ⟨vs, H1, I1, r, q⟩ => ⟨I1.kIn, ?_⟩) he hpl
  exact run_fnX F hr hb hd hx hex I1 r q
end
structure XCls (K : PySem.W.Frag) (C : Addr) : Prop where
  ob : ∃ (nm q : Str) (N : Addr) (bs bm : List Value) (hdct : Bool) (sn : List Str) (sub : List Value) (ab : Bool) (col : Option Bool) (dd : Option Addr) (k0 k1 k2 k3 k5 : Option Value) (mN : Str → Option Value),
    K.lookup C = some (excClassObj nm q C N bs bm hdct sn sub ab col dd k0 k1 k2 k3 k5 "ValueError.__new__") ∧ (∀ h : Heap, K.In h → h.Ns N mN) ∧ mN "__init__" = none ∧
    ∀ h : Heap, K.In h → OwnTail h [.type "ValueError", .type "Exception", .type "BaseException", .type "object"] bm
section
variable {X : Cx} {x : Str} {C : Addr} {W : L2.St → XK} {np cpos pos : Pos} {e : Expr} {es : List Expr} {t : TA}
def tRaise (t : TA) (C : Addr) (W : L2.St → XK) : TS := fun _ σ H => t σ H fun xs H1 => xs.length ≤ sizeLine ∧ W σ (.ref C) none H1
theorem ps_raise (hc : X.calm = true) (M : XCls X.K C) (hg : Gl X x) (hm : X.mg x = some (.ref C)) (hx : Xes X W) (ha : PA X (e :: es) t) (hex : X.ex = [] := by rfl) (hdb : (x == ("__debug__" : Str)) = false := by decide)
    (he : starEach (e :: es) X.env = (false, eval e X.env) :: starEach es X.env := by rfl) (hpl : (backTo cpos (starEach es X.env)).any (·.1) = false := by rfl) :
    PS X (.Raise (some (.Call (.Name x np) (e :: es) [] cpos)) none pos) (tRaise t C W) := by
  intro pins s σ H D I h
  obtain ⟨nm, q, N, bs, bm, hdct, sn, sub, ab, col, dd, k0, k1, k2, k3, k5, mN, hC, hN, hni, T⟩ := M.ob
  refine wpAny_Raise_call_subU (C := C) (nm := nm) (q := q) (N := N) (bs := bs) (bm := bm) (hdct := hdct) (sn := sn) (sub := sub) (ab := ab) (col := col) (dd := dd) (k0 := k0) (k1 := k1) (k2 := k2) (k3 := k3) (k5 := k5)
    PySem.F.excBase_ValueError (by decide) PySem.F.excBase_ValueError (mN := mN) ((T _ I.kIn).hasType PySem.F.excBase_ValueError.hasBase) (I.ok.hd hc) ?_ hni ?_
  · rw [he]; show (false || (backTo cpos (starEach es X.env)).any (·.1)) = false; rw [hpl]; rfl
  · refine ld_glob I hg hm ⟨rfl, ?_⟩ hdb
    have z := ha cpos pins s σ H _ I h
    rw [he] at z ⊢
    refine Calls.evalArgs_plain (wpAny_mono z (fun us s2 ⟨vs, H2, I2, r, hl, q⟩ => ⟨rfl, by rw [← r.length]; exact hl, I2.kIn _ _ hC, hN _ I2.kIn, T _ I2.kIn, fun h' a m => ?_⟩) fun _ _ y => y)
    obtain ⟨tp, ea, _, _⟩ := m.there
    have J : Inv X pins σ H2 { s2 with heap := h' } := I2.kept (t' := s2.toks) m.keeps
    refine hx pins σ H2 _ a (.ref C) none J ⟨⟨new_of I2 hex m.new, un_of I2.hok m.new, fun p hp y => ?_, ⟨_, _, ea, rfl⟩⟩, .inl ⟨_, _, ea, rfl, rfl, rfl, rfl⟩⟩ q
    have w := (I2.pin p hp).1
    rw [y, m.new] at w
    cases w
end
end My
set_option Elab.async false
set_option linter.all false
set_option maxRecDepth 100000
set_option maxHeartbeats 1000000
namespace My
open PySem PySem.Spec PyProof.Rows L2
section
variable {X : Cx} {pins : List (Addr × Obj)} {σ : L2.St} {H : Hp} {s : Shared}
abbrev pnd (X : Cx) (pins : List (Addr × Obj)) : Cx := { X with pn := X.pn ++ pins }
theorem Inv.pnd (I : Inv X pins σ H s) : Inv (pnd X pins) [] σ H s :=
  ⟨⟨I.ok.mod, I.ok.kind, I.ok.glob, I.ok.blt, I.ok.above, I.ok.inj, I.ok.has, I.ok.cab, I.ok.hd, I.ok.frames, I.ok.stk, I.ok.exf, I.ok.bs, I.ok.bsz, I.ok.noex, I.ok.exfs, I.ok.funs, I.ok.frf⟩, I.os, I.bare, I.base, I.loc, I.cell, I.free, I.freeC, fun p hp => I.pin p (by rw [List.append_nil] at hp; exact hp), I.hok, I.len⟩
theorem Inv.unpnd {pins' : List (Addr × Obj)} (I : Inv (My.pnd X pins) pins' σ H s) : Inv X pins σ H s :=
  ⟨⟨I.ok.mod, I.ok.kind, I.ok.glob, I.ok.blt, I.ok.above, I.ok.inj, I.ok.has, I.ok.cab, I.ok.hd, I.ok.frames, I.ok.stk, I.ok.exf, I.ok.bs, I.ok.bsz, I.ok.noex, I.ok.exfs, I.ok.funs, I.ok.frf⟩, I.os, I.bare, I.base, I.loc, I.cell, I.free, I.freeC, fun p hp => I.pin p (List.mem_append_left _ hp), I.hok, I.len⟩
theorem Rec.unpnd {h : Heap} {b : Addr} (r : Rec (My.pnd X pins) [] H h b) : Rec X pins H h b := ⟨r.nw, r.un, fun p hp => r.pin p (by rw [List.append_nil]; exact hp), r.ob⟩
theorem XIn.unpnd {h : Heap} {a : Addr} {C : Value} {d : Option Addr} (x : XIn (My.pnd X pins) [] H h a C d) : XIn X pins H h a C d := by
  obtain ⟨r, x⟩ := x
  rcases x with x | ⟨T, rT, x⟩
  · exact ⟨r.unpnd, .inl x⟩
  · exact ⟨r.unpnd, .inr ⟨T, rT.unpnd, x⟩⟩
abbrev suite (X : Cx) (a : Addr) : Cx := { X with A := X.A.mark (some (.ref a)), calm := false, xe := fun _ _ => False }
theorem Inv.suite (I : Inv X pins σ H s) (a : Addr) : Inv (suite X a) pins σ H s :=
  ⟨⟨I.ok.mod, I.ok.kind, I.ok.glob, I.ok.blt, I.ok.above, I.ok.inj, I.ok.has, I.ok.cab, fun z => (Bool.false_ne_true z).elim, I.ok.frames, I.ok.stk, I.ok.exf, I.ok.bs, I.ok.bsz, I.ok.noex, I.ok.exfs, I.ok.funs, I.ok.frf⟩, I.os, I.bare, I.base, I.loc, I.cell, I.free, I.freeC, I.pin, I.hok, I.len⟩
theorem Inv.unsuite {a : Addr} (I : Inv (My.suite X a) pins σ H s) (ok : X.Ok) : Inv X pins σ H s :=
  ⟨ok, I.os, I.bare, I.base, I.loc, I.cell, I.free, I.freeC, I.pin, I.hok, I.len⟩
theorem SP.unsuite {a : Addr} {D : Ends} {f : Flow} {s' : Shared} (ok : X.Ok) (h : SP (My.suite X a) pins D f s') : SP X pins D f s' := by
  cases f with
  | next => obtain ⟨σ', H', I, q⟩ := h; exact ⟨σ', H', Inv.unsuite I ok, q⟩
  | brk => obtain ⟨σ', H', I, q⟩ := h; exact ⟨σ', H', Inv.unsuite I ok, q⟩
  | cont => obtain ⟨σ', H', I, q⟩ := h; exact ⟨σ', H', Inv.unsuite I ok, q⟩
  | ret u => obtain ⟨v, σ', H', I, r, q⟩ := h; exact ⟨v, σ', H', Inv.unsuite I ok, r, q⟩
theorem gone_ok {M : Model} {A : Around} {E : Value → Shared → Prop} {i : Nat} {x : Str} {pos : Pos} {Q : Unit → Shared → Prop} (I : Inv X pins σ H s) (hN : X.N.Nodup) (hi : X.N[i]? = some x) (hk : X.env.scope.names.lookup x = some .local)
    (h : ∀ s', Inv X pins (σ.set i none) H s' → Q () s') : wpAny M A (do bindName X.env x .none; unbindBehindTheSuite X.env x pos) Q E s := by
  obtain ⟨m, hn, hl⟩ := id I.loc
  have hcls : (X.env.scope.kind == .class || (X.env.scope.kind == .module && X.env.locals != X.env.globals)) = false := by rw [I.ok.kind]; rfl
  have hiσ : i < σ.length := by rw [I.len]; exact (List.getElem?_eq_some_iff.mp hi).1
  have cne := I.cne
  refine wpAny_nameGoes_keeps hk hn hcls fun h' v hn' hs => ?_
  have tracked : HOk X.prog X.w H h' := fun b ob e => by
    refine (I.hok b ob e).stay (fun c w' hc q => (hs.2 c ?_).trans q) (fun _ q => q) fun _ _ q => q
    intro z
    have hfree := I.free
    rcases hc with hc | hc
    · rw [hc] at z; rw [z, hfree] at e; cases e
    · rw [z, hfree] at hc; cases hc
  have lt : ∀ b o, X.s₀.heap.get? b = some o → b ≠ X.env.locals := fun b o e => Nat.ne_of_lt (Nat.lt_of_lt_of_le (Heap.lt_size e) I.ok.above)
  refine h _ ⟨I.ok, I.os, I.bare, ⟨fun b o e n hb hx => ?_, fun b o e n hb hx => ?_, I.base.free, fun b o e hx => ?_, I.base.tups, I.base.frzs, I.base.tbls⟩, ⟨_, hn', fun j y v' e1 e2 e3 => ?_⟩, fun y c e => ?_, I.free, I.freeC, fun p hp => ?_, tracked, by simpa using I.len⟩
  · exact (hs.2 b (lt b o e)).trans (I.base.keep b o e n hb hx)
  · obtain ⟨sl, e1⟩ := I.base.slot b o e n hb hx
    exact ⟨sl, (hs.2 b (lt b o e)).trans e1⟩
  · obtain ⟨o', e1⟩ := I.base.there b o e hx
    exact ⟨o', (hs.2 b (lt b o e)).trans e1⟩
  · by_cases hj : j = i
    · subst hj
      rw [List.getElem?_set_self hiσ] at e2
      cases e2
    · rw [List.getElem?_set_ne (Ne.symm hj)] at e2
      obtain ⟨u', r', q⟩ := hl j y v' e1 e2 e3
      refine ⟨u', r', ?_⟩
      rcases q with ⟨k, e⟩ | ⟨k, c, e, z⟩
      · refine .inl ⟨k, ?_⟩
        have : y ≠ x := fun e => hj (nodup_ix hN e1 (e ▸ hi))
        simp [this, e]
      · exact .inr ⟨k, c, e, z.sameBut hs (cne y c e)⟩
  · obtain ⟨w', z⟩ := I.cell y c e
    exact ⟨w', z.sameBut hs (cne y c e)⟩
  · obtain ⟨e, n, ne, nf, d⟩ := I.pin p hp
    exact ⟨(hs.2 p.1 ne).trans e, n, ne, nf, d⟩
def XO (a : Addr) (C : Value) (d : Option Addr) : HO := .ext fun h => ∃ (oe : Obj) (vs : Array Value), h.get? a = some oe ∧ oe.cls = C ∧ oe.dict = d ∧ oe.data = .fields vs
theorem Inv.track {a : Addr} {C : Value} {d : Option Addr} (I : Inv X pins σ H s) (r : Rec X pins H s.heap a) (ho : ∃ (oe : Obj) (vs : Array Value), s.heap.get? a = some oe ∧ oe.cls = C ∧ oe.dict = d ∧ oe.data = .fields vs) : Inv X pins σ (upd H a (XO a C d)) s := by
  have ne : ∀ b o, H b = some o → b ≠ a := fun b o e z => by rw [z, r.un] at e; cases e
  refine ⟨I.ok, I.os, I.bare, ⟨I.base.keep, I.base.slot, fun b o e n hx => ?_, I.base.there, fun b xs e => ?_, fun b o u e => ?_, fun b ps e => ?_⟩, I.loc, I.cell, ?_, fun x c e => ?_, fun p hp => ?_, fun b o e => ?_, I.len⟩
  · have hb : b ≠ a := fun z => by rw [z, r.nw] at e; cases e
    rw [upd_ne hb]; exact I.base.free b o e n hx
  · have q := I.base.tups b xs e
    rw [upd_ne (ne _ _ q)]; exact q
  · have q := I.base.frzs b o u e
    rw [upd_ne (ne _ _ q)]; exact q
  · obtain ⟨more, q⟩ := I.base.tbls b ps e
    exact ⟨more, by rw [upd_ne (ne _ _ q)]; exact q⟩
  · rw [upd_ne (Ne.symm (r.loc I))]; exact I.free
  · rw [upd_ne (r.cel I x c e)]; exact I.freeC x c e
  · obtain ⟨q, n, l⟩ := I.pin p hp
    exact ⟨q, by rw [upd_ne (r.pin p hp)]; exact n, l⟩
  · by_cases hb : b = a
    · subst hb
      rw [upd_same] at e
      cases e
      obtain ⟨oe, vs, h1, h2⟩ := id ho
      exact ⟨ho, ⟨oe, h1⟩, fun h1 h2 ⟨oe, vs, z, zz⟩ k => ⟨oe, vs, k _ z, zz⟩⟩
    · rw [upd_ne hb] at e
      exact (I.hok b o e).stay (fun _ _ _ q => q) (fun c q => by rw [upd_ne (ne _ _ q)]; exact q) fun c xs q => by rw [upd_ne (ne _ _ q)]; exact q
end
section
variable {X : Cx}
def tCut (t : TS) : TS := fun D σ H => ∃ J : L2.St → Hp → Prop, t { D with nx := J } σ H ∧ ∀ σ' H', J σ' H' → D.nx σ' H'
theorem ps_cut {st : Stmt} {t : TS} (h : PS X st t) : PS X st (tCut t) := by
  intro pins s σ H D I ⟨J, hw, k⟩
  refine wpAny_mono (h pins s σ H _ I hw) (fun f s' q => ?_) fun _ _ z => z
  cases f with
  | next => obtain ⟨σ', H', I', z⟩ := q; exact ⟨σ', H', I', k _ _ z⟩
  | brk => exact q
  | cont => exact q
  | ret u => exact q
end
section
variable {X : Cx}
def PH (X : Cx) (hs : List ExceptHandler) (th : Ends → L2.St → XK) : Prop :=
  ∀ (pins : List (Addr × Obj)) (s : Shared) (σ : L2.St) (H : Hp) (D : Ends) (a : Addr) (C : Value) (d : Option Addr), Inv X pins σ H s → XHeld X pins H s.heap a C d .none → th D σ C d H →
    wpAny (model X.prog X.w) X.A (handleBy (.ref a) X.env hs) (SP X pins D) X.xe s
def tTry (tb : List (Addr × Obj) → Ends → TS) (to : TS) : TS := fun D σ H => ∀ pins, tb pins D { D with nx := to D } σ H
theorem ps_try {body orelse : List Stmt} {h₀ : ExceptHandler} {hs : List ExceptHandler} {pos : Pos} {tb : List (Addr × Obj) → Ends → TS} {th : Ends → L2.St → XK} {to : TS} (hst : X.stack = X.env :: X.outer) (hf : X.env.frame = some X.env.locals)
    (hb : ∀ (pins : List (Addr × Obj)) (D : Ends), PSs (xw (pnd X pins) (th D)) body (tb pins D)) (hh : PH X (h₀ :: hs) th) (ho : PSs X orelse to) : PS X (.Try body (h₀ :: hs) orelse [] pos) (tTry tb to) := by
  intro pins s σ H D I h
  refine wpAny_Try_except (wpAny_mono (hb pins D [] s σ H { D with nx := to D } ((Inv.pnd I).wish _) (h pins)) (fun f s1 q => ?_) fun e s1 q => ?_)
  · cases f with
    | next => obtain ⟨σ', H', J, z⟩ := q; exact ho pins s1 σ' H' D (Inv.unpnd J.unwish) z
    | brk => obtain ⟨σ', H', J, z⟩ := q; exact ⟨σ', H', Inv.unpnd J.unwish, z⟩
    | cont => obtain ⟨σ', H', J, z⟩ := q; exact ⟨σ', H', Inv.unpnd J.unwish, z⟩
    | ret u => obtain ⟨v, σ', H', J, r, z⟩ := q; exact ⟨v, σ', H', Inv.unpnd J.unwish, r, z⟩
  · obtain ⟨a, C, d, σ', H', rfl, J, x, w⟩ := q
    have J' : Inv X pins σ' H' s1 := Inv.unpnd J
    exact note_x J' J'.ok.frames hst hf (XIn.unpnd x) fun s2 I2 x2 => flight_x I2 x2 fun s3 I3 x3 => hh pins s3 σ' H' D a C d I3 x3 w
theorem ph_none : PH X [] (fun _ _ _ _ _ => False) := fun _ _ _ _ _ _ _ _ _ _ w => False.elim w
theorem matches_own {M : Model} {A : Around} {E : Value → Shared → Prop} {K : PySem.W.Frag} {s : Shared} {e : Addr} {oe : Obj} {C c : Addr} {b : Bool} {Q : Bool → Shared → Prop} (KX : K.In s.heap) (he : s.heap.get? e = some oe) (hcls : oe.cls = .ref C)
    (hC : PySem.W.kitCls K (.ref C) (.ref c) = some b) (hc : PySem.W.kitCls K (.ref c) (.type "BaseException") = some true) (hq : Q b s) : wpAny M A (excMatches (.ref e) (.ref c)) Q E s := by
  obtain ⟨h, g, d, t, os⟩ := s
  obtain ⟨L1, L2', L3⟩ := PySem.W.kit_cls (M := M) KX hC
  obtain ⟨_, _, L4⟩ := PySem.W.kit_cls (M := M) KX hc
  have f := tc_notTuple
  have LT : PySem.W.Looks M h (typeOf (.ref e)) (.ref C) := hcls ▸ (PySem.W.Looks.ld he).andThen .now
  have LI : PySem.W.Looks M h (isInstance (.ref c) (.type "tuple")) false := L1.andThen (PySem.W.Looks.of_pure f)
  have LE : PySem.W.Looks M h (isExcClass (.ref c)) true := L2'.andThen L4
  unfold excMatches
  refine wpAny_bind (LI.at ?_)
  simp only [Bool.false_eq_true, if_false]
  refine wpAny_bind (wpAny_pure ?_)
  refine wpAny_bind ?_
  rw [List.forIn_cons]
  refine wpAny_bind (wpAny_bind (LE.at ?_))
  simp only [Bool.not_true, Bool.false_eq_true, if_false]
  refine wpAny_pure ?_
  dsimp only
  rw [List.forIn_nil]
  refine wpAny_pure (wpAny_bind (LT.at (wpAny_bind ?_)))
  rw [List.forIn_cons]
  refine wpAny_bind (wpAny_bind (L3.at ?_))
  cases b with
  | true => exact wpAny_pure (wpAny_pure (wpAny_pure hq))
  | false => exact wpAny_pure (wpAny_pure (wpAny_pure hq))
def tCl (K : PySem.W.Frag) (c : Addr) (hit miss : Ends → L2.St → XK) : Ends → L2.St → XK := fun D σ C d H => ∃ (C' : Addr) (b : Bool), C = .ref C' ∧ PySem.W.kitCls K (.ref C') (.ref c) = some b ∧ if b = true then hit D σ C d H else miss D σ C d H
theorem ph_own {x : Str} {c : Addr} {np hpos : Pos} {b₀ : Stmt} {body : List Stmt} {rest : List ExceptHandler} {ts : Addr → TS} {tr : Ends → L2.St → XK} (hc : PySem.W.kitCls X.K (.ref c) (.type "BaseException") = some true) (hg : Gl X x) (hm : X.mg x = some (.ref c))
    (hs : ∀ a, PSs (suite X a) (b₀ :: body) (ts a)) (hr : PH X rest tr) (hdb : (x == ("__debug__" : Str)) = false := by decide) :
    PH X (.ExceptHandler (some (.Name x np)) none (b₀ :: body) hpos :: rest) (tCl X.K c (fun D σ _ _ H => ∀ a, H a = none → ts a D σ H) tr) := by
  intro pins s σ H D a C d I x h
  obtain ⟨C', b, rfl, hb, h⟩ := h
  obtain ⟨r, T, rT, oe, vs, oT, ts', he, hcl, r2⟩ := id x
  refine wpAny_handleBy_cons (codeAny_handlers_test ?_) (by intro q; cases q)
  refine ld_glob (X := suite X a) (Inv.suite I a) hg hm ?_ hdb
  refine matches_own I.kIn he hcl hb hc ?_
  cases b with
  | false => exact hr pins s σ H D a _ d I x h
  | true =>
    refine codeAny_handlers_suite (flight_x I x fun s2 I2 x2 => ?_)
    exact wpAny_mono (hs a pins s2 σ H D (Inv.suite I2 a) (h a r.un)) (fun f s3 q => SP.unsuite I.ok q) (fun _ _ z => z.elim)
def gone (i : Nat) (D : Ends) : Ends := { nx := fun σ H => D.nx (σ.set i none) H, rt := D.rt, bk := fun σ H => D.bk (σ.set i none) H, ct := fun σ H => D.ct (σ.set i none) H }
def tAs (i : Nat) (ts : Addr → TS) : Ends → L2.St → XK := fun D σ C d H => ∀ a, H a = none → ts a (gone i D) (σ.set i (some (.ref a))) (upd H a (XO a C d))
theorem ph_as {i : Nat} {n x : Str} {c : Addr} {np hpos : Pos} {b₀ : Stmt} {body : List Stmt} {rest : List ExceptHandler} {ts : Addr → TS} {tr : Ends → L2.St → XK} (hN : X.N.Nodup) (hi : X.N[i]? = some n) (hk : X.env.scope.names.lookup n = some .local)
    (hc : PySem.W.kitCls X.K (.ref c) (.type "BaseException") = some true) (hg : Gl X x) (hm : X.mg x = some (.ref c))
    (hs : ∀ a, PSs (suite X a) (b₀ :: body) (ts a)) (hr : PH X rest tr) (hdb : (x == ("__debug__" : Str)) = false := by decide) :
    PH X (.ExceptHandler (some (.Name x np)) (some n) (b₀ :: body) hpos :: rest) (tCl X.K c (tAs i ts) tr) := by
  intro pins s σ H D a C d I x h
  obtain ⟨C', b, rfl, hb, h⟩ := h
  obtain ⟨r, T, rT, oe, vs, oT, ts', he, hcl, r2⟩ := id x
  refine wpAny_handleBy_cons (codeAny_handlers_test ?_) (by intro q; cases q)
  refine ld_glob (X := suite X a) (Inv.suite I a) hg hm ?_ hdb
  refine matches_own I.kIn he hcl hb hc ?_
  cases b with
  | false => exact hr pins s σ H D a _ d I x h
  | true =>
    refine codeAny_handlers_suite_as (flight_x I x fun s2 I2 x2 => ?_)
    obtain ⟨r', T', rT', oe', vs', oT', ts2, he', hcl', hdd', hd', r3⟩ := id x2
    have J := Inv.track I2 r' ⟨oe', vs', he', hcl', hdd', hd'⟩
    refine store_ok (X := suite X a) (v := .ref a) (Inv.suite J a) hN hi (.inl hk) rfl (fun s3 I3 => ?_) (.inr hk)
    have hq := h a r.un
    refine wpAny_mono (hs a pins s3 _ _ (gone i D) I3 hq) (fun f s4 q => ?_) (fun _ _ z => z.elim)
    have go : ∀ {σ' : L2.St} {H' : Hp} {Q : Unit → Shared → Prop}, Inv (suite X a) pins σ' H' s4 → (∀ s', Inv X pins (σ'.set i none) H' s' → Q () s') → wpAny (model X.prog X.w) X.A (do bindName X.env n .none; unbindBehindTheSuite X.env n hpos) Q X.xe s4 :=
      fun I4 k => gone_ok (Inv.unsuite I4 I.ok) hN hi hk k
    cases f with
    | next => obtain ⟨σ', H', I4, z⟩ := q; exact go I4 fun s5 I5 => ⟨_, H', I5, z⟩
    | brk => obtain ⟨σ', H', I4, z⟩ := q; exact go I4 fun s5 I5 => ⟨_, H', I5, z⟩
    | cont => obtain ⟨σ', H', I4, z⟩ := q; exact go I4 fun s5 I5 => ⟨_, H', I5, z⟩
    | ret u => obtain ⟨v, σ', H', I4, rv, z⟩ := q; exact go I4 fun s5 I5 => ⟨v, _, H', I5, rv, z⟩
end
theorem xcls_of {K : PySem.W.Frag} {C : Addr} (q : PySem.W.excIn K C [.type "ValueError", .type "Exception", .type "BaseException", .type "object"] "ValueError.__new__" = true) : XCls K C := by
  unfold PySem.W.excIn at q
  split at q
  · rename_i dd cd sl ho
    split at q
    · rename_i C' bm k0 k1 k2 k3 n k5 hm hs
      simp only [Bool.and_eq_true, beq_iff_eq, Bool.not_eq_true'] at q
      obtain ⟨⟨⟨⟨⟨rfl, rfl⟩, hdel⟩, ht⟩, hok⟩, hni⟩ := q
      obtain ⟨nm, bs, mro, ns, qn, hd, sn, sub, ab, col, del⟩ := cd
      dsimp only at hm hdel hok hni
      subst hm hdel
      have hsl : sl = #[k0, k1, k2, k3, some (.builtin "ValueError.__new__"), k5] := by
        obtain ⟨l⟩ := sl
        simp only at hs
        rw [hs]
      subst hsl
      unfold PySem.W.nsOkIn at hok
      split at hok
      · rename_i c1 d1 es ep sl1 hN
        have hSK : StrKeys es := fun e he => by
          have z := Array.all_eq_true_iff_forall_mem.mp hok e he
          split at z
          · rename_i n t q; exact ⟨n, t, q⟩
          · cases z
        have hNs : ∀ h : Heap, K.In h → h.Ns ns (fun x => nsFind es x) := fun h X => ⟨_, es, ep, X _ _ hN, rfl, hSK, fun _ => rfl⟩
        refine ⟨nm, qn, ns, bs, bm, hd, sn, sub, ab, col, dd, k0, k1, k2, k3, k5, fun x => nsFind es x, ho, hNs, ?_, fun h X => PySem.W.tail_of_in X ht⟩
        unfold PySem.W.nsIn at hni
        rw [hN] at hni
        dsimp only at hni
        split at hni
        · cases hni
        · rename_i hf
          show nsFind es "__init__" = none
          unfold nsFind findBy
          rw [← Array.find?_toList, hf]
          rfl
      · cases hok
    · cases q
  · cases q
def TyX (K : PySem.W.Frag) (H : Hp) (x : V) (t : Value) (b : Bool) : Prop := TyOf K H x t ∨ ∃ (a : Addr) (d : Option Addr), x = .ref a ∧ H a = some (XO a t d) ∧ b = true
def rIsi (K : PySem.W.Frag) : List V → Hp → VK → Prop := fun xs H Q => ∃ (x c : V) (u t : Value) (b : Bool), xs = [x, c] ∧ RelV c u ∧ (∀ u', RelV c u' → u' = u) ∧ TyX K H x t b ∧ PySem.W.kitOne K t u = some b ∧ Q (.bl b) H
end My
set_option Elab.async false
set_option linter.all false
set_option maxRecDepth 100000
set_option maxHeartbeats 1000000
namespace My
open PySem PySem.Spec PyProof.Rows L2
theorem boot_ValueError : bootBuiltins "ValueError" = some (.type "ValueError") := by decide +kernel
theorem isi_yes {prog : Program} {w : World} {A : Around} {E : Value → Shared → Prop} {s : Shared} {Q : Value → Shared → Prop} {K : PySem.W.Frag} {a : Addr} {t c : Value} (KX : K.In s.heap) (hp : ∃ o, s.heap.get? a = some o ∧ o.cls = t) (e : PySem.W.kitOne K t c = some true)
    (h : Q (.bool true) s) : wpAny (model prog w) A (call (.builtin "isinstance") [.ref a, c]) Q E s := by
  refine call_isinstance_of ?_ (by intro q; cases q)
  obtain ⟨h0, g, d, tt, os⟩ := s
  obtain ⟨o, ho, hc⟩ := hp
  have LT : PySem.W.Looks (model prog w) h0 (typeOf (.ref a)) t := hc ▸ (PySem.W.Looks.ld ho).andThen .now
  unfold PySem.W.kitOne at e
  unfold Builtin.«isinstance.nested»
  refine wpAny_bind (LT.at ?_)
  by_cases q : (t == c) = true
  · rw [if_pos q]
    first
      | exact wpAny_bind (wpAny_rule (wpAny_pure h))
      | exact wpAny_bind (wpAny_rule h)
  · rw [if_neg q] at e
    rw [if_neg q]
    obtain ⟨hty, his, hsub⟩ := PySem.W.kit_cls (M := model prog w) KX e
    have LI : PySem.W.Looks (model prog w) h0 (isInstance (.ref a) c) true := LT.andThen hsub
    refine wpAny_bind (hty.at ?_)
    rw [if_pos (by decide)]
    k_delta "plainIsInstance"
    refine wpAny_bind (wpAny_bind (his.at ?_))
    simp only [Bool.not_true, Bool.false_eq_true, if_false]
    refine wpAny_bind (LI.at ?_)
    first
      | exact wpAny_pure (wpAny_pure h)
      | (simp only [if_true]; first | exact wpAny_pure (wpAny_pure h) | exact wpAny_pure h | exact wpAny_bind (wpAny_pure (wpAny_pure h)))
theorem xes_no {X : Cx} : Xes X (fun _ _ _ _ => False) := fun _ _ _ _ _ _ _ _ _ w => w.elim
section
variable {X : Cx}
theorem call_isi2 : CallR X (.builtin "isinstance") (rIsi X.K) := by
  intro pins s σ H xs us Q I hv h
  obtain ⟨x, c, u, t, b, rfl, hu, hu', ty, e, q⟩ := h
  cases hv with
  | cons r1 hv =>
    cases hv with
    | cons r2 hv =>
      cases hv
      rename_i v1 v2
      rw [hu' v2 r2]
      rcases ty with ty | ⟨a, d, rfl, ea, rfl⟩
      · exact isinst_ok I r1 ty e fun tk => ⟨.bl b, H, I.tok tk, rfl, q⟩
      · cases r1
        obtain ⟨⟨oe, vs, h1, h2, _⟩, _⟩ := (show ObjOk X.prog X.w H s.heap a (XO a t d) from I.hok a _ ea)
        exact isi_yes I.kIn ⟨oe, h1, h2⟩ e ⟨.bl true, H, I, rfl, q⟩
def rNotN : R2 := fun x y H Q => y = .non ∧ Q (.bl (!decide (x = .non))) H
def rLen (K : PySem.W.Frag) : List V → Hp → VK → Prop := fun xs H Q => ∃ p ys, xs = [.ref p] ∧ (SqL K H p ys ∨ SqT K H p ys) ∧ Q (.int ys.length) H
theorem call_lenN : CallR X (.builtin "len") (rLen X.K) := call_len_seq
theorem op_notNN : OpR X (compareOp .IsNot) rNotN := op_notN
end
section
variable {K : PySem.W.Frag} {H : Hp} {Q : VK}
theorem r_isi {x : V} {T : String} {t : Value} {b : Bool} (ty : TyOf K H x t) (e : PySem.W.kitOne K t (.type T) = some b) (h : Q (.bl b) H) : rIsi K [x, .ty T] H Q := ⟨x, _, _, t, b, rfl, rfl, fun _ z => z, .inl ty, e, h⟩
end
section
variable {K : PySem.W.Frag}
theorem kit_int_int : PySem.W.kitOne K (.type "int") (.type "int") = some true := by rfl
theorem kit_int_bool : PySem.W.kitOne K (.type "int") (.type "bool") = some false := by rfl
theorem kit_str_str : PySem.W.kitOne K (.type "str") (.type "str") = some true := by rfl
theorem kit_lst_lst : PySem.W.kitOne K (.type "list") (.type "list") = some true := by rfl
theorem kit_dct_dct : PySem.W.kitOne K (.type "dict") (.type "dict") = some true := by rfl
end
end My
set_option Elab.async false
set_option linter.all false
set_option maxRecDepth 100000
namespace My
open PySem PySem.Spec PyProof.Rows L2
section
variable {K : PySem.W.Frag} {σ σ' : L2.St} {H H1 : Hp} {Q : VK} {D : Ends} {ta tb te : TE} {t u : TS} {c c' : TT} {ar : TA} {v x y : V} {i j : Nat}
theorem r_start {N : List Str} {vs : List V} (e : start N vs = σ) (h : t D σ H) : t D (start N vs) H := e ▸ h
theorem r_var (e : σ[i]? = some (some v)) (h : Q v H) : tVar i σ H Q := ⟨v, e, h⟩
theorem r_c (h : Q v H) : tC v σ H Q := h
theorem r_op {r : R2} (h : ta σ H fun x H1 => tb σ H1 fun y H2 => r x y H2 Q) : tOp r ta tb σ H Q := h
theorem r_un {r : V → Hp → VK → Prop} (h : ta σ H fun x H1 => r x H1 Q) : tUn r ta σ H Q := h
theorem r_I0 {g : Int → Int → V} {i j : Int} (h : Q (g i j) H) : rI0 g (.int i) (.int j) H Q := ⟨i, j, rfl, rfl, h⟩
theorem r_I {C : Int → Int → Prop} {g : Int → Int → V} {i j : Int} (hc : C i j) (h : Q (g i j) H) : rI C g (.int i) (.int j) H Q := ⟨i, j, rfl, rfl, hc, h⟩
theorem r_U {g : Int → V} {i : Int} (h : Q (g i) H) : rU g (.int i) H Q := ⟨i, rfl, h⟩
theorem r_eqI {i j : Int} (h : Q (.bl (decide (i = j))) H) : rEq (.int i) (.int j) H Q := ⟨rfl, by
  have e : decide (V.int i = V.int j) = decide (i = j) := by by_cases z : i = j <;> simp [z]
  rw [e]; exact h⟩
theorem r_neS {i j : Str} (h : Q (.bl (!decide (i = j))) H) : rNe (.str i) (.str j) H Q := ⟨rfl, by
  have e : decide (V.str i = V.str j) = decide (i = j) := by by_cases z : i = j <;> simp [z]
  rw [e]; exact h⟩
theorem r_exb {b : Bool} {Q : Bool → Prop} (h : Q b) : ∃ k, V.bl b = .bl k ∧ Q k := ⟨b, rfl, h⟩
theorem r_test {Q : Bool → Hp → Prop} (h : te σ H fun x H' => ∃ k, x = .bl k ∧ Q k H') : tTest te σ H Q := h
theorem r_tB {Q : Bool → Hp → Prop} (h : te σ H fun x H' => ∃ k, x = .bl k ∧ Q k H') : tB te σ H Q := h
theorem r_and {Q : Bool → Hp → Prop} (h : c σ H fun b H1 => if b = true then c' σ H1 Q else Q false H1) : tAnd c c' σ H Q := h
theorem r_or {Q : Bool → Hp → Prop} (h : c σ H fun b H1 => if b = true then Q true H1 else c' σ H1 Q) : tOr c c' σ H Q := h
theorem r_not {Q : Bool → Hp → Prop} (h : c σ H fun b H1 => Q (!b) H1) : tNot c σ H Q := h
theorem r_andV (h : ta σ H fun x H1 => ∃ k, x = .bl k ∧ if k = true then tb σ H1 Q else Q (.bl false) H1) : tAndV ta tb σ H Q := h
theorem r_orV (h : ta σ H fun x H1 => ∃ k, x = .bl k ∧ if k = true then Q (.bl true) H1 else tb σ H1 Q) : tOrV ta tb σ H Q := h
theorem r_notV (h : ta σ H fun x H1 => ∃ k, x = .bl k ∧ Q (.bl (!k)) H1) : tNotV ta σ H Q := h
theorem r_next (h : D.nx σ H) : tNext D σ H := h
theorem r_seq (h : t { nx := u D, rt := D.rt, bk := D.bk, ct := D.ct } σ H) : tSeq t u D σ H := h
theorem r_drop (h : te σ H fun _ H1 => D.nx σ H1) : tDrop te D σ H := h
theorem r_ret (h : te σ H D.rt) : tRet te D σ H := h
theorem r_if (h : c σ H fun b H1 => if b = true then t D σ H1 else u D σ H1) : tIfS c t u D σ H := h
theorem r_asg {g : TG} (h : te σ H fun x H1 => g x σ H1 D.nx) : tAsg te g D σ H := h
theorem r_name {Q : L2.St → Hp → Prop} (e : σ.set i (some v) = σ') (h : Q σ' H) : gName i v σ H Q := by subst e; exact h
theorem r_gnil {Q : L2.St → Hp → Prop} (h : Q σ H) : gNil [] σ H Q := ⟨rfl, h⟩
theorem r_gcons {g : TG} {gs : TGs} {vs : List V} {Q : L2.St → Hp → Prop} (h : g v σ H fun σ' H' => gs vs σ' H' Q) : gCons g gs (v :: vs) σ H Q := ⟨v, vs, rfl, h⟩
theorem r_gtup {n : Nat} {gs : TGs} {a : Addr} {xs : List V} {Q : L2.St → Hp → Prop} (hS : SqT K H a xs) (hn : xs.length = n) (h : gs xs σ H Q) : gTup K n gs (.ref a) σ H Q := ⟨a, xs, rfl, hS, hn, h⟩
theorem r_nx {f b c : L2.St → Hp → Prop} {r : VK} (h : f σ H) : Ends.nx { nx := f, rt := r, bk := b, ct := c } σ H := h
theorem r_rt {f b c : L2.St → Hp → Prop} {r : VK} (h : r v H) : Ends.rt { nx := f, rt := r, bk := b, ct := c } v H := h
theorem r_nil {Q : List V → Hp → Prop} (h : Q [] H) : tNil σ H Q := h
theorem r_cons {Q : List V → Hp → Prop} (h : te σ H fun x H1 => ar σ H1 fun xs H2 => Q (x :: xs) H2) : tCons te ar σ H Q := h
theorem r_tup (h : ar σ H fun xs H1 => xs.length ≤ sizeLine ∧ ∀ p, H1 p = none → Q (.ref p) (upd H1 p (.tup xs))) : tTup ar σ H Q := h
theorem r_lst (h : ar σ H fun xs H1 => xs.length ≤ sizeLine ∧ ∀ p, H1 p = none → Q (.ref p) (upd H1 p (.lst xs))) : tLst ar σ H Q := h
theorem r_new {xs : List V} {A : Prop} (hn : xs.length ≤ sizeLine) (h : A) : xs.length ≤ sizeLine ∧ A := ⟨hn, h⟩
theorem r_call {sp : Sp} {E : XK} (h : ar σ H fun vs H1 => sp vs H1 Q E) : tCall sp [] E ar σ H Q := by
  have e : (fun vs H1 => sp (vs ++ []) H1 Q E) = fun vs H1 => sp vs H1 Q E := by funext vs H1; rw [List.append_nil]
  show ar σ H fun vs H1 => sp (vs ++ []) H1 Q E
  rw [e]; exact h
theorem r_callX {sp : Sp} {W : L2.St → XK} (h : ar σ H fun vs H1 => sp vs H1 Q (W σ)) : tCallX sp [] W ar σ H Q := by
  have e : (fun vs H1 => sp (vs ++ []) H1 Q (W σ)) = fun vs H1 => sp vs H1 Q (W σ) := by funext vs H1; rw [List.append_nil]
  show ar σ H fun vs H1 => sp (vs ++ []) H1 Q (W σ)
  rw [e]; exact h
theorem r_cb {r : List V → Hp → VK → Prop} (h : ar σ H fun vs H1 => r vs H1 Q) : tCB r ar σ H Q := h
theorem r_try {tb : List (Addr × Obj) → Ends → TS} {to : TS} (h : ∀ pins, tb pins D { nx := to D, rt := D.rt, bk := D.bk, ct := D.ct } σ H) : tTry tb to D σ H := h
theorem r_raise {C : Addr} {W : L2.St → XK} (h : ar σ H fun xs H1 => xs.length ≤ sizeLine ∧ W σ (.ref C) none H1) : tRaise ar C W D σ H := h
theorem r_ixL {p : Addr} {xs : List V} {k : Int} (hS : SqL K H p xs) (e : atI xs k = some v) (h : Q v H) : rIxL K (.ref p) (.int k) H Q := ⟨p, xs, k, v, rfl, rfl, hS, e, h⟩
theorem r_fresh {R : Addr → Prop} (h : ∀ p, H p = none → R p) : ∀ p, H p = none → R p := h
theorem r_cl {c C' : Addr} {b : Bool} {d : Option Addr} {hit miss : Ends → L2.St → XK} (k : PySem.W.kitCls K (.ref C') (.ref c) = some b) (h : if b = true then hit D σ (.ref C') d H else miss D σ (.ref C') d H) : tCl K c hit miss D σ (.ref C') d H := ⟨C', b, rfl, k, h⟩
theorem r_as {t : Addr → TS} {C : Value} {d : Option Addr} (h : ∀ a, H a = none → t a (gone i D) (σ.set i (some (.ref a))) (upd H a (XO a C d))) : tAs i t D σ C d H := h
theorem r_gone (e : σ.set i none = σ') (h : D.nx σ' H) : (gone i D).nx σ H := by subst e; exact h
theorem r_menu {p : Addr} {xs : List Int} {r : Int} (hS : SqL K H p (xs.map V.int)) (h0 : 0 ≤ r) (h1 : r < xs.length) (h : ∀ m, m ∈ xs → Q (.int m) H) : rIxL K (.ref p) (.int r) H Q := by
  have hk : r.toNat < xs.length := by omega
  have ek : r = ((r.toNat : Nat) : Int) := by omega
  have q : atI (xs.map V.int) ((r.toNat : Nat) : Int) = some (.int xs[r.toNat]) := atI_nat (by rw [List.getElem?_map, List.getElem?_eq_getElem hk] <;> rfl)
  rw [← ek] at q
  exact ⟨p, _, r, _, rfl, rfl, hS, q, h _ (List.getElem_mem hk)⟩
theorem r_cut0 (h : t { nx := D.nx, rt := D.rt, bk := D.bk, ct := D.ct } σ H) : tCut t D σ H := ⟨D.nx, h, fun _ _ z => z⟩
theorem r_cut (J : L2.St → Hp → Prop) (h : t { nx := J, rt := D.rt, bk := D.bk, ct := D.ct } σ H) (k : ∀ σ' H', J σ' H' → D.nx σ' H') : tCut t D σ H := ⟨J, h, k⟩
theorem r_lenL {p : Addr} {ys : List V} (hS : SqL K H p ys) (h : Q (.int ys.length) H) : rLen K [.ref p] H Q := ⟨p, ys, rfl, .inl hS, h⟩
theorem r_notNn (h : Q (.bl false) H) : rNotN .non .non H Q := ⟨rfl, h⟩
theorem r_notNi {a : Int} (h : Q (.bl true) H) : rNotN (.int a) .non H Q := ⟨rfl, h⟩
end
section
variable {K : PySem.W.Frag} {σ : L2.St} {H : Hp} {D : Ends} {wi : TI} {g : TG} {tb : TS} {tl : TE} {ta : TA}
def FOR (J : It) (g : TG) (tb : TS) (D : Ends) (σ : L2.St) (H : Hp) : Prop := ∃ W : Nat → Nat → L2.St → Hp → Prop, (∃ m, W 0 m σ H) ∧ ∀ i m σ H, W i m σ H →
  (J.stop i H ∧ D.nx σ H) ∨ (J.go i H ∧ ∃ N : L2.St → Hp → Prop, (∀ σ' H', N σ' H' → ∃ m', m' < m ∧ W (i + 1) m' σ' H') ∧ ∀ x H', J.yld i H x H' → g x σ H' fun σ2 H2 => tb { D with nx := N, ct := N, bk := D.nx } σ2 H2)
def rItL (K : PySem.W.Frag) (x : V) (H : Hp) (R : It → Hp → Prop) : Prop := ∃ a, x = .ref a ∧ (∃ xs, SqL K H a xs) ∧ R (Itl K a) H
def rItR (vs : List V) (H : Hp) (R : It → Hp → Prop) : Prop := ∃ j : Int, vs = [.int j] ∧ -(2 ^ 62) ≤ j ∧ j < 2 ^ 62 ∧ R (Itr 0 j.toNat) H
theorem r_for (h : wi σ H fun J H1 => FOR J g tb D σ H1) : tFor wi g tb D σ H := h
theorem r_iL {R : It → Hp → Prop} (h : tl σ H fun x H1 => rItL K x H1 R) : iList K tl σ H R := h
theorem r_iR {R : It → Hp → Prop} (h : ta σ H fun vs H1 => rItR vs H1 R) : iRng1 ta σ H R := h
theorem r_itL {a : Addr} {xs : List V} {R : It → Hp → Prop} (hS : SqL K H a xs) (h : R (Itl K a) H) : rItL K (.ref a) H R := ⟨a, rfl, ⟨xs, hS⟩, h⟩
theorem r_itR {j : Int} {R : It → Hp → Prop} (h0 : -(2 ^ 62) ≤ j) (h1 : j < 2 ^ 62) (h : R (Itr 0 j.toNat) H) : rItR [.int j] H R := ⟨j, rfl, h0, h1, h⟩
theorem f_list {a : Addr} {xs : List V} (Pv : Nat → L2.St → Hp → Prop) (h0 : Pv 0 σ H) (hl : ∀ i σ H, i ≤ xs.length → Pv i σ H → SqL K H a xs)
    (hs : ∀ i x σ H, xs[i]? = some x → Pv i σ H → g x σ H fun σ2 H2 => tb { nx := Pv (i + 1), rt := D.rt, bk := D.nx, ct := Pv (i + 1) } σ2 H2) (hd : ∀ σ H, Pv xs.length σ H → D.nx σ H) : FOR (Itl K a) g tb D σ H := for_list Pv h0 hl hs hd
theorem f_range {lo : Int} {n : Nat} (Pv : Nat → L2.St → Hp → Prop) (h0 : Pv 0 σ H)
    (hs : ∀ (i : Nat) σ H, i < n → Pv i σ H → g (.int (lo + i)) σ H fun σ2 H2 => tb { nx := Pv (i + 1), rt := D.rt, bk := D.nx, ct := Pv (i + 1) } σ2 H2) (hd : ∀ σ H, Pv n σ H → D.nx σ H) : FOR (Itr lo n) g tb D σ H := for_range Pv h0 hs hd
end
theorem look_new {H : Hp} {a p : Addr} {o o' : HO} (h : H a = some o) (n : H p = none) : upd H p o' a = some o := by rw [upd_ne (ne_of_none h n)]; exact h
theorem sqL_new {K : PySem.W.Frag} {H : Hp} {a p : Addr} {o : HO} {xs : List V} (h : SqL K H a xs) (n : H p = none) : SqL K (upd H p o) a xs := (same_new n o).seq h
theorem same_upd {H0 H : Hp} {p : Addr} {o : HO} (h : Same H0 H) (n : H p = none) : Same H0 (upd H p o) := h.trans (same_new n o)
theorem i_t {c A B : Prop} [Decidable c] (h : c) (hA : A) : if decide c = true then A else B := by rw [decide_eq_true h]; exact iteT hA
theorem i_f {c A B : Prop} [Decidable c] (h : ¬ c) (hB : B) : if decide c = true then A else B := by rw [decide_eq_false h]; exact iteF hB
theorem i_2 {c A B : Prop} [Decidable c] (h1 : c → A) (h2 : ¬ c → B) : if decide c = true then A else B := by
  by_cases h : c
  · exact i_t h (h1 h)
  · exact i_f h (h2 h)
theorem i_nf {c A B : Prop} [Decidable c] (h : c) (hB : B) : if (!decide c) = true then A else B := by rw [decide_eq_true h]; exact iteF hB
theorem i_nT {A B : Prop} (h : B) : if (!true) = true then A else B := h
theorem i_nF {A B : Prop} (h : A) : if (!false) = true then A else B := iteT h
end My
set_option Elab.async false
set_option linter.all false
set_option maxRecDepth 100000
set_option maxHeartbeats 1000000
namespace My
open PySem PySem.Spec PyProof.Rows L2
def AllC {α : Type} (f : α → Prop) : List α → Prop
  | [] => True
  | a :: l => f a ∧ AllC f l
theorem AllC.mem {α : Type} {f : α → Prop} : ∀ {l : List α}, AllC f l → ∀ a ∈ l, f a
  | [], _, _, h => absurd h (by simp)
  | b :: l, h, a, m => by
    rcases List.mem_cons.mp m with rfl | m
    · exact h.1
    · exact AllC.mem h.2 a m
def capsOf (caps : List Nat) (σ : L2.St) : L2.St := caps.map fun j => (σ[j]?).getD none
def rApp (acc : Addr) (N : Hp → Prop) (y : V) (H : Hp) : Prop := ∃ ys, H acc = some (.lst ys) ∧ ys.length < sizeLine ∧ N (upd H acc (.lst (ys ++ [y])))
def COMP (J : It) (caps : List Nat) (tt : TT) (te : TE) (acc : Addr) (σ : L2.St) (H : Hp) (Q : VK) : Prop := ∃ W : Nat → Nat → Hp → Prop, (∃ m, W 0 m H) ∧ ∀ i m H, W i m H →
  (J.stop i H ∧ Q (.ref acc) H) ∨ (J.go i H ∧ ∃ N : Hp → Prop, (∀ H', N H' → ∃ m', m' < m ∧ W (i + 1) m' H') ∧ ∀ v H', J.yld i H v H' → tt (some v :: capsOf caps σ) H' fun b H2 =>
    if b = true then te (some v :: capsOf caps σ) H2 fun y H3 => rApp acc N y H3 else N H2)
abbrev CT (α : Type) := Addr → Shared → Hp → List Addr → α
def tComp (wi : TI) (caps : List Nat) (tt : CT TT) (te : CT TE) : TE := fun σ H Q => wi σ H fun J H1 => ∀ (C : Addr) (s : Shared) (H0 : Hp) (fp : List Addr) (acc : Addr), H1 acc = none → COMP J caps (tt C s H0 fp) (te C s H0 fp) acc σ (upd H1 acc (.lst [])) Q
def tTrue : TT := fun _ H Q => Q true H
def PIfs (X : Cx) (ifs : List Expr) (t : TT) : Prop :=
  ∀ (pins : List (Addr × Obj)) (s : Shared) (σ : L2.St) (H : Hp) (Q : Bool → Hp → Prop), Inv X pins σ H s → t σ H Q →
    wpAny (model X.prog X.w) X.A (forIn ifs true fun c r => if r = true then do let ok ← isTrue c X.env (eval c X.env); pure (ForInStep.yield ok) else pure (ForInStep.yield r)) (TP X pins σ Q) X.xe s
theorem pf_nil {X : Cx} : PIfs X [] tTrue := fun pins s σ H Q I h => wpAny_tests_nil ⟨H, I, h⟩
theorem pf_one {X : Cx} {c : Expr} {t : TT} (h : PT X c t) : PIfs X [c] t := fun pins s σ H Q I hw => wpAny_tests_one (h pins s σ H Q I hw)
def cxC (X : Cx) (N : List Str) (scope : Scope) (cl : List (Str × Addr)) (C : Addr) (s : Shared) (H : Hp) (fp : List Addr) : Cx where
  prog := X.prog
  w := X.w
  K := X.K
  mg := X.mg
  base := X.base
  A := X.A
  N := N
  s₀ := s
  H₀ := H
  env := compEnvC scope cl C X.env
  outer := X.stack
  stack := X.stack
  ex := fp
  fn := fun _ => false
  calm := X.calm
  pn := []
  xe := fun _ _ => False
structure Caps (X : Cx) (x : Str) (scope : Scope) (cl : List (Str × Addr)) (caps : List Nat) (cn : List Str) : Prop where
  clos : closureFor scope X.env = pure cl
  kind : scope.kind = .function
  cell : ∀ y ∈ scope.names, y.2 ≠ .cell
  names : ∀ y ∈ scope.names, y.2 = .local → scope.names.lookup y.1 = some .local
  tg : scope.names.lookup x = some .local
  sub : ∀ y c, cl.lookup y = some c → X.env.cells.lookup y = some c
  has : ∀ y, ((relabel scope X.env).names.lookup y = some .cell ∨ (relabel scope X.env).names.lookup y = some .free) → ∃ c, cl.lookup y = some c
  len : caps.length = cn.length
  cap : ∀ (k : Nat) (y : Str) (j : Nat), cn[k]? = some y → caps[k]? = some j → X.N[j]? = some y ∧ X.env.kindOf y = some .cell ∧ (relabel scope X.env).names.lookup y = some .cell ∧ X.env.scope.names.lookup y = some .cell ∧ ∃ c, cl.lookup y = some c
  nd : (x :: cn).Nodup
section
variable {X : Cx} {pins : List (Addr × Obj)} {σ : L2.St} {H : Hp} {s : Shared}
theorem Inv.comp {x : Str} {scope : Scope} {cl : List (Str × Addr)} {caps : List Nat} {cn : List Str} (Cp : Caps X x scope cl caps cn) (I : Inv X pins σ H s) {fp : List Addr} (hf : ∀ b ∈ fp, FpOk X pins H b) (hlt : ∀ b ∈ fp, b < s.heap.objs.size) {h₁ : Heap} {t' : Nat}
    (hns : h₁.Ns s.heap.objs.size (fun _ => none)) (k : ∀ b o, s.heap.get? b = some o → h₁.get? b = some o) :
    Inv (cxC X (x :: cn) scope cl s.heap.objs.size s H fp) [] (none :: capsOf caps σ) H { s with heap := h₁, toks := t' } := by
  have cne : ∀ y c, cl.lookup y = some c → ∃ v, s.heap.IsCell c v := fun y c e => I.cell y c (Cp.sub y c e)
  have ltC : ∀ y c, cl.lookup y = some c → c < s.heap.objs.size := fun y c e => let ⟨v, q⟩ := cne y c e; q.lt
  have isC : ∀ c v, s.heap.IsCell c v → h₁.IsCell c v := fun c v ⟨o, e, d⟩ => ⟨o, k c o e, d⟩
  refine ⟨⟨I.ok.mod, Cp.kind, I.ok.glob, I.ok.blt, Nat.le_refl _, fun y z c e1 e2 => I.ok.inj y z c (Cp.sub y c e1) (Cp.sub z c e2), fun y hy => Cp.has y hy, fun y c z => (Bool.false_ne_true z).elim, I.ok.hd, I.ok.frames, .inl rfl,
    fun b hb => ⟨Nat.ne_of_lt (hlt b hb), fun y c e z => ?_⟩, I.bs, Nat.le_trans I.ok.bsz I.sz, fun b o e hb => ?_, fun b hb z => ?_, I.stack, I.stkFree⟩,
    rfl, I.bare, Un.kept k, ⟨_, hns, fun i y v e1 e2 e3 => ?_⟩, fun y c e => ?_, I.hok.fresh (Nat.le_refl _), fun y c e => I.freeC y c (Cp.sub y c e), fun p hp => absurd (show p ∈ ([] : List (Addr × Obj)) from hp) (by simp), I.hok.kept k, ?_⟩
  · exact (hf b hb).2.2.2.2.1 y c (Cp.sub y c e) z
  · rcases (hf b hb).2.2.2.1 with z | z
    · exact I.ok.noex b o e z
    · exact absurd (Nat.lt_of_lt_of_le (Heap.lt_size e) (Nat.le_trans I.ok.bsz z)) (Nat.lt_irrefl _)
  · rcases List.mem_cons.mp (I.stkSub b z) with z | z
    · exact (hf b hb).2.1 z
    · exact (hf b hb).2.2.1 z
  · cases i with
    | zero => cases e2
    | succ i =>
      have e1' : cn[i]? = some y := by simpa [cxC] using e1
      have e2' : (capsOf caps σ)[i]? = some (some v) := by simpa using e2
      unfold capsOf at e2'
      rw [List.getElem?_map] at e2'
      obtain ⟨j, hj, ej⟩ := Option.map_eq_some_iff.mp e2'
      obtain ⟨c1, c2, c3, c5, c, c4⟩ := Cp.cap i y j e1' hj
      cases hs : σ[j]? with
      | none => rw [hs] at ej; cases ej
      | some w =>
        rw [hs] at ej
        have ej' : w = some v := ej
        subst ej'
        obtain ⟨m, hn, hl⟩ := I.loc
        obtain ⟨u, r, l⟩ := hl j y v c1 hs (.inr (.inl c5))
        refine ⟨u, r, .inr ⟨.inl c3, c, c4, ?_⟩⟩
        rcases l with ⟨l, _⟩ | ⟨_, c', e', q⟩
        · rw [c2] at l; cases l
        · rw [Cp.sub y c c4] at e'
          cases e'
          exact isC _ _ q
  · obtain ⟨v, q⟩ := cne y c e
    exact ⟨v, isC c v q⟩
  · show (none :: capsOf caps σ).length = (x :: cn).length
    rw [List.length_cons, List.length_cons]
    unfold capsOf
    rw [List.length_map, Cp.len]
theorem Inv.uncomp {N : List Str} {scope : Scope} {cl : List (Str × Addr)} {C : Addr} {σ' : L2.St} {H' : Hp} {s' : Shared} {fp : List Addr} (I : Inv X pins σ H s) (hf : ∀ b ∈ fp, FpOk X pins H b) (hC : C = s.heap.objs.size)
    (J : Inv (cxC X N scope cl C s H fp) [] σ' H' s') {h' : Heap} (sb : Heap.SameBut C s'.heap h') : Inv X pins σ H' { s' with heap := h' } := by
  have ne : ∀ b o, s.heap.get? b = some o → b ≠ C := fun b o e => by rw [hC]; exact Nat.ne_of_lt (Heap.lt_size e)
  have u : Un (frs X.stack) fp H H' s.heap s'.heap := J.base
  have hok : HOk X.prog X.w H' h' := fun b o e => by
    refine (J.hok b o e).stay (fun c u' hc q => (sb.2 c ?_).trans q) (fun _ q => q) fun _ _ q => q
    intro z
    have n : H' C = none := J.free
    rcases hc with hc | hc
    · rw [← hc, z, n] at e; cases e
    · rw [z, n] at hc; cases hc
  refine I.call' (s' := { s' with heap := h' }) (ch := fp) J.os ⟨fun b o e n hb hx => (sb.2 b (ne b o e)).trans (u.keep b o e n hb hx), fun b o e n hb hx => ?_, u.free, fun b o e hx => ?_, u.tups, u.frzs, u.tbls⟩ hok J.bare fun b hb => ?_
  · obtain ⟨sl, q⟩ := u.slot b o e n hb hx
    exact ⟨sl, (sb.2 b (ne b o e)).trans q⟩
  · obtain ⟨o', q⟩ := u.there b o e hx
    exact ⟨o', (sb.2 b (ne b o e)).trans q⟩
  · obtain ⟨f0, f1, f2, f3, f4, f5⟩ := hf b hb
    exact ⟨f3, f1, f4, f5⟩
end
section
variable {X : Cx}
theorem pe_comp {elt iter : Expr} {x : Str} {px : Pos} {ifs : List Expr} {scope : Scope} {cl : List (Str × Addr)} {pos : Pos} {caps : List Nat} {cn : List Str} {wi : TI} {tt : CT TT} {te : CT TE} (Cp : Caps X x scope cl caps cn) (hc : X.calm = true)
    (hi : PI X (.Name x px) iter wi) (ht : ∀ C s H fp, PIfs (cxC X (x :: cn) scope cl C s H fp) ifs (tt C s H fp)) (he : ∀ C s H fp, PE (cxC X (x :: cn) scope cl C s H fp) elt (te C s H fp))
    (hs : ∀ x, foldedSetIterable iter X.env x = pure x := by intro _; rfl) :
    PE X (.ListComp elt [⟨.Name x px, iter, ifs, 0⟩] scope pos) (tComp wi caps tt te) := by
  intro pins s σ H Q I h
  rw [eval_ListComp]
  refine wpAny_comprehension_free (use := none) rfl hs Cp.clos Cp.kind Cp.names (thn (hi pins s σ H _ I h) fun v s1 h1 => thn h1 fun itv s2 h2 => ?_)
  obtain ⟨it, fp, tn, J, H2, e, I2, T, st2, f2, R⟩ := h2
  subst e
  have hacc : H2 s2.heap.objs.size = none := I2.hok.fresh (Nat.le_refl _)
  refine wpAny_newObj_type ?_
  have I3 : Inv X pins σ (upd H2 s2.heap.objs.size (.lst [])) { s2 with heap := s2.heap.push { cls := .type "list", dict := none, data := .seq ([] : List Value).toArray } } := Inv.lnew (its := []) (t' := s2.toks) I2 .nil (Nat.zero_le _)
  have lt2 : ∀ b ∈ fp, b < s2.heap.objs.size := fun b hb => let ⟨o, e, _⟩ := T.obj _ _ st2 b hb; Heap.lt_size e
  have f3 : ∀ b ∈ fp, FpOk X pins (upd H2 s2.heap.objs.size (.lst [])) b := fun b hb => ⟨by rw [upd_ne (Nat.ne_of_lt (lt2 b hb))]; exact (f2 b hb).1, (f2 b hb).2⟩
  have st3 : tn 0 (s2.heap.push { cls := .type "list", dict := none, data := .seq ([] : List Value).toArray }) := T.keep _ _ _ st2 fun b _ o e => Heap.get?_push_of_some _ e
  generalize hs3 : ({ s2 with heap := s2.heap.push { cls := .type "list", dict := none, data := .seq ([] : List Value).toArray } } : Shared) = s3 at I3 ⊢
  have st3' : tn 0 s3.heap := by rw [← hs3]; exact st3
  generalize s2.heap.objs.size = acc at hacc I3 f3 ⊢
  obtain ⟨W, ⟨m0, w0⟩, turn⟩ := R s3.heap.objs.size s3 (upd H2 acc (.lst [])) fp acc hacc
  have lt3 : ∀ b ∈ fp, b < s3.heap.objs.size := fun b hb => let ⟨o, e, _⟩ := T.obj _ _ st3' b hb; Heap.lt_size e
  clear st3 hs3
  refine wpAny_newFunctionEnv Cp.cell (by intro y hy; simp at hy) (fun h₁ hns hsb => ?_) Cp.kind
  have k1 : ∀ b o, s3.heap.get? b = some o → h₁.get? b = some o := fun b o e => hsb.extBut b o (Nat.ne_of_lt (Heap.lt_size e)) (Heap.get?_push_of_some _ e)
  have I4 : Inv (cxC X (x :: cn) scope cl s3.heap.objs.size s3 (upd H2 acc (.lst [])) fp) [] (none :: capsOf caps σ) (upd H2 acc (.lst [])) { s3 with heap := h₁, toks := s3.toks + ([] : List (Str × Value)).length } :=
    Inv.comp Cp I3 f3 lt3 hns k1
  have st4 : tn 0 h₁ := T.keep _ _ _ st3' fun b _ o e => k1 b o e
  generalize hX : cxC X (x :: cn) scope cl s3.heap.objs.size s3 (upd H2 acc (.lst [])) fp = X' at I4
  have stat : ∀ {H' : Hp}, (∀ b ∈ fp, H' b = none) → ∀ b ∈ fp, FpOk X' [] H' b := fun hn b hb => by
    subst hX
    obtain ⟨g0, g1, g2, g3, g4, g5⟩ := f3 b hb
    refine ⟨hn b hb, Nat.ne_of_lt (lt3 b hb), fun z => ?_, .inl hb, fun y c e => g4 y c (Cp.sub y c e), fun p hp => absurd (show p ∈ ([] : List (Addr × Obj)) from hp) (by simp)⟩
    rcases List.mem_cons.mp (I3.stkSub b z) with z | z
    · exact g1 z
    · exact g2 z
  have core : codeAny (model X.prog X.w) X.A (.compLoop (.ListComp elt [⟨.Name x px, iter, ifs, 0⟩] scope pos) 0 (.ref it) (.ref acc) (compEnvC scope cl s3.heap.objs.size X.env))
      (compPost (model X.prog X.w) X.A X.xe none (EP X pins σ Q) (.ref acc) s3.heap.objs.size) { s3 with heap := h₁, toks := s3.toks + ([] : List (Str × Value)).length } := by
    refine codeAny_loop rfl (fun n s' => ∃ i a H', Inv X' [] (a :: capsOf caps σ) H' s' ∧ tn i s'.heap ∧ (∀ b ∈ fp, H' b = none) ∧ W i n H') (fun n s5 hI => ?_) m0 ⟨0, none, _, I4, st4, fun b hb => (f3 b hb).1, w0⟩
    obtain ⟨i, a0, H5, I5, st5, fr5, w5⟩ := hI
    show wpAny _ _ ((compTurn _ 0 _ _ _).onRaise _) _ _ s5
    refine wpAny_noted ?_
    rw [compTurn_list]
    refine wpAny_bind (wpAny_standAt (wpAny_bind ?_))
    have aX : X'.A = X.A := by subst hX; rfl
    have pX : X'.prog = X.prog := by subst hX; rfl
    have wX : X'.w = X.w := by subst hX; rfl
    have kX : X'.K = X.K := by subst hX; rfl
    have cX : X'.calm = true := by subst hX; exact hc
    have eX : X'.env = compEnvC scope cl s3.heap.objs.size X.env := by subst hX; rfl
    rcases turn i n H5 w5 with ⟨stop, qn⟩ | ⟨go, N, hN, step⟩
    · have z := T.done X' pX wX kX cX i [] s5 _ H5 (fun _ _ => False) I5 (stat fr5) st5 stop
      rw [aX] at z
      refine wpAny_mono z (fun r s6 ⟨hr, I6⟩ => ?_) fun _ _ q => q.elim
      subst hr
      subst hX
      obtain ⟨m, hm, _⟩ := id I6.loc
      exact wpAny_pure ⟨m, hm, fun h' sb => ⟨.ref acc, H5, Inv.uncomp I3 f3 rfl I6 sb, rfl, qn⟩⟩
    · have z := T.item X' pX wX kX cX i [] s5 _ H5 (fun _ _ => False) I5 (stat fr5) st5 go
      rw [aX] at z
      refine wpAny_mono z (fun r s6 ⟨u, hr, h6⟩ => ?_) fun _ _ q => q.elim
      subst hr
      refine wpAny_bind (wpAny_mono h6 (fun _ s7 ⟨v, H7, I7, r7, y7, st7, fr7⟩ => ?_) fun _ _ q => q.elim)
      have I7' := I7.pinned (stat fr7) (T.obj _ _ st7)
      have asg : wpAny (model X.prog X.w) X.A (assign (.Name x px) (compEnvC scope cl s3.heap.objs.size X.env) u) (fun _ s8 => Inv X' ([] ++ pinsAt fp s7.heap) (some v :: capsOf caps σ) H7 s8) (fun _ _ => False) s7 := by
        subst hX
        exact wpAny_assign_Name (store_ok (X := cxC X (x :: cn) scope cl s3.heap.objs.size s3 (upd H2 acc (.lst [])) fp) (i := 0) I7' Cp.nd rfl (.inl (lookup_relabel_local Cp.tg)) r7 (fun s' I' => I') (.inr (lookup_relabel_local Cp.tg)))
      refine wpAny_bind (wpAny_mono asg (fun _ s8 I8 => ?_) fun _ _ q => q.elim)
      have tst : wpAny (model X.prog X.w) X.A (forIn ifs true fun c r => if r = true then do let ok ← isTrue c (compEnvC scope cl s3.heap.objs.size X.env) (eval c (compEnvC scope cl s3.heap.objs.size X.env)); pure (ForInStep.yield ok) else pure (ForInStep.yield r))
          (TP X' ([] ++ pinsAt fp s7.heap) (some v :: capsOf caps σ) (fun b H9 => if b = true then te s3.heap.objs.size s3 (upd H2 acc (.lst [])) fp (some v :: capsOf caps σ) H9 (fun y H3 => rApp acc N y H3) else N H9)) (fun _ _ => False) s8 := by
        subst hX
        exact ht _ _ _ _ _ s8 _ H7 _ I8 (step v H7 y7)
      refine wpAny_bind (wpAny_mono tst (fun b s9 ⟨H9, I9, q9⟩ => ?_) fun _ _ q => q.elim)
      have fin : ∀ {a : Option V} {H10 : Hp} {s10 : Shared}, Inv X' ([] ++ pinsAt fp s7.heap) (a :: capsOf caps σ) H10 s10 → N H10 → ∃ m', m' < n ∧ ∃ i a H', Inv X' [] (a :: capsOf caps σ) H' s10 ∧ tn i s10.heap ∧ (∀ b ∈ fp, H' b = none) ∧ W i m' H' := fun {a H10 s10} I10 n10 =>
        let ⟨m', hm, w10⟩ := hN _ n10
        ⟨m', hm, i + 1, a, H10, I10.unpinned, T.keep _ _ _ st7 fun b hb o e => (I10.pin (b, o) (List.mem_append_right _ (List.mem_append_right _ (mem_pinsAt hb e)))).1, fun b hb => by
          obtain ⟨o, e, d⟩ := T.obj _ _ st7 b hb
          exact (I10.pin (b, o) (List.mem_append_right _ (List.mem_append_right _ (mem_pinsAt hb e)))).2.1, w10⟩
      cases b with
      | false => exact wpAny_pure ⟨rfl, fin I9 q9⟩
      | true =>
        have elt' : wpAny (model X.prog X.w) X.A (eval elt (compEnvC scope cl s3.heap.objs.size X.env)) (EP X' ([] ++ pinsAt fp s7.heap) (some v :: capsOf caps σ) (fun y H3 => rApp acc N y H3)) (fun _ _ => False) s9 := by
          subst hX
          exact he _ _ _ _ _ s9 _ H9 _ I9 q9
        refine wpAny_bind (wpAny_bind (wpAny_mono elt' (fun y s10 ⟨w, H10, I10, r10, ys, ha, hz, q10⟩ => ?_) fun _ _ q => q.elim))
        have app : wpAny (model X.prog X.w) X.A (call (.builtin "list.append") [.ref acc, y]) (EP X' ([] ++ pinsAt fp s7.heap) (some v :: capsOf caps σ) fun _ H11 => H11 = upd H10 acc (.lst (ys ++ [w]))) (fun _ _ => False) s10 := by
          subst hX
          exact mt_append (X := cxC X (x :: cn) scope cl s3.heap.objs.size s3 (upd H2 acc (.lst [])) fp) _ s10 _ H10 (.ref acc) [w] (.ref acc) [y] _ I10 rfl (.cons r10 .nil) ⟨acc, ys, w, rfl, rfl, ha, hz, rfl⟩
        refine wpAny_bind (wpAny_mono app (fun _ s11 ⟨_, H11, I11, _, e11⟩ => ?_) fun _ _ q => q.elim)
        subst e11
        exact wpAny_pure (wpAny_pure ⟨rfl, fin I11 q10⟩)
  exact codeAny_compStart_list core (T.self _ 0 _ _ _ st4 core)
def Its (x : Str) : It := ⟨fun i _ => i < x.cps.size, fun i H v H' => H' = H ∧ ∃ c, x.cps[i]? = some c ∧ v = .str ⟨#[c]⟩, fun i _ => i = x.cps.size⟩
theorem turn_str {P : Program} {w : World} {K : PySem.W.Frag} {y : Str} {py : Pos} (x : Str) (t : Tok) (it : Addr) (ty : String) (W : ∀ A : Around, A.handled = none → Walks P w A it [it] [it] x.cps.size (SignAt x) (fun i h => h.IsStrIter it ty x t i))
    (hself : ∀ (A : Around) (i : Nat) (s : Shared) (Q : Value → Shared → Prop) (E : Value → Shared → Prop), s.heap.IsStrIter it ty x t i → Q (.ref it) s → wpAny (model P w) A (pyIter (.ref it)) Q E s) :
    Turn P w K (.Name y py) (Its x) [it] it (fun i h => h.IsStrIter it ty x t i) where
  mem := by simp
  obj := fun i h st b hb => by
    have e : b = it := by simpa using hb
    subst e
    obtain ⟨o, e, c, d⟩ := st
    exact ⟨o, e, fun v z => by rw [d] at z; cases z⟩
  keep := fun i h h' ⟨o, e, r⟩ k => ⟨o, k it (by simp) o e, r⟩
  item := by
    intro X hP hw hK hc i pins s σ H E I hf st hg
    subst hP hw hK
    obtain ⟨f0, f1, f2, f3, f4, f5⟩ := hf it (by simp)
    refine (W X.A (I.ok.hd hc)).item i s _ _ hg st fun v h' tk hv st' k => ?_
    have I1 : Inv X pins σ H { s with heap := h', toks := tk } := I.turned (t' := tk) (fun b o hb e => k b o (fun z => hb (by simpa using z)) e) f0 f1 f3 f4 f5
    obtain ⟨c, u, hx, rfl⟩ := hv
    exact ⟨_, rfl, wpAny_pure ⟨.str ⟨#[c]⟩, H, I1, ⟨_, rfl⟩, ⟨rfl, c, hx, rfl⟩, st', fun b hb => (hf b hb).1⟩⟩
  done := by
    intro X hP hw hK hc i pins s σ H E I hf st hg
    subst hP hw hK
    have hg' : i = x.cps.size := hg
    subst hg'
    obtain ⟨f0, f1, f2, f3, f4, f5⟩ := hf it (by simp)
    exact (W X.A (I.ok.hd hc)).done s _ _ st fun h' tk k => ⟨rfl, I.turned (t' := tk) (fun b o hb e => k b o (fun z => hb (by simpa using z)) e) f0 f1 f3 f4 f5⟩
  self := hself
def rItS (v : V) (H : Hp) (R : It → Hp → Prop) : Prop := ∃ x, v = .str x ∧ R (Its x) H
def iStr (tl : TE) : TI := fun σ H R => tl σ H fun v H1 => rItS v H1 R
end
end My
set_option Elab.async false
set_option linter.all false
set_option maxRecDepth 100000
namespace L2
open PySem PySem.Spec PyProof.Rows
section
variable {κ : Type} [DecidableEq κ]
def valV (kvs : List (κ × V)) (k : κ) : Option V := (kvs.find? fun kv => decide (kv.1 = k)).map (·.2)
def putK (kvs : List (κ × V)) (k : κ) (v : V) : List (κ × V) :=
  if (kvs.any fun kv => decide (kv.1 = k)) = true then kvs.map (fun kv => if kv.1 = k then (kv.1, v) else kv) else kvs ++ [(k, v)]
theorem valV_pos {p : κ × V} {r : List (κ × V)} {k : κ} (e : p.1 = k) : valV (p :: r) k = some p.2 := by simp [valV, List.find?_cons, e]
theorem valV_neg {p : κ × V} {r : List (κ × V)} {k : κ} (e : ¬ p.1 = k) : valV (p :: r) k = valV r k := by simp [valV, List.find?_cons, e]
theorem valV_any (k : κ) : ∀ kvs : List (κ × V), (kvs.any fun kv => decide (kv.1 = k)) = (valV kvs k).isSome
  | [] => rfl
  | p :: r => by
    rw [List.any_cons]
    by_cases e : p.1 = k
    · simp only [valV_pos e, decide_eq_true e, Bool.true_or, Option.isSome_some]
    · rw [valV_neg e, decide_eq_false e, Bool.false_or]; exact valV_any k r
theorem valV_map (k j : κ) (y : V) : ∀ kvs : List (κ × V), valV (kvs.map fun kv => if kv.1 = k then (kv.1, y) else kv) j = (valV kvs j).map fun x => if j = k then y else x
  | [] => rfl
  | p :: r => by
    have ih := valV_map k j y r
    rw [List.map_cons]
    by_cases h : p.1 = k
    · rw [if_pos h]
      by_cases e : p.1 = j
      · rw [valV_pos (p := (p.1, y)) e, valV_pos e, Option.map_some, if_pos (e.symm.trans h)]
      · rw [valV_neg (p := (p.1, y)) e, valV_neg e, ih]
    · rw [if_neg h]
      by_cases e : p.1 = j
      · rw [valV_pos (p := p) e, valV_pos e, Option.map_some, if_neg (fun z => h (e.trans z))]
      · rw [valV_neg (p := p) e, valV_neg e, ih]
theorem valV_snoc (k j : κ) (y : V) : ∀ kvs : List (κ × V), valV kvs k = none → valV (kvs ++ [(k, y)]) j = if j = k then some y else valV kvs j
  | [], _ => by
    by_cases e : k = j
    · rw [if_pos e.symm]; exact valV_pos (p := (k, y)) e
    · rw [if_neg (fun z => e z.symm)]; exact valV_neg (p := (k, y)) e
  | p :: r, hn => by
    rw [List.cons_append]
    have hk : ¬ p.1 = k := fun z => by rw [valV_pos z] at hn; cases hn
    rw [valV_neg hk] at hn
    have ih := valV_snoc k j y r hn
    by_cases e : p.1 = j
    · rw [valV_pos e, valV_pos e, if_neg (fun z => hk (e.trans z))]
    · rw [valV_neg e, valV_neg e, ih]
theorem valV_put (kvs : List (κ × V)) (k j : κ) (y : V) : valV (putK kvs k y) j = if j = k then some y else valV kvs j := by
  unfold putK
  by_cases a : (kvs.any fun kv => decide (kv.1 = k)) = true
  · rw [if_pos a, valV_map]
    rw [valV_any] at a
    by_cases e : j = k
    · obtain ⟨x, hx⟩ := Option.isSome_iff_exists.mp a
      rw [if_pos e, e, hx, Option.map_some, if_pos rfl]
    · rw [if_neg e]
      cases valV kvs j with
      | none => rfl
      | some x => rw [Option.map_some, if_neg e]
  · rw [if_neg a]
    refine valV_snoc k j y kvs ?_
    rw [valV_any] at a
    cases q : valV kvs k with
    | none => rfl
    | some x => rw [q] at a; exact (a rfl).elim
theorem length_putK (kvs : List (κ × V)) (k : κ) (v : V) : (putK kvs k v).length ≤ kvs.length + 1 := by
  unfold putK
  split
  · rw [List.length_map]; omega
  · rw [List.length_append, List.length_cons, List.length_nil]; omega
theorem putK_new {kvs : List (κ × V)} {k : κ} (v : V) (h : valV kvs k = none) : putK kvs k v = kvs ++ [(k, v)] := by
  unfold putK
  rw [valV_any, h]
  exact if_neg (by decide)
theorem RelO.isSome_eq {o : Option V} {u : Option Value} (r : RelO o u) : o.isSome = u.isSome := by
  cases o with
  | none => cases u with
    | none => rfl
    | some _ => exact (show False from r).elim
  | some _ => cases u with
    | none => exact (show False from r).elim
    | some _ => rfl
theorem RelO.getD {o : Option V} {u : Option Value} {d : V} {d' : Value} (r : RelO o u) (rd : RelV d d') : RelV (o.getD d) (u.getD d') := by
  cases o with
  | none => cases u with
    | none => exact rd
    | some _ => exact (show False from r).elim
  | some _ => cases u with
    | none => exact (show False from r).elim
    | some _ => exact r
theorem KV.val {kvs : List (κ × V)} {vs : List (κ × Value)} (r : KV kvs vs) (k : κ) : RelO (valV kvs k) (valueAt vs k) := by
  unfold KV at r
  induction r with
  | nil => exact True.intro
  | @cons p q ps qs h t ih =>
    obtain ⟨h1, h2⟩ := h
    by_cases e : p.1 = k
    · have e' : q.1 = k := h1.symm.trans e
      have b : valueAt (q :: qs) k = some q.2 := by simp [valueAt, List.find?_cons, e']
      rw [valV_pos e, b]; exact h2
    · have e' : ¬ q.1 = k := fun z => e (h1.trans z)
      have b : valueAt (q :: qs) k = valueAt qs k := by simp [valueAt, List.find?_cons, e']
      rw [valV_neg e, b]; exact ih
theorem KV.any {kvs : List (κ × V)} {vs : List (κ × Value)} (r : KV kvs vs) (k : κ) : (kvs.any fun kv => decide (kv.1 = k)) = vs.any fun kv => decide (kv.1 = k) := by
  unfold KV at r
  induction r with
  | nil => rfl
  | cons h t ih => rw [List.any_cons, List.any_cons, ih, h.1]
theorem KV.repl {kvs : List (κ × V)} {vs : List (κ × Value)} (r : KV kvs vs) (k : κ) {y : V} {u : Value} (ry : RelV y u) :
    KV (kvs.map fun kv => if kv.1 = k then (kv.1, y) else kv) (vs.map fun kv => if kv.1 = k then (kv.1, u) else kv) := by
  unfold KV at r ⊢
  induction r with
  | nil => exact .nil
  | @cons p q ps qs h t ih =>
    rw [List.map_cons, List.map_cons]
    refine .cons ?_ ih
    obtain ⟨h1, h2⟩ := h
    by_cases e : p.1 = k
    · rw [if_pos e, if_pos (h1.symm.trans e)]; exact ⟨h1, ry⟩
    · rw [if_neg e, if_neg (fun z => e (h1.trans z))]; exact ⟨h1, h2⟩
theorem KV.put {kvs : List (κ × V)} {vs : List (κ × Value)} (r : KV kvs vs) (k : κ) {y : V} {u : Value} (ry : RelV y u) : KV (putK kvs k y) (stored vs k u) := by
  unfold putK stored
  rw [r.any k]
  by_cases e : (vs.any fun kv => decide (kv.1 = k)) = true
  · rw [if_pos e, if_pos e]; exact r.repl k ry
  · rw [if_neg e, if_neg e]; exact Paired.snoc r ⟨rfl, ry⟩
theorem KV.keys {kvs : List (κ × V)} {vs : List (κ × Value)} (r : KV kvs vs) : kvs.map (·.1) = vs.map (·.1) := by
  unfold KV at r
  induction r with
  | nil => rfl
  | cons h t ih => rw [List.map_cons, List.map_cons, ih, h.1]
theorem KV.length {kvs : List (κ × V)} {vs : List (κ × Value)} (r : KV kvs vs) : kvs.length = vs.length := Paired.length r
end
theorem kV_is {P : Program} {w : World} {k : Key} {u : Value} (r : RelV (kV k) u) : (mixKind P w).is k u = true := by
  cases k with
  | inl i => obtain ⟨t, e⟩ := (show ∃ t, u = Value.int i t from r); subst e; exact mixKind_int P w i t
  | inr x => obtain ⟨t, e⟩ := (show ∃ t, u = Value.str x t from r); subst e; exact mixKind_str P w x t
theorem items_are {P : Program} {w : World} : ∀ {ks : List Key} {us : List Value}, Vals (ks.map kV) us → ItemsAre (mixKind P w) ks us
  | [], _, r => by rw [List.map_nil] at r; cases r; exact .nil
  | k :: ks, _, r => by
    rw [List.map_cons] at r
    cases r with
    | cons h t => exact .cons (kV_is h) (items_are t)
abbrev KT (H : Hp) : List (List Key × V) → List (List Key × Addr × Value) → Prop := Paired fun p q => p.1 = q.1 ∧ H q.2.1 = some (.tup (p.1.map kV)) ∧ RelV p.2 q.2.2
theorem KT.val {H : Hp} {kvs : List (List Key × V)} {xs : List (List Key × Addr × Value)} (r : KT H kvs xs) (k : List Key) : RelO (valV kvs k) ((atKey xs k).map (·.2)) := by
  induction r with
  | nil => exact True.intro
  | @cons p q ps qs h t ih =>
    obtain ⟨h1, _, h2⟩ := h
    by_cases e : p.1 = k
    · have e' : q.1 = k := h1.symm.trans e
      have b : atKey (q :: qs) k = some q.2 := by simp [atKey, List.find?_cons, e']
      rw [valV_pos e, b]; exact h2
    · have e' : ¬ q.1 = k := fun z => e (h1.trans z)
      have b : atKey (q :: qs) k = atKey qs k := by simp [atKey, List.find?_cons, e']
      rw [valV_neg e, b]; exact ih
theorem KT.repl {H : Hp} {kvs : List (List Key × V)} {xs : List (List Key × Addr × Value)} (r : KT H kvs xs) (k : List Key) {y : V} {u : Value} (ry : RelV y u) :
    KT H (kvs.map fun kv => if kv.1 = k then (kv.1, y) else kv) (xs.map (putAt k u)) := by
  induction r with
  | nil => exact .nil
  | @cons p q ps qs h t ih =>
    rw [List.map_cons, List.map_cons]
    refine .cons ?_ ih
    obtain ⟨h1, h2, h3⟩ := h
    unfold putAt
    by_cases e : p.1 = k
    · rw [if_pos e, if_pos (h1.symm.trans e)]; exact ⟨h1, h2, ry⟩
    · rw [if_neg e, if_neg (fun z => e (h1.trans z))]; exact ⟨h1, h2, h3⟩
theorem KT.put {H : Hp} {kvs : List (List Key × V)} {xs : List (List Key × Addr × Value)} (r : KT H kvs xs) (k : List Key) {b : Addr} {y : V} {u : Value} (hb : H b = some (.tup (k.map kV))) (ry : RelV y u) :
    KT H (putK kvs k y) (storedH xs k b u) := by
  have e : (kvs.any fun kv => decide (kv.1 = k)) = (atKey xs k).isSome := by
    rw [valV_any, (r.val k).isSome_eq, Option.isSome_map]
  unfold putK storedH
  rw [e]
  by_cases q : (atKey xs k).isSome = true
  · rw [if_pos q, if_pos q]; exact r.repl k ry
  · rw [if_neg q, if_neg q]; exact Paired.snoc r ⟨rfl, hb, ry⟩
theorem KT.keeps {H H' : Hp} {kvs : List (List Key × V)} {xs : List (List Key × Addr × Value)} (r : KT H kvs xs) (ht : ∀ b ys, H b = some (.tup ys) → H' b = some (.tup ys)) : KT H' kvs xs :=
  Paired.mapP r fun _ _ z => ⟨z.1, ht _ _ z.2.1, z.2.2⟩
section
variable {P : Program} {w : World} {H : Hp} {h : Heap} {a : Addr}
theorem rd_of {u : HO} (ok : HOk P w H h) (e : Rd H a u) : ObjOk P w H h a u := e.ok ok
theorem dk_rd {kvs : List (Key × V)} (ok : HOk P w H h) (e : Rd H a (.dK kvs)) : kvs.length ≤ sizeLine ∧ (a == sysModules) = false ∧ ∃ vs, KV kvs vs ∧ h.DictOf (mixKind P w) a vs :=
  show ObjOk P w H h a (.dK kvs) from rd_of ok e
theorem dk_of {kvs : List (Key × V)} (ok : HOk P w H h) (e : H a = some (.dK kvs)) : kvs.length ≤ sizeLine ∧ (a == sysModules) = false ∧ ∃ vs, KV kvs vs ∧ h.DictOf (mixKind P w) a vs := dk_rd ok (.inl e)
theorem key_of {ks : List Key} (ok : HOk P w H h) (e : H a = some (.tup (ks.map kV))) : (tupleKind (mixKind P w)).is h ks a := by
  obtain ⟨_, its, r, o, h1, h2, n, h3⟩ := (show ObjOk P w H h a (.tup (ks.map kV)) from ok a _ e)
  exact ⟨o, its.toArray, n, h1, h2, h3, by simpa using items_are r⟩
theorem dt_rd {kvs : List (List Key × V)} (ok : HOk P w H h) (e : Rd H a (.dT kvs)) : kvs.length ≤ sizeLine ∧ (a == sysModules) = false ∧
    ∃ xs, KT H kvs xs ∧ h.DictOfH (tupleKind (mixKind P w)) a xs := by
  obtain ⟨z, y, xs, r, o, es, ep, h1, h2, h3, h4, h5⟩ := (show ObjOk P w H h a (.dT kvs) from rd_of ok e)
  refine ⟨z, y, xs, r, o, es, ep, h1, h2, h3, h4, fun x hx => ?_, h5⟩
  have all : ∀ {l : List (List Key × V)} {m : List (List Key × Addr × Value)}, KT H l m → ∀ x ∈ m, (tupleKind (mixKind P w)).is h x.1 x.2.1 := by
    intro l m q
    induction q with
    | nil => intro x hx; exact nomatch hx
    | @cons p q ps qs hq t ih =>
      intro x hx
      rcases List.mem_cons.mp hx with e | hx
      · subst e
        exact key_of ok (by rw [← hq.1]; exact hq.2.1)
      · exact ih x hx
  exact all r x hx
theorem dt_of {kvs : List (List Key × V)} (ok : HOk P w H h) (e : H a = some (.dT kvs)) : kvs.length ≤ sizeLine ∧ (a == sysModules) = false ∧
    ∃ xs, KT H kvs xs ∧ h.DictOfH (tupleKind (mixKind P w)) a xs := dt_rd ok (.inl e)
end
def DGet (H : Hp) (a : Addr) (y : V) (r : Option V) : Prop :=
  (∃ kvs k, Rd H a (.dK kvs) ∧ y = kV k ∧ r = valV kvs k) ∨ ∃ kvs k b, Rd H a (.dT kvs) ∧ y = .ref b ∧ H b = some (.tup (k.map kV)) ∧ r = valV kvs k
def DPut (H : Hp) (a : Addr) (y v : V) (H' : Hp) : Prop :=
  (∃ kvs k, H a = some (.dK kvs) ∧ y = kV k ∧ kvs.length < sizeLine ∧ H' = upd H a (.dK (putK kvs k v))) ∨
  ∃ kvs k b, H a = some (.dT kvs) ∧ y = .ref b ∧ H b = some (.tup (k.map kV)) ∧ kvs.length < sizeLine ∧ H' = upd H a (.dT (putK kvs k v))
theorem DPut.k {H : Hp} {a : Addr} {kvs : List (Key × V)} {k : Key} {v : V} (e : H a = some (.dK kvs)) (hl : kvs.length < sizeLine) : DPut H a (kV k) v (upd H a (.dK (putK kvs k v))) := .inl ⟨kvs, k, e, rfl, hl, rfl⟩
section
variable {X : Cx} {pins : List (Addr × Obj)} {σ : St} {H : Hp} {s : Shared} {a : Addr} {y v : V} {u r : Value} {o : Option V} {A : Around} {E : Value → Shared → Prop}
theorem Inv.big (I : Inv X pins σ H s) : sysModules < s.heap.objs.size := by
  have h : mainGlobals < s.heap.objs.size := (I.mod.glob.keeps I.bk).lt
  exact Nat.lt_trans (by decide) h
theorem d_getItem {Q : Value → Shared → Prop} (hu : A.units + 1 < cLine) (I : Inv X pins σ H s) (g : DGet H a y (some v)) (ry : RelV y u) (h : ∀ w' s', Inv X pins σ H s' → RelV v w' → Q w' s') :
    wpAny (model X.prog X.w) A (getItem (.ref a) u) Q E s := by
  rcases g with ⟨kvs, k, e, ey, l⟩ | ⟨kvs, k, b, e, ey, eb, l⟩
  · subst ey
    obtain ⟨z, hd, vs, rel, dd⟩ := dk_rd I.hok e
    obtain ⟨w', hw, rw'⟩ := RelO.some_of (v := v) (o := valueAt vs k) (by rw [l]; exact rel.val k)
    exact wpAny_getItem_of (kV_is ry) dd.mapOf hw (h w' _ (I.tok _) rw')
  · subst ey
    cases (show u = Value.ref b from ry)
    obtain ⟨z, hd, xs, rel, dd⟩ := dt_rd I.hok e
    obtain ⟨w', hw, rw'⟩ := RelO.some_of (v := v) (o := (atKey xs k).map (·.2)) (by rw [l]; exact rel.val k)
    obtain ⟨p, hp, hp2⟩ := Option.map_eq_some_iff.mp hw
    refine wpAny_getItem_heap (tupleKind_room_in1 hu) (key_of I.hok eb) dd hp ?_
    rw [hp2]
    exact h w' _ (I.tok _) rw'
theorem d_in {Q : Value → Shared → Prop} (hu : A.units + 1 < cLine) (I : Inv X pins σ H s) (g : DGet H a y o) (ry : RelV y u) (h : ∀ s', Inv X pins σ H s' → Q (.bool o.isSome) s') :
    wpAny (model X.prog X.w) A (compareOp .In u (.ref a)) Q E s := by
  rcases g with ⟨kvs, k, e, ey, l⟩ | ⟨kvs, k, b, e, ey, eb, l⟩
  · subst ey
    obtain ⟨z, hd, vs, rel, dd⟩ := dk_rd I.hok e
    refine wpAny_in_of (kV_is ry) hd dd.mapOf ?_
    rw [← (rel.val k).isSome_eq, ← l]
    exact h _ (I.tok _)
  · subst ey
    cases (show u = Value.ref b from ry)
    obtain ⟨z, hd, xs, rel, dd⟩ := dt_rd I.hok e
    refine wpAny_in_heap (tupleKind_room_in1 hu) (key_of I.hok eb) hd dd ?_
    have q := (rel.val k).isSome_eq
    rw [Option.isSome_map] at q
    rw [← q, ← l]
    exact h _ (I.tok _)
theorem d_write {h' : Heap} {t' : Nat} {ob : HO} (I : Inv X pins σ H s) (mu : Mut (H a)) (hs : Heap.SameBut a s.heap h') (he : ∃ q, h'.get? a = some q) (new : ObjOk X.prog X.w (upd H a ob) h' a ob) :
    Inv X pins σ (upd H a ob) { s with heap := h', toks := t' } :=
  I.write (x := a) (e := a) mu (.inl rfl) (fun b q hb z => (hs.2 b hb).trans z) he new
theorem dk_new {P : Program} {w : World} {H' : Hp} {h' : Heap} {kvs : List (Key × V)} {vs : List (Key × Value)} (z : kvs.length ≤ sizeLine) (hd : (a == sysModules) = false) (rel : KV kvs vs) (dd : h'.DictOf (mixKind P w) a vs) :
    ObjOk P w H' h' a (.dK kvs) := ⟨z, hd, vs, rel, dd⟩
theorem d_setItem {H' : Hp} {Q : Unit → Shared → Prop} (hu : A.units + 1 < cLine) (I : Inv X pins σ H s) (g : DPut H a y v H') (ry : RelV y u) (rv : RelV v r) (h : ∀ s', Inv X pins σ H' s' → Q () s') :
    wpAny (model X.prog X.w) A (setItem (.ref a) u r) Q E s := by
  rcases g with ⟨kvs, k, e, ey, l, eH⟩ | ⟨kvs, k, b, e, ey, eb, l, eH⟩
  · subst ey eH
    obtain ⟨z, hd, vs, rel, dd⟩ := dk_of I.hok e
    have hz : vs.length ≤ sizeLine := by rw [← rel.length]; exact z
    have hl : (putK kvs k v).length ≤ sizeLine := by have := length_putK kvs k v; omega
    refine wpAny_setItem_pairs (hsz := hz) (kV_is ry) dd fun h' dd' hs => h _ ?_
    have he : ∃ q, h'.get? a = some q := let ⟨q, _, _, hq, _⟩ := dd'; ⟨q, hq⟩
    exact d_write I (by rw [e]; exact True.intro) hs he (dk_new hl hd (rel.put k rv) dd')
  · subst ey eH
    cases (show u = Value.ref b from ry)
    obtain ⟨z, hd, xs, rel, dd⟩ := dt_of I.hok e
    have hz : xs.length ≤ sizeLine := by rw [← Paired.length rel]; exact z
    have hl : (putK kvs k v).length ≤ sizeLine := by have := length_putK kvs k v; omega
    refine wpAny_setItem_heap (hsz := hz) (tupleKind_room_in1 hu) (key_of I.hok eb) dd fun h' dd' hs => h _ ?_
    obtain ⟨q, es, ep, hq, h2, h3, h4, _, h5⟩ := dd'
    refine d_write I (by rw [e]; exact True.intro) hs ⟨q, hq⟩ ⟨hl, hd, _, (rel.put k eb rv).keeps fun c ys ec => ?_, q, es, ep, hq, h2, h3, h4, h5⟩
    rw [upd_ne (ne_of ec e (fun z => nomatch z))]
    exact ec
end
section
variable {X : Cx} {pins : List (Addr × Obj)} {σ : St} {H : Hp} {s : Shared} {a : Addr} {kvs : List (Key × V)} {k : Key} {u : Value} {A : Around} {E : Value → Shared → Prop}
theorem d_len {Q : Value → Shared → Prop} (I : Inv X pins σ H s) (e : Rd H a (.dK kvs)) (h : ∀ t s', Inv X pins σ H s' → Q (.int kvs.length t) s') : wpAny (model X.prog X.w) A (call (.builtin "len") [.ref a]) Q E s := by
  obtain ⟨z, hd, vs, rel, dd⟩ := dk_rd I.hok e
  refine call_len_dict hd dd (by rw [← rel.length]; rw [sizeLine_eq] at z; omega) ?_
  rw [← rel.length]
  exact h _ _ (I.tok _)
end
def NoSl (i : Expr) : Prop := ∀ ov iv, subscripted i false ov iv = operate [ov, iv] (getItem ov iv)
theorem subD_of {prog : Program} {w : World} {A : Around} {E : Value → Shared → Prop} {s : Shared} {env : Env} {value slice : Expr} {pos : Pos} {T id : String} {Q : Value → Shared → Prop}
    (hl : typeLookup (.type T) "__getitem__" = pure (some (.builtin id))) (hs : NoSl slice)
    (h : wpAny (model prog w) A (eval value env) (fun o s₁ => wpAny (model prog w) A (eval slice env) (fun i s₂ => s₂.TypeIs o T ∧ wpAny (model prog w) A (getItem o i) Q E s₂) E s₁) E s) :
    wpAny (model prog w) A (eval (.Subscript value slice pos) env) Q E s := by
  refine Subscript_ (wpAny_mono h (fun o s₁ h₁ => wpAny_mono h₁ (fun i s₂ h₂ => ?_) fun _ _ x => x) fun _ _ x => x)
  obtain ⟨hT, h₂⟩ := h₂
  unfold subscriptTail
  refine wpAny_bind ?_
  rw [getitemInPython_of_ne hT.not_modules]
  refine wpAny_bind (wpAny_specialOf hT hl ?_)
  have fin : wpAny (model prog w) A (subscripted slice false o i) (fun r s₃ => wpAny (model prog w) A (letTemporaryGo value o r >>= fun _ => pure r) Q E s₃) E s₂ := by
    rw [hs o i]
    exact wpAny_operating (wpAny_mono h₂ (fun r s₃ h₃ => wpAny_bind (wpAny_letTemporaryGo (wpAny_pure h₃))) fun _ _ x => x)
  first
    | exact wpAny_pure (wpAny_bind fin)
    | exact wpAny_bind (wpAny_pure (wpAny_bind fin))
    | exact wpAny_bind fin
theorem dict_typeIs {X : Cx} {pins : List (Addr × Obj)} {σ : St} {H : Hp} {s : Shared} {a : Addr} {y : V} {o : Option V} (I : Inv X pins σ H s) (g : DGet H a y o) : s.TypeIs (.ref a) "dict" := by
  rcases g with ⟨kvs, k, e, _, _⟩ | ⟨kvs, k, b, e, _, _, _⟩
  · obtain ⟨_, _, vs, _, dd⟩ := dk_rd I.hok e
    exact dd.typeIs
  · obtain ⟨_, _, xs, _, dd⟩ := dt_rd I.hok e
    exact dd.typeIs
def tDGet (td ty : TE) : TE := fun σ H Q => td σ H fun x H1 => ty σ H1 fun y H2 => ∃ a v, x = .ref a ∧ DGet H2 a y (some v) ∧ Q v H2
def tDIn (ty td : TE) : TE := fun σ H Q => ty σ H fun y H1 => td σ H1 fun x H2 => ∃ a o, x = .ref a ∧ DGet H2 a y o ∧ Q (.bl o.isSome) H2
def sDPut (td ty tv : TE) : TS := fun D σ H => tv σ H fun v H1 => td σ H1 fun x H2 => ty σ H2 fun y H3 => ∃ a H4, x = .ref a ∧ DPut H3 a y v H4 ∧ D.nx σ H4
section
variable {X : Cx} {o i e value : Expr} {pos pos' tpos : Pos} {td ty tv : TE}
theorem pe_dget (hu : X.A.units + 1 < cLine) (ho : PE X o td) (hi : PE X i ty) (hs : NoSl i) : PE X (.Subscript o i pos) (tDGet td ty) := by
  intro pins s σ H Q I h
  refine subD_of PySem.F.slot_dict_getitem.lookup hs (thn (ho pins s σ H _ I h) fun u s1 ⟨x, H1, I1, rx, q1⟩ => thn (hi pins s1 σ H1 _ I1 q1) fun iv s2 ⟨y, H2, I2, ry, a, v, ex, g, q2⟩ => ?_)
  subst ex
  obtain rfl : u = Value.ref a := rx
  exact ⟨dict_typeIs I2 g, d_getItem hu I2 g ry fun w' s3 I3 rw' => ⟨v, H2, I3, rw', q2⟩⟩
theorem pc_din (hu : X.A.units + 1 < cLine) (hi : PE X i ty) (ho : PE X o td) : PC X .In i o (tDIn ty td) := by
  intro pins s σ H Q I h
  refine thn (hi pins s σ H _ I h) fun iv s1 ⟨y, H1, I1, ry, q1⟩ => thn (ho pins s1 σ H1 _ I1 q1) fun u s2 ⟨x, H2, I2, rx, a, ov, ex, g, q2⟩ => ?_
  subst ex
  obtain rfl : u = Value.ref a := rx
  exact d_in hu I2 g ry fun s3 I3 => ⟨.bl ov.isSome, H2, I3, rfl, q2⟩
theorem ps_dput (hu : X.A.units + 1 < cLine) (ho : PE X o td) (hi : PE X i ty) (hv : PE X value tv) (hs : swapsWith value (some (.Subscript o i pos')) pos.line X.env = pure false) :
    PS X (.Assign [.Subscript o i pos'] value pos) (sDPut td ty tv) := by
  intro pins s σ H D I h
  refine wpAny_Assign_Subscript (thn (hv pins s σ H _ I h) fun r s1 ⟨v, H1, I1, rv, q1⟩ => thn (ho pins s1 σ H1 _ I1 q1) fun u s2 ⟨x, H2, I2, rx, q2⟩ => thn (hi pins s2 σ H2 _ I2 q2) fun iv s3 ⟨y, H3, I3, ry, a, H4, ex, g, q3⟩ => ?_) hs
  subst ex
  obtain rfl : u = Value.ref a := rx
  exact d_setItem hu I3 g ry rv fun s4 I4 => ⟨σ, H4, I4, q3⟩
end
theorem dk_empty {P : Program} {w : World} {H : Hp} (h : Heap) (hb : sysModules < h.objs.size) : ObjOk P w H (h.push { cls := .type "dict", data := .dict #[] }) h.objs.size (.dK []) :=
  ⟨Nat.zero_le _, beq_eq_false_iff_ne.mpr (Ne.symm (Nat.ne_of_lt hb)), [], .nil, Heap.DictOf.new h⟩
def tDNewK : TE := fun _ H Q => ∀ p, H p = none → Q (.ref p) (upd H p (.dK []))
section
variable {X : Cx} {pos : Pos}
theorem pe_dnewK : PE X (.Dict [] [] pos) tDNewK := fun pins s σ H Q I h =>
  wpAny_Dict_empty ⟨.ref s.heap.objs.size, _, I.laid (a := s.heap.objs.size) (o := .dK []) (t' := s.toks) (fun _ _ q => Heap.get?_push_of_some _ q) (Nat.le_refl _) (dk_empty s.heap I.big), rfl, h _ (I.hok.fresh (Nat.le_refl _))⟩
end
def tPairs : List (TE × TE) → St → Hp → (List (V × V) → Hp → Prop) → Prop
  | [], _, H, Q => Q [] H
  | (tk, tv) :: r, σ, H, Q => tk σ H fun x H1 => tv σ H1 fun y H2 => tPairs r σ H2 fun ps H3 => Q ((x, y) :: ps) H3
abbrev VV : List (V × V) → List (Value × Value) → Prop := Paired fun p q => RelV p.1 q.1 ∧ RelV p.2 q.2
def PPs (X : Cx) (pos : Pos) (keys : List (Option Expr)) (values : List Expr) (trs : List (TE × TE)) : Prop :=
  ∀ (pins : List (Addr × Obj)) (s : Shared) (σ : St) (H : Hp) (Q : List (V × V) → Hp → Prop), Inv X pins σ H s → tPairs trs σ H Q →
    wpAny (model X.prog X.w) X.A (evalPairs (pairTrees keys values X.env pos)) (fun vs s' => ∃ ps H', Inv X pins σ H' s' ∧ VV ps vs ∧ Q ps H') X.xe s
theorem pps_nil {X : Cx} {pos : Pos} : PPs X pos [] [] [] := fun pins s σ H Q I h => pairTrees_nil_walk ⟨[], H, I, .nil, h⟩
theorem pps_cons {X : Cx} {pos : Pos} {k v : Expr} {ks : List (Option Expr)} {vs : List Expr} {tk tv : TE} {trs : List (TE × TE)} (hk : PE X k tk) (hv : PE X v tv) (hr : PPs X pos ks vs trs) :
    PPs X pos (some k :: ks) (v :: vs) ((tk, tv) :: trs) := fun pins s σ H Q I h =>
  pairTrees_cons_walk (thn (hk pins s σ H _ I h) fun u s1 ⟨x, H1, I1, rx, q1⟩ => thn (hv pins s1 σ H1 _ I1 q1) fun w2 s2 ⟨y, H2, I2, ry, q2⟩ =>
    thn (hr pins s2 σ H2 _ I2 q2) fun ws s3 ⟨ps, H3, I3, rel, q3⟩ => ⟨(x, y) :: ps, H3, I3, .cons ⟨rx, ry⟩ rel, q3⟩)
def mergeK (kvs more : List (Key × V)) : List (Key × V) := more.foldl (fun acc kv => putK acc kv.1 kv.2) kvs
theorem KV.merge : ∀ {more : List (Key × V)} {rs : List (Key × Value)} {kvs : List (Key × V)} {vs : List (Key × Value)}, KV more rs → KV kvs vs → KV (mergeK kvs more) (merged vs rs) := by
  intro more rs kvs vs r
  unfold KV at r
  induction r generalizing kvs vs with
  | nil => intro q; exact q
  | @cons p q ps qs h t ih =>
    intro r0
    have e : KV (putK kvs p.1 p.2) (stored vs q.1 q.2) := by
      have := r0.put p.1 h.2
      rw [← h.1]; exact this
    exact ih e
theorem length_mergeK : ∀ (more kvs : List (Key × V)), (mergeK kvs more).length ≤ kvs.length + more.length
  | [], kvs => by show kvs.length ≤ kvs.length + 0; omega
  | p :: r, kvs => by
    have h1 := length_mergeK r (putK kvs p.1 p.2)
    have h2 := length_putK kvs p.1 p.2
    show (mergeK (putK kvs p.1 p.2) r).length ≤ _
    rw [List.length_cons]; omega
theorem carries_of {P : Program} {w : World} : ∀ {kvs : List (Key × V)} {ws : List (Value × Value)}, VV (kvs.map fun kv => (kV kv.1, kv.2)) ws → ∃ rs, Carries (mixKind P w) ws rs ∧ KV kvs rs
  | [], _, r => by rw [List.map_nil] at r; cases r; exact ⟨[], True.intro, .nil⟩
  | p :: kvs, _, r => by
    rw [List.map_cons] at r
    cases r with
    | @cons a b as bs h t =>
      obtain ⟨rs, c, q⟩ := carries_of (P := P) (w := w) t
      obtain ⟨b1, b2⟩ := b
      exact ⟨(p.1, b2) :: rs, ⟨kV_is h.1, rfl, c⟩, .cons ⟨rfl, h.2⟩ q⟩
def tDisp (trs : List (TE × TE)) : TE := fun σ H Q => ∀ p, H p = none → tPairs trs σ (upd H p (.dK [])) fun ps H2 => H2 p = some (.dK []) ∧ ∃ kvs : List (Key × V), ps = kvs.map (fun kv => (kV kv.1, kv.2)) ∧ kvs.length ≤ 15 ∧ Q (.ref p) (upd H2 p (.dK (mergeK [] kvs)))
theorem pe_disp {X : Cx} {pos : Pos} {keys : List (Option Expr)} {values : List Expr} {trs : List (TE × TE)} (h : PPs X pos keys values trs) (hall : keys.all (·.isSome) = true) (hl : keys.length = values.length) (h0 : keys ≠ [])
    (h15 : keys.length ≤ 15) : PE X (.Dict keys values pos) (tDisp trs) := by
  intro pins s σ H Q I q
  have hn := I.hok.fresh (Nat.le_refl s.heap.objs.size)
  have I1 := I.laid (a := s.heap.objs.size) (o := .dK []) (h' := s.heap.push { cls := .type "dict", data := .dict #[] }) (t' := s.toks) (fun _ _ q => Heap.get?_push_of_some _ q) (Nat.le_refl _) (dk_empty s.heap I.big)
  refine wpAny_Dict_walk (knd := mixKind X.prog X.w) hall hl h0 h15 (thn (h pins _ σ _ _ I1 (q _ hn)) fun ws s2 ⟨ps, H2, I2, rel, e, kvs, ep, lk, q2⟩ => ?_)
  subst ep
  obtain ⟨rs, c, rk⟩ := carries_of (P := X.prog) (w := X.w) rel
  obtain ⟨z, hd, vs0, r0, dd⟩ := dk_of I2.hok e
  cases r0
  refine ⟨rs, c, dd, fun h' dd' hs => ⟨.ref s.heap.objs.size, _, ?_, rfl, q2⟩⟩
  have hz : (mergeK [] kvs).length ≤ sizeLine := by
    have h1 := length_mergeK kvs []
    rw [List.length_nil] at h1
    rw [sizeLine_eq]; omega
  have he : ∃ q, h'.get? s.heap.objs.size = some q := let ⟨q, _, _, hq, _⟩ := dd'; ⟨q, hq⟩
  exact d_write I2 (by rw [e]; exact True.intro) hs he (dk_new hz hd (rk.merge .nil) dd')
structure M1 (X : Cx) (o : Expr) (m : Str) (apos : Pos) (e : Expr) (cpos : Pos) : Prop where
  base : attributeBase o m X.env (eval o X.env) = eval o X.env
  few : ((backTo cpos (starEach [e] X.env)).all (fun x => !x.1) && (backToKw cpos (keywordEach [] X.env)).all (fun x => x.1.isSome)
    && decide (([e] : List Expr).length + ([] : List Keyword).length + (if ([] : List Keyword).isEmpty then 0 else 1) < 30)) = true
  line : (apos.endLine == cpos.line) = true
  trees : backTo cpos (starEach [e] X.env) = [(false, eval e X.env)]
structure M2 (X : Cx) (o : Expr) (m : Str) (apos : Pos) (e f : Expr) (cpos : Pos) : Prop where
  base : attributeBase o m X.env (eval o X.env) = eval o X.env
  few : ((backTo cpos (starEach [e, f] X.env)).all (fun x => !x.1) && (backToKw cpos (keywordEach [] X.env)).all (fun x => x.1.isSome)
    && decide (([e, f] : List Expr).length + ([] : List Keyword).length + (if ([] : List Keyword).isEmpty then 0 else 1) < 30)) = true
  line : (apos.endLine == cpos.line) = true
  trees : backTo cpos (starEach [e, f] X.env) = [(false, eval e X.env), (false, eval f X.env)]
def IsD (H : Hp) (a : Addr) : Prop := (∃ kvs, Rd H a (.dK kvs)) ∨ ∃ kvs, Rd H a (.dT kvs)
theorem isD_at {X : Cx} {pins : List (Addr × Obj)} {σ : St} {H : Hp} {s : Shared} {a : Addr} (I : Inv X pins σ H s) (d : IsD H a) :
    s.TypeIs (.ref a) "dict" ∧ (∀ b, Value.ref a = .ref b → ∃ ob, s.heap.get? b = some ob ∧ ob.dict = none) ∧ (a == sysModules) = false := by
  rcases d with ⟨kvs, e⟩ | ⟨kvs, e⟩
  · obtain ⟨_, hd, vs, _, dd⟩ := dk_rd I.hok e
    refine ⟨dd.typeIs, fun b q => ?_, hd⟩
    cases q
    obtain ⟨ob, _, _, h1, h2, _⟩ := dd
    exact ⟨ob, h1, h2.2.1⟩
  · obtain ⟨_, hd, xs, _, dd⟩ := dt_rd I.hok e
    refine ⟨dd.typeIs, fun b q => ?_, hd⟩
    cases q
    obtain ⟨ob, _, _, h1, h2, _⟩ := dd
    exact ⟨ob, h1, h2.2.1⟩
section
variable {X : Cx} {pins : List (Addr × Obj)} {σ : St} {H : Hp} {s : Shared} {a : Addr} {y d : V} {u r : Value} {o : Option V} {A : Around} {E : Value → Shared → Prop}
theorem d_get2 {Q : Value → Shared → Prop} (hu : A.units + 1 < cLine) (I : Inv X pins σ H s) (g : DGet H a y o) (ry : RelV y u) (rd : RelV d r) (h : ∀ w' s', Inv X pins σ H s' → RelV (o.getD d) w' → Q w' s') :
    wpAny (model X.prog X.w) A (call (.builtin "dict.get") [.ref a, u, r]) Q E s := by
  rcases g with ⟨kvs, k, e, ey, l⟩ | ⟨kvs, k, b, e, ey, eb, l⟩
  · subst ey
    obtain ⟨z, hd, vs, rel, dd⟩ := dk_rd I.hok e
    refine call_meetsIn PySem.F.slot_dict_get dd.typeIs PySem.F.entry_dict_get (PySem.F.args_dict_get_3 _ _ _) (meets_dict_get_default (mixKind X.prog X.w) a (kV_is ry) hd r) ⟨_, dd.mapOf, h _ _ (I.tok _) ?_⟩
    rw [l]
    exact (rel.val k).getD rd
  · subst ey
    cases (show u = Value.ref b from ry)
    obtain ⟨z, hd, xs, rel, dd⟩ := dt_rd I.hok e
    refine call_meetsIn PySem.F.slot_dict_get dd.typeIs PySem.F.entry_dict_get (PySem.F.args_dict_get_3 _ _ _) (meetsH_dict_get_default (tupleKind (mixKind X.prog X.w)) a b hd r) ⟨tupleKind_room_in1 hu, k, xs, key_of I.hok eb, dd, h _ _ (I.tok _) ?_⟩
    rw [l]
    exact (rel.val k).getD rd
end
def tDGet2 (td ty tx : TE) : TE := fun σ H Q => td σ H fun x H1 => ∃ a, x = .ref a ∧ IsD H1 a ∧ ty σ H1 fun y H2 => tx σ H2 fun z H3 => ∃ o, DGet H3 a y o ∧ Q (o.getD z) H3
section
variable {X : Cx} {o e f : Expr} {apos cpos : Pos} {td ty tx : TE}
theorem pe_dget2 (hu : X.A.units + 1 < cLine) (ho : PE X o td) (he : PE X e ty) (hf : PE X f tx) (m : M2 X o "get" apos e f cpos) : PE X (.Call (.Attribute o "get" apos) [e, f] [] cpos) (tDGet2 td ty tx) := by
  intro pins s σ H Q I h
  refine wpAny_Call_method m.base m.few m.line PySem.F.plainAttrs_dict PySem.F.slot_dict_get PySem.F.type_dict_get (thn (ho pins s σ H _ I h) fun u s1 ⟨x, H1, I1, rx, a, ex, d, q1⟩ => ?_)
  subst ex
  obtain rfl : u = Value.ref a := rx
  obtain ⟨t1, t2, _⟩ := isD_at I1 d
  refine ⟨t1, t2, ?_⟩
  rw [m.trees]
  refine Calls.callWith_builtin rfl (Calls.evalArgs_plain (Calls.spliced_cons (thn (he pins s1 σ H1 _ I1 q1) fun iv s2 ⟨y, H2, I2, ry, q2⟩ =>
    Calls.spliced_cons (thn (hf pins s2 σ H2 _ I2 q2) fun fv s3 ⟨z, H3, I3, rz, ov, g, q3⟩ => Calls.spliced_nil ?_))))
  exact d_get2 hu I3 g ry rz fun w' s4 I4 rw' => ⟨_, H3, I4, rw', q3⟩
end
section
variable {X : Cx} {pins : List (Addr × Obj)} {σ : St} {H : Hp} {s : Shared} {a : Addr} {kvs : List (Key × V)} {A : Around} {E : Value → Shared → Prop}
theorem d_copyOf {Q : Value → Shared → Prop} (I : Inv X pins σ H s) (e : Rd H a (.dK kvs)) (h : ∀ p s', H p = none → Inv X pins σ (upd H p (.dK kvs)) s' → Q (.ref p) s') : wpAny (model X.prog X.w) A (call (.type "dict") [.ref a]) Q E s := by
  obtain ⟨z, hd, vs, rel, dd⟩ := dk_rd I.hok e
  refine kt_call_dict hd dd (by rw [← rel.length]; exact z) fun h' dd' hs => ?_
  refine h _ _ (I.hok.fresh (Nat.le_refl _)) (I.laid (a := s.heap.objs.size) (o := .dK kvs) (t' := s.toks) (fun b q hq => ?_) (Nat.le_refl _) (dk_new z (beq_eq_false_iff_ne.mpr (Ne.symm (Nat.ne_of_lt I.big))) rel dd'))
  exact (hs.2 b (Nat.ne_of_lt (Heap.lt_size hq))).trans (Heap.get?_push_of_some _ hq)
end
section
variable {X : Cx} {pins : List (Addr × Obj)} {σ : St} {H : Hp} {s : Shared} {a : Addr} {y : V} {u : Value} {A : Around} {E : Value → Shared → Prop}
end
section
variable {X : Cx}
theorem call_lenD : CallR X (.builtin "len") (fun xs H Q => ∃ a kvs, xs = [V.ref a] ∧ H a = some (.dK kvs) ∧ Q (.int kvs.length) H) := by
  intro pins s σ H xs us Q I r h
  obtain ⟨a, kvs, rfl, ha, q⟩ := h
  obtain ⟨u, rfl, ru⟩ := vals1 r
  cases ru
  exact d_len I (.inl ha) fun t s' I' => ⟨.int kvs.length, H, I', ⟨t, rfl⟩, q⟩
end
section
variable {κ : Type} [DecidableEq κ]
theorem valV_not {kvs : List (κ × V)} {k : κ} (h : valV kvs k = none) : ¬ k ∈ kvs.map (·.1) := by
  intro m
  obtain ⟨p, hp, e⟩ := List.mem_map.mp m
  have q : (kvs.any fun kv => decide (kv.1 = k)) = true := List.any_eq_true.mpr ⟨p, hp, decide_eq_true e⟩
  rw [valV_any, h] at q
  exact absurd q (by simp)
theorem valV_in {kvs : List (κ × V)} {k : κ} {v : V} (h : valV kvs k = some v) : k ∈ kvs.map (·.1) := by
  have q : (kvs.any fun kv => decide (kv.1 = k)) = true := by
    rw [valV_any, h]
    all_goals rfl
  obtain ⟨p, hp, e⟩ := List.any_eq_true.mp q
  exact List.mem_map.mpr ⟨p, hp, of_decide_eq_true e⟩
theorem nd_snoc : ∀ {l : List κ} {k : κ}, l.Nodup → ¬ k ∈ l → (l ++ [k]).Nodup
  | [], k, _, _ => by simp
  | a :: r, k, h, hk => by
    obtain ⟨h1, h2⟩ := List.nodup_cons.mp h
    show (a :: (r ++ [k])).Nodup
    refine List.nodup_cons.mpr ⟨fun m => ?_, nd_snoc h2 fun m => hk (List.mem_cons.mpr (Or.inr m))⟩
    rcases List.mem_append.mp m with q | q
    · exact h1 q
    · exact hk (List.mem_cons.mpr (Or.inl (List.mem_singleton.mp q).symm))
theorem nd_putK {kvs : List (κ × V)} {k : κ} (v : V) (hn : (kvs.map (·.1)).Nodup) (h : valV kvs k = none) : ((putK kvs k v).map (·.1)).Nodup := by
  rw [putK_new v h, List.map_append]
  exact nd_snoc hn (valV_not h)
end
end L2
set_option Elab.async false
set_option linter.all false
set_option maxRecDepth 100000
set_option maxHeartbeats 1000000
namespace My
open PySem PySem.Spec PyProof.Rows L2
theorem lookup_mem {α : Type} {β : Type} [BEq α] [LawfulBEq α] : ∀ {l : List (α × β)} {x : α} {v : β}, l.lookup x = some v → (x, v) ∈ l
  | (a, b) :: l, x, v, h => by
    rw [List.lookup_cons] at h
    cases e : x == a with
    | true => rw [e] at h; have e' := eq_of_beq e; have h' : b = v := Option.some.inj h; subst e' h'; exact List.mem_cons_self
    | false => rw [e] at h; exact List.mem_cons_of_mem _ (lookup_mem h)
theorem caps_of {X : Cx} {x : Str} {scope : Scope} {cl : List (Str × Addr)} {caps : List Nat} {cn : List Str} (h1 : closureFor scope X.env = pure cl) (h2 : scope.kind = .function) (h3 : scope.names.all (fun p => p.2 != .cell) = true)
    (h4 : scope.names.all (fun p => p.2 != .local || scope.names.lookup p.1 == some .local) = true) (h5 : scope.names.lookup x = some .local) (h6 : AllC (fun p => X.env.cells.lookup p.1 = some p.2) cl)
    (h7 : (relabel scope X.env).names.all (fun p => !(p.2 == .cell || p.2 == .free) || (cl.lookup p.1).isSome) = true) (h8 : caps.length = cn.length)
    (h9 : AllC (fun p => X.N[p.1]? = some p.2 ∧ X.env.kindOf p.2 = some .cell ∧ (relabel scope X.env).names.lookup p.2 = some .cell ∧ X.env.scope.names.lookup p.2 = some .cell ∧ ∃ c, cl.lookup p.2 = some c) (caps.zip cn)) (h10 : (x :: cn).Nodup) : Caps X x scope cl caps cn := by
  refine ⟨h1, h2, fun y hy z => ?_, fun y hy z => ?_, h5, fun y c e => AllC.mem h6 _ (lookup_mem e), fun y hy => ?_, h8, fun k y j e1 e2 => ?_, h10⟩
  · have q := List.all_eq_true.mp h3 y hy
    rw [z] at q
    cases q
  · have q := List.all_eq_true.mp h4 y hy
    rw [z] at q
    simpa using q
  · have m : ∃ k, (y, k) ∈ (relabel scope X.env).names ∧ (k = .cell ∨ k = .free) := by
      rcases hy with hy | hy
      · exact ⟨_, lookup_mem hy, .inl rfl⟩
      · exact ⟨_, lookup_mem hy, .inr rfl⟩
    obtain ⟨k, hm, hk⟩ := m
    have q := List.all_eq_true.mp h7 _ hm
    have hk' : (k == NameKind.cell || k == NameKind.free) = true := by rcases hk with rfl | rfl <;> decide
    rw [hk'] at q
    exact Option.isSome_iff_exists.mp (by simpa using q)
  · refine AllC.mem h9 (j, y) ?_
    have hz : (caps.zip cn)[k]? = some (j, y) := by rw [List.getElem?_zip_eq_some]; exact ⟨e2, e1⟩
    exact List.mem_of_getElem? hz
section
variable {X : Cx}
theorem pi_str {l : Expr} {tl : TE} {y : Str} {py : Pos} (hl : PE X l tl) : PI X (.Name y py) l (iStr tl) := by
  intro pins s σ H R I h
  refine thn (hl pins s σ H _ I h) fun u s1 ⟨v, H1, I1, r, x, ev, q⟩ => ?_
  subst ev
  obtain ⟨t, rfl⟩ := r
  have hn : H1 s1.heap.objs.size = none := I1.hok.fresh (Nat.le_refl _)
  have fp : ∀ b ∈ [s1.heap.objs.size], FpOk X pins H1 b := fun b hb => by
    have e : b = s1.heap.objs.size := by simpa using hb
    subst e
    exact I1.fpOk (Nat.le_refl _) hn
  cases ha : x.cps.all (· < 128)
  · exact wpAny_pyIter_wide ha ⟨_, [s1.heap.objs.size], fun i h => h.IsStrIter s1.heap.objs.size "str_iterator" x t i, Its x, H1, rfl, I1.kept (t' := s1.toks) (fun _ _ e => Heap.get?_push_of_some _ e),
      turn_str x t _ _ (fun A hA => Walks.strWide hA _ x t) fun A i s' Q' E' st hq => wpAny_pyIter_striter_wide st hq, ⟨_, Heap.get?_push_size _ rfl, rfl, rfl⟩, fp, q⟩
  · exact wpAny_pyIter_ascii ha ⟨_, [s1.heap.objs.size], fun i h => h.IsStrIter s1.heap.objs.size "str_ascii_iterator" x t i, Its x, H1, rfl, I1.kept (t' := s1.toks) (fun _ _ e => Heap.get?_push_of_some _ e),
      turn_str x t _ _ (fun A hA => Walks.strAscii hA _ x t) fun A i s' Q' E' st hq => wpAny_pyIter_striter_ascii st hq, ⟨_, Heap.get?_push_size _ rfl, rfl, rfl⟩, fp, q⟩
def rAll (K : PySem.W.Frag) : List V → Hp → VK → Prop := fun xs H Q => ∃ (p : Addr) (bs : List Bool), xs = [.ref p] ∧ SqL K H p (bs.map V.bl) ∧ Q (.bl (bs.all id)) H
theorem all_range (bs : List Bool) : ((List.range bs.length).all fun i => (bs[i]?).getD true) = bs.all id := by
  rw [Bool.eq_iff_iff, List.all_eq_true, List.all_eq_true]
  constructor
  · intro h b hb
    obtain ⟨i, hi, e⟩ := List.mem_iff_getElem.mp hb
    have q := h i (List.mem_range.mpr hi)
    rw [List.getElem?_eq_getElem hi, e] at q
    exact q
  · intro h i hi
    have hi' := List.mem_range.mp hi
    rw [List.getElem?_eq_getElem hi']
    exact h _ (List.getElem_mem hi')
theorem call_allB (hc : X.calm = true) : CallR X (.builtin "all") (rAll X.K) := by
  intro pins s σ H xs us Q I hv h
  obtain ⟨p, bs, rfl, hS, q⟩ := h
  obtain ⟨u, rfl, ru⟩ := hv.one
  cases ru
  obtain ⟨its, rv, pl, hz⟩ := I.list hS
  have hl := pl.isList
  have hlt : p < s.heap.objs.size := by obtain ⟨_, e, _⟩ := hl; exact Heap.lt_size e
  have hlen := rv.length
  rw [List.length_map] at hlen
  refine call_all_walk (wpAny_pyIter_list hl ?_)
  refine ⟨s.heap.objs.size, [s.heap.objs.size, p], [s.heap.objs.size], its.toArray.size, _, _, fun i => (bs[i]?).getD true, rfl, Walks.list (A := X.A.in1) (I.ok.hd hc) _ p (Nat.ne_of_lt hlt) its.toArray, ⟨⟨_, Heap.get?_push_size _ rfl, rfl, rfl⟩, hl.push _⟩, fun i v s' Q' E' hP hQ => ?_, fun h' tk hk => ?_⟩
  · have hi : its[i]? = some v := by simpa using hP
    have hb : i < bs.length := by rw [hlen]; exact (List.getElem?_eq_some_iff.mp hi).1
    have hx : (bs.map V.bl)[i]? = some (.bl bs[i]) := by rw [List.getElem?_map, List.getElem?_eq_getElem hb]; rfl
    obtain ⟨u, e, r⟩ := rv.get hx
    rw [hi] at e
    cases e
    cases r
    dsimp only at hQ
    rw [List.getElem?_eq_getElem hb] at hQ
    exact wpAny_truthy_bool hQ
  · have e : ((List.range its.toArray.size).all fun i => (bs[i]?).getD true) = bs.all id := by
      rw [List.size_toArray, ← hlen]; exact all_range bs
    rw [e]
    exact ⟨.bl _, H, I.kept (t' := tk) (fun b o eb => hk b o (fun hm => by have z := Heap.lt_size eb; rw [List.mem_singleton.mp hm] at z; exact Nat.lt_irrefl _ z) (Heap.get?_push_of_some _ eb)), rfl, q⟩
def rCatS : R2 := fun x y H Q => ∃ i j, x = .str i ∧ y = .str j ∧ i.length + j.length ≤ sizeLine ∧ Q (.str (i ++ j)) H
theorem op_catS : OpR X (binaryOp .Add) rCatS := op_add_str
def rInS : R2 := fun x y H Q => ∃ i j, x = .str i ∧ y = .str j ∧ Q (.bl (!(Builtin.Str.occurrences j i 0 j.length 1).isEmpty)) H
theorem op_inS : OpR X (compareOp .In) rInS := op_in_str
def rLenS : List V → Hp → VK → Prop := fun xs H Q => ∃ z, xs = [.str z] ∧ z.length ≤ sizeLine ∧ Q (.int z.length) H
theorem call_lenS : CallR X (.builtin "len") rLenS := call_len_str
def rSlS : V → Option Int → Option Int → Hp → VK → Prop := fun x lo hi H Q => ∃ z, x = .str z ∧ z.length ≤ sizeLine ∧ Q (.str (Txt.slice z lo hi)) H
theorem sl_str : SlR X rSlS := by
  intro pins s σ H x v vl vu lo hi sl Q I rx hs pl pu h
  obtain ⟨z, rfl, hz, q⟩ := h
  obtain ⟨t, rfl⟩ := rx
  refine ⟨"str", _, PySem.F.slot_str_getitem.lookup, typeIs_str _ _ _, ?_⟩
  have fin : ∀ t' k, EP X pins σ Q (.str (Txt.slice z lo hi) t') { s with toks := k } := fun t' k => ⟨.str (Txt.slice z lo hi), H, I.tok k, ⟨t', rfl⟩, q⟩
  have hz' := Nat.le_trans (Txt.slice_le z lo hi) hz
  obtain ⟨o, e, c, dd⟩ := hs
  cases pl with
  | none =>
    cases pu with
    | none => exact wpAny_getItem_str_slice (l := none) (u := none) (st := none) ⟨o, e, c, dd⟩ rfl (post_val_or_str ⟨hz', fin⟩)
    | int j uj => exact wpAny_getItem_str_slice (l := none) (u := some (j, uj)) (st := none) ⟨o, e, c, dd⟩ rfl (post_val_or_str ⟨hz', fin⟩)
  | int i ui =>
    cases pu with
    | none => exact wpAny_getItem_str_slice (l := some (i, ui)) (u := none) (st := none) ⟨o, e, c, dd⟩ rfl (post_val_or_str ⟨hz', fin⟩)
    | int j uj => exact wpAny_getItem_str_slice (l := some (i, ui)) (u := some (j, uj)) (st := none) ⟨o, e, c, dd⟩ rfl (post_val_or_str ⟨hz', fin⟩)
end
section
variable {K : PySem.W.Frag} {H : Hp} {Q : VK} {σ : L2.St}
theorem r_slS {z : Str} {lo hi : Option Int} (hn : z.length ≤ sizeLine) (h : Q (.str (Txt.slice z lo hi)) H) : rSlS (.str z) lo hi H Q := ⟨z, rfl, hn, h⟩
theorem r_sl {r : V → Option Int → Option Int → Hp → VK → Prop} {te : TE} {tl th : TO} (h : te σ H fun x H1 => tl σ H1 fun l H2 => th σ H2 fun u H3 => r x l u H3 Q) : tSl r te tl th σ H Q := h
theorem r_noPart {Q : Option Int → Hp → Prop} (h : Q none H) : tNoPart σ H Q := h
theorem r_part {te : TE} {Q : Option Int → Hp → Prop} (h : te σ H fun x H1 => ∃ i, x = .int i ∧ Q (some i) H1) : tPart te σ H Q := h
theorem r_exi {i : Int} {Q : Int → Prop} (h : Q i) : ∃ j, V.int i = .int j ∧ Q j := ⟨i, rfl, h⟩
theorem r_chain {r r' : R2} {ta tb tc : TE} (h : ta σ H fun x H1 => tb σ H1 fun y H2 => r x y H2 fun z H3 => ∃ k, z = .bl k ∧ (if k = true then tc σ H3 fun w' H4 => r' y w' H4 Q else Q (.bl false) H3)) : tChain r r' ta tb tc σ H Q := h
theorem r_all {p : Addr} {bs : List Bool} (hS : SqL K H p (bs.map V.bl)) (h : Q (.bl (bs.all id)) H) : rAll K [.ref p] H Q := ⟨p, bs, rfl, hS, h⟩
theorem r_catS {i j : Str} (hn : i.length + j.length ≤ sizeLine) (h : Q (.str (i ++ j)) H) : rCatS (.str i) (.str j) H Q := ⟨i, j, rfl, rfl, hn, h⟩
theorem r_inS {i j : Str} (h : Q (.bl (!(Builtin.Str.occurrences j i 0 j.length 1).isEmpty)) H) : rInS (.str i) (.str j) H Q := ⟨i, j, rfl, rfl, h⟩
theorem r_lenS {z : Str} (hn : z.length ≤ sizeLine) (h : Q (.int z.length) H) : rLenS [.str z] H Q := ⟨z, rfl, hn, h⟩
theorem r_ixS {z : Str} {i : Int} {c : Nat} (hn : z.length ≤ sizeLine) (e : atI z.cps.toList i = some c) (h : Q (.str ⟨#[c]⟩) H) : rIxS (.str z) (.int i) H Q := ⟨z, i, c, rfl, rfl, hn, e, h⟩
theorem r_iS {tl : TE} {R : It → Hp → Prop} (h : tl σ H fun v H1 => rItS v H1 R) : iStr tl σ H R := h
theorem r_itS {x : Str} {R : It → Hp → Prop} (h : R (Its x) H) : rItS (.str x) H R := ⟨x, rfl, h⟩
theorem r_comp {wi : TI} {caps : List Nat} {tt : CT TT} {te : CT TE} (h : wi σ H fun J H1 => ∀ (C : Addr) (s : Shared) (H0 : Hp) (fp : List Addr) (acc : Addr), H1 acc = none → COMP J caps (tt C s H0 fp) (te C s H0 fp) acc σ (upd H1 acc (.lst [])) Q) : tComp wi caps tt te σ H Q := h
theorem r_true {Q : Bool → Hp → Prop} (h : Q true H) : tTrue σ H Q := h
theorem r_app {acc : Addr} {N : Hp → Prop} {y : V} {ys : List V} (ha : H acc = some (.lst ys)) (hz : ys.length < sizeLine) (h : N (upd H acc (.lst (ys ++ [y])))) : rApp acc N y H := ⟨ys, ha, hz, h⟩
theorem c_by {J : It} {caps : List Nat} {tt : TT} {te : TE} {acc : Addr} (n : Nat) (Pv : Nat → Hp → Prop) (h0 : Pv 0 H) (hgo : ∀ i H, i < n → Pv i H → J.go i H) (hst : ∀ H, Pv n H → J.stop n H)
    (hs : ∀ i H v H', i < n → Pv i H → J.yld i H v H' → tt (some v :: capsOf caps σ) H' fun b H2 => if b = true then te (some v :: capsOf caps σ) H2 fun y H3 => rApp acc (Pv (i + 1)) y H3 else Pv (i + 1) H2)
    (hd : ∀ H, Pv n H → Q (.ref acc) H) : COMP J caps tt te acc σ H Q := by
  refine ⟨fun i m H => m = n - i ∧ i ≤ n ∧ Pv i H, ⟨n, rfl, Nat.zero_le _, h0⟩, ?_⟩
  rintro i m H ⟨rfl, hi, p⟩
  by_cases hlt : i < n
  · exact .inr ⟨hgo i H hlt p, Pv (i + 1), fun H' p' => ⟨n - (i + 1), by omega, rfl, hlt, p'⟩, fun v H' y => hs i H v H' hlt p y⟩
  · have e : i = n := by omega
    subst e
    exact .inl ⟨hst H p, hd H p⟩
end
end My
set_option Elab.async false
set_option linter.all false
set_option maxRecDepth 100000
set_option maxHeartbeats 1000000
namespace My
open PySem PySem.Spec PyProof.Rows L2
section
variable {X : Cx}
def rRep : R2 := fun x y H Q => ∃ z n, x = .str z ∧ y = .int n ∧ 0 ≤ n ∧ n ≤ 1 ∧ Q (.str (if n < 1 then Str.empty else z)) H
def rIntB : List V → Hp → VK → Prop := fun xs H Q => ∃ b : Bool, xs = [.bl b] ∧ Q (.int (if b then 1 else 0)) H
theorem call_intB : CallR X (.type "int") rIntB := by
  intro pins s σ H xs us Q I r h
  obtain ⟨b, rfl, q⟩ := h
  cases r with
  | cons r1 r2 =>
    cases r2
    cases r1
    exact call_int_bool ⟨.int _, H, I.tok _, ⟨_, rfl⟩, q⟩
end
section
variable {H : Hp} {Q : VK}
theorem r_intB {b : Bool} (h : Q (.int (if b then 1 else 0)) H) : rIntB [.bl b] H Q := ⟨b, rfl, h⟩
end
end My
set_option Elab.async false
set_option linter.all false
set_option maxRecDepth 100000
set_option maxHeartbeats 1000000
namespace My
open PySem PySem.Spec PyProof.Rows L2
section
variable {prog : Program} {w : World} {A : Around} {E : Value → Shared → Prop} {h : Heap} {g : Array GenState} {d : Drawn} {t : Nat} {os : OsState}
variable {nm q : Str} {C N fI : Addr} {bs bm bmB : List Value} {hdct : Bool} {sn : List Str} {sub : List Value} {ab : Bool} {col : Option Bool} {dd : Option Addr} {k0 k1 k2 k3 k5 : Option Value} {B Bn newId nid initId inN : String} {bmN : List Value}
def excHeap (h : Heap) (C : Addr) (rest : List Value) : Heap := (h.push { cls := .type "tuple", data := .seq rest.toArray }).push { cls := .ref C, data := .fields #[.ref h.objs.size, .none, .none, .none, .bool false, .none] }
theorem type_call_init (Fn : ExcBaseFacts Bn newId inN bmN) (hBn : bmB.contains (.type Bn) = true) (F : ExcBaseFacts B nid initId bmB) (T : OwnTail h bmB bm) {mN : Str → Option Value} {rest : List Value} {Q : Fin → Shared → Prop}
    (hC : h.get? C = some (excClassObj nm q C N bs bm hdct sn sub ab col dd k0 k1 k2 k3 k5 newId)) (hn : h.Ns N mN) (hni : mN "__init__" = some (.ref fI))
    (hb : PySem.W.Looks (model prog w) (excHeap h C rest) (bindSpecial (.ref fI) (.ref (h.objs.size + 1))) (.ref fI, [.ref (h.objs.size + 1)]))
    (hq : wpAny (model prog w) A (call (.ref fI) (.ref (h.objs.size + 1) :: rest)) (fun v s' => v = .none ∧ Q (.done (.ret (.ref (h.objs.size + 1)))) s') E ⟨excHeap h C rest, g, d, t, os⟩) (hrest : rest.length ≤ sizeLine := by size_fits) :
    wpAny (model prog w) A (Builtin.«type.__call__» ⟨.ref C :: rest, []⟩) Q E ⟨h, g, d, t, os⟩ := by
  repeat (first | with_reducible refine wpAny_loadPart_at hC ?_ | with_reducible refine wpAny_madeBy_exc hC ?_ | wp_step)
  refine codeAny_call_builtin_code (Code.quiet_builtin _ Fn.quiet) (wpAny_check_new_subU Fn hBn T hC ?_)
  refine codeAny_exc_new_subU Fn hBn F T hC ?_ hrest
  show wpAny _ _ _ _ _ _
  have hC₁ := Heap.get?_push_of_some { cls := .ref C, data := .fields #[.ref h.objs.size, .none, .none, .none, .bool false, .none] }
    (Heap.get?_push_of_some { cls := .type "tuple", data := .seq rest.toArray } hC)
  have hn₁ : ((h.push { cls := .type "tuple", data := .seq rest.toArray }).push { cls := .ref C, data := .fields #[.ref h.objs.size, .none, .none, .none, .bool false, .none] }).Ns N mN :=
    let ⟨o, es, ep, e, r⟩ := hn; ⟨o, es, ep, Heap.get?_push_of_some _ (Heap.get?_push_of_some _ e), r⟩
  have hget : ((h.push { cls := .type "tuple", data := .seq rest.toArray }).push
      { cls := .ref C, data := .fields #[.ref h.objs.size, .none, .none, .none, .bool false, .none] }).get? (h.objs.size + 1) = some
      { cls := .ref C, data := .fields #[.ref h.objs.size, .none, .none, .none, .bool false, .none] } := by heap_get
  have hcC : (Value.ref C :: bm).contains (.ref C) = true := by simp
  have T₁ := T.keeps (h' := (h.push { cls := .type "tuple", data := .seq rest.toArray }).push { cls := .ref C, data := .fields #[.ref h.objs.size, .none, .none, .none, .bool false, .none] })
    fun b o e => Heap.get?_push_of_some _ (Heap.get?_push_of_some _ e)
  unfold isInstance
  repeat (first | with_reducible refine wpAny_loadPart_at hget ?_ | (with_reducible refine wpAny_isSubtype_exc hC₁ ?_; rw [hcC]) | wp_step)
  show wpAny _ _ (typeLookup (.ref C) _) _ _ _
  refine wpAny_typeLookup_tail hC₁ hn₁ T₁ F.mroIs F.init.lookup ?_
  rw [hni]
  refine wpAny_holding (wpAny_bind (hb.at ?_))
  refine wpAny_bind (wpAny_mono hq (fun v s' ⟨ev, q⟩ => ?_) fun _ _ x => x)
  subst ev
  wp_walk
  exact q
theorem call_exc_init (Fn : ExcBaseFacts Bn newId inN bmN) (hBn : bmB.contains (.type Bn) = true) (F : ExcBaseFacts B nid initId bmB) (T : OwnTail h bmB bm) {mN : Str → Option Value} {rest : List Value} {Q : Value → Shared → Prop}
    (hC : h.get? C = some (excClassObj nm q C N bs bm hdct sn sub ab col dd k0 k1 k2 k3 k5 newId)) (hn : h.Ns N mN) (hni : mN "__init__" = some (.ref fI))
    (hb : PySem.W.Looks (model prog w) (excHeap h C rest) (bindSpecial (.ref fI) (.ref (h.objs.size + 1))) (.ref fI, [.ref (h.objs.size + 1)]))
    (hq : wpAny (model prog w) (A.under (.builtin "type.__call__" ⟨.ref C :: rest, []⟩)) (call (.ref fI) (.ref (h.objs.size + 1) :: rest)) (fun v s' => v = .none ∧ Q (.ref (h.objs.size + 1)) s') E ⟨excHeap h C rest, g, d, t, os⟩) (hrest : rest.length ≤ sizeLine := by size_fits) :
    wpAny (model prog w) A (call (.ref C) rest) Q E ⟨h, g, d, t, os⟩ := by
  have f1 := tc_lookup
  have f2 := tc_bind (.ref C)
  have hT : (⟨h, g, d, t, os⟩ : Shared).TypeIs (.ref C) "type" := ⟨_, hC, rfl⟩
  refine wpAny_call (codeAny_of_tree ?_)
  show wpAny _ _ (callAny (.ref C) _) _ _ _
  repeat (any_goals (first | assumption | with_reducible refine wpAny_loadPart_at hC ?_ | wp_step))
  refine ⟨rfl, ?_⟩
  refine codeAny_call_builtin_at (Code.quiet_builtin _ (by decide +kernel)) entry_typeCall (wpAny_check_type_call_sub hC (type_call_init (hrest := hrest) Fn hBn F T hC hn hni hb ?_))
  exact hq
theorem raise_made {env : Env} {M : Model} {s : Shared} {x : Sem Value} {Q : Flow → Shared → Prop} (hbase : bm.contains (.type "BaseException") = true) (hh : A.handled = none)
    (h : wpAny M A x (fun v s₁ => ∃ e oe, v = .ref e ∧ s₁.heap.get? C = some (excClassObj nm q C N bs bm hdct sn sub ab col dd k0 k1 k2 k3 k5 newId) ∧
      s₁.heap.get? e = some oe ∧ oe.cls = .ref C ∧ (∃ vs, oe.data = .fields vs ∧ vs[1]? = some .none) ∧ E (.ref e) s₁) E s) :
    wpAny M A (raiseStmt env (some x) none) Q E s := by
  have hcB : (Value.ref C :: bm).contains (.type "BaseException") = true := by rw [List.contains_cons, hbase, Bool.or_true]
  unfold raiseStmt
  refine wpAny_bind (wpAny_mono h (fun v s₁ h₁ => ?_) fun _ _ x => x)
  obtain ⟨e, oe, rfl, hC, he, hcls, ⟨vs, hd, h1⟩, hE⟩ := h₁
  obtain ⟨hp, g, d, tk, os⟩ := s₁
  obtain ⟨oc, odd, oda, osl⟩ := oe
  obtain rfl : oc = .ref C := hcls
  obtain rfl : oda = .fields vs := hd
  repeat (first | with_reducible refine wpAny_loadPart_at he ?_ | with_reducible refine wpAny_loadPart_at hC ?_ | (with_reducible refine wpAny_isSubtype_exc hC ?_; rw [hcB]) | wp_step)
  rw [h1]
  refine wpAny_pure ?_
  rw [if_neg (by decide)]
  exact wpAny_pure (wpAny_raiseNew_none hh hE)
theorem Raise_call_init {env : Env} {s : Shared} (Fn : ExcBaseFacts Bn newId inN bmN) (hBn : bmB.contains (.type Bn) = true) (F : ExcBaseFacts B nid initId bmB) {mN : Str → Option Value} {x : Str} {np cpos pos : Pos} {args : List Expr} {Q : Flow → Shared → Prop}
    (hbase : bm.contains (.type "BaseException") = true) (hh : A.handled = none) (hplain : (backTo cpos (starEach args env)).any (·.1) = false) (hni : mN "__init__" = some (.ref fI))
    (h : wpAny (model prog w) A (eval (.Name x np) env) (fun f s₁ => f = .ref C ∧ wpAny (model prog w) A (evalArgs (.ref C) true (backTo cpos (starEach args env)) [])
      (fun a s₂ => a.kw = [] ∧ a.pos.length ≤ sizeLine ∧ s₂.heap.get? C = some (excClassObj nm q C N bs bm hdct sn sub ab col dd k0 k1 k2 k3 k5 newId) ∧ s₂.heap.Ns N mN ∧ OwnTail s₂.heap bmB bm ∧
        PySem.W.Looks (model prog w) (excHeap s₂.heap C a.pos) (bindSpecial (.ref fI) (.ref (s₂.heap.objs.size + 1))) (.ref fI, [.ref (s₂.heap.objs.size + 1)]) ∧
        wpAny (model prog w) (A.under (.builtin "type.__call__" ⟨.ref C :: a.pos, []⟩)) (call (.ref fI) (.ref (s₂.heap.objs.size + 1) :: a.pos))
          (fun v s' => v = .none ∧ s'.heap.get? C = some (excClassObj nm q C N bs bm hdct sn sub ab col dd k0 k1 k2 k3 k5 newId) ∧ (∃ oe, s'.heap.get? (s₂.heap.objs.size + 1) = some oe ∧ oe.cls = .ref C ∧ ∃ vs, oe.data = .fields vs ∧ vs[1]? = some .none) ∧ E (.ref (s₂.heap.objs.size + 1)) s') E { s₂ with heap := excHeap s₂.heap C a.pos }) E s₁) E s) :
    wpAny (model prog w) A (exec (.Raise (some (.Call (.Name x np) args [] cpos)) none pos) env) Q E s := by
  rw [arm_exec_Raise]
  first
    | refine wpAny_bind (wpAny_standAt (raise_made (C := C) (nm := nm) (q := q) (N := N) (bs := bs) (bm := bm) (hdct := hdct) (sn := sn) (sub := sub) (ab := ab) (col := col) (dd := dd) (k0 := k0) (k1 := k1) (k2 := k2) (k3 := k3) (k5 := k5) (newId := newId) hbase hh (wpAny_bind (wpAny_mono (wpAny_Call_ofName (wpAny_mono h (fun f s₁ h₁ => ?_) fun _ _ x => x)) (fun v s₃ h₃ => wpAny_bind (wpAny_standAt (wpAny_pure h₃))) fun _ _ x => x))))
    | (simp only [evalOpt, Option.map]; refine wpAny_bind (wpAny_standAt (raise_made (C := C) (nm := nm) (q := q) (N := N) (bs := bs) (bm := bm) (hdct := hdct) (sn := sn) (sub := sub) (ab := ab) (col := col) (dd := dd) (k0 := k0) (k1 := k1) (k2 := k2) (k3 := k3) (k5 := k5) (newId := newId) hbase hh (wpAny_bind (wpAny_mono (wpAny_Call_ofName (wpAny_mono h (fun f s₁ h₁ => ?_) fun _ _ x => x)) (fun v s₃ h₃ => wpAny_bind (wpAny_standAt (wpAny_pure h₃))) fun _ _ x => x)))))
  obtain ⟨rfl, h₁⟩ := h₁
  unfold callWith
  refine wpAny_bind (wpAny_holding (wpAny_mono h₁ (fun a s₂ h₂ => wpAny_bind (wpAny_standAt ?_)) fun _ _ x => x))
  obtain ⟨apos, akw⟩ := a
  obtain ⟨hkw, hlen, hC, hn, T, hb, h₂⟩ := h₂
  obtain rfl : akw = [] := hkw
  obtain ⟨hp, g, d, tk, os⟩ := s₂
  simp only [hplain]
  refine wpAny_bind (wpAny_keeperOf_exc hC ?_)
  refine wpAny_bind (call_exc_init (hrest := hlen) Fn hBn F T hC hn hni hb (wpAny_mono h₂ (fun v s' ⟨e1, e2, ⟨oe, e3, e4, e6⟩, e5⟩ => ⟨e1, wpAny_bind (wpAny_holding (wpAny_point (wpAny_pure ?_)))⟩) fun _ _ x => x))
  exact ⟨_, oe, rfl, e2, e3, e4, e6, e5⟩
end
end My
set_option Elab.async false
set_option linter.all false
set_option maxRecDepth 100000
set_option maxHeartbeats 1000000
namespace My
open PySem PySem.Spec PyProof.Rows L2
def onlyVE : List Value → Bool
  | .ref _ :: r => onlyVE r
  | [.type a, .type b, .type c, .type e] => a == "ValueError" && b == "Exception" && c == "BaseException" && e == "object"
  | _ => false
def overVE (K : PySem.W.Frag) (C : Addr) : Bool := (PySem.W.clsIn K C).any fun cd => onlyVE cd.mro
section
variable {prog : Program} {w : World} {A : Around} {E : Value → Shared → Prop} {s : Shared} {K : PySem.W.Frag} {x C : Addr} {o : Obj} {name : Str} {v : Value} {R : Result → Shared → Prop}
open PySem.W in
end
end My
set_option Elab.async false
set_option linter.all false
set_option maxRecDepth 100000
set_option maxHeartbeats 1000000
namespace My
open PySem PySem.Spec PyProof.Rows L2
section
variable {prog : Program} {w : World} {A : Around} {E : Value → Shared → Prop} {s : Shared} {K : PySem.W.Frag} {x C : Addr} {ox : Obj} {od : Option Obj} {name : Str} {v : Value} {R : Result → Shared → Prop}
open PySem.W in
theorem x_ga {tk : Tok} (X : K.In s.heap) (I : InstAt s.heap x ox C od) (hm : mroIn K C (.type "BaseException") = some true) (hf : findObj K C od name = some (.value v)) (h : R (.ok (.ret v)) s) :
    codeAny (model prog w) A (.call (.builtin "BaseException.__getattribute__") ⟨[.ref x, .str name tk], []⟩) R s := by
  have L0 := I.type (M := model prog w)
  have sub : Looks (model prog w) s.heap (isInstance (.ref x) (.type "BaseException")) true := L0.andThen (looks_mroIn X hm)
  have hk : builtinKind "BaseException.__getattribute__" = some .slot := by decide +kernel
  have hsplit : splitId "BaseException.__getattribute__" = some ("BaseException", "__getattribute__") := by decide +kernel
  refine codeAny_call_builtin PySem.F.attr_ValueError.ga.plain PySem.F.entry_bexc_ga (@check_slot (model prog w) _ _ s "BaseException.__getattribute__" "BaseException" "__getattribute__" (.ref x) [.str name tk] [] _ hk hsplit sub (PySem.F.args_bexc_ga (.ref x) (.str name tk)) ?_)
  obtain ⟨hh', g, d, t, os⟩ := s
  have L1 := looks_find (M := model prog w) X I hf
  unfold Builtin.«object.__getattribute__»
  refine wpAny_bind (wpAny_pure (wpAny_bind (wpAny_pure (wpAny_bind (L0.at (wpAny_bind (L1.at ?_)))))))
  exact wpAny_pure h
open PySem.W in
theorem x_get {expr : Bool} {Q : Value → Shared → Prop} (X : K.In s.heap) (I : InstAt s.heap x ox C od) (hga : findIn K (.ref C) "__getattribute__" = some (some (.builtin "BaseException.__getattribute__"))) (hgn : findIn K (.ref C) "__getattr__" = some none)
    (hm : mroIn K C (.type "BaseException") = some true)
    (hf : findObj K C od name = some (.value v)) (hh : handedIn v = true) (h : Q v { s with toks := s.toks + 1 }) : wpAny (model prog w) A (getAttr (.ref x) name expr) Q E s := by
  obtain ⟨hh', g, d, t, os⟩ := s
  have L0 := I.type (M := model prog w)
  have L1 := looks_findIn (M := model prog w) X hga
  have L2 := looks_findIn (M := model prog w) X hgn
  unfold getAttr getAttrBy
  refine wpAny_bind (wpAny_mkText (wpAny_holding (wpAny_bind (L0.at (wpAny_bind (L1.at ?_))))))
  have hx2 : (Value.builtin "BaseException.__getattribute__" == Value.builtin "object.__getattribute__") = false := by decide +kernel
  dsimp only
  rw [hx2, Bool.and_false, if_neg Bool.false_ne_true]
  unfold getAttrByItsOwn
  refine wpAny_bind ?_
  show wpAny _ _ (typeLookup (.ref C) "__getattr__") _ _ _
  refine L2.at ?_
  have hx0 : (expr && onTheHeap (Value.builtin "BaseException.__getattribute__")) = false := by cases expr <;> rfl
  unfold callGetattribute
  rw [hx0, if_neg Bool.false_ne_true]
  unfold boundAndCalled
  rw [PySem.F.attr_ValueError.ga.bind]
  refine wpAny_bind (wpAny_attempt (wpAny_holding (wpAny_bind (wpAny_pure (wpAny_call (x_ga (s := ⟨hh', g, d, t + 1, os⟩) X I hm hf ?_))))))
  show wpAny _ _ (handedOut v) _ _ _
  rw [handedOut_of hh]; exact wpAny_pure h
open PySem.W in
theorem fo_data {a g : Value} (hc : (clsIn K C).isSome = true) (ha : findIn K (.ref C) name = some (some a)) (hg : specialIn K a "__get__" = some (some g)) (ht : takesIn K a = some true) : findObj K C od name = some (.bind g a) := by
  obtain ⟨cd, hc⟩ := Option.isSome_iff_exists.mp hc
  unfold findObj
  rw [hc, Option.bind_some, ha, Option.bind_some]
  simp [hg, ht]
open PySem.W in
theorem x_gaB {tk : Tok} {a f : Value} (X : K.In s.heap) (I : InstAt s.heap x ox C od) (hm : mroIn K C (.type "BaseException") = some true) (hf : findObj K C od name = some (.bind f a))
    (h : wpAny (model prog w) A.in1 (call f [a, .ref x, .ref C]) (fun v s' => R (.ok (.ret v)) s') (fun e s' => R (.error e) s') s) :
    codeAny (model prog w) A (.call (.builtin "BaseException.__getattribute__") ⟨[.ref x, .str name tk], []⟩) R s := by
  have L0 := I.type (M := model prog w)
  have sub : Looks (model prog w) s.heap (isInstance (.ref x) (.type "BaseException")) true := L0.andThen (looks_mroIn X hm)
  have hk : builtinKind "BaseException.__getattribute__" = some .slot := by decide +kernel
  have hsplit : splitId "BaseException.__getattribute__" = some ("BaseException", "__getattribute__") := by decide +kernel
  refine codeAny_call_builtin PySem.F.attr_ValueError.ga.plain PySem.F.entry_bexc_ga (@check_slot (model prog w) _ _ s "BaseException.__getattribute__" "BaseException" "__getattribute__" (.ref x) [.str name tk] [] _ hk hsplit sub (PySem.F.args_bexc_ga (.ref x) (.str name tk)) ?_)
  obtain ⟨hh', g, d, t, os⟩ := s
  have L1 := looks_find (M := model prog w) X I hf
  unfold Builtin.«object.__getattribute__»
  refine wpAny_bind (wpAny_pure (wpAny_bind (wpAny_pure (wpAny_bind (L0.at (wpAny_bind (L1.at ?_)))))))
  show wpAny _ _ (holding [a] (call f [a, .ref x, .ref C]) >>= ret) _ _ _
  exact wpAny_bind (wpAny_holding (wpAny_mono h (fun v s' z => wpAny_pure z) fun _ _ z => z))
structure XAt (K : PySem.W.Frag) (C : Addr) : Prop where
  ga : PySem.W.findIn K (.ref C) "__getattribute__" = some (some (.builtin "BaseException.__getattribute__"))
  gn : PySem.W.findIn K (.ref C) "__getattr__" = some none
  mb : PySem.W.mroIn K C (.type "BaseException") = some true
  mo : PySem.W.mroIn K C (.type "object") = some true
  hd : PySem.W.hasDictIn K C = true
  cl : PySem.W.findIn K (.ref C) "__class__" = some (some (.builtin "object.__class__"))
  sp : PySem.W.specialIn K (.builtin "object.__class__") "__get__" = some (some (.builtin "getset_descriptor.__get__"))
  tk : PySem.W.takesIn K (.builtin "object.__class__") = some true
  sa : PySem.W.findIn K (.ref C) "__setattr__" = some (some (.builtin "object.__setattr__"))
  po : overVE K C = true
open PySem.W in
theorem x_cls {Q : Option Value → Shared → Prop} (c : XAt K C) (X : K.In s.heap) (I : InstAt s.heap x ox C od) (h : Q (some (.ref C)) { s with toks := s.toks + 1 }) : wpAny (model prog w) A (getAttr? (.ref x) "__class__") Q E s := by
  have hf : findObj K C od "__class__" = some (.bind (.builtin "getset_descriptor.__get__") (.builtin "object.__class__")) := fo_data (by obtain ⟨cd, hc, _⟩ := any_some c.hd; rw [hc]; rfl) c.cl c.sp c.tk
  obtain ⟨hh', g, d, t, os⟩ := s
  have L0 := I.type (M := model prog w)
  have L1 := looks_findIn (M := model prog w) X c.ga
  have L2 := looks_findIn (M := model prog w) X c.gn
  unfold getAttr? getAttrBy? getAttrBy
  refine wpAny_bind (wpAny_mkText (wpAny_bind (wpAny_attempt (wpAny_holding (wpAny_bind (L0.at (wpAny_bind (L1.at ?_))))))))
  have hx2 : (Value.builtin "BaseException.__getattribute__" == Value.builtin "object.__getattribute__") = false := by decide +kernel
  dsimp only
  rw [hx2, Bool.and_false, if_neg Bool.false_ne_true]
  unfold getAttrByItsOwn
  refine wpAny_bind ?_
  show wpAny _ _ (typeLookup (.ref C) "__getattr__") _ _ _
  refine L2.at ?_
  have hx0 : (false && onTheHeap (Value.builtin "BaseException.__getattribute__")) = false := rfl
  unfold callGetattribute
  rw [hx0, if_neg Bool.false_ne_true]
  unfold boundAndCalled
  rw [PySem.F.attr_ValueError.ga.bind]
  refine wpAny_bind (wpAny_attempt (wpAny_holding (wpAny_bind (wpAny_pure (wpAny_call (x_gaB (s := ⟨hh', g, d, t + 1, os⟩) X I c.mb hf ?_))))))
  refine wpAny_call (class_get (s := ⟨hh', g, d, t + 1, os⟩) (ox := ox) (od := od) X I c.mo ?_)
  show wpAny _ _ (handedOut (.ref C)) _ _ _
  exact wpAny_pure (wpAny_pure h)
open PySem.W in
theorem kitx_exc (c : XAt K C) : KitX K (.ref x) (.ref C) (fun h => ∃ ox od, InstAt h x ox C od) where
  ty := fun _ _ _ ⟨_, _, I⟩ => I.type
  it := fun _ _ X _ => by
    obtain ⟨cdD, hcD, _⟩ := any_some c.hd
    unfold clsIn at hcD
    split at hcD
    · rename_i c' d' cd' sl' ho
      intro A' Q' E' s' k q
      unfold isType loadHead
      exact wpAny_bind (wpAny_loadPart (k _ _ (X _ _ ho)) (wpAny_pure q))
    · cases hcD
  ne := fun h tp dd its n sl X htp => by
    obtain ⟨cdD, hcD, _⟩ := any_some c.hd
    refine Bool.eq_false_iff.mpr fun q => ?_
    have e : C = tp := Value.ref.inj (beq_iff_eq.mp q)
    subst e
    unfold clsIn at hcD
    split at hcD
    · rename_i c' d' cd' sl' ho
      have z := (X _ _ ho).symm.trans htp
      cases z
    · cases hcD
  ca := fun X ⟨_, _, I⟩ k => x_cls c X I k
end
end My
set_option Elab.async false
set_option linter.all false
set_option maxRecDepth 100000
set_option maxHeartbeats 1000000
namespace My
open PySem PySem.Spec PyProof.Rows L2
def XS (a C : Addr) (d : Option Addr) : HO := .ext fun h => ∃ (oe : Obj) (vs : Array Value), h.get? a = some oe ∧ oe.cls = .ref C ∧ oe.dict = d ∧ oe.data = .fields vs ∧ vs[1]? = some .none ∧ (∃ t0 : Addr, vs[0]? = some (.ref t0)) ∧ ∀ dx, d = some dx → dx ≠ a
section
variable {X : Cx} {pins : List (Addr × Obj)} {σ : L2.St} {H : Hp} {s : Shared} {a C dx : Addr} {fs : List (Str × V)} {f : Str} {v y : V} {u : Value} {A : Around} {E : Value → Shared → Prop}
theorem xs_ok {P : Program} {w : World} {H : Hp} {h : Heap} {d : Option Addr} (x : ∃ (oe : Obj) (vs : Array Value), h.get? a = some oe ∧ oe.cls = .ref C ∧ oe.dict = d ∧ oe.data = .fields vs ∧ vs[1]? = some .none ∧ (∃ t0 : Addr, vs[0]? = some (.ref t0)) ∧ ∀ dx, d = some dx → dx ≠ a) : ObjOk P w H h a (XS a C d) := by
  obtain ⟨oe, vs, h1, h2⟩ := id x
  exact ⟨x, ⟨oe, h1⟩, fun h1 h2 ⟨oe, vs, z, zz⟩ k => ⟨oe, vs, k _ z, zz⟩⟩
theorem xs_get {P : Program} {w : World} {h : Heap} {d : Option Addr} (x : HOk P w H h) (e : H a = some (XS a C d)) : ∃ (oe : Obj) (vs : Array Value), h.get? a = some oe ∧ oe.cls = .ref C ∧ oe.dict = d ∧ oe.data = .fields vs ∧ vs[1]? = some .none ∧ (∃ t0 : Addr, vs[0]? = some (.ref t0)) ∧ ∀ dx, d = some dx → dx ≠ a :=
  (show ObjOk P w H h a (XS a C d) from x a _ e).1
theorem x_isi {d : Option Addr} {t : Value} {b : Bool} {Q : Value → Shared → Prop} (I : Inv X pins σ H s) (e : H a = some (XO a (.ref C) d)) (ed : ∀ dx, d = some dx → ∃ o, H dx = some o) (c : XAt X.K C) (k : PySem.W.kitOne X.K (.ref C) t = some b)
    (h : ∀ s', Inv X pins σ H s' → Q (.bool b) s') : wpAny (model X.prog X.w) A (call (.builtin "isinstance") [.ref a, t]) Q E s := by
  obtain ⟨⟨oe, vs, h1, h2, h3, h4⟩, _⟩ := (show ObjOk X.prog X.w H s.heap a (XO a (.ref C) d) from I.hok a _ e)
  have J : ∃ ox od, PySem.W.InstAt s.heap a ox C od := by
    cases d with
    | none => exact ⟨oe, none, h1, h2, by unfold PySem.W.notCls; rw [h4], by rw [h3]; exact True.intro⟩
    | some dx =>
      obtain ⟨o, q⟩ := ed dx rfl
      obtain ⟨ob, z⟩ := obj_there (I.hok dx o q)
      exact ⟨oe, some ob, h1, h2, by unfold PySem.W.notCls; rw [h4], by rw [h3]; exact z⟩
  exact PySem.W.kia_one (kitx_exc c) I.kIn J k (fun z => nomatch z) fun tk => h _ (I.tok tk)
end
end My
set_option Elab.async false
set_option linter.all false
set_option maxRecDepth 100000
set_option maxHeartbeats 1000000
namespace My
open PySem PySem.Spec PyProof.Rows L2
def del (H : Hp) (a : Addr) : Hp := fun b => if b = a then none else H b
theorem del_same {H : Hp} {a : Addr} : del H a a = none := by unfold del; rw [if_pos rfl]
theorem del_ne {H : Hp} {a b : Addr} (h : b ≠ a) : del H a b = H b := by unfold del; rw [if_neg h]
section
variable {X : Cx} {pins : List (Addr × Obj)} {σ : L2.St} {H : Hp} {s : Shared} {a : Addr} {φ : Heap → Prop}
theorem Inv.del (I : Inv X pins σ H s) (e : H a = some (.ext φ)) : Inv X pins σ (My.del H a) s := by
  have ne : ∀ b o, H b = some o → (∀ φ, o ≠ .ext φ) → b ≠ a := fun b o q d z => by rw [z, e] at q; cases q; exact d _ rfl
  refine ⟨I.ok, I.os, I.bare, ⟨I.base.keep, I.base.slot, fun b o q n hx => ?_, I.base.there, fun b xs q => ?_, fun b o u q => ?_, fun b ps q => ?_⟩, I.loc, I.cell, ?_, fun x c q => ?_, fun p hp => ?_, fun b o q => ?_, I.len⟩
  · have z := I.base.free b o q n hx
    by_cases hb : b = a
    · rw [hb]; exact del_same
    · rw [del_ne hb]; exact z
  · have z := I.base.tups b xs q
    rw [del_ne (ne _ _ z (by intro φ y; cases y))]; exact z
  · have z := I.base.frzs b o u q
    rw [del_ne (ne _ _ z (by intro φ y; cases y))]; exact z
  · obtain ⟨more, z⟩ := I.base.tbls b ps q
    exact ⟨more, by rw [del_ne (ne _ _ z (by intro φ y; cases y))]; exact z⟩
  · by_cases hb : X.env.locals = a
    · rw [hb]; exact del_same
    · rw [del_ne hb]; exact I.free
  · by_cases hb : c = a
    · rw [hb]; exact del_same
    · rw [del_ne hb]; exact I.freeC x c q
  · obtain ⟨z, n, l⟩ := I.pin p hp
    refine ⟨z, ?_, l⟩
    by_cases hb : p.1 = a
    · rw [hb]; exact del_same
    · rw [del_ne hb]; exact n
  · have hb : b ≠ a := fun z => by rw [z, del_same] at q; cases q
    rw [del_ne hb] at q
    exact (I.hok b o q).stay (fun _ _ _ q => q) (fun c q => by rw [del_ne (ne _ _ q (by intro φ y; cases y))]; exact q) fun c xs q => by rw [del_ne (ne _ _ q (by intro φ y; cases y))]; exact q
end
structure XClI (K : PySem.W.Frag) (C f : Addr) : Prop where
  ob : ∃ (nm q : Str) (N : Addr) (bs bm : List Value) (hdct : Bool) (sn : List Str) (sub : List Value) (ab : Bool) (col : Option Bool) (dd : Option Addr) (k0 k1 k2 k3 k5 : Option Value) (mN : Str → Option Value),
    K.lookup C = some (excClassObj nm q C N bs bm hdct sn sub ab col dd k0 k1 k2 k3 k5 "ValueError.__new__") ∧ (∀ h : Heap, K.In h → h.Ns N mN) ∧ mN "__init__" = some (.ref f) ∧
    ∀ h : Heap, K.In h → OwnTail h [.type "ValueError", .type "Exception", .type "BaseException", .type "object"] bm
  fn : PySem.W.isFn K (.ref f) = true
section
variable {X : Cx} {k : Nat} {f : Addr} {fd : FuncData} {ps : List Str} {sp : Sp} {x : Str} {C : Addr} {W : L2.St → XK} {np cpos pos : Pos} {e : Expr} {es : List Expr} {t : TA} {CX : CXT}
def tRaiseI (t : TA) (C : Addr) (sp : Sp) (W : L2.St → XK) : TS := fun _ σ H => t σ H fun xs H1 => xs.length ≤ sizeLine ∧ ∀ a, H1 a = none → sp (.ref a :: xs) (upd H1 a (XS a C none)) (fun v H2 => v = .non ∧ ∃ d, H2 a = some (XS a C d) ∧ W σ (.ref C) d (My.del H2 a)) E0
theorem ps_raiseI (hc : X.calm = true) (M : XClI X.K C f) (F : FnOk X.prog X.w X.K X.mg X.base CX0 k f fd ps sp) (hr : Room (k + 1) X.A) (hb : Binds X.K fd ps []) (hg : Gl X x) (hm : X.mg x = some (.ref C)) (hx : Xes X W) (ha : PA X (e :: es) t) (hex : X.ex = [] := by rfl) (hdb : (x == ("__debug__" : Str)) = false := by decide)
    (he : starEach (e :: es) X.env = (false, eval e X.env) :: starEach es X.env := by rfl) (hpl : (backTo cpos (starEach es X.env)).any (·.1) = false := by rfl) :
    PS X (.Raise (some (.Call (.Name x np) (e :: es) [] cpos)) none pos) (tRaiseI t C sp W) := by
  intro pins s σ H D I h
  obtain ⟨nm, q, N, bs, bm, hdct, sn, sub, ab, col, dd, k0, k1, k2, k3, k5, mN, hC, hN, hni, T⟩ := M.ob
  refine Raise_call_init (C := C) (fI := f) (nm := nm) (q := q) (N := N) (bs := bs) (bm := bm) (hdct := hdct) (sn := sn) (sub := sub) (ab := ab) (col := col) (dd := dd) (k0 := k0) (k1 := k1) (k2 := k2) (k3 := k3) (k5 := k5)
    PySem.F.excBase_ValueError (by decide) PySem.F.excBase_ValueError (mN := mN) ((T _ I.kIn).hasType PySem.F.excBase_ValueError.hasBase) (I.ok.hd hc) ?_ hni ?_
  · rw [he]; show (false || (backTo cpos (starEach es X.env)).any (·.1)) = false; rw [hpl]; rfl
  · refine ld_glob I hg hm ⟨rfl, ?_⟩ hdb
    have z := ha cpos pins s σ H _ I h
    rw [he] at z ⊢
    refine Calls.evalArgs_plain (wpAny_mono z (fun us s2 ⟨vs, H2, I2, r, hl, q⟩ => ?_) fun _ _ y => y)
    have ea : (excHeap s2.heap C us).get? (s2.heap.objs.size + 1) = some { cls := .ref C, data := .fields #[.ref s2.heap.objs.size, .none, .none, .none, .bool false, .none] } := by
      have := Heap.get?_push_size (s2.heap.push { cls := .type "tuple", data := .seq us.toArray }) (o := { cls := .ref C, data := .fields #[.ref s2.heap.objs.size, .none, .none, .none, .bool false, .none] }) rfl
      rwa [Heap.size_push] at this
    have hn : H2 (s2.heap.objs.size + 1) = none := I2.hok.fresh (Nat.le_succ _)
    have I3 : Inv X pins σ (upd H2 (s2.heap.objs.size + 1) (XS (s2.heap.objs.size + 1) C none)) { s2 with heap := excHeap s2.heap C us } :=
      I2.laid (t' := s2.toks) (fun b o y => Heap.get?_push_of_some _ (Heap.get?_push_of_some _ y)) (Nat.le_succ _) (xs_ok ⟨_, _, ea, rfl, rfl, rfl, rfl, ⟨_, rfl⟩, fun dx y => by cases y⟩)
    have q := q _ hn
    refine ⟨rfl, by rw [← r.length]; exact hl, I2.kIn _ _ hC, hN _ I2.kIn, T _ I2.kIn, PySem.W.bind_fn I3.kIn _ (beq_iff_eq.mp M.fn), ?_⟩
    have r2 : Vals (V.ref (s2.heap.objs.size + 1) :: vs) (Value.ref (s2.heap.objs.size + 1) :: us) := .cons rfl r
    have hln : (Value.ref (s2.heap.objs.size + 1) :: us ++ []).length = ps.length := by rw [List.append_nil, ← r2.length]; exact F.len _ _ _ _ q
    have hb' := hb { s2 with heap := excHeap s2.heap C us } (Value.ref (s2.heap.objs.size + 1) :: us) I3.kIn hln
    rw [List.append_nil] at hb'
    refine wpAny_call (codeAny_mono (F.run _ X.stack _ _ ⟨Value.ref (s2.heap.objs.size + 1) :: us, []⟩ (Value.ref (s2.heap.objs.size + 1) :: us) _ _ E0 (hr.make C us []) (I3.env0.make C us []) hb' r2 q) fun r s' hq' => ?_)
    cases r with
    | error e => exact False.elim hq'
    | ok fl =>
      cases fl with
      | ret u =>
        obtain ⟨v, H', I4, rv, ev, d, e4, q4⟩ := I3.after hq'
        subst ev
        obtain ⟨oe, ws, g1, g2, g3, g4, g5, g6, g7⟩ := xs_get I4.hok e4
        refine ⟨rv, I4.kIn _ _ hC, ⟨oe, g1, g2, ws, g4, g5⟩, ?_⟩
        have new : s2.heap.get? (s2.heap.objs.size + 1) = none := Heap.get?_none_of_le (Nat.le_succ _)
        refine hx pins σ _ _ _ (.ref C) d (Inv.del I4 e4) ⟨⟨new_of I2 hex new, del_same, fun p hp y => ?_, ⟨_, _, g1, g4⟩⟩, .inl ⟨_, _, g1, g2, g3, g4, g5⟩⟩ q4
        have w := (I2.pin p hp).1
        rw [y, new] at w
        cases w
      | next => exact False.elim hq'
      | brk => exact False.elim hq'
      | cont => exact False.elim hq'
end
end My
set_option Elab.async false
set_option linter.all false
set_option maxRecDepth 100000
set_option maxHeartbeats 1000000
namespace My
open PySem PySem.Spec PyProof.Rows L2
section
variable {X : Cx}
inductive PJ (X : Cx) : List Expr → List TE → Prop
  | nil : PJ X [] []
  | cons {e : Expr} {es : List Expr} {t : TE} {ts : List TE} (h : PE X e t) (r : PJ X es ts) : PJ X (e :: es) (t :: ts)
end
section
variable {σ : L2.St} {H : Hp} {Q : VK} {te t : TE} {r : List TE} {z out : Str}
end
end My
set_option Elab.async false
set_option linter.all false
set_option maxRecDepth 100000
set_option maxHeartbeats 1000000
namespace My
open PySem PySem.Spec PyProof.Rows L2
section
variable {prog : Program} {w : World} {A : Around} {E : Value → Shared → Prop} {h : Heap} {g : Array GenState} {d : Drawn} {t : Nat} {os : OsState}
variable {nm q : Str} {C N : Addr} {bs bm bmB : List Value} {hdct : Bool} {sn : List Str} {sub : List Value} {ab : Bool} {col : Option Bool} {dd : Option Addr} {k0 k1 k2 k3 k5 : Option Value} {B newId nid initId : String}
end
end My
set_option Elab.async false
set_option linter.all false
set_option maxRecDepth 100000
set_option maxHeartbeats 1000000
namespace My
open PySem PySem.Spec PyProof.Rows L2
structure XBase (K : PySem.W.Frag) (T : Addr) : Prop where
  ga : PySem.W.specialIn K (.ref T) "__getattribute__" = some (some (.builtin "type.__getattribute__"))
  rd : PySem.W.readsIn K T (.type "type") = true
  at_ : PySem.W.findCls K (.ref T) (.type "type") "__init__" = some (.val (.builtin "ValueError.__init__"))
section
variable {X : Cx} {C T f : Addr} {x : Str} {p apos cpos : Pos} {e : Expr} {es : List Expr} {t : TA}
end
end My
set_option Elab.async false
set_option linter.all false
set_option maxRecDepth 100000
set_option maxHeartbeats 1000000
namespace My
open PySem PySem.Spec PyProof.Rows L2
def rIsx (K : PySem.W.Frag) : List V → Hp → VK → Prop := fun xs H Q => ∃ (a C : Addr) (d : Option Addr) (c : V) (u : Value) (b : Bool), xs = [.ref a, c] ∧ (∀ u', RelV c u' → u' = u) ∧ H a = some (XO a (.ref C) d) ∧
  (∀ dx, d = some dx → ∃ o, H dx = some o) ∧ XAt K C ∧ PySem.W.kitOne K (.ref C) u = some b ∧ Q (.bl b) H
section
variable {X : Cx} {o e value : Expr} {f : Str} {pos pos' : Pos} {ta tv : TE}
theorem call_isx : CallR X (.builtin "isinstance") (rIsx X.K) := by
  intro pins s σ H xs us Q I hv h
  obtain ⟨a, C, d, c, u, b, rfl, hu, e1, e2, cc, k, q⟩ := h
  cases hv with
  | cons r1 hv =>
    cases hv with
    | cons r2 hv =>
      cases hv
      rename_i v1 v2
      rw [hu v2 r2]
      obtain rfl : v1 = Value.ref a := r1
      exact x_isi I e1 e2 cc k fun s' I' => ⟨.bl b, H, I', rfl, q⟩
end
section
variable {K : PySem.W.Frag} {σ : L2.St} {H : Hp} {Q : VK} {D : Ends} {ta tv : TE} {f : Str} {a C dx c : Addr} {d : Option Addr} {fs : List (Str × V)} {v y : V} {b : Bool}
theorem r_isx (e : H a = some (XO a (.ref C) d)) (ed : ∀ dx, d = some dx → ∃ o, H dx = some o) (ha : XAt K C) (k : PySem.W.kitOne K (.ref C) (.ref c) = some b) (h : Q (.bl b) H) : rIsx K [.ref a, .ref c] H Q := ⟨a, C, d, .ref c, .ref c, b, rfl, fun _ z => z, e, ed, ha, k, h⟩
theorem r_isxT {T : String} (e : H a = some (XO a (.ref C) d)) (ed : ∀ dx, d = some dx → ∃ o, H dx = some o) (ha : XAt K C) (k : PySem.W.kitOne K (.ref C) (.type T) = some b) (h : Q (.bl b) H) : rIsx K [.ref a, .ty T] H Q := ⟨a, C, d, .ty T, .type T, b, rfl, fun _ z => z, e, ed, ha, k, h⟩
end
end My
set_option Elab.async false
set_option linter.all false
set_option maxRecDepth 100000
set_option maxHeartbeats 1000000
namespace My
open PySem PySem.Spec PyProof.Rows L2
open PySem.MeetsSeq PySem.MeetsSeq2 PySem.MeetsSeq3 PySem.SeqRoads2
def EqW (P : Program) (w : World) (A : Around) (s : Shared) (y x : Value) (b : Bool) : Prop := ∀ (E : Value → Shared → Prop) (Q : Bool → Shared → Prop), Q b s → wpAny (model P w) A (eqBool y x) Q E s
def opN : Bool → CmpOp
  | false => .Eq
  | true => .NotEq
def RcW (P : Program) (w : World) (A : Around) (s : Shared) (ne : Bool) (y x : Value) (b : Bool) : Prop := ∀ (E : Value → Shared → Prop) (Q : Value → Shared → Prop), Q (.bool b) s → wpAny (model P w) A (richCompare (opN ne) y x) Q E s
def codeN : Bool → Int
  | false => 2
  | true => 3
abbrev lo (dd : Option Addr) (xs : Array Value) (n : Nat) (sl : Array (Option Value)) : Obj := { cls := .type "list", dict := dd, data := .seq xs n, slots := sl }
abbrev tob (dd : Option Addr) (xs : Array Value) (n : Nat) (sl : Array (Option Value)) : Obj := { cls := .type "tuple", dict := dd, data := .seq xs n, slots := sl }
section
variable {P : Program} {w : World} {A : Around} {s : Shared} {l b : Addr} {k : Bool}
theorem EqW.of {y x : Value} (h : SeqAt.EqAt A s y x k) : EqW P w A s y x k := fun E Q q => h P w E Q q
theorem EqW.refs (hn : l ≠ b) (h : RcW P w A s false (.ref l) (.ref b) k) : EqW P w A s (.ref l) (.ref b) k := fun E Q q => by
  unfold eqBool
  refine wpAny_holding (wpAny_ite_split (fun z => ?_) fun _ => wpAny_bind (h E _ (wpAny_truthy_bool q)))
  have z' := eq_of_beq z
  injection z' with z'
  exact absurd z' hn
abbrev Fin1 (P : Program) (w : World) (A : Around) (R : Result → Shared → Prop) : PySem.Fin → Shared → Prop := fun f s' => match f with | .done r => R (.ok r) s' | .again c => c.quiet = true ∧ codeAny (model P w) A c R s'
theorem loopW (ne : Bool) {xs ys : Array Value} {n m : Nat} {d1 d2 : Option Addr} {s1 s2 : Array (Option Value)} (hz : xs.size = ys.size) (f : Nat → Bool) (r : Nat) : ∀ (i : Nat), xs.size - i = r → ∀ (A : Around) (R : Result → Shared → Prop) (s : Shared), s.heap.get? l = some (lo d1 xs n s1) → s.heap.get? b = some (lo d2 ys m s2) →
    (∀ j (h1 : j < xs.size) (h2 : j < ys.size), EqW P w A.in1 s xs[j] ys[j] (f j)) → R (.ok (.ret (.bool (ne != ((List.range xs.size).drop i).all f)))) s →
    wpAny (model P w) A.in1 (Builtin.«list.__eq__.loop» ⟨[.ref l, .ref b, rawInt i, rawInt (codeN ne)], []⟩) (Fin1 P w A R) (fun e s' => R (.error e) s') s := by
  induction r with
  | zero =>
    intro i hr A R s hl hb he q
    obtain ⟨hp, g, d, tk, os⟩ := s
    have t1 : xs[((i : Nat) : Int).toNat]? = none := by simp; omega
    have t2 : ys[((i : Nat) : Int).toNat]? = none := by simp; omega
    have t3 : (List.range xs.size).drop i = [] := by simp; omega
    rw [t3] at q
    cases ne with
    | false =>
      wp_walk using AutoSeq1.wpAny_loadPart' hl, AutoSeq1.wpAny_loadPart' hb
      rw [t1, t2]
      wp_walk using AutoSeq1.wpAny_loadPart' hl, AutoSeq1.wpAny_loadPart' hb
      show R (.ok (.ret (.bool (xs.size == ys.size)))) _
      rw [hz]
      simpa using q
    | true =>
      wp_walk using AutoSeq1.wpAny_loadPart' hl, AutoSeq1.wpAny_loadPart' hb
      rw [t1, t2]
      wp_walk using AutoSeq1.wpAny_loadPart' hl, AutoSeq1.wpAny_loadPart' hb
      show R (.ok (.ret (.bool (xs.size != ys.size)))) _
      rw [hz]
      simpa using q
  | succ r ih =>
    intro i hr A R s hl hb he q
    obtain ⟨hp, g, d, tk, os⟩ := s
    have j1 : i < xs.size := by omega
    have j2 : i < ys.size := by omega
    have t1 : xs[((i : Nat) : Int).toNat]? = some xs[i] := by simp [j1]
    have t2 : ys[((i : Nat) : Int).toNat]? = some ys[i] := by simp [j2]
    have t3 : (List.range xs.size).drop i = i :: (List.range xs.size).drop (i + 1) := by simp [List.drop_eq_getElem_cons, j1]
    have t4 : ((i : Int) + 1) = ((i + 1 : Nat) : Int) := by push_cast; rfl
    rw [t3, List.all_cons] at q
    cases ne with
    | false =>
      wp_walk using AutoSeq1.wpAny_loadPart' hl, AutoSeq1.wpAny_loadPart' hb
      rw [t1, t2]
      refine wpAny_bind (he i j1 j2 _ _ ?_)
      cases hf : f i with
      | true =>
        rw [hf] at q
        wp_walk
        rw [t4]
        refine ⟨plainId_quiet plain_eq_loop _, codeAny_builtin entry_eq_loop ?_⟩
        rw [Around.under_plainId plain_eq_loop _]
        exact ih (i + 1) (by omega) A R _ hl hb he (by simpa using q)
      | false =>
        rw [hf] at q
        wp_walk using AutoSeq1.wpAny_loadPart' hl, AutoSeq1.wpAny_loadPart' hb
        rw [t1, t2]
        wp_walk
        simpa using q
    | true =>
      wp_walk using AutoSeq1.wpAny_loadPart' hl, AutoSeq1.wpAny_loadPart' hb
      rw [t1, t2]
      refine wpAny_bind (he i j1 j2 _ _ ?_)
      cases hf : f i with
      | true =>
        rw [hf] at q
        wp_walk
        rw [t4]
        refine ⟨plainId_quiet plain_eq_loop _, codeAny_builtin entry_eq_loop ?_⟩
        rw [Around.under_plainId plain_eq_loop _]
        exact ih (i + 1) (by omega) A R _ hl hb he (by simpa using q)
      | false =>
        rw [hf] at q
        wp_walk using AutoSeq1.wpAny_loadPart' hl, AutoSeq1.wpAny_loadPart' hb
        rw [t1, t2]
        wp_walk
        simpa using q
theorem listW (ne : Bool) {xs ys : Array Value} {n m : Nat} {d1 d2 : Option Addr} {s1 s2 : Array (Option Value)} (hz : xs.size = ys.size) (f : Nat → Bool) {R : Result → Shared → Prop} (hl : s.heap.get? l = some (lo d1 xs n s1)) (hb : s.heap.get? b = some (lo d2 ys m s2))
    (he : ∀ j (h1 : j < xs.size) (h2 : j < ys.size), EqW P w A.in1 s xs[j] ys[j] (f j)) (q : R (.ok (.ret (.bool (ne != (List.range xs.size).all f)))) s) :
    wpAny (model P w) A.in1 ((if ne = true then Builtin.«list.__ne__» else Builtin.«list.__eq__») ⟨[.ref l, .ref b], []⟩) (Fin1 P w A R) (fun e s' => R (.error e) s') s := by
  obtain ⟨hp, g, d, tk, os⟩ := s
  have f3 := AutoSeq1.sub_list_list
  have z0 : ¬ (xs.size != ys.size) = true := by simp [hz]
  cases ne with
  | false =>
    show wpAny _ _ (Builtin.«list.__eq__» _) _ _ _
    wp_walk using AutoSeq1.wpAny_loadPart' hl, AutoSeq1.wpAny_loadPart' hb
    refine ⟨plainId_quiet plain_eq_loop _, codeAny_builtin entry_eq_loop ?_⟩
    rw [Around.under_plainId plain_eq_loop _]
    exact loopW false hz f _ 0 rfl A R _ hl hb he (by simpa using q)
  | true =>
    show wpAny _ _ (Builtin.«list.__ne__» _) _ _ _
    wp_walk using AutoSeq1.wpAny_loadPart' hl, AutoSeq1.wpAny_loadPart' hb
    refine ⟨plainId_quiet plain_eq_loop _, codeAny_builtin entry_eq_loop ?_⟩
    rw [Around.under_plainId plain_eq_loop _]
    exact loopW true hz f _ 0 rfl A R _ hl hb he (by simpa using q)
theorem callW {T id : String} {name : Str} {B : Builtin} {self : Value} {rest : List Value} {E Q : Value → Shared → Prop} (slot : Slot T name id) (hT : s.TypeIs self T) (entry : entryFor table id = some B) (args : argsOk id ⟨self :: rest, []⟩)
    (h : wpAny (model P w) A.in1 (B ⟨self :: rest, []⟩) (Fin1 P w A (wants Q E)) (fun e s' => wants Q E (.error e) s') s) : wpAny (model P w) A (call (.builtin id) (self :: rest)) Q E s :=
  wpAny_call (codeAny_call_builtin slot.plain entry (slot.check _ _ _ _ _ _ _ _ hT args h))
theorem RcW.lists (ne : Bool) {xs ys : Array Value} {f : Nat → Bool} (hl : s.heap.IsList l xs) (hb : s.heap.IsList b ys) (hz : xs.size = ys.size) (hu : A.units < cLine) (he : ∀ j (h1 : j < xs.size) (h2 : j < ys.size), EqW P w A.in1 s xs[j] ys[j] (f j)) :
    RcW P w A s ne (.ref l) (.ref b) (ne != (List.range xs.size).all f) := fun E Q q => by
  obtain ⟨⟨c1, d1, e1, s1⟩, ho, hc, n, hd⟩ := id hl
  obtain ⟨⟨c2, d2, e2, s2⟩, ho2, hc2, m, hd2⟩ := id hb
  simp only at hc hd hc2 hd2
  subst hc hd hc2 hd2
  have q' : Value.bool (ne != (List.range xs.size).all f) ≠ Value.notImplemented ∧ Q (.bool (ne != (List.range xs.size).all f)) s := ⟨(fun x => nomatch x), q⟩
  cases ne with
  | false => exact wpAny_richCompare_same_room (op := .Eq) ⟨_, ho, rfl⟩ ⟨_, ho2, rfl⟩ F.slot_list_eq (callW F.slot_list_eq ⟨_, ho, rfl⟩ F.entry_list_eq (F.args_list_eq_2 _ _) (listW (R := wants (fun v s' => v ≠ .notImplemented ∧ Q v s') E) false hz f ho ho2 he q')) hu
  | true => exact wpAny_richCompare_same_room (op := .NotEq) ⟨_, ho, rfl⟩ ⟨_, ho2, rfl⟩ F.slot_list_ne (callW F.slot_list_ne ⟨_, ho, rfl⟩ F.entry_list_ne (F.args_list_ne_2 _ _) (listW (R := wants (fun v s' => v ≠ .notImplemented ∧ Q v s') E) true hz f ho ho2 he q')) hu
theorem RcW.listsN (ne : Bool) {xs ys : Array Value} (hl : s.heap.IsList l xs) (hb : s.heap.IsList b ys) (hz : (xs.size != ys.size) = true) (hu : A.units < cLine) : RcW P w A s ne (.ref l) (.ref b) (ne != false) := fun E Q q => by
  cases ne with
  | false => exact SeqAt.RcAt.lists_lengths hl hb hz hu P w E Q q
  | true => exact SeqAt.RcNeAt.lists_lengths hl hb hz hu P w E Q q
theorem tupW (ne : Bool) {xs ys : Array Value} {n m : Nat} {d1 d2 : Option Addr} {s1 s2 : Array (Option Value)} (f : Nat → Bool) {E Q : Value → Shared → Prop} (hl : s.heap.get? l = some (tob d1 xs n s1)) (hb : s.heap.get? b = some (tob d2 ys m s2))
    (he : ∀ j (h1 : j < xs.size) (h2 : j < ys.size), EqW P w A.in1 s xs[j] ys[j] (f j)) (q : Q (.bool (ne != ((List.range (min xs.size ys.size)).all f && xs.size == ys.size))) s) :
    wpAny (model P w) A.in1 ((if ne = true then Builtin.«tuple.__ne__» else Builtin.«tuple.__eq__») ⟨[.ref l, .ref b], []⟩) (fun fin s' => ∃ v, fin = .done (.ret v) ∧ Q v s') E s := by
  obtain ⟨hp, g, d, tk, os⟩ := s
  have f2 := AutoSeq1.sub_tuple_tuple
  have hZ : (xs.toList.zip ys.toList).length = min xs.size ys.size := by simp
  have turn : ∀ (x y : Value) (rest : List (Value × Value)) (i : Nat), (x, y) :: rest = (xs.toList.zip ys.toList).drop i → ∃ (h1 : i < xs.size) (h2 : i < ys.size), x = xs[i] ∧ y = ys[i] ∧ rest = (xs.toList.zip ys.toList).drop (i + 1) ∧ (List.range (min xs.size ys.size)).drop i = i :: (List.range (min xs.size ys.size)).drop (i + 1) := fun x y rest i hz => by
    have hlt : i < (xs.toList.zip ys.toList).length := by
      rcases Nat.lt_or_ge i (xs.toList.zip ys.toList).length with z | z
      · exact z
      · rw [List.drop_of_length_le z] at hz; cases hz
    have hm : i < min xs.size ys.size := hZ ▸ hlt
    have h1 : i < xs.size := Nat.lt_of_lt_of_le hm (Nat.min_le_left _ _)
    have h2 : i < ys.size := Nat.lt_of_lt_of_le hm (Nat.min_le_right _ _)
    rw [List.drop_eq_getElem_cons hlt] at hz
    injection hz with hxy hrest
    exact ⟨h1, h2, by have := congrArg Prod.fst hxy; simpa using this, by have := congrArg Prod.snd hxy; simpa using this, hrest, by simp [List.drop_eq_getElem_cons, hm]⟩
  have last : ∀ i : Nat, [] = (xs.toList.zip ys.toList).drop i → (List.range (min xs.size ys.size)).drop i = [] := fun i hz => by
    have hge : min xs.size ys.size ≤ i := by
      rcases Nat.lt_or_ge i (xs.toList.zip ys.toList).length with z | z
      · rw [List.drop_eq_getElem_cons z] at hz; cases hz
      · exact hZ ▸ z
    exact List.drop_of_length_le (by simpa using hge)
  cases ne with
  | false =>
    show wpAny _ _ (Builtin.«tuple.__eq__» _) _ _ _
    wp_walk using AutoSeq1.wpAny_loadPart' hl, AutoSeq1.wpAny_loadPart' hb, wpAny_forIn_list _ (fun rest c s' => c.1 = none ∧ s' = ⟨hp, g, d, tk, os⟩ ∧ ∃ i, rest = (xs.toList.zip ys.toList).drop i ∧ Q (.bool (((List.range (min xs.size ys.size)).drop i).all f && xs.size == ys.size)) ⟨hp, g, d, tk, os⟩) _
    case turn =>
      rintro ⟨x, y⟩ rest c s' ⟨hc, rfl, i, hz, hR⟩
      obtain ⟨h1, h2, rfl, rfl, hrest, hd⟩ := turn x y rest i hz
      rw [hd, List.all_cons] at hR
      refine wpAny_bind (he i h1 h2 _ _ ?_)
      cases hf : f i with
      | true =>
        rw [hf] at hR
        wp_walk
        exact ⟨rfl, rfl, i + 1, hrest, by simpa using hR⟩
      | false =>
        rw [hf] at hR
        wp_walk
        exact ⟨_, rfl, by simpa using hR⟩
    case fin =>
      rintro ⟨c1, c2⟩ s' ⟨hc, rfl, i, hz, hR⟩
      simp only at hc
      subst hc
      rw [last i hz] at hR
      wp_walk
      exact ⟨_, rfl, by simpa [Builtin.Tuple.tupleCompareSizes] using hR⟩
    case h => exact ⟨rfl, rfl, 0, rfl, by simpa using q⟩
  | true =>
    show wpAny _ _ (Builtin.«tuple.__ne__» _) _ _ _
    wp_walk using AutoSeq1.wpAny_loadPart' hl, AutoSeq1.wpAny_loadPart' hb, wpAny_forIn_list _ (fun rest c s' => c.1 = none ∧ s' = ⟨hp, g, d, tk, os⟩ ∧ ∃ i, rest = (xs.toList.zip ys.toList).drop i ∧ Q (.bool (!(((List.range (min xs.size ys.size)).drop i).all f && xs.size == ys.size))) ⟨hp, g, d, tk, os⟩) _
    case turn =>
      rintro ⟨x, y⟩ rest c s' ⟨hc, rfl, i, hz, hR⟩
      obtain ⟨h1, h2, rfl, rfl, hrest, hd⟩ := turn x y rest i hz
      rw [hd, List.all_cons] at hR
      refine wpAny_bind (he i h1 h2 _ _ ?_)
      cases hf : f i with
      | true =>
        rw [hf] at hR
        wp_walk
        exact ⟨rfl, rfl, i + 1, hrest, by simpa using hR⟩
      | false =>
        rw [hf] at hR
        wp_walk
        exact ⟨_, rfl, by simpa using hR⟩
    case fin =>
      rintro ⟨c1, c2⟩ s' ⟨hc, rfl, i, hz, hR⟩
      simp only at hc
      subst hc
      rw [last i hz] at hR
      wp_walk
      exact ⟨_, rfl, by simpa [Builtin.Tuple.tupleCompareSizes, bne] using hR⟩
    case h => exact ⟨rfl, rfl, 0, rfl, by simpa using q⟩
theorem RcW.tuples (ne : Bool) {xs ys : Array Value} {f : Nat → Bool} (hl : s.heap.IsTuple l xs) (hb : s.heap.IsTuple b ys) (hu : A.units < cLine) (he : ∀ j (h1 : j < xs.size) (h2 : j < ys.size), EqW P w A.in1 s xs[j] ys[j] (f j)) :
    RcW P w A s ne (.ref l) (.ref b) (ne != ((List.range (min xs.size ys.size)).all f && xs.size == ys.size)) := fun E Q q => by
  obtain ⟨⟨c1, d1, e1, s1⟩, ho, hc, n, hd⟩ := id hl
  obtain ⟨⟨c2, d2, e2, s2⟩, ho2, hc2, m, hd2⟩ := id hb
  simp only at hc hd hc2 hd2
  subst hc hd hc2 hd2
  cases ne with
  | false => exact wpAny_richCompare_same_room (op := .Eq) ⟨_, ho, rfl⟩ ⟨_, ho2, rfl⟩ F.slot_tuple_eq (wpAny_call_entry F.slot_tuple_eq ⟨_, ho, rfl⟩ F.entry_tuple_eq (tupW (Q := fun v s' => v ≠ .notImplemented ∧ Q v s') false f ho ho2 he ⟨(fun x => nomatch x), q⟩) (F.args_tuple_eq_2 _ _)) hu
  | true => exact wpAny_richCompare_same_room (op := .NotEq) ⟨_, ho, rfl⟩ ⟨_, ho2, rfl⟩ F.slot_tuple_ne (wpAny_call_entry F.slot_tuple_ne ⟨_, ho, rfl⟩ F.entry_tuple_ne (tupW (Q := fun v s' => v ≠ .notImplemented ∧ Q v s') true f ho ho2 he ⟨(fun x => nomatch x), q⟩) (F.args_tuple_ne_2 _ _)) hu
end
end My
set_option Elab.async false
set_option linter.all false
set_option maxRecDepth 100000
set_option maxHeartbeats 1000000
namespace My
open PySem PySem.Spec PyProof.Rows L2
inductive DEq (K : PySem.W.Frag) (H : Hp) : Nat → V → V → Bool → Prop
  | same {n : Nat} {a : Addr} : DEq K H n (.ref a) (.ref a) true
  | flat {n : Nat} {x y : V} (hx : flatV x = true) (hy : flatV y = true) : DEq K H n x y (eqV x y)
  | ls {n : Nat} {a b : Addr} {xs ys : List V} {e : Nat → Bool} (ha : SqL K H a xs) (hb : SqL K H b ys) (ne : a ≠ b) (hl : xs.length = ys.length)
      (he : ∀ j (h1 : j < xs.length) (h2 : j < ys.length), DEq K H n xs[j] ys[j] (e j)) : DEq K H (n + 1) (.ref a) (.ref b) ((List.range xs.length).all e)
  | lsN {n : Nat} {a b : Addr} {xs ys : List V} (ha : SqL K H a xs) (hb : SqL K H b ys) (ne : a ≠ b) (hl : xs.length ≠ ys.length) : DEq K H (n + 1) (.ref a) (.ref b) false
  | ts {n : Nat} {a b : Addr} {xs ys : List V} {e : Nat → Bool} (ha : SqT K H a xs) (hb : SqT K H b ys) (ne : a ≠ b)
      (he : ∀ j (h1 : j < xs.length) (h2 : j < ys.length), DEq K H n xs[j] ys[j] (e j)) : DEq K H (n + 1) (.ref a) (.ref b) ((List.range (min xs.length ys.length)).all e && xs.length == ys.length)
  | dd {n : Nat} {a b : Addr} {ka kb : List (Key × V)} (ha : Rd H a (.dK ka)) (hb : Rd H b (.dK kb)) (ne : a ≠ b) (fa : ∀ p ∈ ka, flatV p.2 = true) (fb : ∀ p ∈ kb, flatV p.2 = true) :
      DEq K H (n + 1) (.ref a) (.ref b) (ka.length == kb.length && ka.all fun p => (valV kb p.1).elim false (eqV p.2))
theorem vals_at {xs : List V} {us : List Value} (r : Vals xs us) {j : Nat} (h1 : j < xs.length) (h2 : j < us.length) : RelV xs[j] us[j] := by
  obtain ⟨u, e, ru⟩ := r.get (List.getElem?_eq_getElem h1)
  rw [List.getElem?_eq_getElem h2] at e
  cases e
  exact ru
theorem valV_mem {kvs : List (Key × V)} {k : Key} {v : V} (h : valV kvs k = some v) : (k, v) ∈ kvs := by
  unfold valV at h
  obtain ⟨p, hp, rfl⟩ := Option.map_eq_some_iff.mp h
  have e := List.find?_some hp
  have e' : p.1 = k := of_decide_eq_true e
  subst e'
  exact List.mem_of_find?_eq_some hp
theorem hits_of {A : Around} {s : Shared} {kb : List (Key × V)} {vb : List (Key × Value)} (rb : KV kb vb) (fb : ∀ p ∈ kb, flatV p.2 = true) {ka : List (Key × V)} {va : List (Key × Value)} (ra : KV ka va) (fa : ∀ p ∈ ka, flatV p.2 = true) :
    PySem.W.KeqHits A s vb va (ka.all fun p => (valV kb p.1).elim false (eqV p.2)) := by
  induction ra with
  | nil => exact .nil
  | @cons p q l1 l2 h t ih =>
    obtain ⟨k, v⟩ := p
    obtain ⟨k', u⟩ := q
    obtain ⟨e, ru⟩ := h
    dsimp only at e ru
    subst e
    have z := rb.val k
    rw [List.all_cons]
    have ih' := ih fun p hp => fa p (List.mem_cons_of_mem _ hp)
    cases hv : valV kb k with
    | none =>
      rw [hv] at z
      have hn : valueAt vb k = none := RelO.none_of z
      exact .miss hn
    | some y =>
      rw [hv] at z
      cases hu : valueAt vb k with
      | none => rw [hu] at z; exact z.elim
      | some yu =>
        rw [hu] at z
        exact .hit hu (eqAt_V ru z (fa _ (List.mem_cons_self ..)) (fb _ (valV_mem hv))) ih'
section
variable {X : Cx} {pins : List (Addr × Obj)} {σ : L2.St} {H : Hp} {s : Shared}
theorem PlainL.isList {h : Heap} {a : Addr} {its : Array Value} (p : PlainL h a its) : h.IsList a its := by
  obtain ⟨o, n, e, c, d, t⟩ := p
  exact ⟨o, e, c, n, t⟩
theorem deq_ok (I : Inv X pins σ H s) {n : Nat} {x y : V} {k : Bool} (q : DEq X.K H n x y k) : ∀ (A : Around) (u v : Value), RelV x u → RelV y v → A.units + n < cLine →
    EqW X.prog X.w A s u v k ∧ ∀ a b, x = .ref a → y = .ref b → a ≠ b → ∀ ne : Bool, RcW X.prog X.w A s ne (.ref a) (.ref b) (ne != k) := by
  have both : ∀ {A : Around} {a b : Addr} {k : Bool}, a ≠ b → (∀ ne : Bool, RcW X.prog X.w A s ne (.ref a) (.ref b) (ne != k)) →
      EqW X.prog X.w A s (.ref a) (.ref b) k ∧ ∀ a' b', V.ref a = .ref a' → V.ref b = .ref b' → a' ≠ b' → ∀ ne : Bool, RcW X.prog X.w A s ne (.ref a') (.ref b') (ne != k) := fun {A a b k} ne R =>
    ⟨EqW.refs ne (by have z := R false; simpa using z), fun a' b' e1 e2 _ => by cases e1; cases e2; exact R⟩
  induction q with
  | @same n a =>
    intro A u v ru rv hu
    obtain rfl : u = Value.ref a := ru
    obtain rfl : v = Value.ref a := rv
    exact ⟨EqW.of (SeqAt.EqAt.same _), fun a' b' e1 e2 ne => by cases e1; cases e2; exact absurd rfl ne⟩
  | flat hx hy =>
    intro A u v ru rv hu
    exact ⟨EqW.of (eqAt_V ru rv hx hy), fun a b e _ _ => by subst e; cases hx⟩
  | @ls n a b xs ys e ha hb ne hl he ih =>
    intro A u v ru rv hu
    obtain rfl : u = Value.ref a := ru
    obtain rfl : v = Value.ref b := rv
    obtain ⟨its, r1, p1, _⟩ := I.list ha
    obtain ⟨its2, r2, p2, _⟩ := I.list hb
    have l1 := r1.length
    have l2 := r2.length
    refine both ne fun nb => ?_
    have z := RcW.lists (P := X.prog) (w := X.w) (A := A) (s := s) nb (f := e) (PlainL.isList p1) (PlainL.isList p2) (by rw [List.size_toArray, List.size_toArray]; omega) (by omega) fun j h1 h2 => by
      have k1 : j < its.length := by simpa using h1
      have k2 : j < its2.length := by simpa using h2
      have w := (ih j (by omega) (by omega) A.in1 its[j] its2[j] (vals_at r1 (by omega) k1) (vals_at r2 (by omega) k2) (by show A.units + 1 + n < cLine; omega)).1
      simpa using w
    rw [List.size_toArray, ← l1] at z
    exact z
  | @lsN n a b xs ys ha hb ne hl =>
    intro A u v ru rv hu
    obtain rfl : u = Value.ref a := ru
    obtain rfl : v = Value.ref b := rv
    obtain ⟨its, r1, p1, _⟩ := I.list ha
    obtain ⟨its2, r2, p2, _⟩ := I.list hb
    have l1 := r1.length
    have l2 := r2.length
    exact both ne fun nb => RcW.listsN nb (PlainL.isList p1) (PlainL.isList p2) (by rw [List.size_toArray, List.size_toArray]; simp; omega) (by omega)
  | @ts n a b xs ys e ha hb ne he ih =>
    intro A u v ru rv hu
    obtain rfl : u = Value.ref a := ru
    obtain rfl : v = Value.ref b := rv
    obtain ⟨its, r1, p1, _⟩ := I.tuple ha
    obtain ⟨its2, r2, p2, _⟩ := I.tuple hb
    have l1 := r1.length
    have l2 := r2.length
    refine both ne fun nb => ?_
    have z := RcW.tuples (P := X.prog) (w := X.w) (A := A) (s := s) nb (f := e) p1 p2 (by omega) fun j h1 h2 => by
      have k1 : j < its.length := by simpa using h1
      have k2 : j < its2.length := by simpa using h2
      have w := (ih j (by omega) (by omega) A.in1 its[j] its2[j] (vals_at r1 (by omega) k1) (vals_at r2 (by omega) k2) (by show A.units + 1 + n < cLine; omega)).1
      simpa using w
    rw [List.size_toArray, List.size_toArray, ← l1, ← l2] at z
    exact z
  | @dd n a b ka kb ha hb ne fa fb =>
    intro A u v ru rv hu
    obtain rfl : u = Value.ref a := ru
    obtain rfl : v = Value.ref b := rv
    obtain ⟨_, ga, va, ra, da⟩ := dk_rd I.hok ha
    obtain ⟨_, gb, vb, rb, db⟩ := dk_rd I.hok hb
    have l1 := ra.length
    have l2 := rb.length
    refine both ne fun nb E Q q => ?_
    have hits := hits_of (A := A.in1) (s := s) rb fb ra fa
    rw [l1, l2] at q
    cases nb with
    | false => exact PySem.W.keq_eq ga gb da db (by omega) (fun _ => hits) (by simpa using q)
    | true => exact PySem.W.keq_ne ga gb da db (by omega) (fun _ => hits) (by simpa using q)
def rEqD (K : PySem.W.Frag) : R2 := fun x y H Q => ∃ a b n k, x = .ref a ∧ y = .ref b ∧ a ≠ b ∧ n ≤ 8 ∧ DEq K H n (.ref a) (.ref b) k ∧ Q (.bl k) H
theorem op_eqD (hu : X.A.units + 8 < cLine) : OpR X (compareOp .Eq) (rEqD X.K) := by
  intro pins s σ H x y v u Q I rx ry h
  obtain ⟨a, b, n, k, rfl, rfl, ne, hn, q, z⟩ := h
  cases rx
  cases ry
  have r := (deq_ok I q X.A _ _ rfl rfl (by omega)).2 a b rfl rfl ne false X.xe (EP X pins σ Q)
  rw [Bool.false_bne] at r
  exact r ⟨.bl k, H, I, rfl, z⟩
end
end My
set_option Elab.async false
set_option linter.all false
set_option maxRecDepth 100000
set_option maxHeartbeats 1000000
namespace My
open PySem PySem.Spec PyProof.Rows L2
section
variable {X : Cx}
def rListOf (K : PySem.W.Frag) : List V → Hp → VK → Prop := fun xs H Q => ∃ p ys, xs = [.ref p] ∧ (SqL K H p ys ∨ SqT K H p ys) ∧ ∀ l, H l = none → Q (.ref l) (upd H l (.lst ys))
theorem call_listR : CallR X (.type "list") (rListOf X.K) := call_list_of
end
section
variable {K : PySem.W.Frag} {σ : L2.St} {H : Hp} {Q : VK} {p l b : Addr} {ys xs zs : List V} {to : TE} {t : TA} {T : String} {r : V → List V → Hp → VK → Prop} {x v : V}
theorem r_listL (h : SqL K H p ys) (q : ∀ l, H l = none → Q (.ref l) (upd H l (.lst ys))) : rListOf K [.ref p] H Q := ⟨p, ys, rfl, .inl h, q⟩
theorem r_bm (h : to σ H fun x H1 => tyV K T x H1 ∧ t σ H1 fun xs H2 => r x xs H2 Q) : tBM K T r to t σ H Q := h
theorem r_bm0 (h : to σ H fun x H1 => tyV K T x H1 ∧ r x [] H1 Q) : tBM0 K T r to σ H Q := h
theorem r_tyL {P : Prop} (h : SqL K H p ys) (q : P) : tyV K "list" (.ref p) H ∧ P := ⟨.inl ⟨rfl, _, h⟩, q⟩
theorem r_append (h : H l = some (.lst xs)) (hz : xs.length < sizeLine) (q : Q .non (upd H l (.lst (xs ++ [v])))) : rAppend (.ref l) [v] H Q := ⟨l, xs, v, rfl, rfl, h, hz, q⟩
theorem r_cat (h : H l = some (.lst xs)) (h' : H b = some (.lst zs)) (hz : xs.length + zs.length ≤ sizeLine) (q : ∀ p, H p = none → Q (.ref p) (upd H p (.lst (xs ++ zs)))) : rCat (.ref l) (.ref b) H Q := ⟨l, b, xs, zs, rfl, rfl, h, h', hz, q⟩
end
end My
set_option Elab.async false
set_option linter.all false
set_option maxRecDepth 100000
set_option maxHeartbeats 1000000
namespace My
open PySem PySem.Spec PyProof.Rows L2
def initIn (K : PySem.W.Frag) (C f : Addr) : Bool := match K.lookup C with
  | some ⟨.type "type", _, .cls cd, sl⟩ => (match cd.mro, sl.toList with
    | .ref C' :: bm, [_, _, _, _, some (.builtin n), _] => C' == C && n == "ValueError.__new__" && !cd.hasDel && PySem.W.tailIn K [.type "ValueError", .type "Exception", .type "BaseException", .type "object"] bm && PySem.W.nsOkIn K cd.ns && PySem.W.nsIn K cd.ns "__init__" == some (some (.ref f))
    | _, _ => false)
  | _ => false
theorem xcli_of {K : PySem.W.Frag} {C f : Addr} (q : initIn K C f = true) (hf : PySem.W.isFn K (.ref f) = true) : XClI K C f := by
  refine ⟨?_, hf⟩
  unfold initIn at q
  split at q
  · rename_i dd cd sl ho
    split at q
    · rename_i C' bm k0 k1 k2 k3 n k5 hm hs
      simp only [Bool.and_eq_true, beq_iff_eq, Bool.not_eq_true'] at q
      obtain ⟨⟨⟨⟨⟨rfl, rfl⟩, hdel⟩, ht⟩, hok⟩, hni⟩ := q
      obtain ⟨nm, bs, mro, ns, qn, hd, sn, sub, ab, col, del⟩ := cd
      dsimp only at hm hdel hok hni
      subst hm hdel
      have hsl : sl = #[k0, k1, k2, k3, some (.builtin "ValueError.__new__"), k5] := by
        obtain ⟨l⟩ := sl
        simp only at hs
        rw [hs]
      subst hsl
      unfold PySem.W.nsOkIn at hok
      split at hok
      · rename_i c1 d1 es ep sl1 hN
        have hSK : StrKeys es := fun e he => by
          have z := Array.all_eq_true_iff_forall_mem.mp hok e he
          split at z
          · rename_i n t q; exact ⟨n, t, q⟩
          · cases z
        have hNs : ∀ h : Heap, K.In h → h.Ns ns (fun x => nsFind es x) := fun h X => ⟨_, es, ep, X _ _ hN, rfl, hSK, fun _ => rfl⟩
        refine ⟨nm, qn, ns, bs, bm, hd, sn, sub, ab, col, dd, k0, k1, k2, k3, k5, fun x => nsFind es x, ho, hNs, ?_, fun h X => PySem.W.tail_of_in X ht⟩
        unfold PySem.W.nsIn at hni
        rw [hN] at hni
        dsimp only at hni
        split at hni
        · rename_i hf
          show nsFind es "__init__" = some (.ref f)
          unfold nsFind findBy
          rw [← Array.find?_toList, hf]
          exact congrArg some (Option.some.inj (Option.some.inj hni))
        · first | (split at hni <;> cases hni) | simp at hni
      · cases hok
    · cases q
  · cases q
end My
set_option Elab.async false
set_option linter.all false
set_option maxRecDepth 100000
set_option maxHeartbeats 1000000
namespace My
open PySem PySem.Spec PyProof.Rows L2
structure RoomH (k : Nat) (A : Around) : Prop where
  dp : A.depth + 3 * k + 5 < recursionLimit
  un : A.units + 16 * k + 200 < cLine
theorem RoomH.deeper {k : Nat} {A : Around} (r : RoomH (k + 1) A) (env : Env) : RoomH k (A.deeper env) :=
  ⟨by have := r.dp; show A.depth + 1 + 3 * k + 5 < _; omega, by have := r.un; show A.units + 3 + 16 * k + 200 < _; omega⟩
theorem RoomH.depth {k : Nat} {A : Around} (r : RoomH k A) : A.depth < recursionLimit := by have := r.dp; omega
theorem roomH {k : Nat} {A : Around} (r : Room k A) (h : Option Value) : RoomH k (A.mark h) := ⟨r.dp, r.un⟩
structure FnOkH (P : Program) (w : World) (K : PySem.W.Frag) (mg : Str → Option Value) (base : Heap) (k : Nat) (f : Addr) (fd : FuncData) (ps : List Str) (sp : Sp) : Prop where
  len : ∀ vs H Q E, sp vs H Q E → vs.length = ps.length
  run : ∀ (a : Addr) (A : Around) (outer : List Env) (s : Shared) (H : Hp) (args : Args) (us : List Value) (vs : List V) (Q : VK) (E : XK), RoomH k A → A.handled = some (.ref a) → Env0 P w K mg base A outer s H → BindsTo s fd args (ps.zip us) → Vals vs us → sp vs H Q E →
    codeAny (model P w) A (.call (.ref f) args) (CR CX0 outer P w H s Q E) s
abbrev calmA (A : Around) : Around := { A with handled := none }
theorem mark_back {A : Around} {env : Env} {v : Value} (h : A.handled = some v) : ((calmA A).deeper env).mark (some v) = A.deeper env := by
  obtain ⟨hd, dp, fr, gu, un⟩ := A
  obtain rfl : hd = some v := h
  rfl
theorem fn_ofH {P : Program} {w : World} {K : PySem.W.Frag} {mg : Str → Option Value} {base : Heap} {k : Nat} {f : Addr} {name qual : Str} {params : Arguments} {body : List Stmt} {scope : Scope} {dV kV doc pm cdv ct oc : Value} {an od : Option Addr}
    {osl : Array (Option Value)} {N ps : List Str} {sp : Sp} (lk : K.lookup f = some ⟨oc, od, .func (PySem.W.fnOf name qual params body scope dV kV doc pm an cdv ct), osl⟩) (hcd : PySem.W.codeIn K cdv qual = true) (S : FnScope N ps scope)
    (len : ∀ vs H Q E, sp vs H Q E → vs.length = ps.length)
    (hbody : ∀ (a : Addr) (A : Around) (outer : List Env) (s : Shared) (H : Hp) (vs : List V) (Q : VK) (E : XK), RoomH k (A.deeper (envOfC qual scope s.heap.objs.size f cdv)) → sp vs H Q E →
      ∃ t, PSs (suite (cxOf CX0 P w K mg base N qual scope f cdv (calmA A) outer s H E) a) body t ∧ t { nx := fun _ H' => Q .non H', rt := Q } (start N vs) H) :
    FnOkH P w K mg base (k + 1) f (PySem.W.fnOf name qual params body scope dV kV doc pm an cdv ct) ps sp := by
  refine ⟨len, fun a A outer s H args us vs Q E hr hh e0 hb r hsp => ?_⟩
  have hl := len _ _ _ _ hsp
  have KX : K.In s.heap := e0.mod.kin.keeps fun b o e => (e0.bs b o e).1
  have lim : s.heap.NoLimit := e0.mod.nolimit.keeps fun b o e => (e0.bs b o e).1
  have hkind : ∀ y ∈ ps.zip us, scope.names.lookup y.1 = some .local ∨ (scope.names.lookup y.1 = some .cell ∧ ((cellsFrom (s.heap.objs.size + 1) scope.names []).lookup y.1).isSome = true) := fun ⟨n, v⟩ hy => by
    rcases S.par n (List.of_mem_zip hy).1 with q | q
    · exact .inl q
    · exact .inr ⟨q, PySem.W.cellsFrom_some _ _ _ (.inl q)⟩
  refine codeAny_call_function hr.depth (KX _ _ lk) rfl S.co S.gen rfl (PySem.W.codeRec_of KX hcd) (hb _ _ _ _ ?_)
  refine wpAny_newFunctionEnv_cells S.kind hkind fun env he s1 x => ?_
  subst he
  refine ⟨lim.keeps x.toInCall.keep, codeAny_func ?_⟩
  obtain ⟨t, ht, hq⟩ := hbody a A outer s H vs Q E (hr.deeper _) hsp
  have e1 : Env0 P w K mg base (calmA A) outer s H := ⟨e0.frames, e0.mod, e0.bs, e0.bsz, e0.funs, e0.frf, e0.hok, e0.bare⟩
  have I0 : Inv (cxOf CX0 P w K mg base N qual scope f cdv (calmA A) outer s H E) [] (start N vs) H s1 := inv_start S rfl e1 hl r x
  have I := Inv.suite I0 a
  have z := ht [] s1 (start N vs) H _ I hq
  have hA : (suite (cxOf CX0 P w K mg base N qual scope f cdv (calmA A) outer s H E) a).A = A.deeper (envOfC qual scope s.heap.objs.size f cdv) := mark_back hh
  rw [hA] at z
  refine wpAny_mono z (fun fl s' hs => ?_) fun e s' hs => hs.elim
  have fin : ∀ {σ' : L2.St} {H' : Hp} {v : V} {u : Value}, Inv (suite (cxOf CX0 P w K mg base N qual scope f cdv (calmA A) outer s H E) a) [] σ' H' s' → RelV v u → Q v H' → CE outer P w H s Q u s' :=
    fun {σ' H' v u} J rv q => ⟨v, H', J.os, J.bare, J.base, J.hok, rv, q⟩
  cases fl with
  | ret u =>
    obtain ⟨v, σ', H', J, rv, q⟩ := hs
    exact fin J rv q
  | next =>
    obtain ⟨σ', H', J, q⟩ := hs
    exact fin (v := V.non) (u := Value.none) J rfl q
  | brk =>
    obtain ⟨_, _, _, q⟩ := hs
    exact False.elim q
  | cont =>
    obtain ⟨_, _, _, q⟩ := hs
    exact False.elim q
section
variable {X : Cx} {k : Nat} {f a : Addr} {fd : FuncData} {ps : List Str} {sp : Sp} {x : Str} {p pos : Pos} {e : Expr} {es : List Expr} {t : TA}
theorem pe_callH (F : FnOkH X.prog X.w X.K X.mg X.base k f fd ps sp) (hr : Room k X.A) (hg : Gl X x) (hm : X.mg x = some (.ref f)) (hk : PySem.W.keepIn X.K (.ref f) = true) (hb : Binds X.K fd ps [])
    (ha : PA (suite X a) (e :: es) t) (hdb : (x == ("__debug__" : Str)) = false := by decide) (he : starEach (e :: es) X.env = (false, eval e X.env) :: starEach es X.env := by rfl) (hpl : (backTo pos (starEach es X.env)).any (·.1) = false := by rfl) :
    PE (suite X a) (.Call (.Name x p) (e :: es) [] pos) (tCall sp [] E0 t) := by
  intro pins s σ H Q I h
  refine wpAny_Call_Name_kw (ld_glob I hg hm ?_ hdb)
  refine PySem.W.callWith_K (h₀ := X.base) I.ok.mod.kin hk (thn (ha pos pins s σ H _ I h) fun us s1 ⟨vs, H1, I1, r, q⟩ => ⟨I1.kIn, ?_⟩) he hpl
  replace q : sp (vs ++ []) H1 Q E0 := q
  rw [List.append_nil] at q
  have hl : (us ++ []).length = ps.length := by rw [List.append_nil, ← r.length]; exact F.len _ _ _ _ q
  have hb' := hb s1 us I1.kIn hl
  rw [List.append_nil] at hb'
  refine wpAny_call (codeAny_mono (F.run a (suite X a).A (suite X a).stack s1 H1 ⟨us, []⟩ us vs Q E0 (roomH hr _) rfl I1.env0 hb' r q) fun r s' hq => ?_)
  cases r with
  | error e => exact hq.elim
  | ok fl =>
    cases fl with
    | ret u => exact I1.after hq
    | next => exact False.elim hq
    | brk => exact False.elim hq
    | cont => exact False.elim hq
end
end My
set_option Elab.async false
set_option linter.all false
set_option maxRecDepth 100000
set_option maxHeartbeats 1000000
namespace My
open PySem PySem.Spec PyProof.Rows L2
section
variable {X : Cx}
def rNeD (K : PySem.W.Frag) : R2 := fun x y H Q => ∃ a b n k, x = .ref a ∧ y = .ref b ∧ a ≠ b ∧ n ≤ 8 ∧ DEq K H n (.ref a) (.ref b) k ∧ Q (.bl (!k)) H
theorem op_neD (hu : X.A.units + 8 < cLine) : OpR X (compareOp .NotEq) (rNeD X.K) := by
  intro pins s σ H x y v u Q I rx ry h
  obtain ⟨a, b, n, k, rfl, rfl, ne, hn, q, z⟩ := h
  cases rx
  cases ry
  have r := (deq_ok I q X.A _ _ rfl rfl (by omega)).2 a b rfl rfl ne true X.xe (EP X pins σ Q)
  rw [Bool.true_bne] at r
  exact r ⟨.bl (!k), H, I, rfl, z⟩
end
section
variable {K : PySem.W.Frag} {H : Hp} {Q : VK} {a b : Addr} {n : Nat} {k : Bool}
theorem r_eqD (ne : a ≠ b) (hn : n ≤ 8) (q : DEq K H n (.ref a) (.ref b) k) (h : Q (.bl k) H) : rEqD K (.ref a) (.ref b) H Q := ⟨a, b, n, k, rfl, rfl, ne, hn, q, h⟩
theorem r_neD (ne : a ≠ b) (hn : n ≤ 8) (q : DEq K H n (.ref a) (.ref b) k) (h : Q (.bl (!k)) H) : rNeD K (.ref a) (.ref b) H Q := ⟨a, b, n, k, rfl, rfl, ne, hn, q, h⟩
end
end My
set_option Elab.async false
set_option linter.all false
set_option maxRecDepth 100000
set_option maxHeartbeats 1000000
namespace My
open PySem PySem.Spec PyProof.Rows L2
section
variable {K : PySem.W.Frag} {σ : L2.St} {H : Hp} {Q : VK} {D : Ends} {ta tv : TE} {t : TA} {f : Str} {C : Addr}
end
theorem okH {P : Program} {w : World} {K : PySem.W.Frag} {mg : Str → Option Value} {base : Heap} {x qual : Str} {st : Stmt} {f : Addr} {fd : FuncData} {N ps : List Str} {k : Nat} {sp : Sp} (F : Fun K x qual st f fd) (S : FnScope N ps (defScope st)) (len : ∀ vs H Q E, sp vs H Q E → vs.length = ps.length)
    (hbody : ∀ (cdv : Value) (a : Addr) (A : Around) (outer : List Env) (s : Shared) (H : Hp) (vs : List V) (Q : VK) (E : XK), RoomH k (A.deeper (envOfC qual (defScope st) s.heap.objs.size f cdv)) → sp vs H Q E →
      ∃ t, PSs (suite (cxOf CX0 P w K mg base N qual (defScope st) f cdv (calmA A) outer s H E) a) (defBody st) t ∧ t { nx := fun _ H' => Q .non H', rt := Q } (start N vs) H) : FnOkH P w K mg base (k + 1) f fd ps sp := by
  obtain ⟨oc, od, kV, doc, pm, an, cdv, ct, osl, rfl, lk, hcd⟩ := F.ex
  exact fn_ofH lk hcd S len fun a A outer s H vs Q E hr hsp => hbody cdv a A outer s H vs Q E hr hsp
end My
set_option Elab.async false
set_option linter.all false
set_option maxRecDepth 100000
set_option maxHeartbeats 1000000
namespace My
open PySem PySem.Spec PyProof.Rows L2
theorem RoomH.mono {j k : Nat} {A : Around} (r : RoomH k A) (h : j ≤ k) : RoomH j A := ⟨by have := r.dp; omega, by have := r.un; omega⟩
theorem FnOkH.mono {P : Program} {w : World} {K : PySem.W.Frag} {mg : Str → Option Value} {base : Heap} {j k : Nat} {f : Addr} {fd : FuncData} {ps : List Str} {sp : Sp} (F : FnOkH P w K mg base j f fd ps sp) (h : j ≤ k) : FnOkH P w K mg base k f fd ps sp :=
  ⟨F.len, fun a A outer s H args us vs Q E hr => F.run a A outer s H args us vs Q E (hr.mono h)⟩
theorem hu8 {k : Nat} {A : Around} (r : Room k A) : A.units + 8 < cLine := by have := r.un; omega
section
variable {K : PySem.W.Frag} {cs : List Addr} {i j : Nat} {c e : Addr}
end
def DEqs (K : PySem.W.Frag) (H : Hp) (n : Nat) : List V → List V → Prop
  | [], [] => True
  | x :: xs, y :: ys => DEq K H n x y true ∧ DEqs K H n xs ys
  | _, _ => False
theorem DEqs.len {K : PySem.W.Frag} {H : Hp} {n : Nat} : ∀ {xs ys : List V}, DEqs K H n xs ys → xs.length = ys.length
  | [], [], _ => rfl
  | _ :: _, _ :: _, h => congrArg (· + 1) (DEqs.len h.2)
  | [], _ :: _, h => h.elim
  | _ :: _, [], h => h.elim
theorem DEqs.get {K : PySem.W.Frag} {H : Hp} {n : Nat} : ∀ {xs ys : List V}, DEqs K H n xs ys → ∀ j (h1 : j < xs.length) (h2 : j < ys.length), DEq K H n xs[j] ys[j] true
  | [], [], _, j, h1, _ => absurd h1 (Nat.not_lt_zero j)
  | _ :: _, _ :: _, h, 0, _, _ => h.1
  | _ :: _, _ :: _, h, j + 1, h1, h2 => DEqs.get h.2 j (Nat.lt_of_succ_lt_succ h1) (Nat.lt_of_succ_lt_succ h2)
  | [], _ :: _, h, _, _, _ => h.elim
  | _ :: _, [], h, _, _, _ => h.elim
theorem deq_list {K : PySem.W.Frag} {H : Hp} {n : Nat} {a b : Addr} {xs ys : List V} (ha : SqL K H a xs) (hb : SqL K H b ys) (ne : a ≠ b) (h : DEqs K H n xs ys) : DEq K H (n + 1) (.ref a) (.ref b) true := by
  have z := DEq.ls (n := n) (e := fun _ => true) ha hb ne h.len h.get
  have e : (List.range xs.length).all (fun _ => true) = true := by simp
  rw [e] at z
  exact z
theorem DEqs.self {K : PySem.W.Frag} {H : Hp} {n : Nat} : ∀ {xs : List V}, (∀ x ∈ xs, DEq K H n x x true) → DEqs K H n xs xs
  | [], _ => trivial
  | x :: xs, h => ⟨h x (List.mem_cons_self ..), DEqs.self fun y hy => h y (List.mem_cons_of_mem _ hy)⟩
theorem deq_str {K : PySem.W.Frag} {H : Hp} {n : Nat} (z : Str) : DEq K H n (.str z) (.str z) true := by
  have w := DEq.flat (K := K) (H := H) (n := n) (x := .str z) (y := .str z) rfl rfl
  have e : eqV (.str z) (.str z) = true := by simp [eqV]
  rw [e] at w
  exact w
def SameBut (L : Addr) (H H' : Hp) : Prop := ∀ b o, b ≠ L → H b = some o → H' b = some o
theorem SameBut.at {H H' : Hp} {L : Addr} {o : HO} (e : SameBut L H H') : SameBut L H (upd H' L o) := fun b u hb q => by
  rw [upd_ne hb]; exact e b u hb q
theorem SameBut.same {H H1 H2 : Hp} {L : Addr} (e : SameBut L H H1) (s : Same H1 H2) : SameBut L H H2 := fun b u hb q => s b u (e b u hb q)
theorem SameBut.of {H H' : Hp} {L : Addr} (s : Same H H') : SameBut L H H' := fun b u _ q => s b u q
def Lives (d : Option Addr) (H : Hp) : Prop := ∀ dx, d = some dx → ∃ o, H dx = some o
theorem lives_none {H : Hp} : Lives none H := fun _ e => by cases e
section
variable {K : PySem.W.Frag} {H : Hp} {Q : VK} {a C c : Addr} {d : Option Addr} {b : Bool}
end
end My
set_option Elab.async false
set_option linter.all false
set_option maxRecDepth 100000
set_option maxHeartbeats 1000000
namespace My
open PySem PySem.Spec PyProof.Rows L2
def NoFrz (H : Hp) (a : Addr) : Prop := ∀ o u, H a ≠ some (.frz o u)
section
variable {X : Cx} {pins : List (Addr × Obj)} {σ : L2.St} {H H' : Hp} {s : Shared} {a : Addr} {kvs : List (Key × V)} {o : Obj}
theorem Inv.freeze (I : Inv X pins σ H s) (e : H a = some (.dK kvs)) (ho : s.heap.get? a = some o) : Inv X pins σ (upd H a (.frz o (.dK kvs))) s := by
  have ok := I.hok a _ e
  have z := I.write (x := a) (e := a) (o := .frz o (.dK kvs)) (h' := s.heap) (t' := s.toks) (by rw [e]; exact True.intro) (.inl rfl) (fun _ _ _ q => q) ⟨o, ho⟩ ⟨ho, ok⟩
  exact z
theorem Inv.thaw (I : Inv X pins σ H s) (e : H a = some (.frz o (.dK kvs))) (n0 : NoFrz X.H₀ a) : Inv X pins σ (upd H a (.dK kvs)) s := by
  have ne : ∀ b, H b = none → b ≠ a := fun b q z => by subst z; rw [e] at q; cases q
  have nk : ∀ b u, H b = some u → (∀ o' u', u ≠ .frz o' u') → b ≠ a := fun b u q z w => by subst w; rw [e] at q; cases q; exact z _ _ rfl
  refine ⟨I.ok, I.os, I.bare, ⟨I.base.keep, I.base.slot, fun b ob q n hx => ?_, I.base.there, fun b xs q => ?_, fun b ob u q => ?_, fun b ps q => ?_⟩, I.loc, I.cell, ?_, fun x c q => ?_, fun p hp => ?_, fun b u q => ?_, I.len⟩
  · have z := I.base.free b ob q n hx
    rw [upd_ne (ne b z)]; exact z
  · have z := I.base.tups b xs q
    rw [upd_ne (nk b _ z (by intro _ _ h; cases h))]; exact z
  · have z := I.base.frzs b ob u q
    rw [upd_ne (fun w => by subst w; exact n0 _ _ q)]; exact z
  · obtain ⟨m, z⟩ := I.base.tbls b ps q
    exact ⟨m, by rw [upd_ne (nk b _ z (by intro _ _ h; cases h))]; exact z⟩
  · have z := I.free
    rw [upd_ne (ne _ z)]; exact z
  · have z := I.freeC x c q
    rw [upd_ne (ne _ z)]; exact z
  · obtain ⟨p1, p2, p3⟩ := I.pin p hp
    exact ⟨p1, by rw [upd_ne (ne _ p2)]; exact p2, p3⟩
  · by_cases hb : b = a
    · subst hb
      rw [upd_same] at q
      cases q
      exact (I.hok b _ e).2
    · rw [upd_ne hb] at q
      exact (I.hok b u q).stay (fun _ _ _ r => r) (fun c r => by rw [upd_ne (nk c _ r (by intro _ _ h; cases h))]; exact r) fun c xs r => by rw [upd_ne (nk c _ r (by intro _ _ h; cases h))]; exact r
def Thaw (H0 H H' : Hp) : Prop := H' = H ∨ ∃ a o kvs, H a = some (.frz o (.dK kvs)) ∧ NoFrz H0 a ∧ H' = upd H a (.dK kvs)
theorem Inv.thawed (I : Inv X pins σ H s) (t : Thaw X.H₀ H H') : Inv X pins σ H' s := by
  rcases t with rfl | ⟨a, o, kvs, e, n, rfl⟩
  · exact I
  · exact Inv.thaw I e n
end
section
variable {X : Cx} {st : Stmt} {e : Expr} {t : TS} {te : TE}
def thE (H0 : Hp) (D : Ends) : Ends := { nx := fun σ H => ∃ H', Thaw H0 H H' ∧ D.nx σ H', rt := fun v H => ∃ H', Thaw H0 H H' ∧ D.rt v H', bk := fun σ H => ∃ H', Thaw H0 H H' ∧ D.bk σ H', ct := fun σ H => ∃ H', Thaw H0 H H' ∧ D.ct σ H' }
def tThA (H0 : Hp) (t : TS) : TS := fun D σ H => t (thE H0 D) σ H
theorem ps_thA (h : PS X st t) : PS X st (tThA X.H₀ t) := fun pins s σ H D I q => thn (h pins s σ H _ I q) fun f s' hs => by
  cases f with
  | next => obtain ⟨σ', H1, J, H2, th, q⟩ := hs; exact ⟨σ', H2, Inv.thawed J th, q⟩
  | brk => obtain ⟨σ', H1, J, H2, th, q⟩ := hs; exact ⟨σ', H2, Inv.thawed J th, q⟩
  | cont => obtain ⟨σ', H1, J, H2, th, q⟩ := hs; exact ⟨σ', H2, Inv.thawed J th, q⟩
  | ret u => obtain ⟨v, σ', H1, J, r, H2, th, q⟩ := hs; exact ⟨v, σ', H2, Inv.thawed J th, r, q⟩
def tThV (H0 : Hp) (t : TE) : TE := fun σ H Q => t σ H fun v H1 => ∃ H', Thaw H0 H1 H' ∧ Q v H'
theorem pe_thV (h : PE X e te) : PE X e (tThV X.H₀ te) := fun pins s σ H Q I q => thn (h pins s σ H _ I q) fun u s' ⟨v, H1, J, r, H2, th, q⟩ => ⟨v, H2, Inv.thawed J th, r, q⟩
end
theorem kvget {κ : Type} {kvs : List (κ × V)} {vs : List (κ × Value)} (r : KV kvs vs) : ∀ {i : Nat} {k : κ} {v : V}, kvs[i]? = some (k, v) → ∃ u, vs[i]? = some (k, u) ∧ RelV v u := by
  induction r with
  | nil => intro i k v e; simp at e
  | cons h t ih =>
    intro i k v e
    cases i with
    | zero =>
      simp only [List.getElem?_cons_zero, Option.some.injEq] at e ⊢
      subst e
      obtain ⟨h1, h2⟩ := h
      exact ⟨_, Prod.ext h1.symm rfl, h2⟩
    | succ i =>
      simp only [List.getElem?_cons_succ] at e ⊢
      exact ih e
theorem kV_rel {k : Key} {u : Value} (h : keyIs k u = true) : RelV (kV k) u := by
  rcases keyIs_shape h with ⟨i, t, rfl, rfl⟩ | ⟨x, t, rfl, rfl⟩
  · exact ⟨t, rfl⟩
  · exact ⟨t, rfl⟩
def ItD (d : Addr) (o : Obj) (kvs : List (Key × V)) : It :=
  ⟨fun i H => H d = some (.frz o (.dK kvs)) ∧ i < kvs.length, fun i H x H' => H' = H ∧ ∃ k v, kvs[i]? = some (k, v) ∧ x = kV k, fun i H => H d = some (.frz o (.dK kvs)) ∧ kvs.length ≤ i⟩
theorem frz_at {P : Program} {w : World} {H : Hp} {h : Heap} {d : Addr} {o : Obj} {kvs : List (Key × V)} {es : Array DictEntry} {ep : Nat} (ok : HOk P w H h) (e : H d = some (.frz o (.dK kvs))) (hd : o.data = .dict es ep) :
    ∃ vs, KV kvs vs ∧ h.DictAt (mixKind P w) d vs ep := by
  obtain ⟨ho, _, _, vs, rel, o', es', ep', ho', ex, hd', ks, ps, nd⟩ := ok d _ e
  rw [ho] at ho'
  cases ho'
  rw [hd] at hd'
  cases hd'
  exact ⟨vs, rel, o, es, ho, ex, hd, ks, ps, nd⟩
theorem turn_dict {P : Program} {w : World} {K : PySem.W.Frag} {tg : Expr} {o : Obj} {kvs : List (Key × V)} {es : Array DictEntry} {ep : Nat} (d it : Addr) (hd : o.data = .dict es ep) : Turn P w K tg (ItD d o kvs) [it] it (fun i h => h.IsKeyIter it d i kvs.length ep) where
  mem := by simp
  obj := fun i h st b hb => by
    have e : b = it := by simpa using hb
    subst e
    obtain ⟨ob, e, c, dd⟩ := st
    exact ⟨ob, e, fun v z => by rw [dd] at z; cases z⟩
  keep := fun i h h' st k => st.at fun ob e => k it (by simp) ob e
  item := by
    intro X hP hw hK hc i pins s σ H E I hf st hg
    subst hP hw hK
    obtain ⟨hfz, hi⟩ := hg
    obtain ⟨vs, rel, dat⟩ := frz_at I.hok hfz hd
    obtain ⟨f0, f1, f2, f3, f4, f5⟩ := hf it (by simp)
    have hl := rel.length
    obtain ⟨u, hu, ru⟩ := kvget rel (i := i) (k := kvs[i].1) (v := kvs[i].2) (by rw [List.getElem?_eq_getElem hi])
    rw [hl] at st
    refine wpAny_pyNext_dict_item st dat hu fun key h' hkey st' hs' => ?_
    have I1 : Inv X pins σ H { s with heap := h' } := I.turned (t' := s.toks) (fun b ob hb e => hs'.extBut b ob hb e) f0 f1 f3 f4 f5
    obtain ⟨ob, e, c, dd⟩ := id st'
    exact ⟨key, rfl, go_of (s := { s with heap := h' }) e c dd (by decide) ⟨kV kvs[i].1, H, I1, kV_rel hkey, ⟨rfl, kvs[i].1, kvs[i].2, List.getElem?_eq_getElem hi, rfl⟩, by rw [hl]; exact st', fun b hb => (hf b hb).1⟩⟩
  done := by
    intro X hP hw hK hc i pins s σ H E I hf st hg
    subst hP hw hK
    obtain ⟨hfz, hi⟩ := hg
    obtain ⟨vs, rel, dat⟩ := frz_at I.hok hfz hd
    obtain ⟨f0, f1, f2, f3, f4, f5⟩ := hf it (by simp)
    have hl := rel.length
    rw [hl] at st hi
    exact wpAny_pyNext_dict_end (I.ok.hd hc) st dat (by simpa using hi) fun h' eb => ⟨rfl, I.turned (t' := s.toks) (fun b ob hb e => eb b ob hb e) f0 f1 f3 f4 f5⟩
  self := fun _ _ _ _ _ st h => wpAny_pyIter_keyiter st h
def rItD (x : V) (H : Hp) (R : It → Hp → Prop) : Prop := ∃ a kvs, x = .ref a ∧ ((H a = some (.dK kvs) ∧ ∀ o, R (ItD a o kvs) (upd H a (.frz o (.dK kvs)))) ∨ ∃ o, H a = some (.frz o (.dK kvs)) ∧ R (ItD a o kvs) H)
def iDict (td : TE) : TI := fun σ H R => td σ H fun x H1 => rItD x H1 R
theorem dat_of {P : Program} {w : World} {H : Hp} {h : Heap} {d : Addr} {kvs : List (Key × V)} (ok : ObjOk P w H h d (.dK kvs)) : ∃ o es ep vs, h.get? d = some o ∧ o.data = .dict es ep ∧ KV kvs vs ∧ h.DictAt (mixKind P w) d vs ep ∧ (d == sysModules) = false := by
  obtain ⟨_, hs, vs, rel, o, es, ep, ho, ex, hd, ks, ps, nd⟩ := ok
  exact ⟨o, es, ep, vs, ho, hd, rel, ⟨o, es, ho, ex, hd, ks, ps, nd⟩, hs⟩
theorem pi_dict {X : Cx} {tg l : Expr} {tl : TE} (hl : PE X l tl) : PI X tg l (iDict tl) := by
  intro pins s σ H R I h
  refine thn (hl pins s σ H _ I h) fun v s1 ⟨x, H1, I1, r1, q1⟩ => ?_
  obtain ⟨a, kvs, e, q⟩ := q1
  subst e
  cases r1
  have ok : ObjOk X.prog X.w H1 s1.heap a (.dK kvs) := by
    rcases q with ⟨e, _⟩ | ⟨o, e, _⟩
    · exact I1.hok a _ e
    · exact (I1.hok a _ e).2
  obtain ⟨o, es, ep, vs, ho, hd, rel, dat, hs⟩ := dat_of ok
  have hlen := rel.length
  refine wpAny_pyIter_dict hs dat ?_
  have it0 : (s1.heap.push { cls := .type "dict_keyiterator", data := .fields #[.ref a, .int 0 0, .int vs.length 0, .int ep 0] }).IsKeyIter s1.heap.objs.size a 0 kvs.length ep := by
    rw [hlen]; exact ⟨_, Heap.get?_push_size _ rfl, rfl, rfl⟩
  rcases q with ⟨e, q⟩ | ⟨o', e, q⟩
  · have I2 := Inv.freeze I1 e ho
    refine ⟨s1.heap.objs.size, [s1.heap.objs.size], _, _, _, rfl, I2.kept (t' := s1.toks) fun b ob e => Heap.get?_push_of_some _ e, turn_dict (kvs := kvs) a _ hd, it0, fun b hb => ?_, q o⟩
    have e : b = s1.heap.objs.size := by simpa using hb
    subst e
    exact I2.fpOk (Nat.le_refl _) (I2.hok.fresh (Nat.le_refl _))
  · have eo : o' = o := by
      have z := (I1.hok a _ e).1
      rw [ho] at z
      cases z
      rfl
    subst eo
    refine ⟨s1.heap.objs.size, [s1.heap.objs.size], _, _, _, rfl, I1.kept (t' := s1.toks) fun b ob e => Heap.get?_push_of_some _ e, turn_dict (kvs := kvs) a _ hd, it0, fun b hb => ?_, q⟩
    have e : b = s1.heap.objs.size := by simpa using hb
    subst e
    exact I1.fpOk (Nat.le_refl _) (I1.hok.fresh (Nat.le_refl _))
section
variable {σ : L2.St} {H H' : Hp} {D : Ends} {t : TS} {te tl : TE} {Q : VK} {g : TG} {tb : TS} {a : Addr} {o : Obj} {kvs : List (Key × V)} {H0 : Hp} {v : V}
theorem r_thA (h : t (thE H0 D) σ H) : tThA H0 t D σ H := h
theorem r_thNx (th : Thaw H0 H H') (h : D.nx σ H') : (thE H0 D).nx σ H := ⟨H', th, h⟩
theorem r_thV (h : te σ H fun v H1 => ∃ H', Thaw H0 H1 H' ∧ Q v H') : tThV H0 te σ H Q := h
theorem thaw1 (e : H a = some (.frz o (.dK kvs))) (n : NoFrz H0 a) : Thaw H0 H (upd H a (.dK kvs)) := .inr ⟨a, o, kvs, e, n, rfl⟩
theorem r_iD {R : It → Hp → Prop} (h : tl σ H fun x H1 => rItD x H1 R) : iDict tl σ H R := h
theorem r_itD {R : It → Hp → Prop} (e : H a = some (.dK kvs)) (h : ∀ o, R (ItD a o kvs) (upd H a (.frz o (.dK kvs)))) : rItD (.ref a) H R := ⟨a, kvs, rfl, .inl ⟨e, h⟩⟩
theorem f_dict (Pv : Nat → L2.St → Hp → Prop) (h0 : Pv 0 σ H) (hl : ∀ i σ H, i ≤ kvs.length → Pv i σ H → H a = some (.frz o (.dK kvs)))
    (hs : ∀ i k v σ H, kvs[i]? = some (k, v) → Pv i σ H → g (kV k) σ H fun σ2 H2 => tb { nx := Pv (i + 1), rt := D.rt, bk := D.nx, ct := Pv (i + 1) } σ2 H2) (hd : ∀ σ H, Pv kvs.length σ H → D.nx σ H) : FOR (ItD a o kvs) g tb D σ H := by
  refine ⟨fun i m σ H => m = kvs.length - i ∧ i ≤ kvs.length ∧ Pv i σ H, ⟨kvs.length, rfl, Nat.zero_le _, h0⟩, ?_⟩
  rintro i m σ H ⟨rfl, hi, p⟩
  have q := hl i σ H hi p
  by_cases hlt : i < kvs.length
  · refine .inr ⟨⟨q, hlt⟩, Pv (i + 1), fun σ' H' p' => ⟨kvs.length - (i + 1), by omega, rfl, hlt, p'⟩, fun x H' y => ?_⟩
    obtain ⟨e, k, v, hk, rfl⟩ := y
    subst e
    exact hs i k v σ _ hk p
  · have e : i = kvs.length := Nat.le_antisymm hi (Nat.le_of_not_lt hlt)
    subst e
    exact .inl ⟨⟨q, Nat.le_refl _⟩, hd σ H p⟩
end
end My
set_option Elab.async false
set_option linter.all false
set_option maxRecDepth 100000
set_option maxHeartbeats 1000000
namespace My
open PySem PySem.Spec PyProof.Rows L2
theorem objOk_get {P : Program} {w : World} {H : Hp} {h : Heap} {a : Addr} {o : HO} (x : ObjOk P w H h a o) : ∃ u, h.get? a = some u := by
  induction o with
  | lst xs => obtain ⟨_, _, _, _, e⟩ := x; exact ⟨_, e⟩
  | tup xs => obtain ⟨_, _, _, ob, e, _⟩ := x; exact ⟨_, e⟩
  | dK kvs => obtain ⟨_, _, _, _, o, _, _, e, _⟩ := x; exact ⟨_, e⟩
  | dT kvs => obtain ⟨_, _, _, _, o, _, _, e, _⟩ := x; exact ⟨_, e⟩
  | set S n => obtain ⟨o, _, _, _, e, _⟩ := x; exact ⟨_, e⟩
  | ins C dx fs => obtain ⟨_, _, _, e, _⟩ := x; exact ⟨_, e⟩
  | own y => exact x
  | xd fs => obtain ⟨_, ⟨_, _, _, e, _⟩, _⟩ := x; exact ⟨_, e⟩
  | rng lo hi => obtain ⟨_, _, _, e⟩ := x; exact ⟨_, e⟩
  | frz ob u ih => exact ⟨_, x.1⟩
  | tbl ps => exact ⟨_, x⟩
  | met f y => exact ⟨_, x⟩
  | ext φ => exact x.2.1
theorem Inv.laidN {X : Cx} {pins : List (Addr × Obj)} {σ : L2.St} {H : Hp} {s : Shared} {h' : Heap} {a : Addr} {o : HO} {t' : Nat} (I : Inv X pins σ H s) (k : ∀ b u, s.heap.get? b = some u → h'.get? b = some u) (hg : s.heap.get? a = none) (new : ObjOk X.prog X.w (upd H a o) h' a o) :
    H a = none ∧ Inv X pins σ (upd H a o) { s with heap := h', toks := t' } := by
  have hn : H a = none := by
    cases q : H a with
    | none => rfl
    | some u => obtain ⟨v, e⟩ := objOk_get (I.hok a u q); rw [hg] at e; cases e
  refine ⟨hn, I.un ⟨fun b u q _ _ _ => k b u q, fun b u q _ _ _ => ⟨u.slots, k b u q⟩, fun b u q n _ => by rw [upd_ne (fun z => by subst z; rw [hg] at q; cases q)]; exact n, fun b u q _ => ⟨u, k b u q⟩, fun b xs q => by rw [upd_ne (ne_of_none q hn)]; exact q,
    fun b u xs q => by rw [upd_ne (ne_of_none q hn)]; exact q, fun b ps q => ⟨#[], by rw [upd_ne (ne_of_none q hn), q]; simp⟩⟩ fun b u e => ?_⟩
  by_cases hb : b = a
  · subst hb; rw [upd_same] at e; cases e; exact new
  · rw [upd_ne hb] at e
    exact (I.hok b u e).stay (fun c v _ q => k c v q) (fun c q => by rw [upd_ne (ne_of_none q hn)]; exact q) fun c xs q => by rw [upd_ne (ne_of_none q hn)]; exact q
section
variable {X : Cx}
def rDictCp : List V → Hp → VK → Prop := fun xs H Q => ∃ p kvs, xs = [.ref p] ∧ Rd H p (.dK kvs) ∧ ∀ q, H q = none → Q (.ref q) (upd H q (.dK kvs))
theorem call_dictR : CallR X (.type "dict") rDictCp := by
  intro pins s σ H xs us Q I hv h
  obtain ⟨p, kvs, rfl, e, q⟩ := h
  obtain ⟨u, rfl, ru⟩ := hv.one
  cases ru
  exact d_copyOf I e fun l s' hl I' => ⟨.ref l, _, I', rfl, q l hl⟩
theorem strs_of : ∀ {ss : List Str} {us : List Value}, Vals (ss.map V.str) us → StrsAre us ss
  | [], _, r => by cases r; exact .nil
  | x :: ss, _, r => by
    cases r with
    | cons h t => obtain ⟨k, rfl⟩ := h; exact .cons x k (strs_of t)
theorem vals_strs : ∀ {us : List Value} {ss : List Str}, StrsAre us ss → Vals (ss.map V.str) us
  | _, _, .nil => .nil
  | _, _, .cons x t h => .cons ⟨t, rfl⟩ (vals_strs h)
def rSortL (K : PySem.W.Frag) : List V → Hp → VK → Prop := fun xs H Q => ∃ p ss, xs = [.ref p] ∧ SqL K H p (ss.map V.str) ∧ ss.length < 64 ∧ ∀ l ss', H l = none → ss'.Perm ss → sortedS ss' = true → Q (.ref l) (upd H l (.lst (ss'.map V.str)))
theorem call_sortL : CallR X (.builtin "sorted") (rSortL X.K) := by
  intro pins s σ H xs us Q I hv h
  obtain ⟨p, ss, rfl, hS, hz, q⟩ := h
  obtain ⟨u, rfl, ru⟩ := hv.one
  cases ru
  obtain ⟨its, rv, pl, hz'⟩ := I.list hS
  have hlen := rv.length
  rw [List.length_map] at hlen
  refine sorted_strs (vs := its) (PlainL.isList pl) (strs_of rv) (by omega) fun out ss' a1 a2 a3 => ?_
  obtain ⟨e, he⟩ := sortedAll_at s.heap its out
  have hl2 := a2.length_eq
  have I2 := I.laid (a := s.heap.objs.size + 1) (o := .lst (ss'.map V.str)) (t' := s.toks) (fun b ob hb => sortedAll_old hb) (Nat.le_succ _) ⟨by rw [List.length_map, sizeLine_eq]; omega, out.toList, e, vals_strs a1, by simpa [seqObj] using he⟩
  exact ⟨.ref _, _, I2, rfl, q _ ss' (I.hok.fresh (Nat.le_succ _)) a2 a3⟩
def rSortD : List V → Hp → VK → Prop := fun xs H Q => ∃ p kvs ss, xs = [.ref p] ∧ Rd H p (.dK kvs) ∧ kvs.map (·.1) = ss.map Sum.inr ∧ ss.length < 64 ∧ ∀ l ss', H l = none → ss'.Perm ss → sortedS ss' = true → Q (.ref l) (upd H l (.lst (ss'.map V.str)))
theorem strs_keys {ss : List Str} {us : List Value} (hl : us.length = ss.length) (h : ∀ (j : Nat) (u : Value), us[j]? = some u → ∃ x, ss[j]? = some x ∧ keyIs (.inr x) u = true) : StrsAre us ss := by
  induction us generalizing ss with
  | nil => cases ss with
    | nil => exact .nil
    | cons _ _ => simp at hl
  | cons u us ih => cases ss with
    | nil => simp at hl
    | cons x ss =>
      obtain ⟨y, hy, hk⟩ := h 0 u rfl
      simp only [List.getElem?_cons_zero, Option.some.injEq] at hy
      subst hy
      rcases keyIs_shape hk with ⟨i, t, e, _⟩ | ⟨z, t, e, rfl⟩
      · cases e
      · cases e
        exact .cons x t (ih (by simpa using hl) fun j v hv => by have := h (j + 1) v (by simpa using hv); simpa using this)
theorem call_sortD (hc : X.calm = true) : CallR X (.builtin "sorted") rSortD := by
  intro pins s σ H xs us Q I hv h
  obtain ⟨p, kvs, ss, rfl, hR, hk, hz, q⟩ := h
  obtain ⟨u, rfl, ru⟩ := hv.one
  cases ru
  obtain ⟨o, es, ep, vs, ho, hd, rel, dat, hs⟩ := dat_of (hR.ok I.hok)
  have hlen := rel.length
  have hks := rel.keys
  have hl2 : kvs.length = ss.length := by have := congrArg List.length hk; simpa using this
  refine Calls.call_function_entry kind_sorted plain_sorted entry_sorted (args_sorted1 _) ?_
  unfold Builtin.«sorted»
  refine wpAny_bind (m := checkCount "sorted" 1 1 _) (wpAny_pure ?_)
  refine wpAny_bind (PySem.W.kdu_collect (A := X.A.in1) (PySem.W.kdl_dict (knd := mixKind X.prog X.w) (kvs := vs) (ep := ep) hs) (I.ok.hd hc) dat (by rw [sizeLine_eq]; omega) fun h' tk acc hkeep hacc => ?_)
  have hal : acc.toList.length = vs.length := by rw [Array.length_toList]; exact hacc.1
  refine wpAny_bind (wpAny_newList ?_ (by rw [hal, sizeLine_eq]; omega))
  have hS : StrsAre acc.toList ss := by
    refine strs_keys (by omega) fun j v hv => ?_
    obtain ⟨k, x, hx, hkv⟩ := hacc.2 j v (by rw [← Array.getElem?_toList]; exact hv)
    have e1 : (vs.map (·.1))[j]? = some k := by rw [List.getElem?_map, hx]; rfl
    rw [← hks, hk, List.getElem?_map] at e1
    obtain ⟨z, hz1, rfl⟩ := Option.map_eq_some_iff.mp e1
    exact ⟨z, hz1, hkv⟩
  have hoL : (h'.push { cls := .type "list", data := .seq acc.toList.toArray }).get? h'.objs.size = some (seqObj "list" acc.toList.toArray 0) := Heap.get?_push_size _ rfl
  refine wpAny_bind (wpAny_holding (wpAny_call_entry slot_list_sort ⟨_, hoL, rfl⟩ entry_list_sort (list_sort_treeK strKind_oneLt hoL hS.keysOf (fun v₁ v₂ rest e => keyKind_strs (by rw [← e]; exact hS)) (by omega) fun st' a1 a2 => ⟨_, rfl, ?_⟩) (args_list_sort _)))
  obtain ⟨ss', b1, b2, b3⟩ := sorted_out_str hS a1 a2
  obtain ⟨e, he⟩ := sortedHeap_at (out := (arrOf st').map (·.2)) hoL
  have hl3 := b2.length_eq
  have hg : s.heap.get? h'.objs.size = none := by
    cases q : s.heap.get? h'.objs.size with
    | none => rfl
    | some ob => exact absurd (Heap.lt_size (hkeep _ _ q)) (Nat.lt_irrefl _)
  obtain ⟨hn, I2⟩ := Inv.laidN I (h' := sortedHeap (h'.push { cls := .type "list", data := .seq acc.toList.toArray }) h'.objs.size acc.toList ((arrOf st').map (·.2))) (a := h'.objs.size) (o := .lst (ss'.map V.str)) (t' := tk) (fun b ob hb => by
    have hb' := hkeep b ob hb
    rw [sortedHeap_old (Nat.ne_of_lt (Heap.lt_size hb')) (by rw [size_push']; exact Nat.lt_succ_of_lt (Heap.lt_size hb'))]
    exact Heap.get?_push_of_some _ hb') hg ⟨by rw [List.length_map, sizeLine_eq]; omega, ((arrOf st').map (·.2)).toList, e, vals_strs b1, by rw [Array.toArray_toList]; exact he⟩
  exact wpAny_pure ⟨_, rfl, .ref _, _, I2, rfl, q _ ss' hn b2 b3⟩
end
section
variable {K : PySem.W.Frag} {H : Hp} {Q : VK} {p : Addr} {kvs : List (Key × V)} {ss : List Str}
theorem r_dictCp (e : Rd H p (.dK kvs)) (h : ∀ q, H q = none → Q (.ref q) (upd H q (.dK kvs))) : rDictCp [.ref p] H Q := ⟨p, kvs, rfl, e, h⟩
theorem r_tyD {B : Prop} (h : H p = some (.dK kvs)) (q : B) : tyV K "dict" (.ref p) H ∧ B := ⟨.inr (.inr (.inl ⟨rfl, .inl ⟨_, h⟩⟩)), q⟩
theorem r_sortL (e : SqL K H p (ss.map V.str)) (hz : ss.length < 64) (h : ∀ l ss', H l = none → ss'.Perm ss → sortedS ss' = true → Q (.ref l) (upd H l (.lst (ss'.map V.str)))) : rSortL K [.ref p] H Q := ⟨p, ss, rfl, e, hz, h⟩
theorem r_sortD (e : Rd H p (.dK kvs)) (hk : kvs.map (·.1) = ss.map Sum.inr) (hz : ss.length < 64) (h : ∀ l ss', H l = none → ss'.Perm ss → sortedS ss' = true → Q (.ref l) (upd H l (.lst (ss'.map V.str)))) : rSortD [.ref p] H Q := ⟨p, kvs, ss, rfl, e, hk, hz, h⟩
end
end My
set_option Elab.async false
set_option linter.all false
set_option maxRecDepth 100000
set_option maxHeartbeats 1000000
namespace My
open PySem PySem.Spec PyProof.Rows L2
structure AD (kvs : List (Key × V)) (f : Str → Option Int) : Prop where
  nd : (kvs.map (·.1)).Nodup
  sh : ∀ p ∈ kvs, ∃ z i, p = (Sum.inr z, V.int i)
  get : ∀ z, valV kvs (Sum.inr z) = (f z).map V.int
def noF : Str → Option Int := fun _ => none
def putF' (f : Str → Option Int) (z : Str) (i : Int) : Str → Option Int := fun y => if y = z then some i else f y
theorem AD.nil : AD [] noF := ⟨List.nodup_nil, fun p hp => absurd hp (by simp), fun z => rfl⟩
theorem AD.cast {kvs : List (Key × V)} {f g : Str → Option Int} (h : AD kvs f) (e : ∀ z, f z = g z) : AD kvs g := ⟨h.nd, h.sh, fun z => by rw [h.get, e]⟩
theorem putK_keys {kvs : List (Key × V)} {k : Key} {v : V} (h : valV kvs k ≠ none) : (putK kvs k v).map (·.1) = kvs.map (·.1) := by
  unfold putK
  have e : (kvs.any fun kv => decide (kv.1 = k)) = true := by rw [valV_any]; cases q : valV kvs k with
    | none => exact absurd q h
    | some _ => rfl
  rw [if_pos e, List.map_map]
  apply List.map_congr_left
  intro p _
  show (if p.1 = k then (p.1, v) else p).1 = p.1
  split <;> rfl
theorem putK_mem {kvs : List (Key × V)} {k : Key} {v : V} {p : Key × V} (h : p ∈ putK kvs k v) : p = (k, v) ∨ p ∈ kvs := by
  unfold putK at h
  split at h
  · obtain ⟨q, hq, e⟩ := List.mem_map.mp h
    split at e
    · rename_i ek; subst ek; exact .inl e.symm
    · subst e; exact .inr hq
  · rcases List.mem_append.mp h with h | h
    · exact .inr h
    · exact .inl (by simpa using h)
theorem AD.put {kvs : List (Key × V)} {f : Str → Option Int} (h : AD kvs f) (z : Str) (i : Int) : AD (putK kvs (Sum.inr z) (.int i)) (putF' f z i) := by
  refine ⟨?_, fun p hp => ?_, fun y => ?_⟩
  · cases q : valV kvs (Sum.inr z) with
    | none => exact nd_putK _ h.nd q
    | some v => rw [putK_keys (by rw [q]; simp)]; exact h.nd
  · rcases putK_mem hp with rfl | hp
    · exact ⟨z, i, rfl⟩
    · exact h.sh p hp
  · rw [valV_put]
    unfold putF'
    by_cases e : y = z
    · subst e; rw [if_pos rfl, if_pos rfl]; rfl
    · rw [if_neg (fun q => e (Sum.inr.inj q)), if_neg e]; exact h.get y
theorem AD.flat {kvs : List (Key × V)} {f : Str → Option Int} (h : AD kvs f) : ∀ p ∈ kvs, flatV p.2 = true := fun p hp => by
  obtain ⟨z, i, rfl⟩ := h.sh p hp
  rfl
theorem valV_of_mem {kvs : List (Key × V)} (nd : (kvs.map (·.1)).Nodup) {k : Key} {v : V} (h : (k, v) ∈ kvs) : valV kvs k = some v := by
  induction kvs with
  | nil => simp at h
  | cons p r ih =>
    rw [List.map_cons, List.nodup_cons] at nd
    rcases List.mem_cons.mp h with rfl | h
    · exact valV_pos rfl
    · have ne : ¬ p.1 = k := fun e => nd.1 (e ▸ List.mem_map.mpr ⟨(k, v), h, rfl⟩)
      rw [valV_neg ne]
      exact ih nd.2 h
theorem AD.mem {kvs : List (Key × V)} {f : Str → Option Int} (h : AD kvs f) {k : Key} {v : V} (hm : (k, v) ∈ kvs) : ∃ z n, k = Sum.inr z ∧ v = .int n ∧ f z = some n := by
  obtain ⟨z, n, e⟩ := h.sh _ hm
  cases e
  have q := valV_of_mem h.nd hm
  rw [h.get] at q
  cases hf : f z with
  | none => rw [hf] at q; cases q
  | some m => rw [hf] at q; cases q; exact ⟨z, _, rfl, rfl, hf⟩
def keysS (kvs : List (Key × V)) : List Str := kvs.filterMap fun p => match p.1 with | .inr z => some z | .inl _ => none
theorem AD.keys {kvs : List (Key × V)} {f : Str → Option Int} (h : AD kvs f) : kvs.map (·.1) = (keysS kvs).map Sum.inr := by
  have sh := h.sh
  clear h
  induction kvs with
  | nil => rfl
  | cons p r ih =>
    obtain ⟨z, i, rfl⟩ := sh p (List.mem_cons_self ..)
    show Sum.inr z :: r.map (·.1) = (z :: keysS r).map Sum.inr
    rw [List.map_cons, ih fun q hq => sh q (List.mem_cons_of_mem _ hq)]
theorem AD.klen {kvs : List (Key × V)} {f : Str → Option Int} (h : AD kvs f) : (keysS kvs).length = kvs.length := by
  have := congrArg List.length h.keys
  simpa using this.symm
theorem AD.knd {kvs : List (Key × V)} {f : Str → Option Int} (h : AD kvs f) : (keysS kvs).Nodup := by
  have nd := h.nd
  rw [h.keys] at nd
  exact List.Pairwise.imp (fun ne e => ne (congrArg Sum.inr e)) (List.pairwise_map.mp nd)
theorem AD.kin {kvs : List (Key × V)} {f : Str → Option Int} (h : AD kvs f) (z : Str) : z ∈ keysS kvs ↔ f z ≠ none := by
  constructor
  · intro hz
    have hm : (Sum.inr z : Key) ∈ kvs.map (·.1) := by rw [h.keys]; exact List.mem_map.mpr ⟨z, hz, rfl⟩
    obtain ⟨⟨k, v⟩, hp, e⟩ := List.mem_map.mp hm
    dsimp only at e
    subst e
    obtain ⟨z', n, e1, _, hf⟩ := h.mem hp
    cases e1
    rw [hf]; simp
  · intro hf
    cases q : f z with
    | none => exact absurd q hf
    | some n =>
      have hv := h.get z
      rw [q] at hv
      have hm := valV_in hv
      rw [h.keys] at hm
      obtain ⟨y, hy, e⟩ := List.mem_map.mp hm
      cases e
      exact hy
theorem nd_le : ∀ {l m : List Str}, l.Nodup → (∀ a ∈ l, a ∈ m) → l.length ≤ m.length
  | [], _, _, _ => Nat.zero_le _
  | a :: l, m, nd, h => by
    have ha := h a (List.mem_cons_self ..)
    rw [List.nodup_cons] at nd
    have q := nd_le (l := l) (m := m.erase a) nd.2 fun b hb => (List.mem_erase_of_ne (fun (e : b = a) => nd.1 (by rw [← e]; exact hb))).mpr (h b (List.mem_cons_of_mem _ hb))
    rw [List.length_erase_of_mem ha] at q
    have : 0 < m.length := List.length_pos_of_mem ha
    simp only [List.length_cons]
    omega
theorem AD.le {kvs : List (Key × V)} {f : Str → Option Int} (h : AD kvs f) {ws : List Str} (hs : ∀ z, f z ≠ none → z ∈ ws) : kvs.length ≤ ws.length := by
  rw [← h.klen]
  exact nd_le h.knd fun z hz => hs z ((h.kin z).mp hz)
theorem AD.eq {ka kb : List (Key × V)} {f : Str → Option Int} (h : AD ka f) (h' : AD kb f) : (ka.length == kb.length && ka.all fun p => (valV kb p.1).elim false (eqV p.2)) = true := by
  rw [Bool.and_eq_true, beq_iff_eq, List.all_eq_true]
  constructor
  · have l1 := nd_le h.knd fun z hz => (h'.kin z).mpr ((h.kin z).mp hz)
    have l2 := nd_le h'.knd fun z hz => (h.kin z).mpr ((h'.kin z).mp hz)
    rw [h.klen, h'.klen] at l1
    rw [h.klen, h'.klen] at l2
    omega
  · rintro ⟨k, v⟩ hp
    obtain ⟨z, n, rfl, rfl, hf⟩ := h.mem hp
    show ((valV kb (Sum.inr z)).elim false (eqV (.int n))) = true
    rw [h'.get, hf]
    show (n == n) = true
    simp
theorem AD.at {kvs : List (Key × V)} {f : Str → Option Int} (h : AD kvs f) {i : Nat} {k : Key} {v : V} (e : kvs[i]? = some (k, v)) : ∃ z n, k = Sum.inr z ∧ v = .int n ∧ f z = some n ∧ (keysS kvs)[i]? = some z := by
  obtain ⟨z, n, rfl, rfl, hf⟩ := h.mem (List.mem_of_getElem? e)
  refine ⟨z, n, rfl, rfl, hf, ?_⟩
  have q : (kvs.map (·.1))[i]? = some (Sum.inr z) := by rw [List.getElem?_map, e]; rfl
  rw [h.keys, List.getElem?_map] at q
  obtain ⟨y, hy, e⟩ := Option.map_eq_some_iff.mp q
  cases e
  exact hy
def leS (a b : Str) : Prop := ltCps b.cps.toList a.cps.toList = false
theorem leS_iff {a b : Str} : leS a b ↔ a.cps.toList ≤ b.cps.toList := by
  unfold leS
  rw [ltCps_eq, decide_eq_false_iff_not]
  exact List.not_lt
theorem leS_refl (a : Str) : leS a a := leS_iff.mpr (List.le_refl _)
theorem leS_trans {a b c : Str} (h : leS a b) (h' : leS b c) : leS a c := leS_iff.mpr (List.le_trans (leS_iff.mp h) (leS_iff.mp h'))
theorem leS_anti {a b : Str} (h : leS a b) (h' : leS b a) : a = b := by
  have e := List.le_antisymm (leS_iff.mp h) (leS_iff.mp h')
  obtain ⟨⟨x⟩⟩ := a
  obtain ⟨⟨y⟩⟩ := b
  have e' : x = y := e
  subst e'
  rfl
theorem rising_pw : ∀ {p : Str} {l : List Str}, risingS p l = true → (p :: l).Pairwise leS
  | p, [], _ => List.pairwise_singleton _ _
  | p, x :: r, h => by
    have h' : (!ltCps x.cps.toList p.cps.toList && risingS x r) = true := h
    rw [Bool.and_eq_true, Bool.not_eq_true'] at h'
    have q := rising_pw h'.2
    refine List.pairwise_cons.mpr ⟨fun y hy => ?_, q⟩
    rcases List.mem_cons.mp hy with rfl | hy
    · exact h'.1
    · exact leS_trans h'.1 (List.rel_of_pairwise_cons q hy)
theorem sorted_pw : ∀ {l : List Str}, sortedS l = true → l.Pairwise leS
  | [], _ => List.Pairwise.nil
  | x :: r, h => rising_pw h
def gN (f : Str → Option Int) (z : Str) : Int := (f z).getD 0
def addF (f g : Str → Option Int) : Str → Option Int := fun y => match g y with | none => f y | some b => some (gN f y + b)
def posF (f : Str → Option Int) : Str → Option Int := fun y => match f y with | none => none | some a => if 0 < a then some a else none
theorem gN_get {kvs : List (Key × V)} {f : Str → Option Int} (h : AD kvs f) (z : Str) : (valV kvs (Sum.inr z)).getD (.int 0) = .int (gN f z) := by
  rw [h.get]
  unfold gN
  cases f z <;> rfl
theorem take_succ_mem {l : List Str} {i : Nat} {z : Str} (h : l[i]? = some z) (y : Str) : y ∈ l.take (i + 1) ↔ y ∈ l.take i ∨ y = z := by
  rw [List.take_add_one, h, List.mem_append]
  simp
end My
set_option Elab.async false
set_option linter.all false
set_option maxRecDepth 100000
set_option maxHeartbeats 1000000
namespace My
open PySem PySem.Spec PyProof.Rows L2
section
variable {prog : Program} {w : World} {A : Around} {s : Shared} {E Q : Value → Shared → Prop} {r : Addr} {n : Int} {t u v : Tok}
end
section
variable {X : Cx}
end
section
variable {σ : L2.St} {H : Hp} {D : Ends} {Q : VK} {g : TG} {tb : TS} {ta : TA} {j : Int} {p : Addr} {n : Nat}
end
end My
set_option Elab.async false
set_option linter.all false
set_option maxRecDepth 100000
set_option maxHeartbeats 1000000
namespace My
open PySem PySem.Spec PyProof.Rows L2
section
variable {K : PySem.W.Frag} {σ : L2.St} {H H' : Hp} {Q : VK} {D : Ends} {td ty tx tv : TE} {a b p : Addr} {kvs kb : List (Key × V)} {f : Str → Option Int} {z : Str} {n : Int} {v : V} {o : Obj}
def rDG (a : Addr) (y z : V) (H : Hp) (Q : VK) : Prop := ∃ o, DGet H a y o ∧ Q (o.getD z) H
def kDG2 (ty tx : TE) (σ : L2.St) (Q : VK) (x : V) (H : Hp) : Prop := ∃ a, x = .ref a ∧ IsD H a ∧ ty σ H fun y H2 => tx σ H2 fun z H3 => rDG a y z H3 Q
theorem r_dg2 (h : td σ H fun x H1 => kDG2 ty tx σ Q x H1) : tDGet2 td ty tx σ H Q := h
theorem r_dg2a (d : Rd H a (.dK kvs)) (h : ty σ H fun y H2 => tx σ H2 fun z H3 => rDG a y z H3 Q) : kDG2 ty tx σ Q (.ref a) H := ⟨a, rfl, .inl ⟨kvs, d⟩, h⟩
theorem r_dg2b (d : Rd H a (.dK kvs)) (A : AD kvs f) (h : Q (.int (gN f z)) H) : rDG a (.str z) (.int 0) H Q := by
  refine ⟨valV kvs (Sum.inr z), .inl ⟨kvs, Sum.inr z, d, rfl, rfl⟩, ?_⟩
  rw [gN_get A]
  exact h
def rDGk (x y : V) (H : Hp) (Q : VK) : Prop := ∃ a v, x = .ref a ∧ DGet H a y (some v) ∧ Q v H
theorem r_dg (h : td σ H fun x H1 => ty σ H1 fun y H2 => rDGk x y H2 Q) : tDGet td ty σ H Q := h
theorem r_dgk (d : Rd H a (.dK kvs)) (A : AD kvs f) (e : f z = some n) (h : Q (.int n) H) : rDGk (.ref a) (.str z) H Q :=
  ⟨a, .int n, rfl, .inl ⟨kvs, Sum.inr z, d, rfl, by rw [A.get, e]; rfl⟩, h⟩
def rDP (x y v : V) (H : Hp) (D : Ends) (σ : L2.St) : Prop := ∃ a H4, x = .ref a ∧ DPut H a y v H4 ∧ D.nx σ H4
theorem r_dp (h : tv σ H fun v H1 => td σ H1 fun x H2 => ty σ H2 fun y H3 => rDP x y v H3 D σ) : sDPut td ty tv D σ H := h
theorem r_dpk (e : H a = some (.dK kvs)) (hz : kvs.length < sizeLine) (h : D.nx σ (upd H a (.dK (putK kvs (Sum.inr z) v)))) : rDP (.ref a) (.str z) v H D σ := ⟨a, _, rfl, DPut.k (k := Sum.inr z) e hz, h⟩
def rDI (x y : V) (H : Hp) (Q : VK) : Prop := ∃ a o, x = .ref a ∧ DGet H a y o ∧ Q (.bl o.isSome) H
theorem r_di (h : ty σ H fun y H1 => td σ H1 fun x H2 => rDI x y H2 Q) : tDIn ty td σ H Q := h
theorem r_dnew (h : ∀ p, H p = none → Q (.ref p) (upd H p (.dK []))) : tDNewK σ H Q := h
theorem noFrz_dK (e : H a = some (.dK kvs)) : NoFrz H a := fun o u z => by rw [e] at z; cases z
theorem rd_new (d : Rd H a (.dK kvs)) (n : H p = none) {u : HO} : Rd (upd H p u) a (.dK kvs) := by
  rcases d with d | ⟨o, d⟩
  · exact .inl (look_new d n)
  · exact .inr ⟨o, look_new d n⟩
theorem rd_in (d : Rd H b (.dK kb)) (ea : H a = some (.dK kvs)) (sb : SameBut a H H') (fz : H' a = some (.frz o (.dK kvs))) : Rd H' b (.dK kb) := by
  by_cases e : b = a
  · subst e
    rcases d with d | ⟨o', d⟩
    · rw [ea] at d; cases d; exact .inr ⟨o, fz⟩
    · rw [ea] at d; cases d
  · rcases d with d | ⟨o', d⟩
    · exact .inl (sb _ _ e d)
    · exact .inr ⟨o', sb _ _ e d⟩
theorem same_thaw (e : H a = some (.dK kvs)) (sb : SameBut a H H') : Same H (upd H' a (.dK kvs)) := fun b u q => by
  by_cases h : b = a
  · subst h; rw [upd_same]; rw [e] at q; exact q
  · rw [upd_ne h]; exact sb b u h q
theorem sb_frz (e : H a = some (.dK kvs)) : SameBut a H (upd H a (.frz o (.dK kvs))) := fun b u h q => by rw [upd_ne h]; exact q
theorem sb_put {l : Addr} {u : HO} (sb : SameBut a H H') (n : H l = none) : SameBut a H (upd H' l u) := fun b w h q => by
  rw [upd_ne (ne_of_none q n)]; exact sb b w h q
theorem same_put {l : Addr} {u : HO} (s : Same H H') (n : H l = none) : Same H (upd H' l u) := fun b w q => by rw [upd_ne (ne_of_none q n)]; exact s b w q
end
def viol (f g : Str → Option Int) (y : Str) : Prop := f y ≠ none ∧ gN g y < gN f y
theorem addF_sup {f g : Str → Option Int} {ws : List Str} (hf : ∀ z, f z ≠ none → z ∈ ws) (hg : ∀ z, g z ≠ none → z ∈ ws) (z : Str) (h : addF f g z ≠ none) : z ∈ ws := by
  unfold addF at h
  cases e : g z with
  | none => rw [e] at h; exact hf z h
  | some b => exact hg z (by rw [e]; simp)
theorem step_put {l : List Str} {i : Nat} {z : Str} (h : l[i]? = some z) (F G : Str → Option Int) {v : Int} (hv : F z = some v) (y : Str) : putF' (fun y => if y ∈ l.take i then F y else G y) z v y = if y ∈ l.take (i + 1) then F y else G y := by
  unfold putF'
  by_cases e : y = z
  · subst e
    rw [if_pos rfl, if_pos ((take_succ_mem h y).mpr (.inr rfl)), hv]
  · rw [if_neg e]
    by_cases e2 : y ∈ l.take i
    · rw [if_pos ((take_succ_mem h y).mpr (.inl e2))]; exact if_pos e2
    · rw [if_neg (fun q => ((take_succ_mem h y).mp q).elim e2 e)]; exact if_neg e2
theorem step_no {l : List Str} {i : Nat} {z : Str} (h : l[i]? = some z) (F G : Str → Option Int) (hv : F z = G z) (y : Str) : (if y ∈ l.take i then F y else G y) = if y ∈ l.take (i + 1) then F y else G y := by
  by_cases e2 : y ∈ l.take i
  · rw [if_pos e2, if_pos ((take_succ_mem h y).mpr (.inl e2))]
  · rw [if_neg e2]
    by_cases e : y = z
    · subst e
      rw [if_pos ((take_succ_mem h y).mpr (.inr rfl)), hv]
    · rw [if_neg (fun q => ((take_succ_mem h y).mp q).elim e2 e)]
theorem step_end {kvs : List (Key × V)} {g : Str → Option Int} (hB : AD kvs g) (F G : Str → Option Int) (hn : ∀ y, g y = none → F y = G y) (y : Str) : (if y ∈ (keysS kvs).take kvs.length then F y else G y) = F y := by
  rw [← hB.klen, List.take_length]
  by_cases e : y ∈ keysS kvs
  · rw [if_pos e]
  · rw [if_neg e]
    refine (hn y ?_).symm
    cases hf : g y with
    | none => rfl
    | some n => exact absurd ((hB.kin y).mpr (by rw [hf]; simp)) e
end My
set_option Elab.async false
set_option linter.all false
set_option maxRecDepth 100000
set_option maxHeartbeats 1000000
namespace My
open PySem PySem.Spec PyProof.Rows L2
section
variable {X : Cx}
theorem ps_comp {elt iter : Expr} {x y : Str} {px py : Pos} {ifs : List Expr} {scope : Scope} {cl : List (Str × Addr)} {pos spos : Pos} {caps : List Nat} {cn : List Str} {wi : TI} {tt : CT TT} {te : CT TE} {j : Nat} (Cp : Caps X x scope cl caps cn) (hc : X.calm = true)
    (hN : X.N.Nodup) (hy : X.N[j]? = some y) (hly : X.env.scope.names.lookup y = some .local)
    (hi : PI X (.Name x px) iter wi) (ht : ∀ C s H fp, PIfs (cxC X (x :: cn) scope cl C s H fp) ifs (tt C s H fp)) (he : ∀ C s H fp, PE (cxC X (x :: cn) scope cl C s H fp) elt (te C s H fp))
    (hsw : swapsWith (.ListComp elt [⟨.Name x px, iter, ifs, 0⟩] scope pos) (some (.Name y py)) spos.line X.env = pure true := by rfl) (hs : ∀ x, foldedSetIterable iter X.env x = pure x := by intro _; rfl) :
    PS X (.Assign [.Name y py] (.ListComp elt [⟨.Name x px, iter, ifs, 0⟩] scope pos) spos) (tAsg (tComp wi caps tt te) (gName j)) := by
  intro pins s σ H D I h
  replace h : tComp wi caps tt te σ H (fun v H1 => D.nx (σ.set j (some v)) H1) := h
  rw [exec_Assign_Name_used _ _ _ _ hsw]
  refine wpAny_bind (wpAny_standAt (wpAny_bind ?_))
  show wpAny _ X.A (do let _ ← comprehension (.ListComp elt [⟨.Name x px, iter, ifs, 0⟩] scope pos) scope X.env _ (newList []) false (eval iter X.env) (some (assign (.Name y py) X.env))) _ _ s
  refine wpAny_bind (wpAny_mono (wpAny_comprehension_free (use := some (assign (.Name y py) X.env)) (Q := fun _ s' => SP X pins D .next s') rfl hs Cp.clos Cp.kind Cp.names
    (thn (hi pins s σ H _ I h) fun v s1 h1 => thn h1 fun itv s2 h2 => ?_)) (fun _ s' hq => wpAny_pure (wpAny_pure hq)) fun _ _ e => e)
  obtain ⟨it, fp, tn, J, H2, e, I2, T, st2, f2, R⟩ := h2
  subst e
  have hacc : H2 s2.heap.objs.size = none := I2.hok.fresh (Nat.le_refl _)
  refine wpAny_newObj_type ?_
  have I3 : Inv X pins σ (upd H2 s2.heap.objs.size (.lst [])) { s2 with heap := s2.heap.push { cls := .type "list", dict := none, data := .seq ([] : List Value).toArray } } := Inv.lnew (its := []) (t' := s2.toks) I2 .nil (Nat.zero_le _)
  have lt2 : ∀ b ∈ fp, b < s2.heap.objs.size := fun b hb => let ⟨o, e, _⟩ := T.obj _ _ st2 b hb; Heap.lt_size e
  have f3 : ∀ b ∈ fp, FpOk X pins (upd H2 s2.heap.objs.size (.lst [])) b := fun b hb => ⟨by rw [upd_ne (Nat.ne_of_lt (lt2 b hb))]; exact (f2 b hb).1, (f2 b hb).2⟩
  have st3 : tn 0 (s2.heap.push { cls := .type "list", dict := none, data := .seq ([] : List Value).toArray }) := T.keep _ _ _ st2 fun b _ o e => Heap.get?_push_of_some _ e
  generalize hs3 : ({ s2 with heap := s2.heap.push { cls := .type "list", dict := none, data := .seq ([] : List Value).toArray } } : Shared) = s3 at I3 ⊢
  have st3' : tn 0 s3.heap := by rw [← hs3]; exact st3
  generalize s2.heap.objs.size = acc at hacc I3 f3 ⊢
  obtain ⟨W, ⟨m0, w0⟩, turn⟩ := R s3.heap.objs.size s3 (upd H2 acc (.lst [])) fp acc hacc
  have lt3 : ∀ b ∈ fp, b < s3.heap.objs.size := fun b hb => let ⟨o, e, _⟩ := T.obj _ _ st3' b hb; Heap.lt_size e
  clear st3 hs3
  refine wpAny_newFunctionEnv Cp.cell (by intro y hy; simp at hy) (fun h₁ hns hsb => ?_) Cp.kind
  have k1 : ∀ b o, s3.heap.get? b = some o → h₁.get? b = some o := fun b o e => hsb.extBut b o (Nat.ne_of_lt (Heap.lt_size e)) (Heap.get?_push_of_some _ e)
  have I4 : Inv (cxC X (x :: cn) scope cl s3.heap.objs.size s3 (upd H2 acc (.lst [])) fp) [] (none :: capsOf caps σ) (upd H2 acc (.lst [])) { s3 with heap := h₁, toks := s3.toks + ([] : List (Str × Value)).length } :=
    Inv.comp Cp I3 f3 lt3 hns k1
  have st4 : tn 0 h₁ := T.keep _ _ _ st3' fun b _ o e => k1 b o e
  generalize hX : cxC X (x :: cn) scope cl s3.heap.objs.size s3 (upd H2 acc (.lst [])) fp = X' at I4
  have stat : ∀ {H' : Hp}, (∀ b ∈ fp, H' b = none) → ∀ b ∈ fp, FpOk X' [] H' b := fun hn b hb => by
    subst hX
    obtain ⟨g0, g1, g2, g3, g4, g5⟩ := f3 b hb
    refine ⟨hn b hb, Nat.ne_of_lt (lt3 b hb), fun z => ?_, .inl hb, fun y c e => g4 y c (Cp.sub y c e), fun p hp => absurd (show p ∈ ([] : List (Addr × Obj)) from hp) (by simp)⟩
    rcases List.mem_cons.mp (I3.stkSub b z) with z | z
    · exact g1 z
    · exact g2 z
  have core : codeAny (model X.prog X.w) X.A (.compLoop (.ListComp elt [⟨.Name x px, iter, ifs, 0⟩] scope pos) 0 (.ref it) (.ref acc) (compEnvC scope cl s3.heap.objs.size X.env))
      (compPost (model X.prog X.w) X.A X.xe (some (assign (.Name y py) X.env)) (fun _ s' => SP X pins D .next s') (.ref acc) s3.heap.objs.size) { s3 with heap := h₁, toks := s3.toks + ([] : List (Str × Value)).length } := by
    refine codeAny_loop rfl (fun n s' => ∃ i a H', Inv X' [] (a :: capsOf caps σ) H' s' ∧ tn i s'.heap ∧ (∀ b ∈ fp, H' b = none) ∧ W i n H') (fun n s5 hI => ?_) m0 ⟨0, none, _, I4, st4, fun b hb => (f3 b hb).1, w0⟩
    obtain ⟨i, a0, H5, I5, st5, fr5, w5⟩ := hI
    show wpAny _ _ ((compTurn _ 0 _ _ _).onRaise _) _ _ s5
    refine wpAny_noted ?_
    rw [compTurn_list]
    refine wpAny_bind (wpAny_standAt (wpAny_bind ?_))
    have aX : X'.A = X.A := by subst hX; rfl
    have pX : X'.prog = X.prog := by subst hX; rfl
    have wX : X'.w = X.w := by subst hX; rfl
    have kX : X'.K = X.K := by subst hX; rfl
    have cX : X'.calm = true := by subst hX; exact hc
    have eX : X'.env = compEnvC scope cl s3.heap.objs.size X.env := by subst hX; rfl
    rcases turn i n H5 w5 with ⟨stop, qn⟩ | ⟨go, N, hN, step⟩
    · have z := T.done X' pX wX kX cX i [] s5 _ H5 (fun _ _ => False) I5 (stat fr5) st5 stop
      rw [aX] at z
      refine wpAny_mono z (fun r s6 ⟨hr, I6⟩ => ?_) fun _ _ q => q.elim
      subst hr
      subst hX
      obtain ⟨m, hm, _⟩ := id I6.loc
      have J0 : Inv X pins σ H5 s6 := Inv.uncomp I3 f3 rfl I6 (h' := s6.heap) ⟨rfl, fun _ _ => rfl⟩
      have fC : FpOk X pins H5 s3.heap.objs.size := I3.fpOk (Nat.le_refl _) I6.free
      refine wpAny_pure ?_
      show wpAny _ X.A (assign (.Name y py) X.env (.ref acc)) _ _ s6
      refine wpAny_assign_Name (store_ok2 (X := X) (v := .ref acc) J0 hN hy (.inl hly) rfl (fun s7 I7 ⟨a, sb, ha⟩ => ?_) (.inr hly))
      have nC : s3.heap.objs.size ≠ a := by
        rcases ha with rfl | ha
        · exact fC.2.1
        · exact (fC.2.2.2.2.1 y a ha).symm
      refine ⟨m, hm.sameBut sb nC, fun h' sb' => ⟨_, H5, ?_, qn⟩⟩
      exact I7.turned (t' := s7.toks) (fun b o hb e => (sb'.2 b hb).trans e) fC.1 fC.2.1 fC.2.2.2.1 fC.2.2.2.2.1 fC.2.2.2.2.2
    · have z := T.item X' pX wX kX cX i [] s5 _ H5 (fun _ _ => False) I5 (stat fr5) st5 go
      rw [aX] at z
      refine wpAny_mono z (fun r s6 ⟨u, hr, h6⟩ => ?_) fun _ _ q => q.elim
      subst hr
      refine wpAny_bind (wpAny_mono h6 (fun _ s7 ⟨v, H7, I7, r7, y7, st7, fr7⟩ => ?_) fun _ _ q => q.elim)
      have I7' := I7.pinned (stat fr7) (T.obj _ _ st7)
      have asg : wpAny (model X.prog X.w) X.A (assign (.Name x px) (compEnvC scope cl s3.heap.objs.size X.env) u) (fun _ s8 => Inv X' ([] ++ pinsAt fp s7.heap) (some v :: capsOf caps σ) H7 s8) (fun _ _ => False) s7 := by
        subst hX
        exact wpAny_assign_Name (store_ok (X := cxC X (x :: cn) scope cl s3.heap.objs.size s3 (upd H2 acc (.lst [])) fp) (i := 0) I7' Cp.nd rfl (.inl (lookup_relabel_local Cp.tg)) r7 (fun s' I' => I') (.inr (lookup_relabel_local Cp.tg)))
      refine wpAny_bind (wpAny_mono asg (fun _ s8 I8 => ?_) fun _ _ q => q.elim)
      have tst : wpAny (model X.prog X.w) X.A (forIn ifs true fun c r => if r = true then do let ok ← isTrue c (compEnvC scope cl s3.heap.objs.size X.env) (eval c (compEnvC scope cl s3.heap.objs.size X.env)); pure (ForInStep.yield ok) else pure (ForInStep.yield r))
          (TP X' ([] ++ pinsAt fp s7.heap) (some v :: capsOf caps σ) (fun b H9 => if b = true then te s3.heap.objs.size s3 (upd H2 acc (.lst [])) fp (some v :: capsOf caps σ) H9 (fun y H3 => rApp acc N y H3) else N H9)) (fun _ _ => False) s8 := by
        subst hX
        exact ht _ _ _ _ _ s8 _ H7 _ I8 (step v H7 y7)
      refine wpAny_bind (wpAny_mono tst (fun b s9 ⟨H9, I9, q9⟩ => ?_) fun _ _ q => q.elim)
      have fin : ∀ {a : Option V} {H10 : Hp} {s10 : Shared}, Inv X' ([] ++ pinsAt fp s7.heap) (a :: capsOf caps σ) H10 s10 → N H10 → ∃ m', m' < n ∧ ∃ i a H', Inv X' [] (a :: capsOf caps σ) H' s10 ∧ tn i s10.heap ∧ (∀ b ∈ fp, H' b = none) ∧ W i m' H' := fun {a H10 s10} I10 n10 =>
        let ⟨m', hm, w10⟩ := hN _ n10
        ⟨m', hm, i + 1, a, H10, I10.unpinned, T.keep _ _ _ st7 fun b hb o e => (I10.pin (b, o) (List.mem_append_right _ (List.mem_append_right _ (mem_pinsAt hb e)))).1, fun b hb => by
          obtain ⟨o, e, d⟩ := T.obj _ _ st7 b hb
          exact (I10.pin (b, o) (List.mem_append_right _ (List.mem_append_right _ (mem_pinsAt hb e)))).2.1, w10⟩
      cases b with
      | false => exact wpAny_pure ⟨rfl, fin I9 q9⟩
      | true =>
        have elt' : wpAny (model X.prog X.w) X.A (eval elt (compEnvC scope cl s3.heap.objs.size X.env)) (EP X' ([] ++ pinsAt fp s7.heap) (some v :: capsOf caps σ) (fun y H3 => rApp acc N y H3)) (fun _ _ => False) s9 := by
          subst hX
          exact he _ _ _ _ _ s9 _ H9 _ I9 q9
        refine wpAny_bind (wpAny_bind (wpAny_mono elt' (fun y s10 ⟨w, H10, I10, r10, ys, ha, hz, q10⟩ => ?_) fun _ _ q => q.elim))
        have app : wpAny (model X.prog X.w) X.A (call (.builtin "list.append") [.ref acc, y]) (EP X' ([] ++ pinsAt fp s7.heap) (some v :: capsOf caps σ) fun _ H11 => H11 = upd H10 acc (.lst (ys ++ [w]))) (fun _ _ => False) s10 := by
          subst hX
          exact mt_append (X := cxC X (x :: cn) scope cl s3.heap.objs.size s3 (upd H2 acc (.lst [])) fp) _ s10 _ H10 (.ref acc) [w] (.ref acc) [y] _ I10 rfl (.cons r10 .nil) ⟨acc, ys, w, rfl, rfl, ha, hz, rfl⟩
        refine wpAny_bind (wpAny_mono app (fun _ s11 ⟨_, H11, I11, _, e11⟩ => ?_) fun _ _ q => q.elim)
        subst e11
        exact wpAny_pure (wpAny_pure ⟨rfl, fin I11 q10⟩)
  exact codeAny_compStart_list core (T.self _ 0 _ _ _ st4 core)
end
end My
set_option Elab.async false
set_option linter.all false
set_option maxRecDepth 100000
set_option maxHeartbeats 1000000
namespace My
open PySem PySem.Spec PyProof.Rows L2
section
variable {X : Cx} {pins : List (Addr × Obj)} {σ : L2.St} {H : Hp} {s : Shared} {h' : Heap}
theorem Inv.turnedT {t' : Nat} {ch : List Addr} {T : Addr} {ob : HO} (I : Inv X pins σ H s) (hf : ∀ b ∈ ch, FpOk X pins H b) (k : ∀ b o, b ∉ ch → s.heap.get? b = some o → h'.get? b = some o) (hT : s.heap.get? T = none) (hn : H T = none) (new : ObjOk X.prog X.w (upd H T ob) h' T ob) :
    Inv X pins σ (upd H T ob) { s with heap := h', toks := t' } := by
  have nit : ∀ b u, H b = some u → b ∉ ch := fun b u e z => by rw [(hf b z).1] at e; cases e
  refine I.step (g' := s.gens) (d' := s.drawn) (ch := ch) (fun b hb => ⟨(hf b hb).2.2.2.1, (hf b hb).2.1, (hf b hb).2.2.2.2.1, (hf b hb).2.2.2.2.2⟩) (fun b o _ _ hc e _ => k b o hc e) (fun b o _ _ hc e _ => ⟨o.slots, k b o hc e⟩)
    (fun b o _ e n => by rw [upd_ne (fun z => by subst z; rw [hT] at e; cases e)]; exact n)
    (fun b o hc e => ⟨o, k b o hc e⟩) (fun b xs e => by rw [upd_ne (ne_of_none e hn)]; exact e) (fun b o u e => by rw [upd_ne (ne_of_none e hn)]; exact e) (fun b ps e => ⟨#[], by rw [upd_ne (ne_of_none e hn), e]; simp⟩) (fun m hm => ?_) (fun b u e => ?_) I.bare
  · obtain ⟨o, es, ep, ho, r⟩ := hm
    exact ⟨o, es, ep, k _ o (fun z => (hf _ z).2.1 rfl) ho, r⟩
  · by_cases hb : b = T
    · subst hb; rw [upd_same] at e; cases e; exact new
    · rw [upd_ne hb] at e
      refine (I.hok b u e).stay (fun c v hc q => k c v ?_ q) (fun c q => by rw [upd_ne (ne_of_none q hn)]; exact q) fun c xs q => by rw [upd_ne (ne_of_none q hn)]; exact q
      rcases hc with rfl | hc
      · exact nit _ _ e
      · exact nit _ _ hc
end
section
variable {K : PySem.W.Frag} {σ : L2.St} {H : Hp} {D : Ends} {g : TG} {tb : TS} {ta : TA} {l1 l2 : Addr} {xs ys : List V}
end
end My
set_option Elab.async false
set_option linter.all false
set_option maxRecDepth 100000
set_option maxHeartbeats 1000000
namespace My
open PySem PySem.Spec PyProof.Rows L2
section
variable {prog : Program} {w : World} {A : Around} {E : Value → Shared → Prop} {s : Shared}
end
section
variable {X : Cx}
def rMax : List V → Hp → VK → Prop := fun xs H Q => ∃ i j, xs = [.int i, .int j] ∧ Q (.int (if j > i then j else i)) H
def rMin : List V → Hp → VK → Prop := fun xs H Q => ∃ i j, xs = [.int i, .int j] ∧ Q (.int (if j < i then j else i)) H
theorem call_maxR (hc : X.calm = true) : CallR X (.builtin "max") rMax := call_max2 hc
theorem call_minR (hc : X.calm = true) : CallR X (.builtin "min") rMin := call_min2 hc
end
section
variable {K : PySem.W.Frag} {σ : L2.St} {H : Hp} {Q : VK} {D : Ends} {td ty tv t1 t2 : TE} {l : Addr} {xs : List V} {ss : List Str} {k : Nat} {v : V} {z : Str} {i j : Int}
theorem r_tyS {B : Prop} (q : B) : tyV K "str" (.str z) H ∧ B := ⟨rfl, q⟩
theorem r_max (h : Q (.int (if j > i then j else i)) H) : rMax [.int i, .int j] H Q := ⟨i, j, rfl, h⟩
theorem r_min (h : Q (.int (if j < i then j else i)) H) : rMin [.int i, .int j] H Q := ⟨i, j, rfl, h⟩
end
end My
set_option Elab.async false
set_option linter.all false
set_option maxRecDepth 100000
set_option maxHeartbeats 1000000
namespace My
open PySem PySem.Spec PyProof.Rows L2
section
variable {K : PySem.W.Frag} {σ : L2.St} {H : Hp} {Q : VK} {D : Ends} {ta tv : TE} {t : TA} {a C dx : Addr} {fs : List (Str × V)} {f m : Str} {v y : V} {sp : Sp} {dvs : List V} {E : XK}
def kMk (C : Addr) (sp : Sp) (dvs : List V) (E : XK) (Q : VK) (vs : List V) (H : Hp) : Prop := ∀ x dx, H x = none → H dx = none → dx ≠ x → sp (.ref x :: (vs ++ dvs)) (upd (upd H dx (.own x)) x (.ins C dx [])) (fun v H2 => v = .non ∧ Q (.ref x) H2) E
theorem r_mk (h : t σ H fun vs H1 => kMk C sp dvs E Q vs H1) : tMake C sp dvs E t σ H Q := h
def kMt (C : Addr) (m : Str) (sp : Sp) (dvs : List V) (E : XK) (t : TA) (σ : L2.St) (Q : VK) (x : V) (H : Hp) : Prop := ∃ a dx fs, x = .ref a ∧ H a = some (.ins C dx fs) ∧ fs.lookup m = none ∧ t σ H fun vs H2 => sp (x :: (vs ++ dvs)) H2 Q E
theorem r_mt (h : ta σ H fun x H1 => kMt C m sp dvs E t σ Q x H1) : tMeth C m sp dvs E ta t σ H Q := h
theorem r_mtk (e : H a = some (.ins C dx fs)) (l : fs.lookup m = none) (h : t σ H fun vs H2 => sp (.ref a :: (vs ++ dvs)) H2 Q E) : kMt C m sp dvs E t σ Q (.ref a) H := ⟨a, dx, fs, rfl, e, l, h⟩
def kFl (K : PySem.W.Frag) (f : Str) (Q : VK) (x : V) (H : Hp) : Prop := ∃ a C dx fs v, x = .ref a ∧ H a = some (.ins C dx fs) ∧ Cls K C ∧ NoAttr K C f ∧ fs.lookup f = some v ∧ Q v H
theorem r_fl (h : ta σ H fun x H1 => kFl K f Q x H1) : tFld K ta f σ H Q := h
theorem r_flk (e : H a = some (.ins C dx fs)) (c : Cls K C) (n : NoAttr K C f) (l : fs.lookup f = some v) (h : Q v H) : kFl K f Q (.ref a) H := ⟨a, C, dx, fs, v, rfl, e, c, n, l, h⟩
def kFs (K : PySem.W.Frag) (f : Str) (y : V) (D : Ends) (σ : L2.St) (x : V) (H : Hp) : Prop := ∃ a C dx fs, x = .ref a ∧ H a = some (.ins C dx fs) ∧ Cls K C ∧ NoAttr K C f ∧ fs.length < 1000 ∧ D.nx σ (upd H a (.ins C dx (putF f y fs)))
theorem r_fs (h : tv σ H fun y H1 => ta σ H1 fun x H2 => kFs K f y D σ x H2) : sFld K ta tv f D σ H := h
theorem r_fsk (e : H a = some (.ins C dx fs)) (c : Cls K C) (n : NoAttr K C f) (hz : fs.length < 1000) (h : D.nx σ (upd H a (.ins C dx (putF f y fs)))) : kFs K f y D σ (.ref a) H := ⟨a, C, dx, fs, rfl, e, c, n, hz, h⟩
end
structure IsC (K : PySem.W.Frag) (C : Addr) : Prop where
  ha : PySem.W.findIn K (.ref C) "__class__" = some (some (.builtin "object.__class__"))
  hn : PySem.W.specialIn K (.builtin "object.__class__") "__get__" = some (some (.builtin "getset_descriptor.__get__"))
  htk : PySem.W.takesIn K (.builtin "object.__class__") = some true
  hm : PySem.W.mroIn K C (.type "object") = some true
end My
set_option Elab.async false
set_option linter.all false
set_option maxRecDepth 100000
set_option maxHeartbeats 1000000
namespace My
open PySem PySem.Spec PyProof.Rows L2
section
variable {X : Cx} {k : Nat} {f C : Addr} {fd : FuncData} {ps : List Str} {sp : Sp} {dvs : List V} {ds : List Value} {W : L2.St → XK} {x m : Str} {p pos apos : Pos} {e o : Expr} {es : List Expr} {ta : TE} {t : TA}
def tMethX (C : Addr) (m : Str) (sp : Sp) (dvs : List V) (W : L2.St → XK) (ta : TE) (t : TA) : TE := fun σ H Q => ta σ H fun x H1 => ∃ a dx fs, x = .ref a ∧ H1 a = some (.ins C dx fs) ∧ fs.lookup m = none ∧ t σ H1 fun vs H2 => sp (x :: (vs ++ dvs)) H2 Q (W σ)
theorem pe_methX {pl : Sem Bool} (he : PE X o ta) (c : Cls X.K C) (hm : Meth X.K C m f) (F : FnOk X.prog X.w X.K X.mg X.base (CX1 X.prog X.w) k f fd ps sp) (hr : Room k X.A) (hb : Binds X.K fd ps ds) (hd : Vals dvs ds) (hx : Xes X W) (ha : PA X (e :: es) t) (hex : X.ex = [] := by rfl)
    (hst : starEach (e :: es) X.env = (false, eval e X.env) :: starEach es X.env := by rfl) (hpl : (backTo pos (starEach es X.env)).any (·.1) = false := by rfl)
    (ht : eval (.Call (.Attribute o m apos) (e :: es) [] pos) X.env = (do
      let ov ← eval o X.env
      standAt apos.atName
      let (f, first) ← holding [ov] (getMethod ov m pl)
      callWith pos f first (backTo pos (starEach (e :: es) X.env)) (backToKw pos (keywordEach [] X.env))) := by rfl) :
    PE X (.Call (.Attribute o m apos) (e :: es) [] pos) (tMethX C m sp dvs W ta t) := by
  intro pins s σ H Q I h
  refine PySem.W.methodCall_KW (pl := pl) (thn (he pins s σ H _ I h) fun u s1 ⟨x, H1, I1, rx, a, dx, fs, ex, ea, l, q⟩ => ?_) ht
  subst ex
  obtain rfl : u = Value.ref a := rx
  refine getmeth_ok I1 ea c hm l (PySem.W.callWith_K (first := [.ref a]) (h₀ := X.base) I.ok.mod.kin hm.kp (thn (ha pos pins s1 σ H1 _ I1 q) fun us s2 ⟨vs, H2, I2, r, q2⟩ => ⟨I2.kIn, ?_⟩) hst hpl)
  exact run_fnX (us := .ref a :: us) (vs := .ref a :: vs) F hr hb hd hx hex I2 (.cons rfl r) q2
def tMakeX (C : Addr) (sp : Sp) (dvs : List V) (W : L2.St → XK) (t : TA) : TE := fun σ H Q => t σ H fun vs H1 => ∀ x dx, H1 x = none → H1 dx = none → dx ≠ x → sp (.ref x :: (vs ++ dvs)) (upd (upd H1 dx (.own x)) x (.ins C dx [])) (fun v H2 => v = .non ∧ Q (.ref x) H2) (W σ)
theorem run_makeX {pins : List (Addr × Obj)} {σ : L2.St} {H : Hp} {s : Shared} {Q : VK} {us : List Value} {vs : List V} (M : Mk X.K C f) (F : FnOk X.prog X.w X.K X.mg X.base (CX1 X.prog X.w) k f fd ps sp) (hr : Room (k + 1) X.A) (hb : Binds X.K fd ps ds) (hd : Vals dvs ds)
    (hx : Xes X W) (hex : X.ex = []) (I : Inv X pins σ H s) (r : Vals vs us)
    (h : ∀ x dx, H x = none → H dx = none → dx ≠ x → sp (.ref x :: (vs ++ dvs)) (upd (upd H dx (.own x)) x (.ins C dx [])) (fun v H2 => v = .non ∧ Q (.ref x) H2) (W σ)) :
    wpAny (model X.prog X.w) X.A (call (.ref C) us) (EP X pins σ Q) X.xe s := by
  have hq := h (s.heap.objs.size + 1) s.heap.objs.size (I.hok.fresh (Nat.le_succ _)) (I.hok.fresh (Nat.le_refl _)) (Nat.ne_of_lt (Nat.lt_succ_self _))
  have I2 := Inv.made (C := C) I
  have r2 : Vals (V.ref (s.heap.objs.size + 1) :: (vs ++ dvs)) (Value.ref (s.heap.objs.size + 1) :: (us ++ ds)) := .cons rfl (r.append hd)
  have hl : (Value.ref (s.heap.objs.size + 1) :: us ++ ds).length = ps.length := by
    have e := r2.length
    rw [F.len _ _ _ _ hq] at e
    exact e.symm
  refine wpAny_call (make_map (f := f) I.kIn M.makes M.init (beq_iff_eq.mp M.fn) (codeAny_mono (F.run _ X.stack _ _ ⟨Value.ref (s.heap.objs.size + 1) :: us, []⟩ (Value.ref (s.heap.objs.size + 1) :: (us ++ ds)) _ _ (W σ) (hr.make C us [])
    (I2.env0.make C us []) (hb _ (Value.ref (s.heap.objs.size + 1) :: us) I2.kIn hl) r2 hq) fun r s' hq' => ?_))
  cases r with
  | error e => exact xes_call hx hex I2 hq'
  | ok fl =>
    cases fl with
    | ret u =>
      obtain ⟨v, H', I3, rv, ev, q3⟩ := I2.after hq'
      subst ev
      exact ⟨rv, ⟨V.ref (s.heap.objs.size + 1), H', I3, rfl, q3⟩⟩
    | next => exact False.elim hq'
    | brk => exact False.elim hq'
    | cont => exact False.elim hq'
theorem pe_makeX (M : Mk X.K C f) (F : FnOk X.prog X.w X.K X.mg X.base (CX1 X.prog X.w) k f fd ps sp) (hr : Room (k + 1) X.A) (hg : Gl X x) (hm : X.mg x = some (.ref C)) (hb : Binds X.K fd ps ds) (hd : Vals dvs ds) (hx : Xes X W)
    (ha : PA X (e :: es) t) (hex : X.ex = [] := by rfl) (hdb : (x == ("__debug__" : Str)) = false := by decide) (he : starEach (e :: es) X.env = (false, eval e X.env) :: starEach es X.env := by rfl) (hpl : (backTo pos (starEach es X.env)).any (·.1) = false := by rfl) :
    PE X (.Call (.Name x p) (e :: es) [] pos) (tMakeX C sp dvs W t) := by
  intro pins s σ H Q I h
  refine wpAny_Call_Name_kw (ld_glob I hg hm ?_ hdb)
  refine PySem.W.callWith_K (h₀ := X.base) I.ok.mod.kin M.kp (thn (ha pos pins s σ H _ I h) fun us s1 ⟨vs, H1, I1, r, q⟩ => ⟨I1.kIn, ?_⟩) he hpl
  exact run_makeX M F hr hb hd hx hex I1 r q
end
structure FunD (K : PySem.W.Frag) (x qual : Str) (st : Stmt) (f : Addr) (fd : FuncData) (T : Addr) (items : Array Value) : Prop where
  ex : ∃ (oc : Value) (od : Option Addr) (kV doc pm : Value) (an : Option Addr) (cdv ct : Value) (osl : Array (Option Value)),
    fd = PySem.W.fnOf x qual (defArgs st) (defBody st) (defScope st) (.ref T) kV doc pm an cdv ct ∧ K.lookup f = some ⟨oc, od, .func fd, osl⟩ ∧ PySem.W.codeIn K cdv qual = true
  kp : PySem.W.keepIn K (.ref f) = true
  tup : ∃ (o : Obj) (n : Nat), K.lookup T = some o ∧ o.data = .seq items n
section
variable {P : Program} {w : World} {K : PySem.W.Frag} {mg : Str → Option Value} {base : Heap} {x qual : Str} {st : Stmt} {f T : Addr} {fd : FuncData} {N ps : List Str} {k : Nat} {sp : Sp} {items : Array Value}
theorem FunD.binds (F : FunD K x qual st f fd T items) {ds : List Value} (h : ∀ (kV doc pm : Value) (an : Option Addr) (cdv ct : Value) (us : List Value), (us ++ ds).length = ps.length →
      bindArgs (PySem.W.fnOf x qual (defArgs st) (defBody st) (defScope st) (.ref T) kV doc pm an cdv ct) ⟨us, []⟩ = pure (ps.zip (us ++ ds)) ∨
      ∃ g : Option (Array Value) → Sem (List (Str × Value)), bindArgs (PySem.W.fnOf x qual (defArgs st) (defBody st) (defScope st) (.ref T) kV doc pm an cdv ct) ⟨us, []⟩ = seqItems? (.ref T) >>= g ∧ g (some items) = pure (ps.zip (us ++ ds))) : Binds K fd ps ds := by
  obtain ⟨oc, od, kV, doc, pm, an, cdv, ct, osl, rfl, lk, hcd⟩ := F.ex
  obtain ⟨o, n, hT, hd⟩ := F.tup
  intro s us KX hl
  rcases h kV doc pm an cdv ct us hl with h | ⟨g, h1, h2⟩
  · exact .of_eq h
  · exact BindsTo.of_defaults (T := T) rfl (KX _ _ hT) hd h1 h2
end
section
variable {K : PySem.W.Frag} {σ : L2.St} {H : Hp} {Q : VK} {ta : TE} {t : TA} {a C dx : Addr} {fs : List (Str × V)} {m : Str} {sp : Sp} {dvs : List V} {W : L2.St → XK}
def kMtX (C : Addr) (m : Str) (sp : Sp) (dvs : List V) (W : L2.St → XK) (t : TA) (σ : L2.St) (Q : VK) (x : V) (H : Hp) : Prop := ∃ a dx fs, x = .ref a ∧ H a = some (.ins C dx fs) ∧ fs.lookup m = none ∧ t σ H fun vs H2 => sp (x :: (vs ++ dvs)) H2 Q (W σ)
theorem r_mtX (h : ta σ H fun x H1 => kMtX C m sp dvs W t σ Q x H1) : tMethX C m sp dvs W ta t σ H Q := h
theorem r_mtkX (e : H a = some (.ins C dx fs)) (l : fs.lookup m = none) (h : t σ H fun vs H2 => sp (.ref a :: (vs ++ dvs)) H2 Q (W σ)) : kMtX C m sp dvs W t σ Q (.ref a) H := ⟨a, dx, fs, rfl, e, l, h⟩
def kMkX (C : Addr) (sp : Sp) (dvs : List V) (W : L2.St → XK) (σ : L2.St) (Q : VK) (vs : List V) (H : Hp) : Prop := ∀ x dx, H x = none → H dx = none → dx ≠ x → sp (.ref x :: (vs ++ dvs)) (upd (upd H dx (.own x)) x (.ins C dx [])) (fun v H2 => v = .non ∧ Q (.ref x) H2) (W σ)
theorem r_mkX (h : t σ H fun vs H1 => kMkX C sp dvs W σ Q vs H1) : tMakeX C sp dvs W t σ H Q := h
end
end My
set_option Elab.async false
set_option linter.all false
set_option maxRecDepth 100000
set_option maxHeartbeats 1000000
namespace My
open PySem PySem.Spec PyProof.Rows L2
section
variable {prog : Program} {w : World} {A : Around} {E : Value → Shared → Prop} {s : Shared} {it l : Addr} {its : Array Value}
end
section
variable {X : Cx}
end
section
variable {K : PySem.W.Frag} {σ : L2.St} {H : Hp} {Q : VK} {ta : TA} {p : Addr} {ys : List V}
end
end My
set_option Elab.async false
set_option linter.all false
set_option maxRecDepth 100000
set_option maxHeartbeats 1000000
namespace My
open PySem PySem.Spec PyProof.Rows L2
section
variable {prog : Program} {w : World} {A : Around} {E : Value → Shared → Prop}
theorem drawL {j l : Addr} {xs : List Value} (ne : l ≠ j) : ∀ (todo : List Value) (i : Nat) (s : Shared) (Q : List Value → Shared → Prop), xs.drop i = todo → s.heap.IsListIter j l i → s.heap.IsList l xs.toArray →
    (∀ h', h'.IsListIter j l (i + todo.length) → (∀ b o, b ≠ j → s.heap.get? b = some o → h'.get? b = some o) → Q todo { s with heap := h' }) → wpAny (model prog w) A (draw (.ref j) todo.length) Q E s
  | [], i, s, Q, _, st, _, q => by
    show wpAny _ _ (pure []) _ _ _
    exact wpAny_pure (q s.heap st fun _ _ _ e => e)
  | x :: todo, i, s, Q, hd, st, hl, q => by
    have hx : xs[i]? = some x := by
      have z := congrArg (fun l => l[0]?) hd
      simpa using z
    have hd2 : xs.drop (i + 1) = todo := by
      have z := congrArg (List.drop 1) hd
      simpa [List.drop_drop] using z
    show wpAny _ _ (pyNext (.ref j) >>= _) _ _ _
    refine wpAny_bind (wpAny_pyNext_list_item st hl (x := x) (by simpa using hx) fun h1 st1 sb => ?_)
    have kp : ∀ b o, b ≠ j → s.heap.get? b = some o → h1.get? b = some o := fun b o hb e => (sb.2 b hb).trans e
    refine wpAny_bind (wpAny_holding (drawL ne todo (i + 1) _ _ hd2 st1 (hl.at fun o e => kp _ o ne e) fun h2 st2 kp2 => wpAny_pure ?_))
    refine q h2 ?_ fun b o hb e => kp2 b o hb (kp b o hb e)
    rw [List.length_cons, show i + (todo.length + 1) = i + 1 + todo.length by omega]
    exact st2
theorem assignL {s : Shared} {env : Env} {elts : List Expr} {x1} {pos : Pos} {l : Addr} {xs : List Value} {Q : Unit → Shared → Prop} (calm : A.handled = none) (hl : s.heap.IsList l xs.toArray) (hn : (assignEach elts env).length = xs.length) (hst : (assignEach elts env).findIdx? (·.1) = none)
    (q : ∀ h', (∀ b o, s.heap.get? b = some o → h'.get? b = some o) → wpAny (model prog w) A (assignInOrder ((assignEach elts env).map (·.2)) xs) Q E { s with heap := h' }) : wpAny (model prog w) A (assign (.Tuple elts x1 pos) env (.ref l)) Q E s := by
  have ne : l ≠ s.heap.objs.size := by obtain ⟨o, ho, _⟩ := hl; exact Nat.ne_of_lt (Heap.lt_size ho)
  rw [assign_Tuple]
  refine wpAny_bind (wpAny_standAt ?_)
  unfold unpack
  rw [hn, hst]
  refine wpAny_bind (wpAny_holding ?_)
  unfold unpackItems notIterableAtAll
  refine wpAny_bind (wpAny_bind (wpAny_specialOf hl.typeIs F.slot_list_iter.lookup (wpAny_pure ?_)))
  simp only [Bool.false_eq_true, if_false]
  have hl1 : (s.heap.push { cls := .type "list_iterator", data := .fields #[.ref l, .int 0 0] }).IsList l xs.toArray := hl.at fun o e => Heap.get?_push_of_some _ e
  refine wpAny_bind (wpAny_holding (wpAny_pyIter_list hl (wpAny_bind (wpAny_holding (drawL ne xs 0 _ _ (by simp) ⟨_, Heap.get?_push_size _ rfl, rfl, rfl⟩ hl1 fun h1 st1 kp => ?_)))))
  rw [if_neg (Nat.lt_irrefl _)]
  refine wpAny_bind (wpAny_holding (wpAny_pyNext_list_end calm st1 (hl1.at fun o e => kp _ o ne e) (by simp) fun h2 kp2 => ?_))
  simp only [Option.isSome_none, Bool.false_eq_true, if_false]
  refine wpAny_pure (q h2 fun b o e => ?_)
  have nb : b ≠ s.heap.objs.size := Nat.ne_of_lt (Heap.lt_size e)
  exact kp2 b o nb (kp b o nb (Heap.get?_push_of_some _ e))
end
section
variable {X : Cx} {pos : Pos}
def gLst (K : PySem.W.Frag) (n : Nat) (t : TGs) : TG := fun v σ H Q => ∃ a xs, v = .ref a ∧ SqL K H a xs ∧ xs.length = n ∧ t xs σ H Q
theorem pg_lst {es : List Expr} {k : Nat} {t : TGs} {n : Nat} (hc : X.calm = true) (h : PGs X es t) (hn : (assignEach es X.env).length = n := by rfl) (hst : (assignEach es X.env).findIdx? (·.1) = none := by rfl) : PG X (.Tuple es k pos) (gLst X.K n t) := by
  intro pins s σ H v u Q I r hw
  obtain ⟨a, xs, rfl, hq, hl, hw⟩ := hw
  cases r
  obtain ⟨ws, rv, pl, _⟩ := I.list hq
  refine assignL (I.ok.hd hc) (PlainL.isList pl) (by rw [hn, ← hl, rv.length]) hst fun h' kp => ?_
  exact h pins _ σ H xs _ Q (I.kept (t' := s.toks) kp) rv hw
end
theorem r_glst {K : PySem.W.Frag} {σ : L2.St} {H : Hp} {a : Addr} {xs : List V} {n : Nat} {t : TGs} {Q : L2.St → Hp → Prop} (s : SqL K H a xs) (hn : xs.length = n) (h : t xs σ H Q) : gLst K n t (.ref a) σ H Q := ⟨a, xs, rfl, s, hn, h⟩
end My
set_option Elab.async false
set_option linter.all false
set_option maxRecDepth 100000
set_option maxHeartbeats 1000000
namespace My
open PySem PySem.Spec PyProof.Rows L2
def kDs (p : Addr) (Q : VK) (x y : V) (H2 : Hp) : Prop := H2 p = some (.dK []) ∧ ∃ kvs : List (Key × V), [(x, y)] = kvs.map (fun kv => (kV kv.1, kv.2)) ∧ kvs.length ≤ 15 ∧ Q (.ref p) (upd H2 p (.dK (mergeK [] kvs)))
theorem r_disp1 {σ : L2.St} {H : Hp} {Q : VK} {tk tv : TE} (h : ∀ p, H p = none → tk σ (upd H p (.dK [])) fun x H1 => tv σ H1 fun y H2 => kDs p Q x y H2) : tDisp [(tk, tv)] σ H Q := fun p hp => h p hp
theorem r_ds {H : Hp} {Q : VK} {p : Addr} {z : Str} {y : V} (e : H p = some (.dK [])) (h : Q (.ref p) (upd H p (.dK [(Sum.inr z, y)]))) : kDs p Q (.str z) y H := ⟨e, [(Sum.inr z, y)], rfl, Nat.le_of_ble_eq_true rfl, h⟩
end My
set_option Elab.async false
set_option linter.all false
set_option maxRecDepth 100000
set_option maxHeartbeats 1000000
namespace My
open PySem PySem.Spec PyProof.Rows L2
section
variable {P : Program} {w : World} {K : PySem.W.Frag} {mg : Str → Option Value} {base : Heap} {x qual : Str} {st : Stmt} {f T : Addr} {fd : FuncData} {N ps : List Str} {k : Nat} {sp : Sp} {items : Array Value}
theorem okDX (F : FunD K x qual st f fd T items) (S : FnScope N ps (defScope st)) (len : ∀ vs H Q E, sp vs H Q E → vs.length = ps.length)
    (hbody : ∀ (cdv : Value) (A : Around) (outer : List Env) (s : Shared) (H : Hp) (vs : List V) (Q : VK) (E : XK), Room k (A.deeper (envOfC qual (defScope st) s.heap.objs.size f cdv)) → sp vs H Q E →
      ∃ t, PSs (xw (cxOf (CX1 P w) P w K mg base N qual (defScope st) f cdv A outer s H E) (fun _ => E)) (defBody st) t ∧ t { nx := fun _ H' => Q .non H', rt := Q } (start N vs) H) : FnOk P w K mg base (CX1 P w) (k + 1) f fd ps sp := by
  obtain ⟨oc, od, kV, doc, pm, an, cdv, ct, osl, rfl, lk, hcd⟩ := F.ex
  refine fn_of lk hcd S len fun A outer s H vs Q E hr hsp => ?_
  obtain ⟨t, ht, q⟩ := hbody cdv A outer s H vs Q E hr hsp
  exact ⟨t, PSs.xes xes_fn ht, q⟩
theorem funD_mk {oc : Value} {od an : Option Addr} {osl : Array (Option Value)} {kV doc pm cdv ct : Value} {o : Obj} {n : Nat} (l : K.lookup f = some ⟨oc, od, .func (PySem.W.fnOf x qual (defArgs st) (defBody st) (defScope st) (.ref T) kV doc pm an cdv ct), osl⟩)
    (c : PySem.W.codeIn K cdv qual = true) (kp : PySem.W.keepIn K (.ref f) = true) (t : K.lookup T = some o) (hd : o.data = .seq items n) : FunD K x qual st f (PySem.W.fnOf x qual (defArgs st) (defBody st) (defScope st) (.ref T) kV doc pm an cdv ct) T items :=
  ⟨⟨oc, od, kV, doc, pm, an, cdv, ct, osl, rfl, l, c⟩, kp, o, n, t, hd⟩
end
end My
set_option Elab.async false
set_option linter.all false
set_option maxRecDepth 100000
set_option maxHeartbeats 1000000
namespace My
open PySem PySem.Spec PyProof.Rows L2
def oK (hs : List (Str × Addr)) : List (Key × V) := hs.map fun p => (Sum.inr p.1, .ref p.2)
def lookO : List (Str × Addr) → Str → Option Addr
  | [], _ => none
  | p :: r, z => if p.1 = z then some p.2 else lookO r z
theorem valV_oK (z : Str) : ∀ hs : List (Str × Addr), valV (oK hs) (Sum.inr z) = (lookO hs z).map V.ref
  | [] => rfl
  | p :: r => by
    have ih := valV_oK z r
    unfold valV oK at ih ⊢
    rw [List.map_cons, List.find?_cons]
    by_cases h : p.1 = z
    · have e : decide ((Sum.inr p.1 : Key) = Sum.inr z) = true := by rw [h]; exact decide_eq_true rfl
      simp only [e, lookO, if_pos h]
      rfl
    · have e : decide ((Sum.inr p.1 : Key) = Sum.inr z) = false := decide_eq_false fun q => h (Sum.inr.inj q)
      simp only [e, lookO, if_neg h]
      exact ih
theorem lookO_none {z : Str} : ∀ {hs : List (Str × Addr)}, lookO hs z = none ↔ z ∉ hs.map (·.1)
  | [] => by simp [lookO]
  | p :: r => by
    have ih := lookO_none (z := z) (hs := r)
    unfold lookO
    by_cases q : p.1 = z
    · rw [if_pos q]
      simp [q]
    · rw [if_neg q, ih]
      simp [Ne.symm q, fun e : z = p.1 => q e.symm]
theorem lookO_of {z : Str} {h : Addr} : ∀ {hs : List (Str × Addr)}, (hs.map (·.1)).Nodup → (z, h) ∈ hs → lookO hs z = some h
  | p :: r, nd, m => by
    rw [List.map_cons, List.nodup_cons] at nd
    unfold lookO
    rcases List.mem_cons.mp m with e | e
    · rw [← e, if_pos rfl]
    · have q : p.1 ≠ z := fun q => nd.1 (by rw [q]; exact List.mem_map.mpr ⟨(z, h), e, rfl⟩)
      rw [if_neg q]
      exact lookO_of nd.2 e
theorem putK_oK {hs : List (Str × Addr)} {z : Str} {h : Addr} (n : lookO hs z = none) : putK (oK hs) (Sum.inr z) (.ref h) = oK (hs ++ [(z, h)]) := by
  have hn := lookO_none.mp n
  have e : ((oK hs).any fun kv => decide (kv.1 = Sum.inr z)) = false := by
    rw [List.any_eq_false]
    intro kv hkv
    obtain ⟨p, hp, rfl⟩ := List.mem_map.mp hkv
    intro q
    have q' := Sum.inr.inj (of_decide_eq_true q)
    exact hn (List.mem_map.mpr ⟨p, hp, q'⟩)
  unfold putK
  rw [if_neg (by rw [e]; decide)]
  unfold oK
  rw [List.map_append]; rfl
theorem oK_keys (hs : List (Str × Addr)) : (oK hs).map (·.1) = (hs.map (·.1)).map Sum.inr := by unfold oK; rw [List.map_map, List.map_map]; rfl
section
variable {K : PySem.W.Frag} {σ : L2.St} {H H' : Hp} {Q : VK} {D : Ends} {a h : Addr} {hs : List (Str × Addr)} {z : Str}
theorem r_diO (d : Rd H a (.dK (oK hs))) (q : Q (.bl (lookO hs z).isSome) H) : rDI (.ref a) (.str z) H Q := by
  refine ⟨a, valV (oK hs) (Sum.inr z), rfl, .inl ⟨_, Sum.inr z, d, rfl, rfl⟩, ?_⟩
  rw [valV_oK, Option.isSome_map]
  exact q
theorem r_dgO (d : Rd H a (.dK (oK hs))) (e : lookO hs z = some h) (q : Q (.ref h) H) : rDGk (.ref a) (.str z) H Q :=
  ⟨a, .ref h, rfl, .inl ⟨_, Sum.inr z, d, rfl, by rw [valV_oK, e]; rfl⟩, q⟩
end
end My
set_option Elab.async false
set_option linter.all false
set_option maxRecDepth 100000
set_option maxHeartbeats 1000000
set_option exponentiation.threshold 2000
namespace My
open PySem PySem.Spec PyProof.Rows L2
section
variable {X : Cx}
end
section
variable {σ : L2.St} {H : Hp} {Q : VK} {te : TE} {i : Int}
end
end My
set_option Elab.async false
set_option linter.all false
set_option maxRecDepth 100000
set_option maxHeartbeats 3200000
namespace My
open PySem PySem.Spec PyProof.Rows L2
section
variable {P : Program} {w : World} {A : Around}
theorem sk_is (z : Str) (t : Tok) : (strKind P w).is z (.str z t) = true := by
  show Value.isStrOf z (.str z t) = true
  simp [Value.isStrOf]
theorem take_in {zs : List Str} {i : Nat} {z : Str} (nd : zs.Nodup) (h : zs[i]? = some z) : (zs.take i).contains z = false := by
  rw [← Bool.not_eq_true, List.contains_iff_mem]
  intro m
  obtain ⟨j, hj, e⟩ := List.mem_iff_getElem.mp m
  obtain ⟨hi, e2⟩ := List.getElem?_eq_some_iff.mp h
  rw [List.length_take] at hj
  rw [List.getElem_take] at e
  exact (List.pairwise_iff_getElem.mp nd) j i (by omega) hi (by omega) (by rw [e, e2])
theorem take_next {zs : List Str} {i : Nat} {z : Str} (h : zs[i]? = some z) (y : Str) : ((zs.take i).contains y || decide (y = z)) = (zs.take (i + 1)).contains y := by
  rw [List.take_add_one, h, Bool.eq_iff_iff, Bool.or_eq_true, List.contains_iff_mem, List.contains_iff_mem, List.mem_append, decide_eq_true_iff]
  simp
theorem setT_loop {R : Result → Shared → Prop} {it c : Addr} {fp wr : List Addr} {G : Array GenState → Array GenState → Prop} {zs : List Str} {pv : Nat → Value → Prop} {St : Nat → Shared → Prop}
    (W : WalksS P w A.in1 it fp wr G zs.length pv St) (hc : c ∉ fp) (nd : zs.Nodup) (hv : ∀ i v, pv i v → ∃ z t, zs[i]? = some z ∧ v = .str z t) (hb : zs.length + 1 < scanBound) :
    ∀ (k i : Nat) (s : Shared), zs.length - i = k → i ≤ zs.length → St i s → s.heap.SetOf (strKind P w) c (fun y => (zs.take i).contains y) i →
      (∀ s', Moved (c :: wr) G s s' → s'.heap.SetOf (strKind P w) c (fun y => (zs.take zs.length).contains y) zs.length → R (.ok (.ret .none)) s') →
      codeAny (model P w) A (.builtin "set.update.loop" ⟨[.ref c, .ref it], []⟩) R s := by
  have cw : c ∉ wr := fun h => hc (W.sub _ h)
  have stays : ∀ {n : Nat} {S : Str → Bool} {s s' : Shared}, Moved wr G s s' → s.heap.SetOf (strKind P w) c S n → s'.heap.SetOf (strKind P w) c S n := fun hm hS => by
    obtain ⟨o, es, ep, t, ho, rest⟩ := hS
    exact ⟨o, es, ep, t, hm.heap c _ cw ho, rest⟩
  intro k
  induction k with
  | zero =>
    intro i s hk hi st hS hR
    have e : i = zs.length := by omega
    subst e
    refine codeAny_builtin PyProof.Rows.F.entry_set_update_loop ?_
    rw [Around.under_plainId PyProof.Rows.F.plain_set_update_loop]
    show wpAny _ _ (pyNext (.ref it) >>= _) _ _ _
    refine wpAny_bind (W.done s _ _ st fun s1 hm => ?_)
    exact wpAny_pure (hR s1 (hm.mono fun b h => List.mem_cons_of_mem _ h) (stays hm hS))
  | succ k ih =>
    intro i s hk hi st hS hR
    have lt : i < zs.length := by omega
    refine codeAny_builtin PyProof.Rows.F.entry_set_update_loop ?_
    rw [Around.under_plainId PyProof.Rows.F.plain_set_update_loop]
    show wpAny _ _ (pyNext (.ref it) >>= _) _ _ _
    refine wpAny_bind (W.item i s _ _ lt st fun v s1 hp st1 hm => ?_)
    obtain ⟨z, t, hz, rfl⟩ := hv i v hp
    have S1 := stays hm hS
    show wpAny _ _ (holding [Value.str z t] (setAdd c (.str z t)) >>= _) _ _ _
    refine wpAny_bind (wpAny_holding ?_)
    unfold setAdd
    refine wpAny_holding (wpAny_bind ((strKind P w).pyHash (k := z) (sk_is z t) ?_))
    refine wpAny_setAddHashed_of (knd := strKind P w) (s := { s1 with toks := s1.toks + 1 }) (sk_is z t) rfl S1 (by omega) fun h2 sb S2 => ?_
    have S3 : h2.SetOf (strKind P w) c (fun y => (zs.take (i + 1)).contains y) (i + 1) := SetOf_congr S2 (take_next hz) (by simp only [take_in nd hz]; rfl)
    refine wpAny_pure ⟨plainId_quiet PyProof.Rows.F.plain_set_update_loop _, ih (i + 1) _ (by omega) lt (W.frame _ s1 _ _ st1 (Nat.le_succ _) fun b h o e => ?_) S3 fun s4 hm4 S4 => ?_⟩
    · rw [sb.2 b fun q => hc (q ▸ h)]; exact e
    · refine hR s4 (Moved.trans W.gtrans ((hm.mono fun b h => List.mem_cons_of_mem _ h).then_heap (Nat.le_succ _) fun b o h e => ?_) hm4) S4
      rw [sb.2 b fun q => h (q ▸ List.mem_cons_self)]; exact e
abbrev setO (led : Bool) : Obj := { cls := .type "set", dict := none, data := .set #[] 0 (.fresh 0 0 led) }
theorem setT_call {E : Value → Shared → Prop} {s : Shared} {l : Addr} {items : Array Value} {zs : List Str} {Q : Value → Shared → Prop} (hh : A.handled = none) (hl : s.heap.IsList l items) (hi : StrsAre items.toList zs) (nd : zs.Nodup) (hb : zs.length + 1 < scanBound)
    (h : ∀ (h' : Heap) (tk : Nat), h'.SetOf (strKind P w) s.heap.objs.size (fun y => (zs.take zs.length).contains y) zs.length → (∀ b o, b < s.heap.objs.size → s.heap.get? b = some o → h'.get? b = some o) → Q (.ref s.heap.objs.size) { s with heap := h', toks := tk }) :
    wpAny (model P w) A (call (.type "set") [.ref l]) Q E s := by
  obtain ⟨c, tl, hmro⟩ := PySem.F.called_set.mro
  have hmade := PySem.F.called_set.made
  have hsub := PySem.F.called_set.sub
  refine wpAny_call (codeAny_of_tree ?_)
  show wpAny _ _ (callAny (.type "set") _) _ _ _
  refine wpAny_pure ⟨Code.quiet_builtin _ (by decide +kernel), codeAny_builtin PySem.F.entry_type_call ?_⟩
  rw [Around.under_plain (weight_type_call_type "set" [.ref l] []) rfl]
  have h1 := PySem.F.called_set.notType
  have h2 := PySem.F.called_set.canCreate
  have hct := PySem.F.typeCall_set_1 (.ref l)
  repeat any_goals first | assumption | wp_step
  refine codeAny_mono (code_set_new_1 (.ref l) (E := E) (Q₁ := fun x s1 => ∃ led : Bool, x = .ref s.heap.objs.size ∧ s1 = { s with heap := s.heap.push (setO led) }) fun led => ⟨led, rfl, rfl⟩) fun r s1 hr => ?_
  cases r with
  | error e => exact hr
  | ok fl =>
    cases fl with
    | ret obj =>
      obtain ⟨led, rfl, rfl⟩ := hr
      have hS : (s.heap.push (setO led)).get? s.heap.objs.size = some (setO led) := Heap.get?_push_size _ rfl
      have hT : Shared.TypeIs { s with heap := s.heap.push (setO led) } (.ref s.heap.objs.size) "set" := ⟨_, hS, rfl⟩
      have hli := PySem.F.called_set.init.lookup
      have hbi := PySem.F.called_set.init.bind (.ref s.heap.objs.size)
      repeat any_goals first | assumption | wp_step
      refine codeAny_mono (codeAny_call_builtin (R := wants (fun x s2 => x = .none ∧ ∃ h' tk, s2 = { s with heap := h', toks := tk } ∧ h'.SetOf (strKind P w) s.heap.objs.size (fun y => (zs.take zs.length).contains y) zs.length ∧ (∀ b o, b < s.heap.objs.size → s.heap.get? b = some o → h'.get? b = some o)) E) PySem.F.called_set.init.plain PySem.F.entry_set_init (check_set_init_1 hT ?_)) fun r2 s2 hr2 => ?_
      · obtain ⟨ol, hol, hcl, nl, hdl⟩ := hl
        obtain ⟨ocls, odict, odata, oslots⟩ := ol
        dsimp only at hcl hdl
        subst hcl hdl
        have hol' := Heap.get?_push_of_some (setO led) hol
        have q1 := PySem.F.sub_list_set
        have q2 := PySem.F.sub_list_frozenset
        have q3 : (Value.type "list" == Value.type "dict") = false := by decide
        have hl1 : (s.heap.push (setO led)).IsList l items := ⟨_, hol', rfl, nl, rfl⟩
        unfold Builtin.«set.__init__» noKeywords Builtin.Frozenset.updateFrom
        generalize hPI : pyIter = PI
        wp_walk
        subst hPI
        refine wpAny_pyIter_list hl1 (wpAny_bind (wpAny_runValue ?_))
        have lS : l < s.heap.objs.size := Heap.lt_size hol
        have h3 : A.in1.in1.in1.handled = none := by simp [hh]
        have nI : l ≠ (s.heap.push (setO led)).objs.size := by
          rw [Heap.size_push]; exact Nat.ne_of_lt (Nat.lt_succ_of_lt lS)
        have nS : s.heap.objs.size ∉ [(s.heap.push (setO led)).objs.size, l] := by
          rw [Heap.size_push]
          intro z
          simp only [List.mem_cons, List.not_mem_nil, or_false] at z
          rcases z with z | z
          · exact absurd z (Nat.ne_of_lt (Nat.lt_succ_self _))
          · rw [z] at lS; exact Nat.lt_irrefl _ lS
        have ez : items.size = zs.length := by
          have := hi.length
          simpa using this
        have W : WalksS P w A.in1.in1.in1 _ _ _ _ items.size _ _ := (Walks.list h3 _ l nI items).toS
        rw [ez] at W
        refine setT_loop (zs := zs) W nS nd (fun i v hv => ?_) hb (zs.length - 0) 0 _ (by omega) (Nat.zero_le _) ⟨⟨_, Heap.get?_push_size _ rfl, rfl, rfl⟩, hl1.push _⟩ ?_ ?_
        · obtain ⟨y, t, e1, e2⟩ := hi.item i v (by rw [Array.getElem?_toList]; exact hv)
          exact ⟨y, t, e2, e1⟩
        · have hget := Heap.get?_push_of_some { cls := .type "list_iterator", data := .fields #[.ref l, .int 0 0] } hS
          exact SetOf_congr ((setObjOf_fresh (knd := strKind P w) led).setOf hget (by unfold scanBound; omega)) (fun _ => rfl) rfl
        · intro s4 hm hS4
          obtain ⟨h4, g4, d4, tk4, os4⟩ := s4
          have eg : g4 = s.gens := hm.gens
          have ed : d4 = s.drawn := hm.drawn
          have eo : os4 = s.os := hm.os
          subst eg ed eo
          refine wpAny_pure ?_
          refine wpAny_pure ⟨rfl, h4, tk4, rfl, hS4, fun b o hb' e => ?_⟩
          refine hm.heap b o (fun z => ?_) (Heap.get?_push_of_some _ (Heap.get?_push_of_some _ e))
          rw [Heap.size_push] at z
          simp only [List.mem_cons, List.not_mem_nil, or_false] at z
          rcases z with z | z
          · rw [z] at hb'; exact Nat.lt_irrefl _ hb'
          · rw [z] at hb'; exact Nat.lt_irrefl _ (Nat.lt_trans (Nat.lt_succ_self _) hb')
      · cases r2 with
        | error e => exact hr2
        | ok fl2 =>
          cases fl2 with
          | ret r =>
            obtain ⟨rfl, h', tk, rfl, hS', hk'⟩ := hr2
            repeat any_goals first | assumption | wp_step
            exact h _ _ hS' hk'
          | next => exact hr2.elim
          | brk => exact hr2.elim
          | cont => exact hr2.elim
    | next => exact hr.elim
    | brk => exact hr.elim
    | cont => exact hr.elim
end
def SetT (P : Program) (w : World) (c : Addr) (n : Nat) : HO := .ext fun h => ∃ S, h.SetOf (strKind P w) c S n
def rSetT (P : Program) (w : World) (K : PySem.W.Frag) : List V → Hp → VK → Prop := fun xs H Q => ∃ (p : Addr) (zs : List Str), xs = [.ref p] ∧ SqL K H p (zs.map V.str) ∧ zs.Nodup ∧ zs.length ≤ 60 ∧ ∀ c, H c = none → Q (.ref c) (upd H c (SetT P w c zs.length))
def rLenT (P : Program) (w : World) : List V → Hp → VK → Prop := fun xs H Q => ∃ c n, xs = [.ref c] ∧ H c = some (SetT P w c n) ∧ Q (.int n) H
section
variable {X : Cx}
theorem call_setT (hc : X.calm = true := by rfl) : CallR X (.type "set") (rSetT X.prog X.w X.K) := by
  intro pins s σ H xs us Q I hv h
  obtain ⟨p, zs, rfl, hS, nd, hz, q⟩ := h
  obtain ⟨u, rfl, ru⟩ := hv.one
  cases ru
  obtain ⟨its, rv, pl, hz'⟩ := I.list hS
  refine setT_call (I.ok.hd hc) (PlainL.isList pl) (zs := zs) (by simpa using strs_of rv) nd (by unfold scanBound; omega) fun h' tk hT hk => ?_
  have hg := hT
  obtain ⟨o, es, ep, t, ho, _⟩ := hg
  exact ⟨.ref _, _, I.laid (a := s.heap.objs.size) (o := SetT X.prog X.w s.heap.objs.size zs.length) (t' := tk) (fun b ob e => hk b ob (Heap.lt_size e) e) (Nat.le_refl _) ⟨⟨_, hT⟩, ⟨o, ho⟩, fun h1 h2 ⟨S, o1, r1, r2, r3, e1, rest⟩ k => ⟨S, o1, r1, r2, r3, k _ e1, rest⟩⟩, rfl, q _ (I.hok.fresh (Nat.le_refl _))⟩
theorem call_lenT : CallR X (.builtin "len") (rLenT X.prog X.w) := by
  intro pins s σ H xs us Q I hv h
  obtain ⟨c, n, rfl, e, q⟩ := h
  obtain ⟨u, rfl, ru⟩ := hv.one
  cases ru
  obtain ⟨⟨S, o, es, ep, t, ho, hx, hd, _, _, hb, hf, rfl⟩, _⟩ := I.hok c _ e
  refine call_len_set ho hx hd hf (by unfold scanBound at hb; omega) ⟨.int es.size, H, I.tok _, ⟨_, rfl⟩, q⟩
end
section
variable {P : Program} {w : World} {K : PySem.W.Frag} {H : Hp} {Q : VK}
theorem r_setT {p : Addr} {zs : List Str} (hS : SqL K H p (zs.map V.str)) (nd : zs.Nodup) (hz : zs.length ≤ 60) (h : ∀ c, H c = none → Q (.ref c) (upd H c (SetT P w c zs.length))) : rSetT P w K [.ref p] H Q := ⟨p, zs, rfl, hS, nd, hz, h⟩
theorem r_lenT2 {c : Addr} {n : Nat} (e : H c = some (SetT P w c n)) (h : Q (.int n) H) : rLenT P w [.ref c] H Q := ⟨c, n, rfl, e, h⟩
end
def rLenD : List V → Hp → VK → Prop := fun xs H Q => ∃ a kvs, xs = [V.ref a] ∧ H a = some (.dK kvs) ∧ Q (.int kvs.length) H
theorem call_lenDD {X : Cx} : CallR X (.builtin "len") rLenD := L2.call_lenD
theorem r_lenD {H : Hp} {Q : VK} {a : Addr} {kvs : List (Key × V)} (e : H a = some (.dK kvs)) (h : Q (.int kvs.length) H) : rLenD [.ref a] H Q := ⟨a, kvs, rfl, e, h⟩
end My
set_option Elab.async false
set_option linter.all false
set_option maxRecDepth 100000
set_option maxHeartbeats 1000000
namespace My
open PySem PySem.Spec PyProof.Rows L2
theorem entry_ii : entryFor table "dict_itemiterator.__iter__" = some Builtin.«dict_keyiterator.__iter__» := entryFor_alias (id' := "dict_keyiterator.__iter__") (by kernel_rfl) rfl (by decide +kernel) (by kernel_rfl)
def ItI (a : Addr) (o : Obj) (kvs : List (Key × V)) : It :=
  ⟨fun i H => H a = some (.frz o (.dK kvs)) ∧ i < kvs.length, fun i H v H' => ∃ T k x, H T = none ∧ kvs[i]? = some (k, x) ∧ v = .ref T ∧ H' = upd H T (.tup [kV k, x]), fun i H => H a = some (.frz o (.dK kvs)) ∧ kvs.length ≤ i⟩
def ISt (it d : Addr) (n ep i : Nat) (h : Heap) : Prop := ∃ ok ov, IsItemIter h it d i n ep ok ov
theorem turn_items {P : Program} {w : World} {K : PySem.W.Frag} {elts : List Expr} {kk : Nat} {tp : Pos} {o : Obj} {kvs : List (Key × V)} {es : Array DictEntry} {ep : Nat} (d it : Addr) (hd : o.data = .dict es ep) :
    Turn P w K (.Tuple elts kk tp) (ItI d o kvs) [it] it (ISt it d kvs.length ep) where
  mem := by simp
  obj := fun i h st b hb => by
    have e : b = it := by simpa using hb
    subst e
    obtain ⟨ok, ov, e⟩ := st
    exact ⟨_, e, fun v q => by have q' : Data.fields _ = Data.cell v := q; cases q'⟩
  keep := fun i h h' ⟨ok, ov, e⟩ k => ⟨ok, ov, k it (by simp) _ e⟩
  item := by
    intro X hP hw hK hc i pins s σ H E I hf st hg
    subst hP hw hK
    obtain ⟨hfz, hi⟩ := hg
    obtain ⟨ok, ov, st⟩ := st
    obtain ⟨vs, rel, dat⟩ := frz_at I.hok hfz hd
    have hfi := hf it (by simp)
    have hl := rel.length
    obtain ⟨u, hu, ru⟩ := kvget rel (i := i) (k := kvs[i].1) (v := kvs[i].2) (by rw [List.getElem?_eq_getElem hi])
    rw [hl] at st
    refine wpAny_pyNext_items_item st dat hu fun key h' hkey out tup hsz keep => ?_
    have hn : H s.heap.objs.size = none := I.hok.fresh (Nat.le_refl _)
    have hg0 : s.heap.get? s.heap.objs.size = none := Heap.get?_none_of_le (Nat.le_refl _)
    have nit : it ≠ s.heap.objs.size := Nat.ne_of_lt (Heap.lt_size st)
    have I1 : Inv X pins σ (upd H s.heap.objs.size (.tup [kV kvs[i].1, kvs[i].2])) { s with heap := h' } := Inv.turnedT (t' := s.toks) (ch := [it]) I (fun b hb => (List.mem_singleton.mp hb) ▸ hfi) (fun b o hb e => keep b o (fun q => hb (by simp [q])) e) hg0 hn
      ⟨by show 2 ≤ 16777216; decide, [key, u], .cons (kV_rel hkey) (.cons ru .nil), ⟨_, tup, rfl, _, rfl⟩⟩
    refine ⟨.ref s.heap.objs.size, rfl, wpAny_letOwnedTupleGo_items (s := { s with heap := h' }) out fun h2 c1 sb => ?_⟩
    have I2 : Inv X pins σ (upd H s.heap.objs.size (.tup [kV kvs[i].1, kvs[i].2])) { s with heap := h2 } := I1.turned (t' := s.toks) (fun b o hb e => (sb.2 b hb).trans e) (by rw [upd_ne nit]; exact hfi.1) hfi.2.1 hfi.2.2.2.1 hfi.2.2.2.2.1 hfi.2.2.2.2.2
    refine ⟨.ref s.heap.objs.size, _, I2, rfl, ⟨s.heap.objs.size, kvs[i].1, kvs[i].2, hn, List.getElem?_eq_getElem hi, rfl, rfl⟩, ⟨key, u, by rw [hl]; exact c1⟩, fun b hb => ?_⟩
    have e : b = it := by simpa using hb
    subst e
    rw [upd_ne nit]
    exact hfi.1
  done := by
    intro X hP hw hK hc i pins s σ H E I hf st hg
    subst hP hw hK
    obtain ⟨hfz, hi⟩ := hg
    obtain ⟨ok, ov, st⟩ := st
    obtain ⟨vs, rel, dat⟩ := frz_at I.hok hfz hd
    obtain ⟨f0, f1, f2, f3, f4, f5⟩ := hf it (by simp)
    have hl := rel.length
    rw [hl] at st hi
    exact wpAny_pyNext_items_end (I.ok.hd hc) st dat (by simpa using hi) fun h' eb => ⟨rfl, I.turned (t' := s.toks) (fun b ob hb e => eb b ob hb e) f0 f1 f3 f4 f5⟩
  self := by
    rintro A i s Q E ⟨ok, ov, st⟩ h
    have ty : s.TypeIs (.ref it) "dict_itemiterator" := ⟨_, st, rfl⟩
    refine wpAny_pyIter_slot ty PySem.F.slot_dict_itemiterator_iter (wpAny_call_entry PySem.F.slot_dict_itemiterator_iter ty entry_ii ?_ (PySem.F.args_dict_itemiterator_iter_1 _))
    exact wpAny_pure ⟨_, rfl, _, _, ty, PySem.F.slot_dict_itemiterator_next.lookup, h⟩
def ViewO (v d : Addr) : HO := .ext fun h => h.IsItemsView v d
def rItems : V → List V → Hp → VK → Prop := fun x xs H Q => ∃ p kvs, x = .ref p ∧ xs = [] ∧ Rd H p (.dK kvs) ∧ ∀ v, H v = none → Q (.ref v) (upd H v (ViewO v p))
section
variable {X : Cx}
theorem mt_items : MtR X "dict.items" rItems := by
  intro pins s σ H x xs v us Q I rx rv h
  obtain ⟨p, kvs, rfl, rfl, e, q⟩ := h
  cases rx
  have hus := rv.zero
  subst hus
  obtain ⟨z, hd, vs, rel, dd⟩ := dk_rd I.hok e
  refine call_meetsIn PySem.F.slot_dict_items dd.typeIs PySem.F.entry_dict_items (PySem.F.args_dict_items_1 _) (meets_dict_items (mixKind X.prog X.w) p hd) ⟨⟨vs, dd⟩, ?_⟩
  exact ⟨.ref _, _, I.laid (a := s.heap.objs.size) (o := ViewO s.heap.objs.size p) (t' := s.toks) (fun b ob e => Heap.get?_push_of_some _ e) (Nat.le_refl _) ⟨⟨_, Heap.get?_push_size _ rfl, rfl, rfl⟩, ⟨_, Heap.get?_push_size _ rfl⟩, fun h1 h2 ⟨o, e1, r⟩ k => ⟨o, k _ e1, r⟩⟩, rfl, q _ (I.hok.fresh (Nat.le_refl _))⟩
def rItI (x : V) (H : Hp) (R : It → Hp → Prop) : Prop := ∃ v a kvs, x = .ref v ∧ H v = some (ViewO v a) ∧ H a = some (.dK kvs) ∧ ∀ o, R (ItI a o kvs) (upd H a (.frz o (.dK kvs)))
def iItems (td : TE) : TI := fun σ H R => td σ H fun x H1 => rItI x H1 R
theorem pi_items {elts : List Expr} {kk : Nat} {tp : Pos} {l : Expr} {tl : TE} (hl : PE X l tl) : PI X (.Tuple elts kk tp) l (iItems tl) := by
  intro pins s σ H R I h
  refine thn (hl pins s σ H _ I h) fun v s1 ⟨x, H1, I1, r1, q1⟩ => ?_
  obtain ⟨v, a, kvs, e, hv, ha, q⟩ := q1
  subst e
  cases r1
  obtain ⟨o, es, ep, vs, ho, hd, rel, dat, hs⟩ := dat_of (I1.hok a _ ha)
  have hlen := rel.length
  obtain ⟨hv1, _⟩ := I1.hok v _ hv
  refine wpAny_pyIter_items hv1 dat ?_
  have I2 := Inv.freeze I1 ha ho
  refine ⟨s1.heap.objs.size, [s1.heap.objs.size], _, _, _, rfl, I2.kept (t' := s1.toks) fun b ob e => Heap.get?_push_of_some _ e, turn_items (kvs := kvs) a _ hd, ⟨.none, .none, by rw [hlen]; exact Heap.get?_push_size _ rfl⟩, fun b hb => ?_, q o⟩
  have e : b = s1.heap.objs.size := by simpa using hb
  subst e
  exact I2.fpOk (Nat.le_refl _) (I2.hok.fresh (Nat.le_refl _))
end
section
variable {σ : L2.St} {H : Hp} {D : Ends} {g : TG} {tb : TS} {tl : TE} {a : Addr} {o : Obj} {kvs : List (Key × V)} {Q : VK}
theorem r_iI {R : It → Hp → Prop} (h : tl σ H fun x H1 => rItI x H1 R) : iItems tl σ H R := h
theorem r_itI {R : It → Hp → Prop} {v : Addr} (hv : H v = some (ViewO v a)) (e : H a = some (.dK kvs)) (h : ∀ o, R (ItI a o kvs) (upd H a (.frz o (.dK kvs)))) : rItI (.ref v) H R := ⟨v, a, kvs, rfl, hv, e, h⟩
theorem r_items {p : Addr} (e : Rd H p (.dK kvs)) (h : ∀ v, H v = none → Q (.ref v) (upd H v (ViewO v p))) : rItems (.ref p) [] H Q := ⟨p, kvs, rfl, rfl, e, h⟩
theorem f_items (Pv : Nat → L2.St → Hp → Prop) (h0 : Pv 0 σ H) (hl : ∀ i σ H, i ≤ kvs.length → Pv i σ H → H a = some (.frz o (.dK kvs)))
    (hs : ∀ i k v T σ H, kvs[i]? = some (k, v) → Pv i σ H → H T = none → g (.ref T) σ (upd H T (.tup [kV k, v])) fun σ2 H2 => tb { nx := Pv (i + 1), rt := D.rt, bk := D.nx, ct := Pv (i + 1) } σ2 H2) (hd : ∀ σ H, Pv kvs.length σ H → D.nx σ H) : FOR (ItI a o kvs) g tb D σ H := by
  refine ⟨fun i m σ H => m = kvs.length - i ∧ i ≤ kvs.length ∧ Pv i σ H, ⟨kvs.length, rfl, Nat.zero_le _, h0⟩, ?_⟩
  rintro i m σ H ⟨rfl, hi, p⟩
  have q := hl i σ H hi p
  by_cases hlt : i < kvs.length
  · refine .inr ⟨⟨q, hlt⟩, Pv (i + 1), fun σ' H' p' => ⟨kvs.length - (i + 1), by omega, rfl, hlt, p'⟩, fun x H' y => ?_⟩
    obtain ⟨T, k, v, hT, hk, rfl, rfl⟩ := y
    exact hs i k v T σ H hk p hT
  · have e : i = kvs.length := Nat.le_antisymm hi (Nat.le_of_not_lt hlt)
    subst e
    exact .inl ⟨⟨q, Nat.le_refl _⟩, hd σ H p⟩
end
def rRepC : R2 := fun x y H Q => ∃ (c : Nat) (n : Int), x = .str ⟨#[c]⟩ ∧ y = .int n ∧ 1 ≤ n ∧ n ≤ 100 ∧ Q (.str ⟨(List.replicate n.toNat c).toArray⟩) H
theorem mul_c (c : Nat) {n : Int} (h : 1 ≤ n) : Txt.mul ⟨#[c]⟩ n = ⟨(List.replicate n.toNat c).toArray⟩ := by
  have key : ∀ (m : Nat) (a : Array Nat), (List.replicate m #[c]).foldl (· ++ ·) a = a ++ (List.replicate m c).toArray := by
    intro m
    induction m with
    | zero => intro a; simp
    | succ m ih =>
      intro a
      rw [List.replicate_succ, List.foldl_cons, ih, List.replicate_succ]
      apply Array.ext'
      simp
  unfold Txt.mul
  rw [if_neg (by omega)]
  by_cases z : ((n == 1 || (⟨#[c]⟩ : Str).length == 0) = true)
  · rw [if_pos z]
    have e : n = 1 := by
      rw [Bool.or_eq_true] at z
      rcases z with z | z
      · simpa using z
      · cases z
    subst e
    rfl
  · rw [if_neg z, key]
    simp
section
variable {X : Cx}
theorem op_repC : OpR X (binaryOp .Mult) rRepC := by
  intro pins s σ H x y v u Q I rx ry h
  obtain ⟨c, n, rfl, rfl, h0, h1, q⟩ := h
  obtain ⟨t, rfl⟩ := rx
  obtain ⟨k, rfl⟩ := ry
  refine SB.mul ?_ fun t' k => ⟨.str ⟨(List.replicate n.toNat c).toArray⟩, H, I.tok _, ⟨t', by rw [mul_c c h0]⟩, q⟩
  refine ⟨by rw [decide_eq_false (by omega), decide_eq_false (by omega)]; rfl, fun _ _ => ?_, fun _ _ => ?_⟩
  · have z : (1 : Int) ≤ (2 ^ 63 - 1) / n := Int.le_ediv_of_mul_le (by omega) (by omega)
    show ¬ ((1 : Int) > (2 ^ 63 - 1) / n)
    omega
  · refine decide_eq_false (p := (1 * n.toNat > sizeLine)) ?_
    rw [sizeLine_eq]
    omega
end
theorem r_repC {H : Hp} {Q : VK} {c : Nat} {n : Int} (h0 : 1 ≤ n) (h1 : n ≤ 100) (h : Q (.str ⟨(List.replicate n.toNat c).toArray⟩) H) : rRepC (.str ⟨#[c]⟩) (.int n) H Q := ⟨c, n, rfl, rfl, h0, h1, h⟩
end My
set_option Elab.async false
set_option linter.all false
set_option maxRecDepth 100000
set_option maxHeartbeats 1000000
namespace My
open PySem PySem.Spec PyProof.Rows L2
section
variable {X : Cx}
def rNotB : R2 := fun x y H Q => ∃ b c, x = .bl b ∧ y = .bl c ∧ Q (.bl (b != c)) H
theorem op_notB : OpR X (compareOp .IsNot) rNotB := by
  intro pins s σ H x y v u Q I rx ry h
  obtain ⟨b, c, rfl, rfl, q⟩ := h
  cases rx
  cases ry
  exact isnot_bool ⟨.bl _, H, I, rfl, q⟩
end
section
variable {σ : L2.St} {H : Hp} {tl : TE} {a : Addr} {kvs : List (Key × V)} {Q : VK}
theorem r_notB {b c : Bool} (h : Q (.bl (b != c)) H) : rNotB (.bl b) (.bl c) H Q := ⟨b, c, rfl, rfl, h⟩
end
end My
set_option Elab.async false
set_option linter.all false
set_option maxRecDepth 100000
namespace My
open PySem PySem.Spec PyProof.Rows L2 PyProof
section
variable {X : Cx}
def rUpper : V → List V → Hp → VK → Prop := fun x xs H Q => ∃ z : Str, x = .str z ∧ xs = [] ∧ Builtin.Str.tooLong (Txt.upper z).length = false ∧ Q (.str (Txt.upper z)) H
theorem mt_upper : MtR X "str.upper" rUpper := by
  intro pins s σ H x xs v us Q I rx rv h
  obtain ⟨z, rfl, rfl, hf, q⟩ := h
  obtain ⟨t, rfl⟩ := rx
  cases rv
  exact SC.upper hf ⟨.str _, H, I.tok _, ⟨_, rfl⟩, q⟩
theorem r_upper {z : Str} {H : Hp} {Q : VK} (h : Builtin.Str.tooLong (Txt.upper z).length = false) (q : Q (.str (Txt.upper z)) H) : rUpper (.str z) [] H Q := ⟨z, rfl, rfl, h, q⟩
end
theorem up1 : ∀ c : Nat, c < 123 → 97 ≤ c → (Unicode.upperOf c).length = 1 := by decide +kernel
theorem upper_size (x : Str) : (Txt.upper x).length = (x.cps.toList.map fun c => (Unicode.upperOf c).length).sum := by
  show (placed x fun _ c => Unicode.upperOf c).size = _
  unfold placed
  have e : Array.mapIdx (fun _ c => (Unicode.upperOf c).toArray) x.cps = x.cps.map fun c => (Unicode.upperOf c).toArray := by
    apply Array.ext
    · simp
    · intro i h1 h2; simp
  rw [Array.size_flatten, e, Array.map_map, ← Array.sum_toList, Array.toList_map]
  rfl
theorem upper_fit {z : Str} (h8 : z.length ≤ 8) (hL : ∀ c ∈ z.cps.toList, 97 ≤ c ∧ c ≤ 122) : Builtin.Str.tooLong (Txt.upper z).length = false := by
  have e : (z.cps.toList.map fun c => (Unicode.upperOf c).length) = z.cps.toList.map fun _ => 1 := List.map_congr_left fun c hc => up1 c (by have := (hL c hc).2; omega) (hL c hc).1
  have l : z.cps.toList.length = z.length := by simp [Str.length]
  rw [upper_size, e]
  unfold Builtin.Str.tooLong
  refine decide_eq_false ?_
  rw [sizeLine_eq, List.map_const', List.sum_replicate_nat, l]
  omega
end My
set_option Elab.async false
set_option linter.all false
set_option maxRecDepth 100000
namespace My
open PySem PySem.Spec PyProof.Rows L2
theorem vals_refs {cs : List Addr} {its : List Value} (h : Vals (cs.map V.ref) its) : its = cs.map Value.ref := by
  induction cs generalizing its with
  | nil => cases h; rfl
  | cons c r ih =>
    cases h with
    | cons a b =>
      rw [ih b]
      rename_i v _
      have : v = Value.ref c := a
      rw [this]; rfl
section
variable {X : Cx}
def rIsxU (K : PySem.W.Frag) : List V → Hp → VK → Prop := fun xs H Q => ∃ (a C tp : Addr) (d : Option Addr) (cs : List Addr) (b : Bool), xs = [.ref a, .ref tp] ∧ H a = some (XO a (.ref C) d) ∧
  (∀ dx, d = some dx → ∃ o, H dx = some o) ∧ XAt K C ∧ H tp = some (.tup (cs.map V.ref)) ∧ PySem.W.kitAny K (.ref C) (cs.map Value.ref) = some b ∧ Q (.bl b) H
theorem call_isxU : CallR X (.builtin "isinstance") (rIsxU X.K) := by
  intro pins s σ H xs us Q I hv h
  obtain ⟨a, C, tp, d, cs, b, rfl, e, ed, c, ht, k, q⟩ := h
  cases hv with
  | cons r1 hv =>
    cases hv with
    | cons r2 hv =>
      cases hv
      rename_i v1 v2
      obtain rfl : v1 = Value.ref a := r1
      obtain rfl : v2 = Value.ref tp := r2
      obtain ⟨its, rv, ⟨o, g, hc, n, hs⟩, _⟩ := I.tuple (.inl (.inl ht))
      have ei := vals_refs rv
      subst ei
      obtain ⟨⟨oe, vs, h1, h2, h3, h4⟩, _⟩ := (show ObjOk X.prog X.w H s.heap a (XO a (.ref C) d) from I.hok a _ e)
      have J : ∃ ox od, PySem.W.InstAt s.heap a ox C od := by
        cases d with
        | none => exact ⟨oe, none, h1, h2, by unfold PySem.W.notCls; rw [h4], by rw [h3]; exact True.intro⟩
        | some dx =>
          obtain ⟨o, q⟩ := ed dx rfl
          obtain ⟨ob, z⟩ := obj_there (I.hok dx o q)
          exact ⟨oe, some ob, h1, h2, by unfold PySem.W.notCls; rw [h4], by rw [h3]; exact z⟩
      obtain ⟨oc, od, odt, osl⟩ := o
      cases hc
      cases hs
      exact PySem.W.kia_tup (kitx_exc c) I.kIn J g k (fun z => nomatch z) fun tk => ⟨.bl b, H, I.tok tk, rfl, q⟩
theorem r_isxU {K : PySem.W.Frag} {H : Hp} {Q : VK} {a C tp : Addr} {d : Option Addr} {cs : List Addr} {b : Bool} (e : H a = some (XO a (.ref C) d)) (ed : ∀ dx, d = some dx → ∃ o, H dx = some o) (ha : XAt K C) (ht : H tp = some (.tup (cs.map V.ref))) (k : PySem.W.kitAny K (.ref C) (cs.map Value.ref) = some b) (h : Q (.bl b) H) : rIsxU K [.ref a, .ref tp] H Q := ⟨a, C, tp, d, cs, b, rfl, e, ed, ha, ht, k, h⟩
end
end My
set_option Elab.async false
set_option linter.all false
set_option maxRecDepth 100000
namespace My
open PySem PySem.Spec PyProof.Rows L2
theorem strNeDict {P : Program} {w : World} {A : Around} {E Q : Value → Shared → Prop} {s : Shared} {l : Addr} {o : Obj} {es : Array DictEntry} {ep : Nat} {z : Str} {u : Tok} (e : s.heap.get? l = some o) (hd : o.data = .dict es ep) (q : Q .notImplemented s) :
    wpAny (model P w) A (call (.builtin "str.__ne__") [.str z u, .ref l]) Q E s := by
  obtain ⟨cl, dd, da, sl⟩ := o
  dsimp only at hd
  subst hd
  refine call_meets F.slot_str_ne_refl (typeIs_str s z u) F.entry_str_ne (F.args_str_ne_2 _ _) (S := fun _ R s => s.heap.get? l = some { cls := cl, dict := dd, data := .dict es ep, slots := sl } ∧ R (.ok (.ret .notImplemented)) s) (.of_wp fun prog w A R s h => ?_) ⟨e, q⟩
  obtain ⟨hp, g, d, tk, os⟩ := s
  obtain ⟨hl, h⟩ := h
  wp_walk using AutoSeq1.wpAny_loadPart' hl, wpAny_load hl
  exact ⟨_, rfl, h⟩
theorem dictNeStr {P : Program} {w : World} {A : Around} {E Q : Value → Shared → Prop} {s : Shared} {l : Addr} {z : Str} {u : Tok} (hT : s.TypeIs (.ref l) "dict") (q : Q .notImplemented s) :
    wpAny (model P w) A (call (.builtin "dict.__ne__") [.ref l, .str z u]) Q E s := by
  refine wpAny_call_entry F.slot_dict_ne hT F.entry_dict_ne ?_ (F.args_dict_ne_2 _ _)
  show wpAny _ _ (Builtin.Dict.dictSlotArgs "__ne__" ⟨[.ref l, .str z u], []⟩ >>= _) _ _ s
  refine wpAny_bind ?_
  unfold Builtin.Dict.dictSlotArgs
  refine wpAny_bind (wpAny_notOrdered_dict hT ?_)
  show wpAny _ _ (pure (Value.ref l, Value.str z u)) _ _ s
  refine wpAny_pure ?_
  refine wpAny_bind (wpAny_isInstance (T := "str") (typeIs_str s z u) F.sub_str_dict ?_)
  simp only [Bool.not_false, if_true]
  wp_walk
  exact ⟨_, rfl, q⟩
section
variable {X : Cx}
inductive OddV (K : PySem.W.Frag) (H : Hp) : V → Prop
  | non : OddV K H .non
  | bl (b : Bool) : OddV K H (.bl b)
  | int (i : Int) : OddV K H (.int i)
  | lst {a : Addr} {xs : List V} (h : SqL K H a xs) : OddV K H (.ref a)
  | tup {a : Addr} {xs : List V} (h : SqT K H a xs) : OddV K H (.ref a)
  | dct {a : Addr} {kvs : List (Key × V)} (h : H a = some (.dK kvs)) : OddV K H (.ref a)
def rNeO (K : PySem.W.Frag) : R2 := fun x y H Q => ∃ z, y = .str z ∧ ((∃ w, x = .str w ∧ Q (.bl (!decide (w = z))) H) ∨ (OddV K H x ∧ Q (.bl true) H))
theorem op_neO (hu : X.A.units + 8 < cLine) : OpR X (compareOp .NotEq) (rNeO X.K) := by
  intro pins s σ H x y v u Q I rx ry h
  obtain ⟨z, rfl, h⟩ := h
  rcases h with ⟨w, rfl, q⟩ | ⟨o, q⟩
  · refine op_ne pins s σ H _ _ v u Q I rx ry ⟨rfl, ?_⟩
    rw [show decide (V.str w = V.str z) = decide (w = z) by simp]
    exact q
  · cases o with
    | non =>
      refine op_ne pins s σ H _ _ v u Q I rx ry ⟨rfl, ?_⟩
      rw [show (!decide (V.non = V.str z)) = true by simp]
      exact q
    | bl b =>
      refine op_ne pins s σ H _ _ v u Q I rx ry ⟨rfl, ?_⟩
      rw [show (!decide (V.bl b = V.str z)) = true by simp]
      exact q
    | int i =>
      refine op_ne pins s σ H _ _ v u Q I rx ry ⟨rfl, ?_⟩
      rw [show (!decide (V.int i = V.str z)) = true by simp]
      exact q
    | lst hS =>
      cases rx
      obtain ⟨t, rfl⟩ := ry
      obtain ⟨its, r1, p1, _⟩ := I.list hS
      exact SeqAt.RcNeAt.list_str z t (PlainL.isList p1) (by omega) X.prog X.w X.xe (EP X pins σ Q) ⟨.bl true, H, I, rfl, q⟩
    | tup hS =>
      cases rx
      obtain ⟨t, rfl⟩ := ry
      obtain ⟨its, r1, p1, _⟩ := I.tuple hS
      exact SeqAt.RcNeAt.tuple_str z t p1 (by omega) X.prog X.w X.xe (EP X pins σ Q) ⟨.bl true, H, I, rfl, q⟩
    | dct hS =>
      cases rx
      obtain ⟨t, rfl⟩ := ry
      obtain ⟨_, ga, va, ra, da⟩ := dk_of I.hok hS
      obtain ⟨o, es, ep, g, ex, hd, _⟩ := id da
      exact SeqAt.rc_ne_decline_or (k := false) da.typeIs (typeIs_str s z t) (by decide) F.sub_str_dict F.slot_dict_ne F.slot_str_ne_refl
        (fun _ hq => dictNeStr da.typeIs hq) (fun _ hq => strNeDict g hd hq) (fun _ hq => wpAny_of_eq (rfl : isSame (.ref _) (.str z t) = pure false) hq) (.inr (by omega)) ⟨.bl true, H, I, rfl, q⟩
end
section
variable {K : PySem.W.Frag} {H : Hp} {Q : VK}
theorem r_neOs {w z : Str} (h : Q (.bl (!decide (w = z))) H) : rNeO K (.str w) (.str z) H Q := ⟨z, rfl, .inl ⟨w, rfl, h⟩⟩
theorem r_neOo {x : V} {z : Str} (o : OddV K H x) (h : Q (.bl true) H) : rNeO K x (.str z) H Q := ⟨z, rfl, .inr ⟨o, h⟩⟩
theorem inV_str {y : Str} : ∀ nm : List Str, inV (.str y) (nm.map V.str) = decide (y ∈ nm)
  | [] => rfl
  | z :: r => by
    have ih := inV_str (y := y) r
    unfold inV at ih ⊢
    rw [List.map_cons, List.any_cons, ih]
    by_cases c : z = y
    · subst c
      rw [show eqV (V.str z) (V.str z) = true from beq_self_eq_true z, decide_eq_true (List.mem_cons_self ..)]
      rfl
    · rw [show eqV (V.str z) (V.str y) = false from beq_false_of_ne c, Bool.false_or]
      by_cases m : y ∈ r
      · rw [decide_eq_true m, decide_eq_true (List.mem_cons_of_mem _ m)]
      · rw [decide_eq_false m, decide_eq_false fun h => (List.mem_cons.mp h).elim (fun e => c e.symm) m]
theorem flat_strs (nm : List Str) : (nm.map V.str).all flatV = true := by
  rw [List.all_map]
  exact List.all_eq_true.mpr fun _ _ => rfl
theorem r_inSs {p : Addr} {y : Str} {nm : List Str} (h : SqL K H p (nm.map V.str)) (q : Q (.bl (decide (y ∈ nm))) H) : rIn K false (.str y) (.ref p) H Q := ⟨p, _, rfl, .inl h, rfl, flat_strs nm, by rw [inV_str]; exact q⟩
end
end My
set_option Elab.async false
set_option linter.all false
set_option maxRecDepth 100000
set_option maxHeartbeats 1000000
set_option exponentiation.threshold 1000
namespace Our
open PySem L2 My
def top (i : Nat) : PySem.Stmt := PySem.Challenge.pw_quotatree_k19_no_house.main.body.getD i (.Pass ⟨0, 0, 0, 0⟩)
def clsFn : PySem.Stmt → Nat → PySem.Stmt
  | .ClassDef _ _ _ body _ _ _ _ _ _ _, j => body.getD j (.Pass ⟨0, 0, 0, 0⟩)
  | s, _ => s
abbrev s_is_whole : PySem.Stmt := top 15
abbrev s_is_name : PySem.Stmt := top 16
abbrev s_is_whole_from : PySem.Stmt := top 17
abbrev s_is_amount : PySem.Stmt := top 19
abbrev s_amounts_of : PySem.Stmt := top 20
abbrev s_above_nought : PySem.Stmt := top 21
abbrev s_amount_of : PySem.Stmt := top 22
abbrev s_added : PySem.Stmt := top 23
abbrev s_beyond : PySem.Stmt := top 24
abbrev s_total_of : PySem.Stmt := top 25
abbrev s_are_wares : PySem.Stmt := top 32
abbrev s_check_name : PySem.Stmt := top 33
abbrev s_read_house : PySem.Stmt := top 34
abbrev s_check_promises : PySem.Stmt := top 35
abbrev s_cell_at : PySem.Stmt := top 38
abbrev s_mixed : PySem.Stmt := top 39
abbrev s_name : PySem.Stmt := top 40
abbrev s_elders : PySem.Stmt := top 44
abbrev s_promises : PySem.Stmt := top 45
abbrev s_sums : PySem.Stmt := top 46
abbrev s_caps : PySem.Stmt := top 47
abbrev s_plan : PySem.Stmt := top 48
abbrev s_tree : PySem.Stmt := top 49
abbrev s_thing : PySem.Stmt := top 50
abbrev s_ask : PySem.Stmt := top 51
abbrev s_other : PySem.Stmt := top 52
abbrev s_refused : PySem.Stmt := top 53
abbrev s_founding_refused : PySem.Stmt := top 54
abbrev s_law : PySem.Stmt := top 55
abbrev s_House_init : PySem.Stmt := clsFn (top 31) 0
abbrev s_Tree_init : PySem.Stmt := clsFn (top 36) 0
abbrev s_Tree_found : PySem.Stmt := clsFn (top 36) 1
abbrev s_Tree_wares : PySem.Stmt := clsFn (top 36) 2
abbrev s_Tree_names : PySem.Stmt := clsFn (top 36) 3
abbrev s_Tree_has : PySem.Stmt := clsFn (top 36) 4
abbrev s_Tree_check_house : PySem.Stmt := clsFn (top 36) 5
abbrev s_Tree_house_of : PySem.Stmt := clsFn (top 36) 6
abbrev s_Tree_elder_of : PySem.Stmt := clsFn (top 36) 7
abbrev s_Tree_promise_of : PySem.Stmt := clsFn (top 36) 8
abbrev s_Tree_cap_of : PySem.Stmt := clsFn (top 36) 9
abbrev s_Tree_weight_of : PySem.Stmt := clsFn (top 36) 10
abbrev s_Tree_kids : PySem.Stmt := clsFn (top 36) 11
abbrev s_Tree_line : PySem.Stmt := clsFn (top 36) 12
abbrev s_Tree_beneath : PySem.Stmt := clsFn (top 36) 13
abbrev s_Tree_promised_beneath : PySem.Stmt := clsFn (top 36) 14
abbrev s_Tree_floors : PySem.Stmt := clsFn (top 36) 15
abbrev s_Tree_check_more : PySem.Stmt := clsFn (top 36) 16
abbrev s_Tree_check_move : PySem.Stmt := clsFn (top 36) 17
abbrev s_Tree_move : PySem.Stmt := clsFn (top 36) 18
abbrev s_i_NoPromise : PySem.Stmt := clsFn (top 11) 0
structure Ad where
  f_is_whole : Addr
  fd_is_whole : FuncData
  f_is_name : Addr
  fd_is_name : FuncData
  f_is_whole_from : Addr
  fd_is_whole_from : FuncData
  f_is_amount : Addr
  fd_is_amount : FuncData
  f_amounts_of : Addr
  fd_amounts_of : FuncData
  f_above_nought : Addr
  fd_above_nought : FuncData
  f_amount_of : Addr
  fd_amount_of : FuncData
  f_added : Addr
  fd_added : FuncData
  f_beyond : Addr
  fd_beyond : FuncData
  f_total_of : Addr
  fd_total_of : FuncData
  f_are_wares : Addr
  fd_are_wares : FuncData
  f_check_name : Addr
  fd_check_name : FuncData
  f_read_house : Addr
  fd_read_house : FuncData
  f_check_promises : Addr
  fd_check_promises : FuncData
  f_cell_at : Addr
  fd_cell_at : FuncData
  f_mixed : Addr
  fd_mixed : FuncData
  f_name : Addr
  fd_name : FuncData
  f_elders : Addr
  fd_elders : FuncData
  f_promises : Addr
  fd_promises : FuncData
  f_sums : Addr
  fd_sums : FuncData
  f_caps : Addr
  fd_caps : FuncData
  f_plan : Addr
  fd_plan : FuncData
  f_tree : Addr
  fd_tree : FuncData
  f_thing : Addr
  fd_thing : FuncData
  f_ask : Addr
  fd_ask : FuncData
  f_other : Addr
  fd_other : FuncData
  f_refused : Addr
  fd_refused : FuncData
  f_founding_refused : Addr
  fd_founding_refused : FuncData
  f_law : Addr
  fd_law : FuncData
  f_House_init : Addr
  fd_House_init : FuncData
  f_Tree_init : Addr
  fd_Tree_init : FuncData
  t_Tree_init : Addr
  v0_Tree_init : Value
  f_Tree_found : Addr
  fd_Tree_found : FuncData
  t_Tree_found : Addr
  v0_Tree_found : Value
  f_Tree_wares : Addr
  fd_Tree_wares : FuncData
  f_Tree_names : Addr
  fd_Tree_names : FuncData
  f_Tree_has : Addr
  fd_Tree_has : FuncData
  f_Tree_check_house : Addr
  fd_Tree_check_house : FuncData
  f_Tree_house_of : Addr
  fd_Tree_house_of : FuncData
  f_Tree_elder_of : Addr
  fd_Tree_elder_of : FuncData
  f_Tree_promise_of : Addr
  fd_Tree_promise_of : FuncData
  f_Tree_cap_of : Addr
  fd_Tree_cap_of : FuncData
  f_Tree_weight_of : Addr
  fd_Tree_weight_of : FuncData
  f_Tree_kids : Addr
  fd_Tree_kids : FuncData
  f_Tree_line : Addr
  fd_Tree_line : FuncData
  f_Tree_beneath : Addr
  fd_Tree_beneath : FuncData
  f_Tree_promised_beneath : Addr
  fd_Tree_promised_beneath : FuncData
  f_Tree_floors : Addr
  fd_Tree_floors : FuncData
  f_Tree_check_more : Addr
  fd_Tree_check_more : FuncData
  f_Tree_check_move : Addr
  fd_Tree_check_move : FuncData
  f_Tree_move : Addr
  fd_Tree_move : FuncData
  f_i_NoPromise : Addr
  fd_i_NoPromise : FuncData
  c_House : Addr
  c_Tree : Addr
  c_TreeError : Addr
  c_NoName : Addr
  c_Taken : Addr
  c_NoHouse : Addr
  c_NoMove : Addr
  c_NoPromise : Addr
  c_NoWare : Addr
  c_NoAmount : Addr
  c_NoNumber : Addr
  c_TooMany : Addr
  c_TooDeep : Addr
  u_LETTERS : Value
  u_LONGEST_NAME : Value
  u_MOST_WARES : Value
  u_MOST_HOUSES : Value
  u_LONGEST_LINE : Value
  u_GREATEST_WEIGHT : Value
structure Tx (K : PySem.W.Frag) (mg : Str → Option Value) (d : Ad) : Prop where
  F_is_whole : Fun K "is_whole" "is_whole" s_is_whole d.f_is_whole d.fd_is_whole
  m_is_whole : mg "is_whole" = some (.ref d.f_is_whole)
  b_is_whole : Binds K d.fd_is_whole ["thing"] []
  F_is_name : Fun K "is_name" "is_name" s_is_name d.f_is_name d.fd_is_name
  m_is_name : mg "is_name" = some (.ref d.f_is_name)
  b_is_name : Binds K d.fd_is_name ["thing"] []
  F_is_whole_from : Fun K "is_whole_from" "is_whole_from" s_is_whole_from d.f_is_whole_from d.fd_is_whole_from
  m_is_whole_from : mg "is_whole_from" = some (.ref d.f_is_whole_from)
  b_is_whole_from : Binds K d.fd_is_whole_from ["thing", "least", "most"] []
  F_is_amount : Fun K "is_amount" "is_amount" s_is_amount d.f_is_amount d.fd_is_amount
  m_is_amount : mg "is_amount" = some (.ref d.f_is_amount)
  b_is_amount : Binds K d.fd_is_amount ["thing"] []
  F_amounts_of : Fun K "amounts_of" "amounts_of" s_amounts_of d.f_amounts_of d.fd_amounts_of
  m_amounts_of : mg "amounts_of" = some (.ref d.f_amounts_of)
  b_amounts_of : Binds K d.fd_amounts_of ["handed", "wares"] []
  F_above_nought : Fun K "above_nought" "above_nought" s_above_nought d.f_above_nought d.fd_above_nought
  m_above_nought : mg "above_nought" = some (.ref d.f_above_nought)
  b_above_nought : Binds K d.fd_above_nought ["amounts"] []
  F_amount_of : Fun K "amount_of" "amount_of" s_amount_of d.f_amount_of d.fd_amount_of
  m_amount_of : mg "amount_of" = some (.ref d.f_amount_of)
  b_amount_of : Binds K d.fd_amount_of ["amounts", "ware"] []
  F_added : Fun K "added" "added" s_added d.f_added d.fd_added
  m_added : mg "added" = some (.ref d.f_added)
  b_added : Binds K d.fd_added ["one", "other"] []
  F_beyond : Fun K "beyond" "beyond" s_beyond d.f_beyond d.fd_beyond
  m_beyond : mg "beyond" = some (.ref d.f_beyond)
  b_beyond : Binds K d.fd_beyond ["one", "other"] []
  F_total_of : Fun K "total_of" "total_of" s_total_of d.f_total_of d.fd_total_of
  m_total_of : mg "total_of" = some (.ref d.f_total_of)
  b_total_of : Binds K d.fd_total_of ["many"] []
  F_are_wares : Fun K "are_wares" "are_wares" s_are_wares d.f_are_wares d.fd_are_wares
  m_are_wares : mg "are_wares" = some (.ref d.f_are_wares)
  b_are_wares : Binds K d.fd_are_wares ["thing"] []
  F_check_name : Fun K "check_name" "check_name" s_check_name d.f_check_name d.fd_check_name
  m_check_name : mg "check_name" = some (.ref d.f_check_name)
  b_check_name : Binds K d.fd_check_name ["thing"] []
  F_read_house : Fun K "read_house" "read_house" s_read_house d.f_read_house d.fd_read_house
  m_read_house : mg "read_house" = some (.ref d.f_read_house)
  b_read_house : Binds K d.fd_read_house ["wares", "elder", "promise", "cap", "weight"] []
  F_check_promises : Fun K "check_promises" "check_promises" s_check_promises d.f_check_promises d.fd_check_promises
  m_check_promises : mg "check_promises" = some (.ref d.f_check_promises)
  b_check_promises : Binds K d.fd_check_promises ["name", "promises", "cap"] []
  F_cell_at : Fun K "_law_cell_at" "_law_cell_at" s_cell_at d.f_cell_at d.fd_cell_at
  m_cell_at : mg "_law_cell_at" = some (.ref d.f_cell_at)
  b_cell_at : Binds K d.fd_cell_at ["_law_script", "_law_k"] []
  F_mixed : Fun K "_law_mixed" "_law_mixed" s_mixed d.f_mixed d.fd_mixed
  m_mixed : mg "_law_mixed" = some (.ref d.f_mixed)
  b_mixed : Binds K d.fd_mixed ["_law_cell", "_law_k"] []
  F_name : Fun K "_law_name" "_law_name" s_name d.f_name d.fd_name
  m_name : mg "_law_name" = some (.ref d.f_name)
  b_name : Binds K d.fd_name ["_law_cell", "_law_k"] []
  F_elders : Fun K "_law_elders" "_law_elders" s_elders d.f_elders d.fd_elders
  m_elders : mg "_law_elders" = some (.ref d.f_elders)
  b_elders : Binds K d.fd_elders ["_law_cells", "_law_shape"] []
  F_promises : Fun K "_law_promises" "_law_promises" s_promises d.f_promises d.fd_promises
  m_promises : mg "_law_promises" = some (.ref d.f_promises)
  b_promises : Binds K d.fd_promises ["_law_cells", "_law_wares", "_law_scale"] []
  F_sums : Fun K "_law_sums" "_law_sums" s_sums d.f_sums d.fd_sums
  m_sums : mg "_law_sums" = some (.ref d.f_sums)
  b_sums : Binds K d.fd_sums ["_law_elders_here", "_law_promises_here"] []
  F_caps : Fun K "_law_caps" "_law_caps" s_caps d.f_caps d.fd_caps
  m_caps : mg "_law_caps" = some (.ref d.f_caps)
  b_caps : Binds K d.fd_caps ["_law_cells", "_law_sums_here", "_law_wares", "_law_scale"] []
  F_plan : Fun K "_law_plan" "_law_plan" s_plan d.f_plan d.fd_plan
  m_plan : mg "_law_plan" = some (.ref d.f_plan)
  b_plan : Binds K d.fd_plan ["_law_script", "_law_start", "_law_count"] []
  F_tree : Fun K "_law_tree" "_law_tree" s_tree d.f_tree d.fd_tree
  m_tree : mg "_law_tree" = some (.ref d.f_tree)
  b_tree : Binds K d.fd_tree ["_law_plan_here"] []
  F_thing : Fun K "_law_thing" "_law_thing" s_thing d.f_thing d.fd_thing
  m_thing : mg "_law_thing" = some (.ref d.f_thing)
  b_thing : Binds K d.fd_thing ["_law_cell", "_law_names", "_law_fresh"] []
  F_ask : Fun K "_law_ask" "_law_ask" s_ask d.f_ask d.fd_ask
  m_ask : mg "_law_ask" = some (.ref d.f_ask)
  b_ask : Binds K d.fd_ask ["_law_tree_here", "_law_which", "_law_thing_here", "_law_name_here"] []
  F_other : Fun K "_law_other" "_law_other" s_other d.f_other d.fd_other
  m_other : mg "_law_other" = some (.ref d.f_other)
  b_other : Binds K d.fd_other ["_law_e"] []
  F_refused : Fun K "_law_refused" "_law_refused" s_refused d.f_refused d.fd_refused
  m_refused : mg "_law_refused" = some (.ref d.f_refused)
  b_refused : Binds K d.fd_refused ["_law_tree_here", "_law_which", "_law_thing_here", "_law_name_here"] []
  F_founding_refused : Fun K "_law_founding_refused" "_law_founding_refused" s_founding_refused d.f_founding_refused d.fd_founding_refused
  m_founding_refused : mg "_law_founding_refused" = some (.ref d.f_founding_refused)
  b_founding_refused : Binds K d.fd_founding_refused ["_law_tree_here", "_law_fresh", "_law_thing_here"] []
  F_law : Fun K "law" "law" s_law d.f_law d.fd_law
  m_law : mg "law" = some (.ref d.f_law)
  F_House_init : Fun K "__init__" "House.__init__" s_House_init d.f_House_init d.fd_House_init
  b_House_init : Binds K d.fd_House_init ["self", "elder", "promise", "cap", "weight"] []
  F_Tree_init : My.FunD K "__init__" "Tree.__init__" s_Tree_init d.f_Tree_init d.fd_Tree_init d.t_Tree_init #[d.v0_Tree_init]
  b_Tree_init : Binds K d.fd_Tree_init ["self", "wares", "name", "promise", "cap", "weight"] []
  b1_Tree_init : Binds K d.fd_Tree_init ["self", "wares", "name", "promise", "cap", "weight"] [d.v0_Tree_init]
  rd_Tree_init : Vals [.int 1] [d.v0_Tree_init]
  F_Tree_found : My.FunD K "found" "Tree.found" s_Tree_found d.f_Tree_found d.fd_Tree_found d.t_Tree_found #[d.v0_Tree_found]
  b_Tree_found : Binds K d.fd_Tree_found ["self", "name", "elder", "promise", "cap", "weight"] []
  b1_Tree_found : Binds K d.fd_Tree_found ["self", "name", "elder", "promise", "cap", "weight"] [d.v0_Tree_found]
  rd_Tree_found : Vals [.int 1] [d.v0_Tree_found]
  F_Tree_wares : Fun K "wares" "Tree.wares" s_Tree_wares d.f_Tree_wares d.fd_Tree_wares
  b_Tree_wares : Binds K d.fd_Tree_wares ["self"] []
  F_Tree_names : Fun K "names" "Tree.names" s_Tree_names d.f_Tree_names d.fd_Tree_names
  b_Tree_names : Binds K d.fd_Tree_names ["self"] []
  F_Tree_has : Fun K "has" "Tree.has" s_Tree_has d.f_Tree_has d.fd_Tree_has
  b_Tree_has : Binds K d.fd_Tree_has ["self", "thing"] []
  F_Tree_check_house : Fun K "check_house" "Tree.check_house" s_Tree_check_house d.f_Tree_check_house d.fd_Tree_check_house
  b_Tree_check_house : Binds K d.fd_Tree_check_house ["self", "thing"] []
  F_Tree_house_of : Fun K "house_of" "Tree.house_of" s_Tree_house_of d.f_Tree_house_of d.fd_Tree_house_of
  b_Tree_house_of : Binds K d.fd_Tree_house_of ["self", "name"] []
  F_Tree_elder_of : Fun K "elder_of" "Tree.elder_of" s_Tree_elder_of d.f_Tree_elder_of d.fd_Tree_elder_of
  b_Tree_elder_of : Binds K d.fd_Tree_elder_of ["self", "name"] []
  F_Tree_promise_of : Fun K "promise_of" "Tree.promise_of" s_Tree_promise_of d.f_Tree_promise_of d.fd_Tree_promise_of
  b_Tree_promise_of : Binds K d.fd_Tree_promise_of ["self", "name"] []
  F_Tree_cap_of : Fun K "cap_of" "Tree.cap_of" s_Tree_cap_of d.f_Tree_cap_of d.fd_Tree_cap_of
  b_Tree_cap_of : Binds K d.fd_Tree_cap_of ["self", "name"] []
  F_Tree_weight_of : Fun K "weight_of" "Tree.weight_of" s_Tree_weight_of d.f_Tree_weight_of d.fd_Tree_weight_of
  b_Tree_weight_of : Binds K d.fd_Tree_weight_of ["self", "name"] []
  F_Tree_kids : Fun K "kids" "Tree.kids" s_Tree_kids d.f_Tree_kids d.fd_Tree_kids
  b_Tree_kids : Binds K d.fd_Tree_kids ["self", "name"] []
  F_Tree_line : Fun K "line" "Tree.line" s_Tree_line d.f_Tree_line d.fd_Tree_line
  b_Tree_line : Binds K d.fd_Tree_line ["self", "name"] []
  F_Tree_beneath : Fun K "beneath" "Tree.beneath" s_Tree_beneath d.f_Tree_beneath d.fd_Tree_beneath
  b_Tree_beneath : Binds K d.fd_Tree_beneath ["self", "name"] []
  F_Tree_promised_beneath : Fun K "promised_beneath" "Tree.promised_beneath" s_Tree_promised_beneath d.f_Tree_promised_beneath d.fd_Tree_promised_beneath
  b_Tree_promised_beneath : Binds K d.fd_Tree_promised_beneath ["self", "name"] []
  F_Tree_floors : Fun K "floors" "Tree.floors" s_Tree_floors d.f_Tree_floors d.fd_Tree_floors
  b_Tree_floors : Binds K d.fd_Tree_floors ["self", "name"] []
  F_Tree_check_more : Fun K "check_more" "Tree.check_more" s_Tree_check_more d.f_Tree_check_more d.fd_Tree_check_more
  b_Tree_check_more : Binds K d.fd_Tree_check_more ["self", "names", "more"] []
  F_Tree_check_move : Fun K "check_move" "Tree.check_move" s_Tree_check_move d.f_Tree_check_move d.fd_Tree_check_move
  b_Tree_check_move : Binds K d.fd_Tree_check_move ["self", "name", "elder"] []
  F_Tree_move : Fun K "move" "Tree.move" s_Tree_move d.f_Tree_move d.fd_Tree_move
  b_Tree_move : Binds K d.fd_Tree_move ["self", "name", "elder"] []
  F_i_NoPromise : Fun K "__init__" "NoPromise.__init__" s_i_NoPromise d.f_i_NoPromise d.fd_i_NoPromise
  XI_NoPromise : My.XClI K d.c_NoPromise d.f_i_NoPromise
  b_i_NoPromise : Binds K d.fd_i_NoPromise ["self", "house", "ware"] []
  m_House : mg "House" = some (.ref d.c_House)
  m_Tree : mg "Tree" = some (.ref d.c_Tree)
  m_TreeError : mg "TreeError" = some (.ref d.c_TreeError)
  m_NoName : mg "NoName" = some (.ref d.c_NoName)
  m_Taken : mg "Taken" = some (.ref d.c_Taken)
  m_NoHouse : mg "NoHouse" = some (.ref d.c_NoHouse)
  m_NoMove : mg "NoMove" = some (.ref d.c_NoMove)
  m_NoPromise : mg "NoPromise" = some (.ref d.c_NoPromise)
  m_NoWare : mg "NoWare" = some (.ref d.c_NoWare)
  m_NoAmount : mg "NoAmount" = some (.ref d.c_NoAmount)
  m_NoNumber : mg "NoNumber" = some (.ref d.c_NoNumber)
  m_TooMany : mg "TooMany" = some (.ref d.c_TooMany)
  m_TooDeep : mg "TooDeep" = some (.ref d.c_TooDeep)
  m_LETTERS : mg "LETTERS" = some d.u_LETTERS
  r_LETTERS : RelV (.str "abcdefghijklmnopqrstuvwxyz") d.u_LETTERS
  m_LONGEST_NAME : mg "LONGEST_NAME" = some d.u_LONGEST_NAME
  r_LONGEST_NAME : RelV (.int 8) d.u_LONGEST_NAME
  m_MOST_WARES : mg "MOST_WARES" = some d.u_MOST_WARES
  r_MOST_WARES : RelV (.int 6) d.u_MOST_WARES
  m_MOST_HOUSES : mg "MOST_HOUSES" = some d.u_MOST_HOUSES
  r_MOST_HOUSES : RelV (.int 40) d.u_MOST_HOUSES
  m_LONGEST_LINE : mg "LONGEST_LINE" = some d.u_LONGEST_LINE
  r_LONGEST_LINE : RelV (.int 12) d.u_LONGEST_LINE
  m_GREATEST_WEIGHT : mg "GREATEST_WEIGHT" = some d.u_GREATEST_WEIGHT
  r_GREATEST_WEIGHT : RelV (.int 1000) d.u_GREATEST_WEIGHT
  z_ValueError : mg "ValueError" = none
  z_all : mg "all" = none
  z_bool : mg "bool" = none
  z_dict : mg "dict" = none
  z_int : mg "int" = none
  z_isinstance : mg "isinstance" = none
  z_len : mg "len" = none
  z_list : mg "list" = none
  z_max : mg "max" = none
  z_min : mg "min" = none
  z_range : mg "range" = none
  z_set : mg "set" = none
  z_sorted : mg "sorted" = none
  z_str : mg "str" = none
  CL_House : Cls K d.c_House
  CL_Tree : Cls K d.c_Tree
  MK_House : Mk K d.c_House d.f_House_init
  MK_Tree : Mk K d.c_Tree d.f_Tree_init
  XA_NoHouse : My.XAt K d.c_NoHouse
  kAny : PySem.W.kitAny K (.ref d.c_NoHouse) [.ref d.c_NoAmount, .ref d.c_NoMove, .ref d.c_NoName, .ref d.c_NoNumber, .ref d.c_NoPromise, .ref d.c_NoWare, .ref d.c_Taken, .ref d.c_TooDeep, .ref d.c_TooMany] = some false
  kT : PySem.W.kitOne K (.ref d.c_NoHouse) (.ref d.c_TreeError) = some true
  kN : PySem.W.kitOne K (.ref d.c_NoHouse) (.ref d.c_NoHouse) = some true
  kV : PySem.W.kitOne K (.ref d.c_NoHouse) (.type "ValueError") = some true
  kcT : PySem.W.kitCls K (.ref d.c_NoHouse) (.ref d.c_TreeError) = some true
  kcN : PySem.W.kitCls K (.ref d.c_NoHouse) (.ref d.c_NoHouse) = some true
  ME_Tree_found : Meth K d.c_Tree "found" d.f_Tree_found
  ME_Tree_wares : Meth K d.c_Tree "wares" d.f_Tree_wares
  ME_Tree_names : Meth K d.c_Tree "names" d.f_Tree_names
  ME_Tree_has : Meth K d.c_Tree "has" d.f_Tree_has
  ME_Tree_check_house : Meth K d.c_Tree "check_house" d.f_Tree_check_house
  ME_Tree_house_of : Meth K d.c_Tree "house_of" d.f_Tree_house_of
  ME_Tree_elder_of : Meth K d.c_Tree "elder_of" d.f_Tree_elder_of
  ME_Tree_promise_of : Meth K d.c_Tree "promise_of" d.f_Tree_promise_of
  ME_Tree_cap_of : Meth K d.c_Tree "cap_of" d.f_Tree_cap_of
  ME_Tree_weight_of : Meth K d.c_Tree "weight_of" d.f_Tree_weight_of
  ME_Tree_kids : Meth K d.c_Tree "kids" d.f_Tree_kids
  ME_Tree_line : Meth K d.c_Tree "line" d.f_Tree_line
  ME_Tree_beneath : Meth K d.c_Tree "beneath" d.f_Tree_beneath
  ME_Tree_promised_beneath : Meth K d.c_Tree "promised_beneath" d.f_Tree_promised_beneath
  ME_Tree_floors : Meth K d.c_Tree "floors" d.f_Tree_floors
  ME_Tree_check_more : Meth K d.c_Tree "check_more" d.f_Tree_check_more
  ME_Tree_check_move : Meth K d.c_Tree "check_move" d.f_Tree_check_move
  ME_Tree_move : Meth K d.c_Tree "move" d.f_Tree_move
  NA_House_elder : PySem.W.findIn K (.ref d.c_House) "elder" = some none
  NA_House_promise : PySem.W.findIn K (.ref d.c_House) "promise" = some none
  NA_House_cap : PySem.W.findIn K (.ref d.c_House) "cap" = some none
  NA_House_weight : PySem.W.findIn K (.ref d.c_House) "weight" = some none
  NA_Tree_sorted_wares : PySem.W.findIn K (.ref d.c_Tree) "sorted_wares" = some none
  NA_Tree_houses : PySem.W.findIn K (.ref d.c_Tree) "houses" = some none
  X_NoHouse : My.XCls K d.c_NoHouse
  X_NoAmount : My.XCls K d.c_NoAmount
  X_NoWare : My.XCls K d.c_NoWare
  X_NoName : My.XCls K d.c_NoName
  X_NoNumber : My.XCls K d.c_NoNumber
  X_Taken : My.XCls K d.c_Taken
  X_TooMany : My.XCls K d.c_TooMany
  X_TooDeep : My.XCls K d.c_TooDeep
  X_NoMove : My.XCls K d.c_NoMove
  B_TreeError : PySem.W.kitCls K (.ref d.c_TreeError) (.type "BaseException") = some true
  B_NoHouse : PySem.W.kitCls K (.ref d.c_NoHouse) (.type "BaseException") = some true
def eV : Option Str → V
  | none => .non
  | some z => .str z
structure Ho where
  el : Option Str
  pa : Addr
  kp : List (Key × V)
  fp : Str → Option Int
  ca : Addr
  kc : List (Key × V)
  fc : Str → Option Int
  w : Int
structure He where
  n : Str
  a : Addr
  x : Ho
structure Ts where
  sw : Addr
  ws : List Str
  hs : Addr
  hl : List He
def fsH (x : Ho) : List (Str × V) := [("elder", eV x.el), ("promise", .ref x.pa), ("cap", .ref x.ca), ("weight", .int x.w)]
def HoAt (d : Ad) (H : Hp) (a : Addr) (x : Ho) : Prop := (∃ dx, H a = some (.ins d.c_House dx (fsH x))) ∧ H x.pa = some (.dK x.kp) ∧ AD x.kp x.fp ∧ H x.ca = some (.dK x.kc) ∧ AD x.kc x.fc
theorem HoAt.same {d : Ad} {H H' : Hp} {a : Addr} {x : Ho} (h : HoAt d H a x) (s : Same H H') : HoAt d H' a x := ⟨let ⟨dx, e⟩ := h.1; ⟨dx, s _ _ e⟩, s _ _ h.2.1, h.2.2.1, s _ _ h.2.2.2.1, h.2.2.2.2⟩
def Ts.keys (S : Ts) : List (Str × Addr) := S.hl.map fun e => (e.n, e.a)
def Ts.at (S : Ts) (z : Str) : Option He := S.hl.find? fun e => decide (e.n = z)
def fsT (S : Ts) : List (Str × V) := [("sorted_wares", .ref S.sw), ("houses", .ref S.hs)]
def TrAt (d : Ad) (H : Hp) (t : Addr) (S : Ts) : Prop := (∃ dx, H t = some (.ins d.c_Tree dx (fsT S))) ∧ H S.sw = some (.lst (S.ws.map V.str)) ∧ H S.hs = some (.dK (oK S.keys)) ∧ (S.hl.map (·.n)).Nodup ∧ S.hl.length ≤ 60 ∧ ∀ e ∈ S.hl, HoAt d H e.a e.x
theorem TrAt.same {d : Ad} {H H' : Hp} {t : Addr} {S : Ts} (h : TrAt d H t S) (s : Same H H') : TrAt d H' t S :=
  ⟨let ⟨dx, e⟩ := h.1; ⟨dx, s _ _ e⟩, s _ _ h.2.1, s _ _ h.2.2.1, h.2.2.2.1, h.2.2.2.2.1, fun e he => (h.2.2.2.2.2 e he).same s⟩
theorem look_at (S : Ts) (z : Str) : lookO S.keys z = (S.at z).map (·.a) := by
  obtain ⟨sw, ws, hs, hl⟩ := S
  unfold Ts.keys Ts.at
  dsimp only
  induction hl with
  | nil => rfl
  | cons e r ih =>
    rw [List.map_cons, List.find?_cons]
    unfold lookO
    by_cases q : e.n = z
    · rw [if_pos q, decide_eq_true q]; rfl
    · rw [if_neg q, decide_eq_false q]; exact ih
theorem at_mem {S : Ts} {z : Str} {e : He} (h : S.at z = some e) : e ∈ S.hl ∧ e.n = z := ⟨List.mem_of_find?_eq_some h, by have := List.find?_some h; simpa using this⟩
def NotS (K : PySem.W.Frag) (H : Hp) (x : V) : Prop := ∃ t, TyOf K H x t ∧ PySem.W.kitOne K t (.type "str") = some false
def Thing (K : PySem.W.Frag) (H : Hp) (x : V) : Prop := (∃ z, x = .str z) ∨ (NotS K H x ∧ ∀ z, x ≠ .str z)
def who (S : Ts) : V → Option He
  | .str z => S.at z
  | _ => none
theorem who_not {S : Ts} {x : V} (h : ∀ z, x ≠ .str z) : who S x = none := by
  cases x <;> first | rfl | (rename_i z; exact absurd rfl (h z))
def sp_Tree_has (K : PySem.W.Frag) (d : Ad) : Sp := fun vs H Q _ => ∃ (t : Addr) (S : Ts) (x : V), vs = [.ref t, x] ∧ TrAt d H t S ∧ Thing K H x ∧ Q (.bl (who S x).isSome) H
def sp_Tree_check_house (K : PySem.W.Frag) (d : Ad) : Sp := fun vs H Q E => ∃ (t : Addr) (S : Ts) (x : V), vs = [.ref t, x] ∧ TrAt d H t S ∧ Thing K H x ∧ (∀ e, who S x = some e → Q .non H) ∧ (who S x = none → E (.ref d.c_NoHouse) none H)
def sp_Tree_house_of (K : PySem.W.Frag) (d : Ad) : Sp := fun vs H Q E => ∃ (t : Addr) (S : Ts) (x : V), vs = [.ref t, x] ∧ TrAt d H t S ∧ Thing K H x ∧ (∀ e, who S x = some e → Q (.ref e.a) H) ∧ (who S x = none → E (.ref d.c_NoHouse) none H)
def sp_Tree_elder_of (K : PySem.W.Frag) (d : Ad) : Sp := fun vs H Q E => ∃ (t : Addr) (S : Ts) (x : V), vs = [.ref t, x] ∧ TrAt d H t S ∧ Thing K H x ∧ (∀ e, who S x = some e → Q (eV e.x.el) H) ∧ (who S x = none → E (.ref d.c_NoHouse) none H)
def sp_Tree_weight_of (K : PySem.W.Frag) (d : Ad) : Sp := fun vs H Q E => ∃ (t : Addr) (S : Ts) (x : V), vs = [.ref t, x] ∧ TrAt d H t S ∧ Thing K H x ∧ (∀ e, who S x = some e → Q (.int e.x.w) H) ∧ (who S x = none → E (.ref d.c_NoHouse) none H)
def sp_Tree_promise_of (K : PySem.W.Frag) (d : Ad) : Sp := fun vs H Q E => ∃ (t : Addr) (S : Ts) (x : V), vs = [.ref t, x] ∧ TrAt d H t S ∧ Thing K H x ∧ (∀ e, who S x = some e → ∀ p, H p = none → Q (.ref p) (upd H p (.dK e.x.kp))) ∧ (who S x = none → E (.ref d.c_NoHouse) none H)
def sp_Tree_cap_of (K : PySem.W.Frag) (d : Ad) : Sp := fun vs H Q E => ∃ (t : Addr) (S : Ts) (x : V), vs = [.ref t, x] ∧ TrAt d H t S ∧ Thing K H x ∧ (∀ e, who S x = some e → ∀ p, H p = none → Q (.ref p) (upd H p (.dK e.x.kc))) ∧ (who S x = none → E (.ref d.c_NoHouse) none H)
def sp_Tree_names (K : PySem.W.Frag) (d : Ad) : Sp := fun vs H Q _ => ∃ (t : Addr) (S : Ts), vs = [.ref t] ∧ TrAt d H t S ∧ ∀ l ss, H l = none → ss.Perm (S.hl.map (·.n)) → PyProof.Rows.sortedS ss = true → Q (.ref l) (upd H l (.lst (ss.map V.str)))
theorem r_notNs {H : Hp} {Q : VK} {a : Str} (h : Q (.bl true) H) : rNotN (.str a) .non H Q := ⟨rfl, h⟩
theorem TyOf.same {K : PySem.W.Frag} {H H' : Hp} {x : V} {t : Value} (h : TyOf K H x t) (s : Same H H') : TyOf K H' x t := by
  cases h with
  | non => exact .non
  | bl b => exact .bl b
  | int i => exact .int i
  | str z => exact .str z
  | flt z => exact .flt z
  | lst e => exact .lst (s _ _ e)
  | frz e => exact .frz (s _ _ e)
  | tup e => exact .tup (s _ _ e)
  | dK e => exact .dK (s _ _ e)
  | dT e => exact .dT (s _ _ e)
  | ins e c a n k m => exact .ins (s _ _ e) c a n k m
theorem Thing.same {K : PySem.W.Frag} {H H' : Hp} {x : V} (h : Thing K H x) (s : Same H H') : Thing K H' x := by
  rcases h with h | ⟨⟨t, a, b⟩, n⟩
  · exact .inl h
  · exact .inr ⟨⟨t, TyOf.same a s, b⟩, n⟩
inductive LineOf (S : Ts) : Str → List Str → Prop
  | top {z : Str} {e : He} (h : S.at z = some e) (n : e.x.el = none) : LineOf S z [z]
  | up {z y : Str} {e : He} {zs : List Str} (h : S.at z = some e) (n : e.x.el = some y) (r : LineOf S y zs) : LineOf S z (z :: zs)
def RestOf (S : Ts) : Option Str → List Str → Prop
  | none, zs => zs = []
  | some y, zs => LineOf S y zs
theorem LineOf.open {S : Ts} {z : Str} {zs : List Str} (h : LineOf S z zs) : ∃ e r, S.at z = some e ∧ zs = z :: r ∧ RestOf S e.x.el r := by
  cases h with
  | top h n => exact ⟨_, [], h, rfl, by rw [n]; rfl⟩
  | up h n r => exact ⟨_, _, h, rfl, by rw [n]; exact r⟩
def lenAt (l : Addr) (H : Hp) : Nat := match H l with
  | some (.lst xs) => xs.length
  | _ => 0
theorem lenAt_eq {l : Addr} {H : Hp} {xs : List V} (e : H l = some (.lst xs)) : lenAt l H = xs.length := by unfold lenAt; rw [e]
def sp_Tree_line (K : PySem.W.Frag) (d : Ad) : Sp := fun vs H Q E => ∃ (t : Addr) (S : Ts) (x : V), vs = [.ref t, x] ∧ TrAt d H t S ∧
  ((∃ z zs, x = .str z ∧ LineOf S z zs ∧ zs.length ≤ 1000 ∧ ∀ l, H l = none → Q (.ref l) (upd H l (.lst (zs.map V.str)))) ∨ (Thing K H x ∧ who S x = none ∧ ∀ l, H l = none → E (.ref d.c_NoHouse) none (upd H l (.lst [x]))))
def kidsOf (S : Ts) (z : Str) : List Str := (S.hl.filter fun e => decide (e.x.el = some z)).map (·.n)
def sp_Tree_kids (K : PySem.W.Frag) (d : Ad) : Sp := fun vs H Q E => ∃ (t : Addr) (S : Ts) (x : V), vs = [.ref t, x] ∧ TrAt d H t S ∧ Thing K H x ∧ (∀ e, who S x = some e → ∀ l ss H', Same H H' → H l = none → H' l = some (.lst (ss.map V.str)) → ss.Perm (kidsOf S e.n) → PyProof.Rows.sortedS ss = true → Q (.ref l) H') ∧ (who S x = none → E (.ref d.c_NoHouse) none H)
def sp_amount_of (K : PySem.W.Frag) (d : Ad) : Sp := fun vs H Q _ => ∃ (a : Addr) (kvs : List (Key × V)) (f : Str → Option Int) (z : Str), vs = [.ref a, .str z] ∧ Rd H a (.dK kvs) ∧ AD kvs f ∧ Q (.int (gN f z)) H
def sp_above_nought (K : PySem.W.Frag) (d : Ad) : Sp := fun vs H Q _ => ∃ (a : Addr) (kvs : List (Key × V)) (f : Str → Option Int), vs = [.ref a] ∧ H a = some (.dK kvs) ∧ AD kvs f ∧ kvs.length ≤ 1000 ∧
  ∀ l k' H', Same H H' → H l = none → H' l = some (.dK k') → AD k' (posF f) → Q (.ref l) H'
def sp_added (K : PySem.W.Frag) (d : Ad) : Sp := fun vs H Q _ => ∃ (a b : Addr) (ka kb : List (Key × V)) (f g : Str → Option Int), vs = [.ref a, .ref b] ∧ Rd H a (.dK ka) ∧ H b = some (.dK kb) ∧ AD ka f ∧ AD kb g ∧ ka.length ≤ 1000 ∧ kb.length ≤ 1000 ∧
  ∀ l k' H', Same H H' → H l = none → H' l = some (.dK k') → AD k' (addF f g) → Q (.ref l) H'
def sp_beyond (K : PySem.W.Frag) (d : Ad) : Sp := fun vs H Q _ => ∃ (a b : Addr) (ka kb : List (Key × V)) (f g : Str → Option Int), vs = [.ref a, .ref b] ∧ Rd H a (.dK ka) ∧ Rd H b (.dK kb) ∧ AD ka f ∧ AD kb g ∧ ka.length < 64 ∧
  (∀ H', Same H H' → (∀ y, ¬ viol f g y) → Q .non H') ∧ ∀ z H', Same H H' → viol f g z → (∀ y, viol f g y → leS z y) → Q (.str z) H'
structure Pt where
  a : Addr
  k : List (Key × V)
  f : Str → Option Int
def sumF (ts : List Pt) : Str → Option Int := ts.foldl (fun f t => addF f t.f) noF
def PtOk (H : Hp) (ws : List Str) (t : Pt) : Prop := H t.a = some (.dK t.k) ∧ AD t.k t.f ∧ ∀ z, t.f z ≠ none → z ∈ ws
def sp_total_of (K : PySem.W.Frag) (d : Ad) : Sp := fun vs H Q _ => ∃ (L : Addr) (ts : List Pt) (ws : List Str), vs = [.ref L] ∧ SqL K H L (ts.map fun t => .ref t.a) ∧ ws.length ≤ 100 ∧ (∀ t ∈ ts, PtOk H ws t) ∧
  ∀ l k' H', Same H H' → H l = none → H' l = some (.dK k') → AD k' (sumF ts) → Q (.ref l) H'
section
variable {K : PySem.W.Frag} {d : Ad} {H : Hp} {Q : VK} {E : XK}
theorem u_amount {a : Addr} {kvs : List (Key × V)} {f : Str → Option Int} {z : Str} (hR : Rd H a (.dK kvs)) (hA : AD kvs f) (q : Q (.int (gN f z)) H) : sp_amount_of K d [.ref a, .str z] H Q E := ⟨a, kvs, f, z, rfl, hR, hA, q⟩
end
local macro_rules | `(tactic| walk_at "kit") => `(tactic| (with_reducible (first | assumption | exact My.kit_int_int | exact My.kit_int_bool | exact My.kit_int_str | exact My.kit_int_lst | exact My.kit_int_tup | exact My.kit_int_dct | exact My.kit_bool_int | exact My.kit_bool_bool | exact My.kit_bool_str | exact My.kit_bool_lst | exact My.kit_bool_tup | exact My.kit_bool_dct | exact My.kit_str_int | exact My.kit_str_bool | exact My.kit_str_str | exact My.kit_str_lst | exact My.kit_str_tup | exact My.kit_str_dct | exact My.kit_non_int | exact My.kit_non_bool | exact My.kit_non_str | exact My.kit_non_lst | exact My.kit_non_tup | exact My.kit_non_dct | exact My.kit_lst_int | exact My.kit_lst_bool | exact My.kit_lst_str | exact My.kit_lst_lst | exact My.kit_lst_tup | exact My.kit_lst_dct | exact My.kit_tup_int | exact My.kit_tup_bool | exact My.kit_tup_str | exact My.kit_tup_lst | exact My.kit_tup_tup | exact My.kit_tup_dct | exact My.kit_dct_int | exact My.kit_dct_bool | exact My.kit_dct_str | exact My.kit_dct_lst | exact My.kit_dct_tup | exact My.kit_dct_dct)))
local macro_rules | `(tactic| walk_at "ty") => `(tactic| (first | (with_reducible assumption) | (with_reducible exact TyOf.int _) | (with_reducible exact TyOf.bl _) | (with_reducible exact TyOf.str _) | (with_reducible exact TyOf.non) | ((with_reducible refine' TyOf.tup ?h); (case h => walk_at "heap")) | ((with_reducible refine' TyOf.lst ?h); (case h => walk_at "heap")) | ((with_reducible refine' TyOf.dK ?h); (case h => walk_at "heap"))))
local macro_rules | `(tactic| walk_at "heap") => `(tactic| first | with_reducible assumption | with_reducible exact upd_same | ((with_reducible refine' look_new ?h ?n); (case n => with_reducible assumption); (case h => walk_at "heap")))
local macro_rules | `(tactic| walk_at "sqL") => `(tactic| first | with_reducible assumption | ((with_reducible refine' sqL_new ?h ?n); (case n => with_reducible assumption); (case h => walk_at "sqL")) | ((with_reducible refine' SqL.of ?h); (case h => walk_at "heap")))
local macro_rules | `(tactic| walk_at "sqT") => `(tactic| first | with_reducible assumption | ((with_reducible refine' sqT_new ?h ?n); (case n => with_reducible assumption); (case h => walk_at "sqT")) | ((with_reducible refine' SqT.of ?h); (case h => walk_at "heap")))
local macro_rules | `(tactic| walk_at "side") => `(tactic| first | assumption | exact rfl | omega | decide | (simp only [List.length_cons, List.length_nil, List.length_map]; omega) | exact ⟨by omega, by omega⟩ | exact ⟨by decide, by decide⟩ | exact ⟨by omega, by assumption⟩ | exact ⟨by assumption, by assumption⟩ | exact ⟨by decide, by assumption⟩ | exact ⟨by decide, by decide, by decide⟩)
local macro_rules | `(tactic| walk_at "size") => `(tactic| (first | assumption | (simp only [List.length_cons, List.length_nil, List.length_map, List.length_take]; first | decide | (show _ ≤ 16777216; omega) | (show _ < 16777216; omega)) | (show _ ≤ 16777216; omega) | (show _ < 16777216; omega)))
local macro_rules | `(tactic| walk_at "sp") => `(tactic| fail)
local macro_rules | `(tactic| walk_at "r1") => `(tactic| first
  | (with_reducible refine r_var (by with_unfolding_all exact rfl) ?_)
  | (with_reducible refine r_c ?_) | (with_reducible refine r_op ?_) | (with_reducible refine r_un ?_)
  | (with_reducible refine r_I0 ?_) | (with_reducible refine r_U ?_)
  | ((with_reducible refine r_I ?hc ?_); (case hc => walk_at "side"))
  | (with_reducible refine r_eqI ?_) | (with_reducible refine r_neI ?_) | (with_reducible refine r_eqB ?_) | (with_reducible refine r_eqS ?_) | (with_reducible refine r_neS ?_)
  | (with_reducible refine r_exb ?_) | (with_reducible refine r_test ?_) | (with_reducible refine r_tB ?_)
  | (with_reducible refine r_and ?_) | (with_reducible refine r_or ?_) | (with_reducible refine r_not ?_)
  | (with_reducible refine r_andV ?_) | (with_reducible refine r_orV ?_) | (with_reducible refine r_notV ?_) | (with_reducible refine r_ifE ?_)
  | (with_reducible refine r_next ?_) | (with_reducible refine r_seq ?_) | (with_reducible refine r_drop ?_) | (with_reducible refine r_ret ?_) | (with_reducible refine r_retN ?_)
  | (with_reducible refine r_if ?_) | (with_reducible refine r_asg ?_)
  | (with_reducible refine r_name (by with_unfolding_all (simp only [List.set]; exact rfl)) ?_)
  | (with_reducible refine r_gnil ?_) | (with_reducible refine r_gcons ?_)
  | ((with_reducible refine' r_gtup ?s ?n ?_); (case s => walk_at "sqT"); (case n => exact rfl))
  | (with_reducible refine r_for ?_) | (with_reducible refine r_iL ?_) | (with_reducible refine r_iT ?_) | (with_reducible refine r_iR ?_)
  | ((with_reducible refine' r_itL ?s ?_); (case s => walk_at "sqL")) | ((with_reducible refine' r_itT ?s ?_); (case s => walk_at "sqT")) | ((with_reducible refine' r_itR ?s ?t ?_); (case s => walk_at "side"); (case t => walk_at "side"))
  | (with_reducible refine r_par ?_) | (with_reducible refine r_two ?_)
  | (with_reducible refine r_gone (by with_unfolding_all (simp only [List.set]; exact rfl)) ?_) | (with_reducible refine r_goneR ?_)
  | (with_reducible refine r_nx ?_) | (with_reducible refine r_rt ?_) | (with_reducible refine r_bk ?_) | (with_reducible refine r_ct ?_)
  | (with_reducible refine r_nil ?_) | (with_reducible refine r_cons ?_) | (with_reducible refine r_tup ?_) | (with_reducible refine r_lst ?_)
  | ((with_reducible refine r_new ?n ?_); (case n => (simp only [List.length_cons, List.length_nil]; decide)))
  | ((with_reducible refine r_fresh ?_); intro p hp)
  | (with_reducible refine r_as ?_)
  | (with_reducible refine r_call ?_) | (with_reducible refine r_callX ?_) | (with_reducible refine r_cb ?_) | ((with_reducible refine r_try ?_); intro pins) | (with_reducible refine r_raise ?_)
  | ((with_reducible refine' r_ixT ?s ?e ?_); (case s => walk_at "sqT"); (case e => exact rfl))
  | (with_reducible refine r_comp ?_) | (with_reducible refine r_true ?_) | (with_reducible refine r_iS ?_) | (with_reducible refine r_itS ?_) | (with_reducible refine r_inS ?_)
  | ((with_reducible refine' r_app ?a ?z ?_); (case a => walk_at "heap"); (case z => walk_at "size"))
  | ((with_reducible refine' r_catS ?z ?_); (case z => walk_at "size")) | ((with_reducible refine' r_lenS ?z ?_); (case z => walk_at "size")) | ((with_reducible refine' r_slS ?z ?_); (case z => walk_at "size"))
  | (with_reducible refine r_sl ?_) | (with_reducible refine r_noPart ?_) | (with_reducible refine r_part ?_) | (with_reducible refine r_exi ?_) | (with_reducible refine r_chain ?_)
  | ((with_reducible refine' r_lenT ?s ?_); (case s => walk_at "sqT")) | ((with_reducible refine' r_lenL ?s ?_); (case s => walk_at "sqL"))
  | (with_reducible refine r_abs ?_) | (with_reducible refine r_isNn ?_) | (with_reducible refine r_isNr ?_) | (with_reducible refine r_isNi ?_) | (with_reducible refine r_isNb ?_) | (with_reducible refine r_isNs ?_)
  | (with_reducible refine r_notNn ?_) | (with_reducible refine r_notNr ?_) | (with_reducible refine r_notNi ?_) | (with_reducible refine r_isTb ?_) | (with_reducible refine r_isTn ?_)
  | ((with_reducible refine' r_isi ?t ?k ?_); (case t => walk_at "ty"); (case k => walk_at "kit"))
  | (with_reducible refine i_nT ?_) | (with_reducible refine i_nF ?_)
  | (with_reducible refine iteT ?_) | (with_reducible refine iteF ?_)
  | ((with_reducible refine i_t ?c ?_); (case c => walk_at "side")) | ((with_reducible refine i_f ?c ?_); (case c => walk_at "side"))
  | ((with_reducible refine i_nt ?c ?_); (case c => walk_at "side")) | ((with_reducible refine i_nf ?c ?_); (case c => walk_at "side"))
  | walk_at "sp")
local macro_rules | `(tactic| walk_at "go") => `(tactic| repeat walk_at "r1")
local macro_rules | `(tactic| walk_at "rd") => `(tactic| first | with_reducible assumption | ((with_reducible refine' rd_new ?h ?n); (case n => with_reducible assumption); (case h => walk_at "rd")) | ((with_reducible refine' Rd.of ?h); (case h => walk_at "heap")))
local macro_rules | `(tactic| walk_at "same") => `(tactic| first | with_reducible assumption | exact Same.refl _ | ((with_reducible refine' same_upd ?h ?n); (case n => with_reducible assumption); (case h => walk_at "same")))
local macro_rules | `(tactic| walk_at "sp") => `(tactic| first
  | ((with_reducible refine r_disp1 ?_); intro p hp) | ((with_reducible refine' r_ds ?e ?_); (case e => walk_at "heap"))
  | ((with_reducible refine' r_glst ?s ?n ?_); (case s => walk_at "sqL"); (case n => exact rfl))
  | (with_reducible refine r_lrev ?_) | ((with_reducible refine' r_lrevk ?s ?_); (case s => walk_at "sqL"); intro p hp)
  | ((with_reducible refine' r_clear ?h ?_); (case h => walk_at "heap"))
  | ((with_reducible refine' u_amount ?r ?a ?_); (case r => walk_at "rd"); (case a => with_reducible assumption))
  | (with_reducible refine r_intB ?_) | (with_reducible refine r_neB ?_)
  | ((with_reducible refine' r_ixL ?s ?e ?_); (case s => walk_at "sqL"); (case e => exact rfl))
  | (with_reducible refine r_dg2 ?_) | ((with_reducible refine' r_dg2a ?r ?_); (case r => walk_at "rd")) | ((with_reducible refine' r_dg2b ?r ?a ?_); (case r => walk_at "rd"); (case a => with_reducible assumption))
  | (with_reducible refine r_dg ?_) | ((with_reducible refine' r_dgk ?r ?a ?e ?_); (case r => walk_at "rd"); (case a => with_reducible assumption); (case e => with_reducible assumption))
  | (with_reducible refine r_dp ?_) | ((with_reducible refine' r_dpk ?e ?z ?_); (case e => walk_at "heap"); (case z => walk_at "size"))
  | ((with_reducible refine r_dnew ?_); intro p hp) | (with_reducible refine r_thA ?_) | (with_reducible refine r_iD ?_)
  | ((with_reducible refine' r_dictCp ?e ?_); (case e => walk_at "rd"); intro p hp)
  | (with_reducible refine r_iZ ?_) | (with_reducible refine r_lp ?_) | (with_reducible refine r_max ?_) | (with_reducible refine r_min ?_) | (with_reducible refine r_tyS ?_)
  | (with_reducible refine r_mtX ?_) | ((with_reducible refine' r_mtkX ?e ?l ?_); (case e => walk_at "heap"); (case l => exact rfl)) | (with_reducible refine r_mkX ?_) | ((with_reducible refine' r_mtk ?e ?l ?_); (case e => walk_at "heap"); (case l => exact rfl))
  | (with_reducible refine r_notNs ?_) | (with_reducible refine r_di ?_) | ((with_reducible refine' r_diO ?r ?_); (case r => walk_at "rd"))
  | (with_reducible refine r_mk ?_) | (with_reducible refine r_mt ?_) | (with_reducible refine r_fl ?_) | (with_reducible refine r_fs ?_)
  | ((with_reducible refine' r_flk ?e ?c ?n ?l ?_); (case e => walk_at "heap"); (case c => with_reducible assumption); (case n => with_reducible assumption); (case l => exact rfl))
  | ((with_reducible refine' r_fsk ?e ?c ?n ?z ?_); (case e => walk_at "heap"); (case c => with_reducible assumption); (case n => with_reducible assumption); (case z => (show _ < 1000; decide)))
  | (with_reducible refine r_bm ?_) | (with_reducible refine r_bm0 ?_) | ((with_reducible refine' r_tyL ?s ?_); (case s => walk_at "sqL")) | ((with_reducible refine' r_tyD ?s ?_); (case s => walk_at "heap"))
  | ((with_reducible refine' r_append ?h ?z ?_); (case h => walk_at "heap"); (case z => walk_at "size")) | ((with_reducible refine' r_dclear ?h ?_); (case h => walk_at "heap"))
  | ((with_reducible refine r_szS ?z ?_); (case z => first | (show _ ≤ 16777216; omega) | (simp only [len_app]; show _ ≤ 16777216; omega))))
theorem sc_is_whole : FnScope ["thing"] ["thing"] (defScope s_is_whole) := ⟨rfl, rfl, rfl, by decide +kernel, rfl, by decide +kernel, by decide +kernel⟩
theorem sc_is_name : FnScope ["thing"] ["thing"] (defScope s_is_name) := ⟨rfl, rfl, rfl, by decide +kernel, rfl, by decide +kernel, by decide +kernel⟩
theorem sc_is_whole_from : FnScope ["thing", "least", "most"] ["thing", "least", "most"] (defScope s_is_whole_from) := ⟨rfl, rfl, rfl, by decide +kernel, rfl, by decide +kernel, by decide +kernel⟩
theorem sc_is_amount : FnScope ["thing"] ["thing"] (defScope s_is_amount) := ⟨rfl, rfl, rfl, by decide +kernel, rfl, by decide +kernel, by decide +kernel⟩
theorem sc_amounts_of : FnScope ["handed", "wares", "key", "ware"] ["handed", "wares"] (defScope s_amounts_of) := ⟨rfl, rfl, rfl, by decide +kernel, rfl, by decide +kernel, by decide +kernel⟩
theorem sc_above_nought : FnScope ["amounts", "told", "ware"] ["amounts"] (defScope s_above_nought) := ⟨rfl, rfl, rfl, by decide +kernel, rfl, by decide +kernel, by decide +kernel⟩
theorem sc_amount_of : FnScope ["amounts", "ware"] ["amounts", "ware"] (defScope s_amount_of) := ⟨rfl, rfl, rfl, by decide +kernel, rfl, by decide +kernel, by decide +kernel⟩
theorem sc_added : FnScope ["one", "other", "told", "ware"] ["one", "other"] (defScope s_added) := ⟨rfl, rfl, rfl, by decide +kernel, rfl, by decide +kernel, by decide +kernel⟩
theorem sc_beyond : FnScope ["one", "other", "ware"] ["one", "other"] (defScope s_beyond) := ⟨rfl, rfl, rfl, by decide +kernel, rfl, by decide +kernel, by decide +kernel⟩
theorem sc_total_of : FnScope ["many", "total", "amounts"] ["many"] (defScope s_total_of) := ⟨rfl, rfl, rfl, by decide +kernel, rfl, by decide +kernel, by decide +kernel⟩
theorem sc_are_wares : FnScope ["thing"] ["thing"] (defScope s_are_wares) := ⟨rfl, rfl, rfl, by decide +kernel, rfl, by decide +kernel, by decide +kernel⟩
theorem sc_check_name : FnScope ["thing"] ["thing"] (defScope s_check_name) := ⟨rfl, rfl, rfl, by decide +kernel, rfl, by decide +kernel, by decide +kernel⟩
theorem sc_read_house : FnScope ["wares", "elder", "promise", "cap", "weight", "own_promise", "own_cap"] ["wares", "elder", "promise", "cap", "weight"] (defScope s_read_house) := ⟨rfl, rfl, rfl, by decide +kernel, rfl, by decide +kernel, by decide +kernel⟩
theorem sc_check_promises : FnScope ["name", "promises", "cap", "ware"] ["name", "promises", "cap"] (defScope s_check_promises) := ⟨rfl, rfl, rfl, by decide +kernel, rfl, by decide +kernel, by decide +kernel⟩
theorem sc_cell_at : FnScope ["_law_script", "_law_k"] ["_law_script", "_law_k"] (defScope s_cell_at) := ⟨rfl, rfl, rfl, by decide +kernel, rfl, by decide +kernel, by decide +kernel⟩
theorem sc_mixed : FnScope ["_law_cell", "_law_k", "_law_number"] ["_law_cell", "_law_k"] (defScope s_mixed) := ⟨rfl, rfl, rfl, by decide +kernel, rfl, by decide +kernel, by decide +kernel⟩
theorem sc_name : FnScope ["_law_cell", "_law_k", "_law_letters", "_law_size", "_law_at", "_law_name_here", "_law_j", "_law_step", "_law_place"] ["_law_cell", "_law_k"] (defScope s_name) := ⟨rfl, rfl, rfl, by decide +kernel, rfl, by decide +kernel, by decide +kernel⟩
theorem sc_elders : FnScope ["_law_cells", "_law_shape", "_law_elders_here", "_law_k", "_law_at"] ["_law_cells", "_law_shape"] (defScope s_elders) := ⟨rfl, rfl, rfl, by decide +kernel, rfl, by decide +kernel, by decide +kernel⟩
theorem sc_promises : FnScope ["_law_cells", "_law_wares", "_law_scale", "_law_promises_here", "_law_k", "_law_one", "_law_j", "_law_number"] ["_law_cells", "_law_wares", "_law_scale"] (defScope s_promises) := ⟨rfl, rfl, rfl, by decide +kernel, rfl, by decide +kernel, by decide +kernel⟩
theorem sc_sums : FnScope ["_law_elders_here", "_law_promises_here", "_law_sums_here", "_law_k", "_law_at", "_law_ware", "_law_many"] ["_law_elders_here", "_law_promises_here"] (defScope s_sums) := ⟨rfl, rfl, rfl, by decide +kernel, rfl, by decide +kernel, by decide +kernel⟩
theorem sc_caps : FnScope ["_law_cells", "_law_sums_here", "_law_wares", "_law_scale", "_law_caps_here", "_law_k", "_law_one", "_law_j", "_law_number", "_law_more", "_law_many"] ["_law_cells", "_law_sums_here", "_law_wares", "_law_scale"] (defScope s_caps) := ⟨rfl, rfl, rfl, by decide +kernel, rfl, by decide +kernel, by decide +kernel⟩
theorem sc_plan : FnScope ["_law_script", "_law_start", "_law_count", "_law_head", "_law_wares", "_law_scale", "_law_cells", "_law_elders_here", "_law_promises_here", "_law_caps_here", "_law_names"] ["_law_script", "_law_start", "_law_count"] (defScope s_plan) := ⟨rfl, rfl, rfl, by decide +kernel, rfl, by decide +kernel, by decide +kernel⟩
theorem sc_tree : FnScope ["_law_plan_here", "_law_wares", "_law_names", "_law_elders_here", "_law_promises_here", "_law_caps_here", "_law_tree_here", "_law_k"] ["_law_plan_here"] (defScope s_tree) := ⟨rfl, rfl, rfl, by decide +kernel, rfl, by decide +kernel, by decide +kernel⟩
theorem sc_thing : FnScope ["_law_cell", "_law_names", "_law_fresh", "_law_name_here", "_law_some_here"] ["_law_cell", "_law_names", "_law_fresh"] (defScope s_thing) := ⟨rfl, rfl, rfl, by decide +kernel, rfl, by decide +kernel, by decide +kernel⟩
theorem sc_ask : FnScope ["_law_tree_here", "_law_which", "_law_thing_here", "_law_name_here"] ["_law_tree_here", "_law_which", "_law_thing_here", "_law_name_here"] (defScope s_ask) := ⟨rfl, rfl, rfl, by decide +kernel, rfl, by decide +kernel, by decide +kernel⟩
theorem sc_other : FnScope ["_law_e"] ["_law_e"] (defScope s_other) := ⟨rfl, rfl, rfl, by decide +kernel, rfl, by decide +kernel, by decide +kernel⟩
theorem sc_refused : FnScope ["_law_tree_here", "_law_which", "_law_thing_here", "_law_name_here", "_law_told", "_law_e"] ["_law_tree_here", "_law_which", "_law_thing_here", "_law_name_here"] (defScope s_refused) := ⟨rfl, rfl, rfl, by decide +kernel, rfl, by decide +kernel, by decide +kernel⟩
theorem sc_founding_refused : FnScope ["_law_tree_here", "_law_fresh", "_law_thing_here", "_law_told"] ["_law_tree_here", "_law_fresh", "_law_thing_here"] (defScope s_founding_refused) := ⟨rfl, rfl, rfl, by decide +kernel, rfl, by decide +kernel, by decide +kernel⟩
theorem sc_law : FnScope ["_law_script", "_law_plan_here", "_law_names", "_law_fresh", "_law_other_here", "_law_tree_here", "_law_thing_here", "_law_name_here", "_law_which"] ["_law_script"] (defScope s_law) := ⟨rfl, rfl, rfl, by decide +kernel, rfl, by decide +kernel, by decide +kernel⟩
theorem sc_House_init : FnScope ["self", "elder", "promise", "cap", "weight"] ["self", "elder", "promise", "cap", "weight"] (defScope s_House_init) := ⟨rfl, rfl, rfl, by decide +kernel, rfl, by decide +kernel, by decide +kernel⟩
theorem sc_Tree_init : FnScope ["self", "wares", "name", "promise", "cap", "weight", "house"] ["self", "wares", "name", "promise", "cap", "weight"] (defScope s_Tree_init) := ⟨rfl, rfl, rfl, by decide +kernel, rfl, by decide +kernel, by decide +kernel⟩
theorem sc_Tree_found : FnScope ["self", "name", "elder", "promise", "cap", "weight", "house", "elders"] ["self", "name", "elder", "promise", "cap", "weight"] (defScope s_Tree_found) := ⟨rfl, rfl, rfl, by decide +kernel, rfl, by decide +kernel, by decide +kernel⟩
theorem sc_Tree_wares : FnScope ["self"] ["self"] (defScope s_Tree_wares) := ⟨rfl, rfl, rfl, by decide +kernel, rfl, by decide +kernel, by decide +kernel⟩
theorem sc_Tree_names : FnScope ["self"] ["self"] (defScope s_Tree_names) := ⟨rfl, rfl, rfl, by decide +kernel, rfl, by decide +kernel, by decide +kernel⟩
theorem sc_Tree_has : FnScope ["self", "thing"] ["self", "thing"] (defScope s_Tree_has) := ⟨rfl, rfl, rfl, by decide +kernel, rfl, by decide +kernel, by decide +kernel⟩
theorem sc_Tree_check_house : FnScope ["self", "thing"] ["self", "thing"] (defScope s_Tree_check_house) := ⟨rfl, rfl, rfl, by decide +kernel, rfl, by decide +kernel, by decide +kernel⟩
theorem sc_Tree_house_of : FnScope ["self", "name"] ["self", "name"] (defScope s_Tree_house_of) := ⟨rfl, rfl, rfl, by decide +kernel, rfl, by decide +kernel, by decide +kernel⟩
theorem sc_Tree_elder_of : FnScope ["self", "name"] ["self", "name"] (defScope s_Tree_elder_of) := ⟨rfl, rfl, rfl, by decide +kernel, rfl, by decide +kernel, by decide +kernel⟩
theorem sc_Tree_promise_of : FnScope ["self", "name"] ["self", "name"] (defScope s_Tree_promise_of) := ⟨rfl, rfl, rfl, by decide +kernel, rfl, by decide +kernel, by decide +kernel⟩
theorem sc_Tree_cap_of : FnScope ["self", "name"] ["self", "name"] (defScope s_Tree_cap_of) := ⟨rfl, rfl, rfl, by decide +kernel, rfl, by decide +kernel, by decide +kernel⟩
theorem sc_Tree_weight_of : FnScope ["self", "name"] ["self", "name"] (defScope s_Tree_weight_of) := ⟨rfl, rfl, rfl, by decide +kernel, rfl, by decide +kernel, by decide +kernel⟩
theorem sc_Tree_kids : FnScope ["self", "name"] ["self", "name"] (defScope s_Tree_kids) := ⟨rfl, rfl, rfl, by decide +kernel, rfl, by decide +kernel, by decide +kernel⟩
theorem sc_Tree_line : FnScope ["self", "name", "told", "elder"] ["self", "name"] (defScope s_Tree_line) := ⟨rfl, rfl, rfl, by decide +kernel, rfl, by decide +kernel, by decide +kernel⟩
theorem sc_Tree_beneath : FnScope ["self", "name", "told", "kid"] ["self", "name"] (defScope s_Tree_beneath) := ⟨rfl, rfl, rfl, by decide +kernel, rfl, by decide +kernel, by decide +kernel⟩
theorem sc_Tree_promised_beneath : FnScope ["self", "name"] ["self", "name"] (defScope s_Tree_promised_beneath) := ⟨rfl, rfl, rfl, by decide +kernel, rfl, by decide +kernel, by decide +kernel⟩
theorem sc_Tree_check_more : FnScope ["self", "names", "more", "name"] ["self", "names", "more"] (defScope s_Tree_check_more) := ⟨rfl, rfl, rfl, by decide +kernel, rfl, by decide +kernel, by decide +kernel⟩
theorem sc_Tree_check_move : FnScope ["self", "name", "elder", "own_line", "elders"] ["self", "name", "elder"] (defScope s_Tree_check_move) := ⟨rfl, rfl, rfl, by decide +kernel, rfl, by decide +kernel, by decide +kernel⟩
theorem sc_Tree_move : FnScope ["self", "name", "elder"] ["self", "name", "elder"] (defScope s_Tree_move) := ⟨rfl, rfl, rfl, by decide +kernel, rfl, by decide +kernel, by decide +kernel⟩
theorem ok_Tree_has {P : Program} {w : World} {K : PySem.W.Frag} {mg : Str → Option Value} {base : Heap} {d : Ad} (T : Tx K mg d) : FnOk P w K mg base CX0 1 d.f_Tree_has d.fd_Tree_has ["self", "thing"] (sp_Tree_has K d) := by
  refine T.F_Tree_has.ok sc_Tree_has (fun vs H Q E h => ?_) (fun cdv A outer s H vs Q E hr h => ?_)
  · obtain ⟨t, S, x, rfl, _⟩ := h; rfl
  obtain ⟨t, S, x, rfl, hT, hx, q⟩ := h
  refine ⟨_, (pss_one (ps_ret (pe_and (pe_callB My.call_isi2 rfl T.z_isinstance PyProof.Rows.boot_isinstance (pa_cons (pv 1) (pa_cons (pe_bltn (v := .ty "str") rfl T.z_str PyProof.Rows.boot_str rfl) pa_nil))) (pe_one (pe_cmp (pc_din (hu_of hr) (pv 1) (pe_fld (pv 0) rfl))))))), ?_⟩
  try dsimp only [L2.cxOf, L2.Cx.nox, L2.Cx.wish, My.xw, My.pnd, My.suite]
  refine r_start (σ := [some (.ref t), some (x)]) rfl ?_
  obtain ⟨⟨dx, ht⟩, hw, hh, nd, hz, hE⟩ := hT
  have ct := T.CL_Tree
  have nh : NoAttr K d.c_Tree "houses" := T.NA_Tree_houses
  rcases hx with ⟨z, rfl⟩ | ⟨⟨ty, ht1, ht2⟩, nz⟩
  · walk_at "go"
    rw [look_at, Option.isSome_map]
    exact q
  · walk_at "go"
    rw [who_not nz] at q
    exact q
theorem ok_Tree_check_house {P : Program} {w : World} {K : PySem.W.Frag} {mg : Str → Option Value} {base : Heap} {d : Ad} (T : Tx K mg d) : FnOk P w K mg base (My.CX1 P w) 2 d.f_Tree_check_house d.fd_Tree_check_house ["self", "thing"] (sp_Tree_check_house K d) := by
  refine My.okX T.F_Tree_check_house sc_Tree_check_house (fun vs H Q E h => ?_) (fun cdv A outer s H vs Q E hr h => ?_)
  · obtain ⟨t, S, x, rfl, _⟩ := h; rfl
  obtain ⟨t, S, x, rfl, hT, hx, q1, q2⟩ := h
  refine ⟨_, (pss_one (ps_if (pt_not (pt_val (pe_meth (pv 0) T.CL_Tree T.ME_Tree_has ((ok_Tree_has T).mono (by decide)) hr T.b_Tree_has .nil pass0 (pa_cons (pv 1) pa_nil)))) (pss_one (My.ps_raise rfl T.X_NoHouse rfl T.m_NoHouse My.xes_xw (pa_cons pe_str pa_nil))) pss_nil)), ?_⟩
  try dsimp only [L2.cxOf, L2.Cx.nox, L2.Cx.wish, My.xw, My.pnd, My.suite]
  refine r_start (σ := [some (.ref t), some (x)]) rfl ?_
  have hT0 := hT
  obtain ⟨⟨dx, ht⟩, hw, hh, nd, hz, hE⟩ := hT
  have ct := T.CL_Tree
  have nh : NoAttr K d.c_Tree "houses" := T.NA_Tree_houses
  walk_at "go"
  refine ⟨t, S, x, rfl, hT0, hx, ?_⟩
  cases hw' : who S x with
  | none =>
    walk_at "go"
    show if (!false) = true then _ else _
    walk_at "go"
    exact q2 hw'
  | some e =>
    walk_at "go"
    exact q1 e hw'
theorem ok_Tree_house_of {P : Program} {w : World} {K : PySem.W.Frag} {mg : Str → Option Value} {base : Heap} {d : Ad} (T : Tx K mg d) : FnOk P w K mg base (My.CX1 P w) 3 d.f_Tree_house_of d.fd_Tree_house_of ["self", "name"] (sp_Tree_house_of K d) := by
  refine My.okX T.F_Tree_house_of sc_Tree_house_of (fun vs H Q E h => ?_) (fun cdv A outer s H vs Q E hr h => ?_)
  · obtain ⟨t, S, x, rfl, _⟩ := h; rfl
  obtain ⟨t, S, x, rfl, hT, hx, q1, q2⟩ := h
  refine ⟨_, (pss_cons (ps_expr (My.pe_methX (pv 0) T.CL_Tree T.ME_Tree_check_house ((ok_Tree_check_house T).mono (by decide)) hr T.b_Tree_check_house .nil My.xes_xw (pa_cons (pv 1) pa_nil)))
    (pss_one (ps_ret (pe_dget (hu_of hr) (pe_fld (pv 0) rfl) (pv 1) (fun _ _ => rfl))))), ?_⟩
  try dsimp only [L2.cxOf, L2.Cx.nox, L2.Cx.wish, My.xw, My.pnd, My.suite]
  refine r_start (σ := [some (.ref t), some (x)]) rfl ?_
  have hT0 := hT
  obtain ⟨⟨dx, ht⟩, hw, hh, nd, hz, hE⟩ := hT
  have ct := T.CL_Tree
  have nh : NoAttr K d.c_Tree "houses" := T.NA_Tree_houses
  walk_at "go"
  refine ⟨t, S, x, rfl, hT0, hx, fun e he => ?_, q2⟩
  have hz' : ∃ z, x = .str z := by
    rcases hx with h | ⟨_, nz⟩
    · exact h
    · rw [who_not nz] at he; cases he
  obtain ⟨z, rfl⟩ := hz'
  walk_at "go"
  refine r_dgO (.inl hh) (h := e.a) (by rw [look_at]; show (S.at z).map _ = _; rw [show S.at z = some e from he]; rfl) ?_
  walk_at "go"
  exact q1 e he
theorem ok_Tree_elder_of {P : Program} {w : World} {K : PySem.W.Frag} {mg : Str → Option Value} {base : Heap} {d : Ad} (T : Tx K mg d) : FnOk P w K mg base (My.CX1 P w) 4 d.f_Tree_elder_of d.fd_Tree_elder_of ["self", "name"] (sp_Tree_elder_of K d) := by
  refine My.okX T.F_Tree_elder_of sc_Tree_elder_of (fun vs H Q E h => ?_) (fun cdv A outer s H vs Q E hr h => ?_)
  · obtain ⟨t, S, x, rfl, _⟩ := h; rfl
  obtain ⟨t, S, x, rfl, hT, hx, q1, q2⟩ := h
  refine ⟨_, (pss_one (ps_ret (pe_fld (My.pe_methX (pv 0) T.CL_Tree T.ME_Tree_house_of ((ok_Tree_house_of T).mono (by decide)) hr T.b_Tree_house_of .nil My.xes_xw (pa_cons (pv 1) pa_nil)) rfl))), ?_⟩
  try dsimp only [L2.cxOf, L2.Cx.nox, L2.Cx.wish, My.xw, My.pnd, My.suite]
  refine r_start (σ := [some (.ref t), some (x)]) rfl ?_
  have hT0 := hT
  obtain ⟨⟨dx, ht⟩, hw, hh, nd, hz, hE⟩ := hT
  have ct := T.CL_Tree
  have nh : NoAttr K d.c_Tree "houses" := T.NA_Tree_houses
  walk_at "go"
  refine ⟨t, S, x, rfl, hT0, hx, fun e he => ?_, q2⟩
  obtain ⟨z, rfl⟩ : ∃ z, x = .str z := by
    rcases hx with h | ⟨_, nz⟩
    · exact h
    · rw [who_not nz] at he; cases he
  obtain ⟨⟨dh, ho⟩, hp, hpA, hc, hcA⟩ := hE e (at_mem he).1
  have ch := T.CL_House
  have nf : NoAttr K d.c_House "elder" := T.NA_House_elder
  have hRp : Rd H e.x.pa (.dK e.x.kp) := .inl hp
  have hRc : Rd H e.x.ca (.dK e.x.kc) := .inl hc
  walk_at "go"
  exact q1 e he
theorem ok_Tree_weight_of {P : Program} {w : World} {K : PySem.W.Frag} {mg : Str → Option Value} {base : Heap} {d : Ad} (T : Tx K mg d) : FnOk P w K mg base (My.CX1 P w) 4 d.f_Tree_weight_of d.fd_Tree_weight_of ["self", "name"] (sp_Tree_weight_of K d) := by
  refine My.okX T.F_Tree_weight_of sc_Tree_weight_of (fun vs H Q E h => ?_) (fun cdv A outer s H vs Q E hr h => ?_)
  · obtain ⟨t, S, x, rfl, _⟩ := h; rfl
  obtain ⟨t, S, x, rfl, hT, hx, q1, q2⟩ := h
  refine ⟨_, (pss_one (ps_ret (pe_fld (My.pe_methX (pv 0) T.CL_Tree T.ME_Tree_house_of ((ok_Tree_house_of T).mono (by decide)) hr T.b_Tree_house_of .nil My.xes_xw (pa_cons (pv 1) pa_nil)) rfl))), ?_⟩
  try dsimp only [L2.cxOf, L2.Cx.nox, L2.Cx.wish, My.xw, My.pnd, My.suite]
  refine r_start (σ := [some (.ref t), some (x)]) rfl ?_
  have hT0 := hT
  obtain ⟨⟨dx, ht⟩, hw, hh, nd, hz, hE⟩ := hT
  have ct := T.CL_Tree
  have nh : NoAttr K d.c_Tree "houses" := T.NA_Tree_houses
  walk_at "go"
  refine ⟨t, S, x, rfl, hT0, hx, fun e he => ?_, q2⟩
  obtain ⟨z, rfl⟩ : ∃ z, x = .str z := by
    rcases hx with h | ⟨_, nz⟩
    · exact h
    · rw [who_not nz] at he; cases he
  obtain ⟨⟨dh, ho⟩, hp, hpA, hc, hcA⟩ := hE e (at_mem he).1
  have ch := T.CL_House
  have nf : NoAttr K d.c_House "weight" := T.NA_House_weight
  have hRp : Rd H e.x.pa (.dK e.x.kp) := .inl hp
  have hRc : Rd H e.x.ca (.dK e.x.kc) := .inl hc
  walk_at "go"
  exact q1 e he
theorem ok_Tree_promise_of {P : Program} {w : World} {K : PySem.W.Frag} {mg : Str → Option Value} {base : Heap} {d : Ad} (T : Tx K mg d) : FnOk P w K mg base (My.CX1 P w) 4 d.f_Tree_promise_of d.fd_Tree_promise_of ["self", "name"] (sp_Tree_promise_of K d) := by
  refine My.okX T.F_Tree_promise_of sc_Tree_promise_of (fun vs H Q E h => ?_) (fun cdv A outer s H vs Q E hr h => ?_)
  · obtain ⟨t, S, x, rfl, _⟩ := h; rfl
  obtain ⟨t, S, x, rfl, hT, hx, q1, q2⟩ := h
  refine ⟨_, (pss_one (ps_ret (pe_callTy My.call_dictR rfl T.z_dict PyProof.Rows.boot_dict (pa_cons (pe_fld (My.pe_methX (pv 0) T.CL_Tree T.ME_Tree_house_of ((ok_Tree_house_of T).mono (by decide)) hr T.b_Tree_house_of .nil My.xes_xw (pa_cons (pv 1) pa_nil)) rfl) pa_nil)))), ?_⟩
  try dsimp only [L2.cxOf, L2.Cx.nox, L2.Cx.wish, My.xw, My.pnd, My.suite]
  refine r_start (σ := [some (.ref t), some (x)]) rfl ?_
  have hT0 := hT
  obtain ⟨⟨dx, ht⟩, hw, hh, nd, hz, hE⟩ := hT
  have ct := T.CL_Tree
  have nh : NoAttr K d.c_Tree "houses" := T.NA_Tree_houses
  walk_at "go"
  refine ⟨t, S, x, rfl, hT0, hx, fun e he => ?_, q2⟩
  obtain ⟨z, rfl⟩ : ∃ z, x = .str z := by
    rcases hx with h | ⟨_, nz⟩
    · exact h
    · rw [who_not nz] at he; cases he
  obtain ⟨⟨dh, ho⟩, hp, hpA, hc, hcA⟩ := hE e (at_mem he).1
  have ch := T.CL_House
  have nf : NoAttr K d.c_House "promise" := T.NA_House_promise
  have hRp : Rd H e.x.pa (.dK e.x.kp) := .inl hp
  have hRc : Rd H e.x.ca (.dK e.x.kc) := .inl hc
  walk_at "go"
  rename_i p hp
  exact q1 e he p hp
theorem ok_Tree_cap_of {P : Program} {w : World} {K : PySem.W.Frag} {mg : Str → Option Value} {base : Heap} {d : Ad} (T : Tx K mg d) : FnOk P w K mg base (My.CX1 P w) 4 d.f_Tree_cap_of d.fd_Tree_cap_of ["self", "name"] (sp_Tree_cap_of K d) := by
  refine My.okX T.F_Tree_cap_of sc_Tree_cap_of (fun vs H Q E h => ?_) (fun cdv A outer s H vs Q E hr h => ?_)
  · obtain ⟨t, S, x, rfl, _⟩ := h; rfl
  obtain ⟨t, S, x, rfl, hT, hx, q1, q2⟩ := h
  refine ⟨_, (pss_one (ps_ret (pe_callTy My.call_dictR rfl T.z_dict PyProof.Rows.boot_dict (pa_cons (pe_fld (My.pe_methX (pv 0) T.CL_Tree T.ME_Tree_house_of ((ok_Tree_house_of T).mono (by decide)) hr T.b_Tree_house_of .nil My.xes_xw (pa_cons (pv 1) pa_nil)) rfl) pa_nil)))), ?_⟩
  try dsimp only [L2.cxOf, L2.Cx.nox, L2.Cx.wish, My.xw, My.pnd, My.suite]
  refine r_start (σ := [some (.ref t), some (x)]) rfl ?_
  have hT0 := hT
  obtain ⟨⟨dx, ht⟩, hw, hh, nd, hz, hE⟩ := hT
  have ct := T.CL_Tree
  have nh : NoAttr K d.c_Tree "houses" := T.NA_Tree_houses
  walk_at "go"
  refine ⟨t, S, x, rfl, hT0, hx, fun e he => ?_, q2⟩
  obtain ⟨z, rfl⟩ : ∃ z, x = .str z := by
    rcases hx with h | ⟨_, nz⟩
    · exact h
    · rw [who_not nz] at he; cases he
  obtain ⟨⟨dh, ho⟩, hp, hpA, hc, hcA⟩ := hE e (at_mem he).1
  have ch := T.CL_House
  have nf : NoAttr K d.c_House "cap" := T.NA_House_cap
  have hRp : Rd H e.x.pa (.dK e.x.kp) := .inl hp
  have hRc : Rd H e.x.ca (.dK e.x.kc) := .inl hc
  walk_at "go"
  rename_i p hp
  exact q1 e he p hp
theorem ok_Tree_names {P : Program} {w : World} {K : PySem.W.Frag} {mg : Str → Option Value} {base : Heap} {d : Ad} (T : Tx K mg d) : FnOk P w K mg base CX0 1 d.f_Tree_names d.fd_Tree_names ["self"] (sp_Tree_names K d) := by
  refine T.F_Tree_names.ok sc_Tree_names (fun vs H Q E h => ?_) (fun cdv A outer s H vs Q E hr h => ?_)
  · obtain ⟨t, S, rfl, _⟩ := h; rfl
  obtain ⟨t, S, rfl, hT, q⟩ := h
  refine ⟨_, (pss_one (ps_ret (pe_callB (My.call_sortD rfl) rfl T.z_sorted PyProof.Rows.boot_sorted (pa_cons (pe_fld (pv 0) rfl) pa_nil)))), ?_⟩
  try dsimp only [L2.cxOf, L2.Cx.nox, L2.Cx.wish, My.xw, My.pnd, My.suite]
  refine r_start (σ := [some (.ref t)]) rfl ?_
  obtain ⟨⟨dx, ht⟩, hw, hh, nd, hz, hE⟩ := hT
  have ct := T.CL_Tree
  have nh : NoAttr K d.c_Tree "houses" := T.NA_Tree_houses
  walk_at "go"
  refine r_sortD (ss := S.hl.map (·.n)) (.inl hh) (by rw [oK_keys]; congr 1; unfold Ts.keys; rw [List.map_map]; rfl) (by rw [List.length_map]; omega) fun l ss hl hp hs => ?_
  walk_at "go"
  exact q l ss hl hp hs
theorem ok_amount_of {P : Program} {w : World} {K : PySem.W.Frag} {mg : Str → Option Value} {base : Heap} {d : Ad} (T : Tx K mg d) : FnOk P w K mg base CX0 1 d.f_amount_of d.fd_amount_of ["amounts", "ware"] (sp_amount_of K d) := by
  refine T.F_amount_of.ok sc_amount_of (fun vs H Q E h => ?_) (fun cdv A outer s H vs Q E hr h => ?_)
  · obtain ⟨a, kvs, f, z, rfl, _⟩ := h; rfl
  obtain ⟨a, kvs, f, z, rfl, hR, hA, q⟩ := h
  refine ⟨_, (pss_one (ps_ret (pe_dget2 (hu_of hr) (pv 0) (pv 1) pe_int ⟨rfl, rfl, rfl, rfl⟩))), ?_⟩
  try dsimp only [L2.cxOf, L2.Cx.nox, L2.Cx.wish, My.xw, My.pnd, My.suite]
  refine r_start (σ := [some (.ref a), some (.str z)]) rfl ?_
  walk_at "go"
  exact q
theorem ok_above_nought {P : Program} {w : World} {K : PySem.W.Frag} {mg : Str → Option Value} {base : Heap} {d : Ad} (T : Tx K mg d) : FnOk P w K mg base CX0 1 d.f_above_nought d.fd_above_nought ["amounts"] (sp_above_nought K d) := by
  refine T.F_above_nought.ok sc_above_nought (fun vs H Q E h => ?_) (fun cdv A outer s H vs Q E hr h => ?_)
  · obtain ⟨a, kvs, f, rfl, _⟩ := h; rfl
  obtain ⟨a, kvs, f, rfl, hH, hA, hz, q⟩ := h
  refine ⟨_, (pss_cons (ps_set (i := 1) sc_above_nought.nd rfl (Or.inl rfl) pe_dnewK)
    (pss_cons (My.ps_thA (ps_for PassesOwn.never rfl (My.pi_dict (pv 0)) (pg_name (i := 2) sc_above_nought.nd rfl (Or.inl rfl)) (pss_one (My.ps_cut (ps_if (pt_cmpR op_gt (pe_dget (hu_of hr) (pv 0) (pv 2) (fun _ _ => rfl)) pe_int (nomark _)) (pss_one (ps_dput (hu_of hr) (pv 1) (pv 2) (pe_dget (hu_of hr) (pv 0) (pv 2) (fun _ _ => rfl)) rfl)) pss_nil)))))
    (pss_one (ps_ret (pv 1))))), ?_⟩
  try dsimp only [L2.cxOf, L2.Cx.nox, L2.Cx.wish, My.xw, My.pnd, My.suite]
  refine r_start (σ := [some (.ref a), none, none]) rfl ?_
  walk_at "go"
  rename_i l hl
  have ea := look_new (o' := .dK []) hH hl
  have nla : l ≠ a := (ne_of_none hH hl).symm
  refine r_itD ea fun o => ?_
  refine f_dict (fun i σ H' => ∃ (k' : List (Key × V)) (w : Option V), σ = [some (.ref a), some (.ref l), w] ∧ SameBut a H H' ∧ H' a = some (.frz o (.dK kvs)) ∧ H' l = some (.dK k') ∧ k'.length ≤ i ∧ AD k' (fun y => if y ∈ (keysS kvs).take i then posF f y else none))
    ⟨[], none, rfl, SameBut.at (SameBut.of (same_new hl _)), upd_same, by rw [upd_ne nla]; exact upd_same, Nat.le_refl _, AD.nil.cast fun z => by simp [noF]⟩ ?_ ?_ ?_
  · rintro i σ H' _ ⟨k', w, rfl, sb, fz, hl', _⟩; exact fz
  · rintro i k v σ H' hk ⟨k', w, rfl, sb, fz, hl', hlen, hA'⟩
    obtain ⟨z, n, rfl, rfl, hf, hzi⟩ := hA.at hk
    have hi : i < kvs.length := (List.getElem?_eq_some_iff.mp hk).1
    have hRd : Rd H' a (.dK kvs) := .inr ⟨o, fz⟩
    show gName _ (.str z) _ _ _
    walk_at "go"
    refine r_cut0 ?_
    walk_at "go"
    refine i_2 (fun c => ?_) (fun c => ?_)
    · walk_at "go"
      refine ⟨_, _, rfl, ?_, by rw [upd_ne nla.symm]; exact fz, upd_same, ?_, (hA'.put z n).cast fun y => ?_⟩
      · exact sb_put sb hl
      · have := length_putK k' (Sum.inr z) (.int n); omega
      · exact step_put hzi (posF f) (fun _ => none) (by unfold posF; rw [hf]; exact if_pos c) y
    · walk_at "go"
      refine ⟨_, _, rfl, sb, fz, hl', by omega, hA'.cast fun y => ?_⟩
      exact step_no hzi (posF f) (fun _ => none) (by unfold posF; rw [hf]; exact if_neg c) y
  · rintro σ H' ⟨k', w, rfl, sb, fz, hl', _, hA'⟩
    refine r_thNx (thaw1 fz (noFrz_dK hH)) ?_
    walk_at "go"
    refine q l k' _ (same_thaw hH sb) hl (by rw [upd_ne nla]; exact hl') (hA'.cast fun y => ?_)
    exact step_end hA (posF f) (fun _ => none) (fun y e => by unfold posF; rw [e]) y
theorem ok_added {P : Program} {w : World} {K : PySem.W.Frag} {mg : Str → Option Value} {base : Heap} {d : Ad} (T : Tx K mg d) : FnOk P w K mg base CX0 2 d.f_added d.fd_added ["one", "other"] (sp_added K d) := by
  refine T.F_added.ok sc_added (fun vs H Q E h => ?_) (fun cdv A outer s H vs Q E hr h => ?_)
  · obtain ⟨a, b, ka, kb, f, g, rfl, _⟩ := h; rfl
  obtain ⟨a, b, ka, kb, f, g, rfl, hRa, hb, hA, hB, za, zb, q⟩ := h
  refine ⟨_, (pss_cons (ps_set (i := 2) sc_added.nd rfl (Or.inl rfl) (pe_callTy My.call_dictR rfl T.z_dict PyProof.Rows.boot_dict (pa_cons (pv 0) pa_nil)))
    (pss_cons (My.ps_thA (ps_for PassesOwn.never rfl (My.pi_dict (pv 1)) (pg_name (i := 3) sc_added.nd rfl (Or.inl rfl)) (pss_one (ps_dput (hu_of hr) (pv 2) (pv 3) (pe_op op_add (pe_call ((ok_amount_of T).mono (by decide)) hr rfl T.m_amount_of T.F_amount_of.kp T.b_amount_of .nil pass0 (pa_cons (pv 0) (pa_cons (pv 3) pa_nil))) (pe_dget (hu_of hr) (pv 1) (pv 3) (fun _ _ => rfl))) rfl))))
    (pss_one (ps_ret (pv 2))))), ?_⟩
  try dsimp only [L2.cxOf, L2.Cx.nox, L2.Cx.wish, My.xw, My.pnd, My.suite]
  refine r_start (σ := [some (.ref a), some (.ref b), none, none]) rfl ?_
  walk_at "go"
  rename_i l hl
  have eb := look_new (o' := .dK ka) hb hl
  have nlb : l ≠ b := (ne_of_none hb hl).symm
  refine r_itD eb fun o => ?_
  refine f_dict (fun i σ H' => ∃ (k' : List (Key × V)) (w : Option V), σ = [some (.ref a), some (.ref b), some (.ref l), w] ∧ SameBut b H H' ∧ H' b = some (.frz o (.dK kb)) ∧ H' l = some (.dK k') ∧ k'.length ≤ 1000 + i ∧ AD k' (fun y => if y ∈ (keysS kb).take i then addF f g y else f y))
    ⟨ka, none, rfl, SameBut.at (SameBut.of (same_new hl _)), upd_same, by rw [upd_ne nlb]; exact upd_same, by omega, hA.cast fun z => by simp⟩ ?_ ?_ ?_
  · rintro i σ H' _ ⟨k', w, rfl, sb, fz, hl', _⟩; exact fz
  · rintro i k v σ H' hk ⟨k', w, rfl, sb, fz, hl', hlen, hA'⟩
    obtain ⟨z, n, rfl, rfl, hf, hzi⟩ := hB.at hk
    have hi : i < kb.length := (List.getElem?_eq_some_iff.mp hk).1
    have hRb : Rd H' b (.dK kb) := .inr ⟨o, fz⟩
    have hRa' : Rd H' a (.dK ka) := rd_in hRa hb sb fz
    show gName _ (.str z) _ _ _
    walk_at "go"
    refine ⟨_, _, rfl, sb_put sb hl, by rw [upd_ne nlb.symm]; exact fz, upd_same, ?_, (hA'.put z _).cast fun y => ?_⟩
    · have := length_putK k' (Sum.inr z) (.int (gN f z + n)); omega
    · exact step_put hzi (addF f g) f (by unfold addF; rw [hf]) y
  · rintro σ H' ⟨k', w, rfl, sb, fz, hl', _, hA'⟩
    refine r_thNx (thaw1 fz (noFrz_dK hb)) ?_
    walk_at "go"
    refine q l k' _ (same_thaw hb sb) hl (by rw [upd_ne nlb]; exact hl') (hA'.cast fun y => ?_)
    exact step_end hB (addF f g) f (fun y e => by unfold addF; rw [e]) y
theorem ok_beyond {P : Program} {w : World} {K : PySem.W.Frag} {mg : Str → Option Value} {base : Heap} {d : Ad} (T : Tx K mg d) : FnOk P w K mg base CX0 2 d.f_beyond d.fd_beyond ["one", "other"] (sp_beyond K d) := by
  refine T.F_beyond.ok sc_beyond (fun vs H Q E h => ?_) (fun cdv A outer s H vs Q E hr h => ?_)
  · obtain ⟨a, b, ka, kb, f, g, rfl, _⟩ := h; rfl
  obtain ⟨a, b, ka, kb, f, g, rfl, hRa, hRb, hA, hB, za, qn, qs⟩ := h
  refine ⟨_, (pss_cons (ps_for PassesOwn.never rfl (pi_list (pe_callB (My.call_sortD rfl) rfl T.z_sorted PyProof.Rows.boot_sorted (pa_cons (pv 0) pa_nil))) (pg_name (i := 2) sc_beyond.nd rfl (Or.inl rfl)) (pss_one (ps_if (pt_cmpR op_gt (pe_dget (hu_of hr) (pv 0) (pv 2) (fun _ _ => rfl)) (pe_call ((ok_amount_of T).mono (by decide)) hr rfl T.m_amount_of T.F_amount_of.kp T.b_amount_of .nil pass0 (pa_cons (pv 1) (pa_cons (pv 2) pa_nil))) (nomark _)) (pss_one (ps_ret (pv 2))) pss_nil)))
    (pss_one (ps_ret pe_non))), ?_⟩
  try dsimp only [L2.cxOf, L2.Cx.nox, L2.Cx.wish, My.xw, My.pnd, My.suite]
  refine r_start (σ := [some (.ref a), some (.ref b), none]) rfl ?_
  walk_at "go"
  refine r_sortD hRa hA.keys (by rw [hA.klen]; exact za) fun l ss hl hp hs => ?_
  have pw := sorted_pw hs
  have hin : ∀ y, y ∈ ss ↔ f y ≠ none := fun y => (hp.mem_iff).trans (hA.kin y)
  walk_at "go"
  have sm := same_new hl (.lst (ss.map V.str))
  have hRa' := rd_new hRa hl (u := .lst (ss.map V.str))
  have hRb' := rd_new hRb hl (u := .lst (ss.map V.str))
  refine f_list (xs := ss.map V.str) (fun i σ H' => H' = upd H l (.lst (ss.map V.str)) ∧ (∃ w, σ = [some (.ref a), some (.ref b), w]) ∧ ∀ j y, j < i → ss[j]? = some y → ¬ viol f g y) ⟨rfl, ⟨_, rfl⟩, fun j y hj => absurd hj (Nat.not_lt_zero j)⟩ ?_ ?_ ?_
  · rintro i σ H' _ ⟨rfl, _⟩; exact SqL.of upd_same
  · rintro i v σ H' hv ⟨rfl, ⟨w, rfl⟩, hno⟩
    rw [List.getElem?_map] at hv
    obtain ⟨z, hz, rfl⟩ := Option.map_eq_some_iff.mp hv
    have hfz := (hin z).mp (List.mem_of_getElem? hz)
    obtain ⟨n, hn⟩ : ∃ n, f z = some n := by
      cases e : f z with
      | none => exact absurd e hfz
      | some n => exact ⟨n, rfl⟩
    have gz : gN f z = n := by unfold gN; rw [hn]; rfl
    walk_at "go"
    refine i_2 (fun c => ?_) (fun c => ?_)
    · walk_at "go"
      refine qs z _ sm ⟨hfz, by rw [gz]; exact c⟩ fun y hy => ?_
      obtain ⟨j, hj, e⟩ := List.mem_iff_getElem.mp ((hin y).mpr hy.1)
      have hji : i ≤ j := by
        rcases Nat.lt_or_ge j i with h | h
        · exact absurd hy (hno j y h (by rw [List.getElem?_eq_getElem hj, e]))
        · exact h
      obtain ⟨hi, ez⟩ := List.getElem?_eq_some_iff.mp hz
      rcases Nat.eq_or_lt_of_le hji with h | h
      · subst h; rw [ez] at e; subst e; exact leS_refl _
      · have := List.pairwise_iff_getElem.mp pw i j hi hj h
        rw [ez, e] at this; exact this
    · walk_at "go"
      refine ⟨rfl, ⟨_, rfl⟩, fun j y hj hy => ?_⟩
      rcases Nat.lt_or_ge j i with h | h
      · exact hno j y h hy
      · have e : j = i := by omega
        subst e
        rw [hz] at hy
        cases hy
        exact fun hv => c (by have := hv.2; rw [gz] at this; exact this)
  · rintro σ H' ⟨rfl, ⟨w, rfl⟩, hno⟩
    walk_at "go"
    refine qn _ sm fun y hy => ?_
    obtain ⟨j, hj, e⟩ := List.mem_iff_getElem.mp ((hin y).mpr hy.1)
    exact hno j y (by rw [List.length_map]; exact hj) (by rw [List.getElem?_eq_getElem hj, e]) hy
theorem sum_sup {ts : List Pt} {ws : List Str} (h : ∀ t ∈ ts, ∀ z, t.f z ≠ none → z ∈ ws) : ∀ f0 : Str → Option Int, (∀ z, f0 z ≠ none → z ∈ ws) → ∀ z, ts.foldl (fun f t => addF f t.f) f0 z ≠ none → z ∈ ws := by
  induction ts with
  | nil => intro f0 h0 z hz; exact h0 z hz
  | cons t ts ih => intro f0 h0 z hz; exact ih (fun t' ht => h t' (List.mem_cons_of_mem _ ht)) (addF f0 t.f) (addF_sup h0 (h t (List.mem_cons_self ..))) z hz
theorem ok_total_of {P : Program} {w : World} {K : PySem.W.Frag} {mg : Str → Option Value} {base : Heap} {d : Ad} (T : Tx K mg d) : FnOk P w K mg base CX0 3 d.f_total_of d.fd_total_of ["many"] (sp_total_of K d) := by
  refine T.F_total_of.ok sc_total_of (fun vs H Q E h => ?_) (fun cdv A outer s H vs Q E hr h => ?_)
  · obtain ⟨L, ts, ws, rfl, _⟩ := h; rfl
  obtain ⟨L, ts, ws, rfl, hS, hw, hts, q⟩ := h
  refine ⟨_, (pss_cons (ps_set (i := 1) sc_total_of.nd rfl (Or.inl rfl) pe_dnewK)
    (pss_cons (ps_for PassesOwn.never rfl (pi_list (pv 0)) (pg_name (i := 2) sc_total_of.nd rfl (Or.inl rfl)) (pss_one (ps_set (i := 1) sc_total_of.nd rfl (Or.inl rfl) (pe_call ((ok_added T).mono (by decide)) hr rfl T.m_added T.F_added.kp T.b_added .nil pass0 (pa_cons (pv 1) (pa_cons (pv 2) pa_nil))))))
    (pss_one (ps_ret (pv 1))))), ?_⟩
  try dsimp only [L2.cxOf, L2.Cx.nox, L2.Cx.wish, My.xw, My.pnd, My.suite]
  refine r_start (σ := [some (.ref L), none, none]) rfl ?_
  walk_at "go"
  rename_i l0 hl0
  refine f_list (xs := ts.map fun t => .ref t.a) (fun i σ H' => ∃ (l : Addr) (k' : List (Key × V)) (w : Option V), σ = [some (.ref L), some (.ref l), w] ∧ Same H H' ∧ H l = none ∧ H' l = some (.dK k') ∧ AD k' (sumF (ts.take i))) ⟨l0, [], none, rfl, same_new hl0 _, hl0, upd_same, AD.nil⟩ ?_ ?_ ?_
  · rintro i σ H' _ ⟨l, k', w, rfl, sm, _⟩; exact sm.seq hS
  · rintro i v σ H' hv ⟨l, k', w, rfl, sm, hl, hl', hA'⟩
    rw [List.getElem?_map] at hv
    obtain ⟨t, ht, rfl⟩ := Option.map_eq_some_iff.mp hv
    have hm := List.mem_of_getElem? ht
    obtain ⟨h1, h2, h3⟩ := hts t hm
    have sup : ∀ z, sumF (ts.take i) z ≠ none → z ∈ ws := sum_sup (fun t' ht' => (hts t' (List.mem_of_mem_take ht')).2.2) noF (fun z h => absurd rfl h)
    have c1 := hA'.le sup
    have c2 := h2.le h3
    walk_at "go"
    refine ⟨l, t.a, k', t.k, sumF (ts.take i), t.f, rfl, .inl hl', sm _ _ h1, hA', h2, by omega, by omega, fun l2 k2 H2 sm2 hl2 e2 hA2 => ?_⟩
    walk_at "go"
    refine ⟨l2, k2, _, rfl, sm.trans sm2, sm.free hl2, e2, ?_⟩
    have e : ts.take (i + 1) = ts.take i ++ [t] := by rw [List.take_add_one, ht]; rfl
    rw [e]
    unfold sumF
    rw [List.foldl_append]
    exact hA2
  · rintro σ H' ⟨l, k', w, rfl, sm, hl, hl', hA'⟩
    rw [List.length_map, List.take_length] at hA'
    walk_at "go"
    exact q l k' H' sm hl hl' hA'
theorem ok_Tree_line {P : Program} {w : World} {K : PySem.W.Frag} {mg : Str → Option Value} {base : Heap} {d : Ad} (T : Tx K mg d) : FnOk P w K mg base (My.CX1 P w) 5 d.f_Tree_line d.fd_Tree_line ["self", "name"] (sp_Tree_line K d) := by
  refine My.okX T.F_Tree_line sc_Tree_line (fun vs H Q E h => ?_) (fun cdv A outer s H vs Q E hr h => ?_)
  · obtain ⟨t, S, x, rfl, _⟩ := h; rfl
  obtain ⟨t, S, x, rfl, hT, q⟩ := h
  refine ⟨_, (pss_cons (ps_set (i := 2) sc_Tree_line.nd rfl (Or.inl rfl) (pe_lst (pa_cons (pv 1) pa_nil)))
    (pss_cons (ps_set (i := 3) sc_Tree_line.nd rfl (Or.inl rfl) (My.pe_methX (pv 0) T.CL_Tree T.ME_Tree_elder_of ((ok_Tree_elder_of T).mono (by decide)) hr T.b_Tree_elder_of .nil My.xes_xw (pa_cons (pv 1) pa_nil)))
    (pss_cons (ps_while (My.pass_xw rfl rfl) (pt_cmpR My.op_notNN (pv 3) pe_non (nomark _)) (pss_cons (ps_expr (pe_bm PySem.F.plainAttrs_list PySem.F.slot_list_append PySem.F.type_list_append mt_append (pv 2) (pa_cons (pv 3) pa_nil)))
    (pss_one (ps_set (i := 3) sc_Tree_line.nd rfl (Or.inl rfl) (My.pe_methX (pv 0) T.CL_Tree T.ME_Tree_elder_of ((ok_Tree_elder_of T).mono (by decide)) hr T.b_Tree_elder_of .nil My.xes_xw (pa_cons (pv 3) pa_nil))))))
    (pss_one (ps_ret (pv 2)))))), ?_⟩
  try dsimp only [L2.cxOf, L2.Cx.nox, L2.Cx.wish, My.xw, My.pnd, My.suite]
  refine r_start (σ := [some (.ref t), some (x), none, none]) rfl ?_
  have ct := T.CL_Tree
  obtain ⟨dx, ht⟩ := hT.1
  walk_at "go"
  rename_i l hl
  have sl := same_new hl (.lst [x])
  rcases q with ⟨z, zs, rfl, hL, hz, q⟩ | ⟨hx, hn, q⟩
  · obtain ⟨e0, r0, h0, rfl, hr0⟩ := hL.open
    refine ⟨t, S, .str z, rfl, hT.same sl, .inl ⟨z, rfl⟩, fun e he => ?_, fun he => ?_⟩
    · have ee : e0 = e := Option.some.inj (h0.symm.trans he)
      subst ee
      walk_at "go"
      refine while_by (fun σ H' => ∃ (ys rs : List Str) (o : Option Str), σ = [some (.ref t), some (.str z), some (.ref l), some (eV o)] ∧ H' = upd H l (.lst (ys.map V.str)) ∧ ys ++ rs = z :: r0 ∧ RestOf S o rs) (fun _ H' => (r0.length + 1) - lenAt l H') ⟨[z], r0, _, rfl, rfl, rfl, hr0⟩ ?_ ?_
      · rintro σ H' ⟨ys, rs, o, rfl, rfl, hyr, hR⟩
        have hlen := congrArg List.length hyr
        rw [List.length_append, List.length_cons] at hlen
        have hz2 : (z :: r0).length ≤ 1000 := hz
        rw [List.length_cons] at hz2
        cases o with
        | none =>
          have : rs = [] := hR
          subst this
          rw [List.append_nil] at hyr
          subst hyr
          rw [show eV none = V.non from rfl]
          walk_at "go"
          exact q l hl
        | some y =>
          obtain ⟨e1, r1, h1, rfl, hr1⟩ := LineOf.open hR
          have sy := same_new hl (.lst (ys.map V.str))
          have eL : upd H l (.lst (ys.map V.str)) l = some (.lst (ys.map V.str)) := upd_same
          have hzz : (ys.map V.str).length < sizeLine := by rw [List.length_map]; show _ < 16777216; omega
          rw [show eV (some y) = V.str y from rfl]
          walk_at "go"
          rw [upd_upd]
          have s2 := same_new hl (.lst (ys.map V.str ++ [.str y]))
          have ht2 := s2 _ _ ht
          walk_at "go"
          refine ⟨t, S, .str y, rfl, hT.same s2, .inl ⟨y, rfl⟩, fun e he => ?_, fun he => ?_⟩
          · have ee : e1 = e := Option.some.inj (h1.symm.trans he)
            subst ee
            walk_at "go"
            rw [List.length_cons] at hlen
            refine ⟨⟨ys ++ [y], r1, _, rfl, by rw [List.map_append]; rfl, by rw [List.append_assoc]; exact hyr, hr1⟩, ?_⟩
            have g1 := lenAt_eq eL
            have g2 : lenAt l (upd H l (.lst (ys.map V.str ++ [V.str y]))) = (ys.map V.str ++ [V.str y]).length := lenAt_eq upd_same
            rw [List.length_append, List.length_map] at g2
            rw [List.length_map] at g1
            rw [g1, g2]
            simp only [List.length_cons, List.length_nil]
            omega
          · rw [show who S (.str y) = some e1 from h1] at he; cases he
      · rintro σ H' Q1 Q2 hm ⟨v, hv, w, k, hk, hq⟩
        exact ⟨v, hv, w, k, hk, hm _ _ hq⟩
    · rw [show who S (.str z) = some e0 from h0] at he; cases he
  · refine ⟨t, S, x, rfl, hT.same sl, hx.same sl, fun e he => ?_, fun _ => q l hl⟩
    rw [hn] at he; cases he
theorem at_of {S : Ts} {e : He} (nd : (S.hl.map (·.n)).Nodup) (h : e ∈ S.hl) : S.at e.n = some e := by
  have q : lookO S.keys e.n = some e.a := lookO_of (by unfold Ts.keys; rw [List.map_map]; exact nd) (List.mem_map.mpr ⟨e, h, rfl⟩)
  unfold Ts.at
  revert nd h
  obtain ⟨sw, ws, hs, hl⟩ := S
  dsimp only
  clear q
  intro nd h
  induction hl with
  | nil => simp at h
  | cons y r ih =>
    rw [List.map_cons, List.nodup_cons] at nd
    rw [List.find?_cons]
    rcases List.mem_cons.mp h with h | h
    · subst h; rw [decide_eq_true rfl]
    · have ne : y.n ≠ e.n := fun z => nd.1 (by rw [z]; exact List.mem_map.mpr ⟨e, h, rfl⟩)
      rw [decide_eq_false ne]
      exact ih nd.2 h
theorem keys_at {S : Ts} {i : Nat} {k : Key} {v : V} (h : (oK S.keys)[i]? = some (k, v)) : ∃ e, S.hl[i]? = some e ∧ k = Sum.inr e.n ∧ v = .ref e.a := by
  unfold oK Ts.keys at h
  rw [List.getElem?_map, List.getElem?_map] at h
  cases q : S.hl[i]? with
  | none => rw [q] at h; cases h
  | some e => rw [q] at h; cases h; exact ⟨e, rfl, rfl, rfl⟩
theorem keys_len (S : Ts) : (oK S.keys).length = S.hl.length := by unfold oK Ts.keys; rw [List.length_map, List.length_map]
theorem dec_el {o : Option Str} {z : Str} : decide (eV o = V.str z) = decide (o = some z) := by
  cases o with
  | none => rfl
  | some y =>
    by_cases h : y = z
    · subst h; show decide (V.str y = V.str y) = _; rw [decide_eq_true rfl, decide_eq_true rfl]
    · rw [decide_eq_false (fun q => h (by cases q; rfl)), decide_eq_false (fun q => h (Option.some.inj q))]
theorem scal_el {o : Option Str} {z : Str} : scal (eV o) (V.str z) = true := by cases o <;> rfl
theorem ok_Tree_kids {P : Program} {w : World} {K : PySem.W.Frag} {mg : Str → Option Value} {base : Heap} {d : Ad} (T : Tx K mg d) : FnOk P w K mg base (My.CX1 P w) 3 d.f_Tree_kids d.fd_Tree_kids ["self", "name"] (sp_Tree_kids K d) := by
  refine My.okX T.F_Tree_kids sc_Tree_kids (fun vs H Q E h => ?_) (fun cdv A outer s H vs Q E hr h => ?_)
  · obtain ⟨t, S, x, rfl, _⟩ := h; rfl
  obtain ⟨t, S, x, rfl, hT, hx, q1, q2⟩ := h
  refine ⟨_, (pss_cons (ps_expr (My.pe_methX (pv 0) T.CL_Tree T.ME_Tree_check_house ((ok_Tree_check_house T).mono (by decide)) hr T.b_Tree_check_house .nil My.xes_xw (pa_cons (pv 1) pa_nil)))
    (pss_one (ps_ret (pe_callB My.call_sortL rfl T.z_sorted PyProof.Rows.boot_sorted (pa_cons (My.pe_thV (My.pe_comp (caps := [0, 1]) (cn := ["self", "name"]) (My.caps_of rfl rfl (by rfl) (by rfl) rfl ⟨rfl, ⟨rfl, trivial⟩⟩ (by rfl) rfl ⟨⟨rfl, rfl, rfl, rfl, _, rfl⟩, ⟨⟨rfl, rfl, rfl, rfl, _, rfl⟩, trivial⟩⟩ (by decide)) rfl (My.pi_dict (pe_fld (pv 0) rfl)) (fun _ _ _ _ => (My.pf_one (pt_cmpR op_eq (pe_fld (pe_dget (hu_of hr) (pe_fld (pv 1) rfl) (pv 0) (fun _ _ => rfl)) rfl) (pv 2) (nomark _)))) (fun _ _ _ _ => (pv 0)))) pa_nil))))), ?_⟩
  try dsimp only [L2.cxOf, L2.Cx.nox, L2.Cx.wish, My.xw, My.pnd, My.suite]
  dsimp only [My.cxC]
  refine r_start (σ := [some (.ref t), some (x)]) rfl ?_
  have hT0 := hT
  obtain ⟨⟨dx, ht⟩, hw, hh, nd, hz, hE⟩ := hT
  have ct := T.CL_Tree
  have ch := T.CL_House
  have nh : NoAttr K d.c_Tree "houses" := T.NA_Tree_houses
  have nf : NoAttr K d.c_House "elder" := T.NA_House_elder
  walk_at "go"
  refine ⟨t, S, x, rfl, hT0, hx, fun e he => ?_, q2⟩
  obtain ⟨z, rfl⟩ : ∃ z, x = .str z := by
    rcases hx with h | ⟨_, nz⟩
    · exact h
    · rw [who_not nz] at he; cases he
  obtain ⟨hme, rfl⟩ := at_mem he
  walk_at "go"
  refine r_thV ?_
  walk_at "go"
  refine r_itD hh fun o => ?_
  intro C s0 H0 fp na hna
  have hF : upd H S.hs (.frz o (.dK (oK S.keys))) S.hs = some (.frz o (.dK (oK S.keys))) := upd_same
  have sb : SameBut S.hs H (upd H S.hs (.frz o (.dK (oK S.keys)))) := sb_frz hh
  have ht2 := sb _ _ (ne_of ht hh (by intro z; cases z)) ht
  have hna0 : H na = none := by
    by_cases z : na = S.hs
    · subst z; rw [hF] at hna; cases hna
    · rw [upd_ne z] at hna; exact hna
  have hE2 : ∀ e ∈ S.hl, ∃ dx, upd H S.hs (.frz o (.dK (oK S.keys))) e.a = some (.ins d.c_House dx (fsH e.x)) := fun e he => by
    obtain ⟨⟨dx, q⟩, _⟩ := hE e he
    exact ⟨dx, sb _ _ (ne_of q hh (by intro z; cases z)) q⟩
  generalize upd H S.hs (.frz o (.dK (oK S.keys))) = HF at *
  refine c_by S.hl.length (fun i H' => H' = upd HF na (.lst ((((S.hl.take i).filter fun y => decide (y.x.el = some e.n)).map (·.n)).map V.str))) rfl ?_ ?_ ?_ ?_
  · rintro i H' hi rfl
    exact ⟨look_new hF hna, by rw [keys_len]; exact hi⟩
  · rintro H' rfl
    exact ⟨look_new hF hna, by rw [keys_len]; exact Nat.le_refl _⟩
  · rintro i H' v H'' hi rfl ⟨rfl, k, v', hk, rfl⟩
    obtain ⟨y, hy, rfl, rfl⟩ := keys_at hk
    have hym := List.mem_of_getElem? hy
    obtain ⟨dy, hya⟩ := hE2 y hym
    have nx : (S.hl.take (i + 1)).filter (fun y => decide (y.x.el = some e.n)) = (S.hl.take i).filter (fun y => decide (y.x.el = some e.n)) ++ (if decide (y.x.el = some e.n) = true then [y] else []) := by
      rw [List.take_add_one, hy, List.filter_append]
      congr 1
      simp only [Option.toList_some, List.filter_cons, List.filter_nil]
    have hlen : ((S.hl.take i).filter (fun y => decide (y.x.el = some e.n))).length ≤ S.hl.length := Nat.le_trans (List.length_filter_le ..) (by rw [List.length_take]; omega)
    walk_at "go"
    refine r_dgO (h := y.a) (rd_new (.inr ⟨o, hF⟩) hna) (by rw [look_at, at_of nd hym]; rfl) ?_
    walk_at "go"
    refine ⟨scal_el, ?_⟩
    rw [dec_el]
    refine ⟨_, rfl, ?_⟩
    refine i_2 (fun c => ?_) (fun c => ?_)
    · walk_at "go"
      rw [upd_upd, nx, if_pos (decide_eq_true c), List.map_append, List.map_append]; rfl
    · rw [nx, if_neg (by rw [decide_eq_false c]; decide), List.append_nil]
  rintro H' rfl
  rw [List.take_length]
  have nns : na ≠ S.hs := fun z => by subst z; rw [hF] at hna; cases hna
  have eN : upd (upd HF na (.lst ((kidsOf S e.n).map V.str))) S.hs (.dK (oK S.keys)) na = some (.lst ((kidsOf S e.n).map V.str)) := by rw [upd_ne nns]; exact upd_same
  have sm : Same H (upd (upd HF na (.lst ((kidsOf S e.n).map V.str))) S.hs (.dK (oK S.keys))) := same_thaw hh (sb_put sb hna0)
  have hkl : (kidsOf S e.n).length ≤ 60 := by unfold kidsOf; rw [List.length_map]; exact Nat.le_trans (List.length_filter_le ..) hz
  refine ⟨_, thaw1 (look_new hF hna) (noFrz_dK hh), ?_⟩
  show tNil _ (upd (upd HF na (.lst ((kidsOf S e.n).map V.str))) S.hs (.dK (oK S.keys))) _
  generalize upd (upd HF na (.lst ((kidsOf S e.n).map V.str))) S.hs (.dK (oK S.keys)) = H3 at *
  walk_at "go"
  refine r_sortL (SqL.of eN) (by omega) fun l ss hl hp hs => ?_
  walk_at "go"
  exact q1 e he l ss _ (same_upd sm hl) (sm.free hl) upd_same hp hs
theorem r_extend {H : Hp} {Q : VK} {l b : Addr} {xs zs : List V} (h : H l = some (.lst xs)) (hb : H b = some (.lst zs)) (hz : xs.length + zs.length ≤ sizeLine) (q : Q .non (upd H l (.lst (xs ++ zs)))) : rExtend (.ref l) [.ref b] H Q := ⟨l, b, xs, zs, rfl, rfl, h, hb, hz, q⟩
def flat (parts : List (Str × List Str)) : List Str := (parts.map (·.2)).flatten
def Ben (S : Ts) : Nat → Str → List Str → Prop
  | 0, z, zs => ∃ parts : List (Str × List Str), (parts.map (·.1)).Perm (kidsOf S z) ∧ zs = z :: flat parts ∧ ∀ p ∈ parts, False
  | n + 1, z, zs => ∃ parts : List (Str × List Str), (parts.map (·.1)).Perm (kidsOf S z) ∧ zs = z :: flat parts ∧ ∀ p ∈ parts, Ben S n p.1 p.2
def BenP (S : Ts) : Nat → Str → List Str → Prop
  | 0, z, zs => ∃ (parts : List (Str × List Str)) (rest : List Str), (parts.map (·.1) ++ rest).Perm (kidsOf S z) ∧ zs = z :: flat parts ∧ ∀ p ∈ parts, False
  | n + 1, z, zs => ∃ (parts : List (Str × List Str)) (rest : List Str), (parts.map (·.1) ++ rest).Perm (kidsOf S z) ∧ zs = z :: flat parts ∧ ∀ p ∈ parts, BenP S n p.1 p.2
theorem Ben.part {S : Ts} : ∀ {n : Nat} {z : Str} {zs : List Str}, Ben S n z zs → BenP S n z zs
  | 0, _, _, ⟨parts, a, b, c⟩ => ⟨parts, [], by rw [List.append_nil]; exact a, b, c⟩
  | n + 1, _, _, ⟨parts, a, b, c⟩ => ⟨parts, [], by rw [List.append_nil]; exact a, b, fun p hp => Ben.part (c p hp)⟩
def BenK (S : Ts) : Nat → Str → List Str → Prop
  | 0, _, _ => False
  | n + 1, z, zs => Ben S n z zs
theorem ben_of {S : Ts} {n : Nat} {z : Str} {parts : List (Str × List Str)} (h : (parts.map (·.1)).Perm (kidsOf S z)) (hp : ∀ p ∈ parts, BenK S n p.1 p.2) : Ben S n z (z :: flat parts) := by
  cases n with
  | zero => exact ⟨parts, h, rfl, hp⟩
  | succ n => exact ⟨parts, h, rfl, hp⟩
theorem benP_of {S : Ts} {n : Nat} {z : Str} {parts : List (Str × List Str)} {rest : List Str} (h : (parts.map (·.1) ++ rest).Perm (kidsOf S z)) (hp : ∀ p ∈ parts, BenK S n p.1 p.2) : BenP S n z (z :: flat parts) := by
  cases n with
  | zero => exact ⟨parts, rest, h, rfl, hp⟩
  | succ n => exact ⟨parts, rest, h, rfl, fun p q => Ben.part (hp p q)⟩
def Slim (S : Ts) : Prop := ∀ n z zs, BenP S n z zs → zs.length ≤ 1000
def Dep (S : Ts) : Nat → Str → Prop
  | 0, z => kidsOf S z = []
  | n + 1, z => ∀ y ∈ kidsOf S z, Dep S n y
def sp_ben (n : Nat) (K : PySem.W.Frag) (d : Ad) : Sp := fun vs H Q E => ∃ (t : Addr) (S : Ts) (x : V), vs = [.ref t, x] ∧ TrAt d H t S ∧ Slim S ∧ Thing K H x ∧ (∀ e, who S x = some e → Dep S n e.n ∧ ∀ l zs H', Same H H' → H l = none → H' l = some (.lst (zs.map V.str)) → Ben S n e.n zs → Q (.ref l) H') ∧ (who S x = none → ∀ l, H l = none → E (.ref d.c_NoHouse) none (upd H l (.lst [x])))
theorem kid_at {S : Ts} {y z : Str} (nd : (S.hl.map (·.n)).Nodup) (h : y ∈ kidsOf S z) : ∃ e, S.at y = some e ∧ e.n = y := by
  obtain ⟨e, he, rfl⟩ := List.mem_map.mp h
  exact ⟨e, at_of nd (List.mem_filter.mp he).1, rfl⟩
theorem flat_app (a b : List (Str × List Str)) : flat (a ++ b) = flat a ++ flat b := by unfold flat; rw [List.map_append, List.flatten_append]
theorem ben_step {P : Program} {w : World} {K : PySem.W.Frag} {mg : Str → Option Value} {base : Heap} {d : Ad} (T : Tx K mg d) (n : Nat) (spi : Sp) (IH : FnOk P w K mg base (My.CX1 P w) (3 + n) d.f_Tree_beneath d.fd_Tree_beneath ["self", "name"] spi)
    (use : ∀ (t : Addr) (S : Ts) (z y : Str) (e : He) (H : Hp) (Q : VK) (E : XK), TrAt d H t S → Slim S → Dep S n z → y ∈ kidsOf S z → S.at y = some e → e.n = y → (∀ l zs H', Same H H' → H l = none → H' l = some (.lst (zs.map V.str)) → BenK S n y zs → Q (.ref l) H') → spi [.ref t, .str y] H Q E) :
    FnOk P w K mg base (My.CX1 P w) (3 + n + 1) d.f_Tree_beneath d.fd_Tree_beneath ["self", "name"] (sp_ben n K d) := by
  refine My.okX T.F_Tree_beneath sc_Tree_beneath (fun vs H Q E h => ?_) (fun cdv A outer s H vs Q E hr h => ?_)
  · obtain ⟨t, S, x, rfl, _⟩ := h; rfl
  obtain ⟨t, S, x, rfl, hT, hS, hx, q1, q2⟩ := h
  refine ⟨_, (pss_cons (ps_set (i := 2) sc_Tree_beneath.nd rfl (Or.inl rfl) (pe_lst (pa_cons (pv 1) pa_nil)))
    (pss_cons (ps_for (My.pass_xw rfl rfl) rfl (pi_list (My.pe_methX (pv 0) T.CL_Tree T.ME_Tree_kids ((ok_Tree_kids T).mono (by omega)) hr T.b_Tree_kids .nil My.xes_xw (pa_cons (pv 1) pa_nil))) (pg_name (i := 3) sc_Tree_beneath.nd rfl (Or.inl rfl)) (pss_one (ps_expr (pe_bm PySem.F.plainAttrs_list PySem.F.slot_list_extend PySem.F.type_list_extend mt_extend (pv 2) (pa_cons (My.pe_methX (pv 0) T.CL_Tree T.ME_Tree_beneath IH hr T.b_Tree_beneath .nil My.xes_xw (pa_cons (pv 3) pa_nil)) pa_nil)))))
    (pss_one (ps_ret (pv 2))))), ?_⟩
  try dsimp only [L2.cxOf, L2.Cx.nox, L2.Cx.wish, My.xw, My.pnd, My.suite]
  refine r_start (σ := [some (.ref t), some (x), none, none]) rfl ?_
  have ct := T.CL_Tree
  obtain ⟨dx, ht⟩ := hT.1
  have nd := hT.2.2.2.1
  walk_at "go"
  rename_i lt hlt
  have sl := same_new hlt (.lst [x])
  refine ⟨t, S, x, rfl, hT.same sl, hx.same sl, fun e he => ?_, fun he => q2 he lt hlt⟩
  obtain ⟨hD, q⟩ := q1 e he
  obtain ⟨z, rfl⟩ : ∃ z, x = .str z := by
    rcases hx with h | ⟨_, nz⟩
    · exact h
    · rw [who_not nz] at he; cases he
  obtain ⟨hme, rfl⟩ := at_mem he
  intro lk ss H1 s1 hlk ek hp hs
  have eT := s1 _ _ (upd_same (H := H) (a := lt) (o := .lst [V.str e.n]))
  walk_at "go"
  have ntk : lk ≠ lt := fun z => by subst z; rw [upd_same] at hlk; cases hlk
  refine f_list (xs := ss.map V.str) (fun i σ H' => ∃ (parts : List (Str × List Str)) (w : Option V), σ = [some (.ref t), some (.str e.n), some (.ref lt), w] ∧ parts.map (·.1) = ss.take i ∧ (∀ p ∈ parts, BenK S n p.1 p.2) ∧ Same H H' ∧ H' lk = some (.lst (ss.map V.str)) ∧ H' lt = some (.lst ((e.n :: flat parts).map V.str)))
    ⟨[], _, rfl, rfl, fun p hp => absurd hp (by simp), sl.trans s1, ek, eT⟩ ?_ ?_ ?_
  · rintro i σ H' _ ⟨parts, w, _, _, _, _, ek', _⟩; exact SqL.of ek'
  · rintro i v σ H' hv ⟨parts, w, rfl, hps, hB, sm, ek', eT'⟩
    rw [List.getElem?_map] at hv
    obtain ⟨y, hy, rfl⟩ := Option.map_eq_some_iff.mp hv
    have hyk : y ∈ kidsOf S e.n := hp.mem_iff.mp (List.mem_of_getElem? hy)
    obtain ⟨ey, h1, h2⟩ := kid_at nd hyk
    have ht' := sm _ _ ht
    walk_at "go"
    refine use t S e.n y ey H' _ _ (hT.same sm) hS hD hyk h1 h2 fun l zs H2 s2 hl el hBy => ?_
    have eT2 := s2 _ _ eT'
    have hps2 : (parts ++ [(y, zs)]).map (·.1) = ss.take (i + 1) := by rw [List.map_append, hps, List.take_add_one, hy]; rfl
    have hB2 : ∀ p ∈ parts ++ [(y, zs)], BenK S n p.1 p.2 := fun p hp => by
      rcases List.mem_append.mp hp with h | h
      · exact hB p h
      · have := List.mem_singleton.mp h
        subst this; exact hBy
    have ef : flat (parts ++ [(y, zs)]) = flat parts ++ zs := by rw [flat_app]; congr 1; simp [flat]
    have hlen := hS _ _ _ (benP_of (n := n) (z := e.n) (parts := parts ++ [(y, zs)]) (rest := ss.drop (i + 1)) (by rw [hps2, List.take_append_drop]; exact hp) hB2)
    rw [ef, List.length_cons, List.length_append] at hlen
    walk_at "go"
    refine r_extend eT2 el (by rw [List.length_map, List.length_map, List.length_cons]; show _ ≤ 16777216; omega) ?_
    walk_at "go"
    refine ⟨parts ++ [(y, zs)], _, rfl, hps2, hB2, same_put (sm.trans s2) hlt, by rw [upd_ne ntk]; exact s2 _ _ ek', ?_⟩
    rw [ef, ← List.map_append]; exact upd_same
  · rintro σ H' ⟨parts, w, rfl, hps, hB, sm, ek', eT'⟩
    rw [List.length_map, List.take_length] at hps
    walk_at "go"
    exact q lt _ H' sm hlt eT' (ben_of (by rw [hps]; exact hp) hB)
theorem ok_none {P : Program} {w : World} {K : PySem.W.Frag} {mg : Str → Option Value} {base : Heap} {CX : CXT} {k : Nat} {f : Addr} {fd : FuncData} {ps : List Str} : FnOk P w K mg base CX k f fd ps (fun _ _ _ _ => False) :=
  ⟨fun _ _ _ _ h => h.elim, fun _ _ _ _ _ _ _ _ _ _ _ _ _ h => h.elim⟩
theorem ok_ben {P : Program} {w : World} {K : PySem.W.Frag} {mg : Str → Option Value} {base : Heap} {d : Ad} (T : Tx K mg d) : ∀ n : Nat, FnOk P w K mg base (My.CX1 P w) (3 + n + 1) d.f_Tree_beneath d.fd_Tree_beneath ["self", "name"] (sp_ben n K d)
  | 0 => ben_step T 0 (fun _ _ _ _ => False) ok_none fun t S z y e H Q E _ _ hD hy _ _ _ => by
    have : kidsOf S z = [] := hD
    rw [this] at hy; simp at hy
  | n + 1 => ben_step T (n + 1) (sp_ben n K d) (ok_ben T n) fun t S z y e H Q E hT hS hD hy h1 h2 q => by
    refine ⟨t, S, .str y, rfl, hT, hS, .inl ⟨y, rfl⟩, fun e' he' => ?_, fun he' => ?_⟩
    · have ee : e = e' := Option.some.inj (h1.symm.trans he')
      subst ee
      rw [h2]
      exact ⟨hD y hy, fun l zs H' sm hl el hB => q l zs H' sm hl el hB⟩
    · rw [show who S (.str y) = some e from h1] at he'; cases he'
def sp_Tree_beneath (K : PySem.W.Frag) (d : Ad) : Sp := sp_ben 12 K d
theorem ok_Tree_beneath {P : Program} {w : World} {K : PySem.W.Frag} {mg : Str → Option Value} {base : Heap} {d : Ad} (T : Tx K mg d) : FnOk P w K mg base (My.CX1 P w) 16 d.f_Tree_beneath d.fd_Tree_beneath ["self", "name"] (sp_Tree_beneath K d) := ok_ben T 12
def upS (S : Ts) (y : Str) : Option Str := (S.at y).bind fun e => e.x.el
def anc (S : Ts) : Nat → Str → Option Str
  | 0, y => some y
  | k + 1, y => (upS S y).bind (anc S k)
theorem anc_add {S : Ts} : ∀ (i j : Nat) (y : Str), anc S (i + j) y = (anc S i y).bind (anc S j)
  | 0, j, y => by rw [Nat.zero_add]; rfl
  | i + 1, j, y => by
    rw [show i + 1 + j = (i + j) + 1 by omega]
    show (upS S y).bind (anc S (i + j)) = ((upS S y).bind (anc S i)).bind (anc S j)
    cases upS S y with
    | none => rfl
    | some u => exact anc_add i j u
def WF (S : Ts) : Prop := (S.hl.map (·.n)).Nodup ∧ ∀ e ∈ S.hl, ∃ zs, LineOf S e.n zs
theorem up_of {S : Ts} {z : Str} {e : He} (h : S.at z = some e) : upS S z = e.x.el := by unfold upS; rw [h]; rfl
theorem line_end {S : Ts} {z : Str} {zs : List Str} (h : LineOf S z zs) : anc S zs.length z = none := by
  induction h with
  | top h n => show (upS S _).bind _ = none; rw [up_of h, n]; rfl
  | up h n r ih => show (upS S _).bind _ = none; rw [up_of h, n]; exact ih
theorem no_cycle {S : Ts} (w : WF S) {k : Nat} {z : Str} : anc S (k + 1) z ≠ some z := by
  intro c
  cases hz : S.at z with
  | none =>
    have : anc S (k + 1) z = none := by show (upS S z).bind _ = none; unfold upS; rw [hz]; rfl
    rw [this] at c; cases c
  | some e =>
    obtain ⟨zs, hl⟩ := w.2 e (at_mem hz).1
    rw [(at_mem hz).2] at hl
    have he := line_end hl
    have rep : ∀ m, anc S (m * (k + 1)) z = some z := by
      intro m
      induction m with
      | zero => rw [Nat.zero_mul]; rfl
      | succ m ih => rw [Nat.succ_mul, anc_add, ih]; exact c
    have h1 := rep zs.length
    have h2 : zs.length * (k + 1) = zs.length + zs.length * k := by rw [Nat.mul_add, Nat.mul_one]; omega
    rw [h2, anc_add, he] at h1
    cases h1
theorem kid_up {S : Ts} (w : WF S) {y z : Str} (h : y ∈ kidsOf S z) : upS S y = some z := by
  obtain ⟨e, he, rfl⟩ := List.mem_map.mp h
  obtain ⟨hm, hd⟩ := List.mem_filter.mp he
  unfold upS
  rw [at_of w.1 hm]
  exact of_decide_eq_true hd
theorem kids_nodup {S : Ts} (w : WF S) (z : Str) : (kidsOf S z).Nodup := by
  unfold kidsOf
  exact List.Nodup.sublist (List.Sublist.map _ List.filter_sublist) w.1
theorem ben_anc {S : Ts} (w : WF S) : ∀ {n : Nat} {z : Str} {zs : List Str}, BenP S n z zs → ∀ y ∈ zs, ∃ k, anc S k y = some z
  | 0, z, _, ⟨parts, rest, hp, rfl, hb⟩, y, hy => by
    rcases List.mem_cons.mp hy with rfl | hy
    · exact ⟨0, rfl⟩
    · obtain ⟨l, hl, _⟩ := List.mem_flatten.mp hy
      obtain ⟨p, hpp, _⟩ := List.mem_map.mp hl
      exact (hb p hpp).elim
  | n + 1, z, _, ⟨parts, rest, hp, rfl, hb⟩, y, hy => by
    rcases List.mem_cons.mp hy with rfl | hy
    · exact ⟨0, rfl⟩
    · obtain ⟨l, hl, hyl⟩ := List.mem_flatten.mp hy
      obtain ⟨p, hpp, rfl⟩ := List.mem_map.mp hl
      obtain ⟨k, hk⟩ := ben_anc w (hb p hpp) y hyl
      have hu := kid_up w (hp.mem_iff.mp (List.mem_append_left _ (List.mem_map.mpr ⟨p, hpp, rfl⟩)))
      exact ⟨k + 1, by rw [anc_add, hk]; show (upS S p.1).bind _ = _; rw [hu]; rfl⟩
theorem apart {S : Ts} (w : WF S) {p q z y : Str} {i j : Nat} (hp : upS S p = some z) (hq : upS S q = some z) (ne : p ≠ q) (hi : anc S i y = some p) (hj : anc S j y = some q) (le : i ≤ j) : False := by
  obtain ⟨c, rfl⟩ := Nat.exists_eq_add_of_le le
  rw [anc_add, hi] at hj
  have hj' : anc S c p = some q := hj
  cases c with
  | zero => exact ne (Option.some.inj hj')
  | succ c =>
    have h1 : (upS S p).bind (anc S c) = some q := hj'
    rw [hp] at h1
    have h2 : anc S c z = some q := h1
    refine no_cycle w (k := c) (z := z) ?_
    rw [anc_add, h2]
    show (upS S q).bind _ = _
    rw [hq]; rfl
theorem parts_nodup {S : Ts} (w : WF S) {z : Str} : ∀ {parts : List (Str × List Str)}, (parts.map (·.1)).Nodup → (∀ p ∈ parts, upS S p.1 = some z) → (∀ p ∈ parts, p.2.Nodup ∧ ∀ y ∈ p.2, ∃ k, anc S k y = some p.1) → (flat parts).Nodup
  | [], _, _, _ => List.nodup_nil
  | p :: r, nd, hu, hb => by
    rw [List.map_cons, List.nodup_cons] at nd
    have ih := parts_nodup w (z := z) nd.2 (fun q hq => hu q (List.mem_cons_of_mem _ hq)) fun q hq => hb q (List.mem_cons_of_mem _ hq)
    show (p.2 ++ flat r).Nodup
    rw [List.nodup_append]
    refine ⟨(hb p (List.mem_cons_self ..)).1, ih, fun a ha b hbm e => ?_⟩
    subst e
    obtain ⟨l, hl, hal⟩ := List.mem_flatten.mp hbm
    obtain ⟨q, hq, rfl⟩ := List.mem_map.mp hl
    obtain ⟨i, hi⟩ := (hb p (List.mem_cons_self ..)).2 a ha
    obtain ⟨j, hj⟩ := (hb q (List.mem_cons_of_mem _ hq)).2 a hal
    have ne : p.1 ≠ q.1 := fun z => nd.1 (by rw [z]; exact List.mem_map.mpr ⟨q, hq, rfl⟩)
    have up := hu p (List.mem_cons_self ..)
    have uq := hu q (List.mem_cons_of_mem _ hq)
    rcases Nat.le_total i j with h | h
    · exact apart w up uq ne hi hj h
    · exact apart w uq up ne.symm hj hi h
theorem ben_nodup {S : Ts} (w : WF S) : ∀ {n : Nat} {z : Str} {zs : List Str}, BenP S n z zs → zs.Nodup ∧ ∀ y ∈ zs, y = z ∨ y ∈ S.hl.map (·.n)
  | 0, z, _, ⟨parts, rest, hp, rfl, hb⟩ => by
    have : parts = [] := by
      cases parts with
      | nil => rfl
      | cons p r => exact (hb p (List.mem_cons_self ..)).elim
    subst this
    exact ⟨by simp [flat], fun y hy => .inl (by simpa [flat] using hy)⟩
  | n + 1, z, _, ⟨parts, rest, hp, rfl, hb⟩ => by
    have kd := kids_nodup w z
    have hk : ∀ p ∈ parts, p.1 ∈ kidsOf S z := fun p h => hp.mem_iff.mp (List.mem_append_left _ (List.mem_map.mpr ⟨p, h, rfl⟩))
    have hu : ∀ p ∈ parts, upS S p.1 = some z := fun p h => kid_up w (hk p h)
    have hn : (parts.map (·.1)).Nodup := (List.nodup_append.mp (hp.nodup_iff.mpr kd)).1
    have fl := parts_nodup w (z := z) hn hu fun p h => ⟨(ben_nodup w (hb p h)).1, ben_anc w (hb p h)⟩
    refine ⟨List.nodup_cons.mpr ⟨fun hm => ?_, fl⟩, fun y hy => ?_⟩
    · obtain ⟨l, hl, hal⟩ := List.mem_flatten.mp hm
      obtain ⟨q, hq, rfl⟩ := List.mem_map.mp hl
      obtain ⟨k, hk'⟩ := ben_anc w (hb q hq) z hal
      refine no_cycle w (k := k) (z := z) ?_
      rw [anc_add, hk']
      show (upS S q.1).bind _ = _
      rw [hu q hq]; rfl
    · rcases List.mem_cons.mp hy with rfl | hy
      · exact .inl rfl
      · obtain ⟨l, hl, hal⟩ := List.mem_flatten.mp hy
        obtain ⟨q, hq, rfl⟩ := List.mem_map.mp hl
        have hq1 : q.1 ∈ S.hl.map (·.n) := by
          obtain ⟨e, he, e1⟩ := List.mem_map.mp (hk q hq)
          rw [← e1]; exact List.mem_map.mpr ⟨e, (List.mem_filter.mp he).1, rfl⟩
        rcases (ben_nodup w (hb q hq)).2 y hal with rfl | h
        · exact .inr hq1
        · exact .inr h
theorem slim_of {S : Ts} (w : WF S) (hz : S.hl.length ≤ 60) : Slim S := fun n z zs h => by
  obtain ⟨nd, hm⟩ := ben_nodup w h
  have := nd_le (m := z :: S.hl.map (·.n)) nd fun y hy => by
    rcases hm y hy with rfl | h
    · exact List.mem_cons_self ..
    · exact List.mem_cons_of_mem _ h
  rw [List.length_cons, List.length_map] at this
  omega
def ptOf (S : Ts) (y : Str) : Pt := match S.at y with
  | some e => ⟨e.x.pa, e.x.kp, e.x.fp⟩
  | none => ⟨0, [], noF⟩
theorem ptOf_at {S : Ts} {y : Str} {e : He} (h : S.at y = some e) : ptOf S y = ⟨e.x.pa, e.x.kp, e.x.fp⟩ := by unfold ptOf; rw [h]
def OfWares (S : Ts) : Prop := S.ws.length ≤ 100 ∧ ∀ e ∈ S.hl, ∀ z, e.x.fp z ≠ none → z ∈ S.ws
def sp_Tree_promised_beneath (K : PySem.W.Frag) (d : Ad) : Sp := fun vs H Q E => ∃ (t : Addr) (S : Ts) (x : V), vs = [.ref t, x] ∧ TrAt d H t S ∧ WF S ∧ OfWares S ∧ Thing K H x ∧
  (∀ e, who S x = some e → Dep S 12 e.n ∧ ∀ l zs k' H', Same H H' → H l = none → H' l = some (.dK k') → Ben S 12 e.n zs → AD k' (sumF (zs.map (ptOf S))) → Q (.ref l) H') ∧ (who S x = none → ∀ l, H l = none → E (.ref d.c_NoHouse) none (upd H l (.lst [x])))
theorem ok_Tree_promised_beneath {P : Program} {w : World} {K : PySem.W.Frag} {mg : Str → Option Value} {base : Heap} {d : Ad} (T : Tx K mg d) : FnOk P w K mg base (My.CX1 P w) 17 d.f_Tree_promised_beneath d.fd_Tree_promised_beneath ["self", "name"] (sp_Tree_promised_beneath K d) := by
  refine My.okX T.F_Tree_promised_beneath sc_Tree_promised_beneath (fun vs H Q E h => ?_) (fun cdv A outer s H vs Q E hr h => ?_)
  · obtain ⟨t, S, x, rfl, _⟩ := h; rfl
  obtain ⟨t, S, x, rfl, hT, hW, hO, hx, q1, q2⟩ := h
  refine ⟨_, (pss_one (ps_ret (pe_call ((ok_total_of T).mono (by decide)) hr rfl T.m_total_of T.F_total_of.kp T.b_total_of .nil pass0 (pa_cons (My.pe_comp (caps := [0]) (cn := ["self"]) (My.caps_of rfl rfl (by rfl) (by rfl) rfl ⟨rfl, trivial⟩ (by rfl) rfl ⟨⟨rfl, rfl, rfl, rfl, _, rfl⟩, trivial⟩ (by decide)) rfl (pi_list (My.pe_methX (pv 0) T.CL_Tree T.ME_Tree_beneath ((ok_Tree_beneath T).mono (by decide)) hr T.b_Tree_beneath .nil My.xes_xw (pa_cons (pv 1) pa_nil))) (fun _ _ _ _ => My.pf_nil) (fun _ _ _ _ => (pe_fld (pe_dget (hu_of hr) (pe_fld (pv 1) rfl) (pv 0) (fun _ _ => rfl)) rfl))) pa_nil)))), ?_⟩
  try dsimp only [L2.cxOf, L2.Cx.nox, L2.Cx.wish, My.xw, My.pnd, My.suite]
  dsimp only [My.cxC]
  refine r_start (σ := [some (.ref t), some (x)]) rfl ?_
  have ct := T.CL_Tree
  have ch := T.CL_House
  have nh : NoAttr K d.c_Tree "houses" := T.NA_Tree_houses
  have nf : NoAttr K d.c_House "promise" := T.NA_House_promise
  obtain ⟨dx, ht⟩ := hT.1
  have nd := hT.2.2.2.1
  walk_at "go"
  refine ⟨t, S, x, rfl, hT, slim_of hW hT.2.2.2.2.1, hx, fun e he => ⟨(q1 e he).1, ?_⟩, q2⟩
  obtain ⟨hD, q⟩ := q1 e he
  intro lb zs H1 s1 hlb eb hB
  walk_at "go"
  have hT1 := hT.same s1
  obtain ⟨⟨_, ht1⟩, hw, hh, _, hz, hE⟩ := hT1
  have hbn := ben_nodup hW (Ben.part hB)
  have hzs := slim_of hW hz 12 _ _ (Ben.part hB)
  have hin : ∀ y ∈ zs, ∃ ey, S.at y = some ey ∧ ey ∈ S.hl := fun y hy => by
    have hy' : y ∈ S.hl.map (·.n) := by
      rcases hbn.2 y hy with rfl | h
      · obtain ⟨z, rfl⟩ : ∃ z, x = .str z := by
          rcases hx with h | ⟨_, nz⟩
          · exact h
          · rw [who_not nz] at he; cases he
        exact List.mem_map.mpr ⟨e, (at_mem he).1, rfl⟩
      · exact h
    obtain ⟨ey, hm, rfl⟩ := List.mem_map.mp hy'
    exact ⟨ey, at_of nd hm, hm⟩
  intro C s0 H0 fp na hna
  refine c_by zs.length (fun i H' => H' = upd H1 na (.lst (((zs.take i).map (ptOf S)).map fun u => .ref u.a))) rfl ?_ ?_ ?_ ?_
  · rintro i H' hi rfl
    exact ⟨_, .str zs[i], SqL.of (look_new eb hna), by rw [List.getElem?_map, List.getElem?_eq_getElem hi]; rfl⟩
  · rintro H' rfl
    exact ⟨_, SqL.of (look_new eb hna), by rw [List.length_map]; exact Nat.le_refl _⟩
  · rintro i H' v H'' hi rfl ⟨rfl, hy⟩
    have hv := hy _ (SqL.of (look_new eb hna))
    rw [List.getElem?_map, List.getElem?_eq_getElem hi] at hv
    cases hv
    obtain ⟨ey, h1, hm⟩ := hin _ (List.getElem_mem hi)
    obtain ⟨⟨dy, hya⟩, _⟩ := hE ey hm
    walk_at "go"
    refine r_dgO (h := ey.a) (rd_new (.inl hh) hna) (by rw [look_at, h1]; rfl) ?_
    walk_at "go"
    rw [upd_upd, List.take_add_one, List.getElem?_eq_getElem hi]
    congr 2
    simp only [Option.toList_some, List.map_append, List.map_cons, List.map_nil, ptOf_at h1]
  rintro H' rfl
  rw [List.take_length]
  have s2 := same_new hna (.lst ((zs.map (ptOf S)).map fun u => V.ref u.a))
  have eN : upd H1 na (.lst ((zs.map (ptOf S)).map fun u => V.ref u.a)) na = some (.lst ((zs.map (ptOf S)).map fun u => V.ref u.a)) := upd_same
  walk_at "go"
  refine ⟨na, zs.map (ptOf S), S.ws, rfl, SqL.of eN, hO.1, fun u hu => ?_, fun l k' H2 s3 hl el hA => q l zs k' H2 ((s1.trans s2).trans s3) ((s1.trans s2).free hl) el hB hA⟩
  obtain ⟨y, hy, rfl⟩ := List.mem_map.mp hu
  obtain ⟨ey, h1, hm⟩ := hin y hy
  obtain ⟨_, hp, hA, _⟩ := hE ey hm
  rw [ptOf_at h1]
  exact ⟨s2 _ _ hp, hA, hO.2 ey hm⟩
theorem ok_i_NoPromise {P : Program} {w : World} {K : PySem.W.Frag} {mg : Str → Option Value} {base : Heap} {d : Ad} (T : Tx K mg d) : FnOk P w K mg base CX0 1 d.f_i_NoPromise d.fd_i_NoPromise ["self", "house", "ware"] (fun _ _ _ _ => False) := ok_none
def sp_check_promises (K : PySem.W.Frag) (d : Ad) : Sp := fun vs H Q _ => ∃ (x : V) (a b : Addr) (ka kb : List (Key × V)) (f g : Str → Option Int), vs = [x, .ref a, .ref b] ∧ Rd H a (.dK ka) ∧ Rd H b (.dK kb) ∧ AD ka f ∧ AD kb g ∧ ka.length < 64 ∧ (∀ z n, f z = some n → n ≤ gN g z) ∧ ∀ H', Same H H' → Q .non H'
theorem ok_check_promises {P : Program} {w : World} {K : PySem.W.Frag} {mg : Str → Option Value} {base : Heap} {d : Ad} (T : Tx K mg d) : FnOk P w K mg base (My.CX1 P w) 3 d.f_check_promises d.fd_check_promises ["name", "promises", "cap"] (sp_check_promises K d) := by
  refine My.okX T.F_check_promises sc_check_promises (fun vs H Q E h => ?_) (fun cdv A outer s H vs Q E hr h => ?_)
  · obtain ⟨x, a, b, ka, kb, f, g, rfl, _⟩ := h; rfl
  obtain ⟨x, a, b, ka, kb, f, g, rfl, ha, hb, hf, hg, hz, hw, q⟩ := h
  refine ⟨_, (pss_cons (ps_set (i := 3) sc_check_promises.nd rfl (Or.inl rfl) (pe_call ((ok_beyond T).mono (by decide)) hr rfl T.m_beyond T.F_beyond.kp T.b_beyond .nil pass0 (pa_cons (pv 1) (pa_cons (pv 2) pa_nil))))
    (pss_one (ps_if (pt_cmpR My.op_notNN (pv 3) pe_non (nomark _)) (pss_one (My.ps_raiseI rfl T.XI_NoPromise ((ok_i_NoPromise T).mono (by decide)) hr T.b_i_NoPromise rfl T.m_NoPromise My.xes_xw (pa_cons (pv 0) (pa_cons (pv 3) pa_nil)))) pss_nil))), ?_⟩
  try dsimp only [L2.cxOf, L2.Cx.nox, L2.Cx.wish, My.xw, My.pnd, My.suite]
  refine r_start (σ := [some (x), some (.ref a), some (.ref b), none]) rfl ?_
  walk_at "go"
  refine ⟨a, b, ka, kb, f, g, rfl, ha, hb, hf, hg, hz, fun H' sm _ => ?_, fun z H' sm hv _ => ?_⟩
  · walk_at "go"
    exact q _ sm
  · obtain ⟨h1, h2⟩ := hv
    cases e : f z with
    | none => exact absurd e h1
    | some n =>
      have h3 := hw z n e
      have h4 : gN f z = n := by unfold gN; rw [e]; rfl
      omega
def sp_Tree_check_more (K : PySem.W.Frag) (d : Ad) : Sp := fun vs H Q _ => ∃ (t lb m : Addr) (S : Ts) (zs : List Str) (km : List (Key × V)) (fm : Str → Option Int), vs = [.ref t, .ref lb, .ref m] ∧ TrAt d H t S ∧ WF S ∧ OfWares S ∧ SqL K H lb (zs.map V.str) ∧ H m = some (.dK km) ∧ AD km fm ∧ S.ws.length ≤ 50 ∧ (∀ z, fm z ≠ none → z ∈ S.ws) ∧
  (∀ y ∈ zs, ∃ e, S.at y = some e ∧ Dep S 12 y ∧ ∀ bs, Ben S 12 y bs → ∀ z n, addF (sumF (bs.map (ptOf S))) fm z = some n → n ≤ gN e.x.fc z) ∧ ∀ H', Same H H' → Q .non H'
theorem ok_Tree_check_more {P : Program} {w : World} {K : PySem.W.Frag} {mg : Str → Option Value} {base : Heap} {d : Ad} (T : Tx K mg d) : FnOk P w K mg base (My.CX1 P w) 18 d.f_Tree_check_more d.fd_Tree_check_more ["self", "names", "more"] (sp_Tree_check_more K d) := by
  refine My.okX T.F_Tree_check_more sc_Tree_check_more (fun vs H Q E h => ?_) (fun cdv A outer s H vs Q E hr h => ?_)
  · obtain ⟨t, lb, m, S, zs, km, fm, rfl, _⟩ := h; rfl
  obtain ⟨t, lb, m, S, zs, km, fm, rfl, hT, hW, hO, hL, hm, hA, hws, hfm, hy, q⟩ := h
  refine ⟨_, (pss_one (ps_for (My.pass_xw rfl rfl) rfl (pi_list (pv 1)) (pg_name (i := 3) sc_Tree_check_more.nd rfl (Or.inl rfl)) (pss_one (ps_expr (My.pe_callX ((ok_check_promises T).mono (by decide)) hr rfl T.m_check_promises T.F_check_promises.kp T.b_check_promises .nil My.xes_xw (pa_cons (pv 3) (pa_cons (pe_call ((ok_added T).mono (by decide)) hr rfl T.m_added T.F_added.kp T.b_added .nil pass0 (pa_cons (My.pe_methX (pv 0) T.CL_Tree T.ME_Tree_promised_beneath ((ok_Tree_promised_beneath T).mono (by decide)) hr T.b_Tree_promised_beneath .nil My.xes_xw (pa_cons (pv 3) pa_nil)) (pa_cons (pv 2) pa_nil))) (pa_cons (pe_fld (pe_dget (hu_of hr) (pe_fld (pv 0) rfl) (pv 3) (fun _ _ => rfl)) rfl) pa_nil)))))))), ?_⟩
  try dsimp only [L2.cxOf, L2.Cx.nox, L2.Cx.wish, My.xw, My.pnd, My.suite]
  refine r_start (σ := [some (.ref t), some (.ref lb), some (.ref m), none]) rfl ?_
  have ct := T.CL_Tree
  have ch := T.CL_House
  have nh : NoAttr K d.c_Tree "houses" := T.NA_Tree_houses
  have nf : NoAttr K d.c_House "cap" := T.NA_House_cap
  walk_at "go"
  refine f_list (xs := zs.map V.str) (fun i σ H' => Same H H' ∧ ∃ w, σ = [some (.ref t), some (.ref lb), some (.ref m), w]) ⟨Same.refl _, _, rfl⟩ ?_ ?_ ?_
  · rintro i σ H' _ ⟨sm, _⟩; exact sm.seq hL
  · rintro i v σ H' hv ⟨sm, w, rfl⟩
    rw [List.getElem?_map] at hv
    obtain ⟨y, hyi, rfl⟩ := Option.map_eq_some_iff.mp hv
    obtain ⟨e, h1, hD, hb⟩ := hy y (List.mem_of_getElem? hyi)
    obtain ⟨dx, ht⟩ := (hT.same sm).1
    walk_at "go"
    have sup : ∀ bs : List Str, (∀ b ∈ bs, ∃ eb, S.at b = some eb ∧ eb ∈ S.hl) → ∀ z, sumF (bs.map (ptOf S)) z ≠ none → z ∈ S.ws := fun bs hbs => by
      refine sum_sup (fun u hu z hz => ?_) noF (fun z hz => absurd rfl hz)
      obtain ⟨b, hb1, rfl⟩ := List.mem_map.mp hu
      obtain ⟨eb, h3, h4⟩ := hbs b hb1
      rw [ptOf_at h3] at hz
      exact hO.2 eb h4 z hz
    refine ⟨t, S, .str y, rfl, hT.same sm, hW, hO, .inl ⟨y, rfl⟩, fun e' he' => ?_, fun hn => ?_⟩
    · have ee : e = e' := Option.some.inj (h1.symm.trans he')
      subst ee
      have hme := at_mem h1
      rw [hme.2]
      refine ⟨hD, fun l bs k' H2 s2 hl el hB hA2 => ?_⟩
      have hbs : ∀ b ∈ bs, ∃ eb, S.at b = some eb ∧ eb ∈ S.hl := fun b hb1 => by
        have hb2 : b ∈ S.hl.map (·.n) := by
          rcases (ben_nodup hW (Ben.part hB)).2 b hb1 with rfl | h
          · exact List.mem_map.mpr ⟨e, hme.1, hme.2⟩
          · exact h
        obtain ⟨eb, h3, rfl⟩ := List.mem_map.mp hb2
        exact ⟨eb, at_of hW.1 h3, h3⟩
      have l1 := hA2.le (sup bs hbs)
      have l2 := hA.le hfm
      walk_at "go"
      refine ⟨l, m, k', km, _, fm, rfl, .inl el, (sm.trans s2) _ _ hm, hA2, hA, by omega, by omega, fun lx kx H3 s3 hlx elx hA3 => ?_⟩
      have sx := (sm.trans s2).trans s3
      obtain ⟨⟨dx3, ht3⟩, _, hh3, _, _, hE3⟩ := hT.same sx
      obtain ⟨⟨dh, ho⟩, _, _, hc, hcA⟩ := hE3 e hme.1
      walk_at "go"
      refine r_dgO (h := e.a) (.inl hh3) (by rw [look_at, h1]; rfl) ?_
      walk_at "go"
      refine ⟨.str y, lx, e.x.ca, kx, e.x.kc, _, e.x.fc, rfl, .inl elx, .inl hc, hA3, hcA, ?_, hb bs hB, fun H4 s4 => ⟨sx.trans s4, _, rfl⟩⟩
      have l3 := hA3.le (ws := S.ws) (addF_sup (sup bs hbs) hfm)
      omega
    · rw [show who S (.str y) = some e from h1] at hn; cases hn
  · rintro σ H' ⟨sm, w, rfl⟩
    walk_at "go"
    exact q _ sm
def sp_is_whole (K : PySem.W.Frag) (d : Ad) : Sp := fun vs H Q _ => ∃ i : Int, vs = [.int i] ∧ Q (.bl true) H
def sp_is_whole_from (K : PySem.W.Frag) (d : Ad) : Sp := fun vs H Q _ => ∃ i a b : Int, vs = [.int i, .int a, .int b] ∧ a ≤ i ∧ i ≤ b ∧ Q (.bl true) H
def sp_is_amount (K : PySem.W.Frag) (d : Ad) : Sp := fun vs H Q _ => ∃ i : Int, vs = [.int i] ∧ 0 ≤ i ∧ i ≤ 10 ^ 30 ∧ Q (.bl true) H
theorem ok_is_whole {P : Program} {w : World} {K : PySem.W.Frag} {mg : Str → Option Value} {base : Heap} {d : Ad} (T : Tx K mg d) : FnOk P w K mg base CX0 1 d.f_is_whole d.fd_is_whole ["thing"] (sp_is_whole K d) := by
  refine T.F_is_whole.ok sc_is_whole (fun vs H Q E h => ?_) (fun cdv A outer s H vs Q E hr h => ?_)
  · obtain ⟨i, rfl, _⟩ := h; rfl
  obtain ⟨i, rfl, q⟩ := h
  refine ⟨_, (pss_one (ps_ret (pe_and (pe_callB My.call_isi2 rfl T.z_isinstance PyProof.Rows.boot_isinstance (pa_cons (pv 0) (pa_cons (pe_bltn (v := .ty "int") rfl T.z_int PyProof.Rows.boot_int rfl) pa_nil))) (pe_one (pe_not (pe_callB My.call_isi2 rfl T.z_isinstance PyProof.Rows.boot_isinstance (pa_cons (pv 0) (pa_cons (pe_bltn (v := .ty "bool") rfl T.z_bool PyProof.Rows.boot_bool rfl) pa_nil)))))))), ?_⟩
  try dsimp only [L2.cxOf, L2.Cx.nox, L2.Cx.wish, My.xw, My.pnd, My.suite]
  refine r_start (σ := [some (.int i)]) rfl ?_
  walk_at "go"
  exact q
theorem ok_is_whole_from {P : Program} {w : World} {K : PySem.W.Frag} {mg : Str → Option Value} {base : Heap} {d : Ad} (T : Tx K mg d) : FnOk P w K mg base CX0 2 d.f_is_whole_from d.fd_is_whole_from ["thing", "least", "most"] (sp_is_whole_from K d) := by
  refine T.F_is_whole_from.ok sc_is_whole_from (fun vs H Q E h => ?_) (fun cdv A outer s H vs Q E hr h => ?_)
  · obtain ⟨i, a, b, rfl, _⟩ := h; rfl
  obtain ⟨i, a, b, rfl, h1, h2, q⟩ := h
  refine ⟨_, (pss_one (ps_ret (pe_and (pe_call ((ok_is_whole T).mono (by decide)) hr rfl T.m_is_whole T.F_is_whole.kp T.b_is_whole .nil pass0 (pa_cons (pv 0) pa_nil)) (pe_one (pe_chain op_le op_le (pv 1) (pv 0) (pv 2)))))), ?_⟩
  try dsimp only [L2.cxOf, L2.Cx.nox, L2.Cx.wish, My.xw, My.pnd, My.suite]
  refine r_start (σ := [some (.int i), some (.int a), some (.int b)]) rfl ?_
  walk_at "go"
  refine ⟨i, rfl, ?_⟩
  walk_at "go"
  rw [decide_eq_true h2]
  exact q
theorem ok_is_amount {P : Program} {w : World} {K : PySem.W.Frag} {mg : Str → Option Value} {base : Heap} {d : Ad} (T : Tx K mg d) : FnOk P w K mg base CX0 3 d.f_is_amount d.fd_is_amount ["thing"] (sp_is_amount K d) := by
  refine T.F_is_amount.ok sc_is_amount (fun vs H Q E h => ?_) (fun cdv A outer s H vs Q E hr h => ?_)
  · obtain ⟨i, rfl, _⟩ := h; rfl
  obtain ⟨i, rfl, h1, h2, q⟩ := h
  refine ⟨_, (pss_one (ps_ret (pe_call ((ok_is_whole_from T).mono (by decide)) hr rfl T.m_is_whole_from T.F_is_whole_from.kp T.b_is_whole_from .nil pass0 (pa_cons (pv 0) (pa_cons pe_int (pa_cons (pe_op op_pow pe_int pe_int) pa_nil)))))), ?_⟩
  try dsimp only [L2.cxOf, L2.Cx.nox, L2.Cx.wish, My.xw, My.pnd, My.suite]
  refine r_start (σ := [some (.int i)]) rfl ?_
  walk_at "go"
  refine ⟨i, 0, _, rfl, h1, ?_, ?_⟩
  · exact h2
  walk_at "go"
  exact q
theorem inV_str {z : Str} {ws : List Str} (h : z ∈ ws) : inV (.str z) (ws.map V.str) = true := by
  unfold inV
  rw [List.any_eq_true]
  exact ⟨.str z, List.mem_map.mpr ⟨z, h, rfl⟩, by simp [eqV]⟩
theorem r_notInT {K : PySem.W.Frag} {H : Hp} {Q : VK} {p : Addr} {z : Str} {ws : List Str} (hS : SqL K H p (ws.map V.str)) (h : z ∈ ws) (q : Q (.bl false) H) : rIn K true (.str z) (.ref p) H Q := by
  refine ⟨p, _, rfl, .inl hS, rfl, ?_, ?_⟩
  · rw [List.all_eq_true]
    intro x hx
    obtain ⟨y, _, rfl⟩ := List.mem_map.mp hx
    rfl
  · rw [inV_str h]; exact q
def sp_amounts_of (K : PySem.W.Frag) (d : Ad) : Sp := fun vs H Q _ => ∃ (a w : Addr) (k : List (Key × V)) (f : Str → Option Int) (ws : List Str), vs = [.ref a, .ref w] ∧ H a = some (.dK k) ∧ AD k f ∧ k.length ≤ 1000 ∧ H w = some (.lst (ws.map V.str)) ∧ (∀ z n, f z = some n → z ∈ ws ∧ 0 ≤ n ∧ n ≤ 10 ^ 30) ∧
  ∀ l k' H', Same H H' → H l = none → H' l = some (.dK k') → AD k' (posF f) → Q (.ref l) H'
theorem ok_amounts_of {P : Program} {w : World} {K : PySem.W.Frag} {mg : Str → Option Value} {base : Heap} {d : Ad} (T : Tx K mg d) : FnOk P w K mg base (My.CX1 P w) 4 d.f_amounts_of d.fd_amounts_of ["handed", "wares"] (sp_amounts_of K d) := by
  refine My.okX T.F_amounts_of sc_amounts_of (fun vs H Q E h => ?_) (fun cdv A outer s H vs Q E hr h => ?_)
  · obtain ⟨a, w, k, f, ws, rfl, _⟩ := h; rfl
  obtain ⟨a, w, kvs, f, ws, rfl, ha, hA, hz, hw, hf, q⟩ := h
  refine ⟨_, (pss_cons (ps_if (pt_not (pt_val (pe_callB My.call_isi2 rfl T.z_isinstance PyProof.Rows.boot_isinstance (pa_cons (pv 0) (pa_cons (pe_bltn (v := .ty "dict") rfl T.z_dict PyProof.Rows.boot_dict rfl) pa_nil))))) (pss_one (My.ps_raise rfl T.X_NoAmount rfl T.m_NoAmount My.xes_xw (pa_cons pe_str pa_nil))) pss_nil)
    (pss_cons (My.ps_thA (ps_for (My.pass_xw rfl rfl) rfl (My.pi_dict (pv 0)) (pg_name (i := 2) sc_amounts_of.nd rfl (Or.inl rfl)) (pss_one (ps_if (PW.pt (pw_or (pt_not (pt_val (pe_callB My.call_isi2 rfl T.z_isinstance PyProof.Rows.boot_isinstance (pa_cons (pv 2) (pa_cons (pe_bltn (v := .ty "str") rfl T.z_str PyProof.Rows.boot_str rfl) pa_nil))))) (pw_or1 (pt_cmpR op_notIn_seq (pv 2) (pv 1) (by rfl))))) (pss_one (My.ps_raise rfl T.X_NoWare rfl T.m_NoWare My.xes_xw (pa_cons pe_str pa_nil))) pss_nil))))
    (pss_cons (My.ps_thA (ps_for (My.pass_xw rfl rfl) rfl (My.pi_dict (pv 0)) (pg_name (i := 3) sc_amounts_of.nd rfl (Or.inl rfl)) (pss_one (ps_if (pt_not (pt_val (pe_call ((ok_is_amount T).mono (by decide)) hr rfl T.m_is_amount T.F_is_amount.kp T.b_is_amount .nil pass0 (pa_cons (pe_dget (hu_of hr) (pv 0) (pv 3) (fun _ _ => rfl)) pa_nil)))) (pss_one (My.ps_raise rfl T.X_NoAmount rfl T.m_NoAmount My.xes_xw (pa_cons pe_str pa_nil))) pss_nil))))
    (pss_one (ps_ret (pe_call ((ok_above_nought T).mono (by decide)) hr rfl T.m_above_nought T.F_above_nought.kp T.b_above_nought .nil pass0 (pa_cons (pv 0) pa_nil))))))), ?_⟩
  try dsimp only [L2.cxOf, L2.Cx.nox, L2.Cx.wish, My.xw, My.pnd, My.suite]
  refine r_start (σ := [some (.ref a), some (.ref w), none, none]) rfl ?_
  walk_at "go"
  refine r_itD ha fun o => ?_
  have hwa : w ≠ a := ne_of hw ha (by intro z; cases z)
  refine f_dict (fun i σ H' => H' = upd H a (.frz o (.dK kvs)) ∧ ∃ w2 w3, σ = [some (.ref a), some (.ref w), w2, w3]) ⟨rfl, _, _, rfl⟩ ?_ ?_ ?_
  · rintro i σ H' _ ⟨rfl, _⟩; exact upd_same
  · rintro i k v σ H' hk ⟨rfl, w2, w3, rfl⟩
    obtain ⟨z, n, rfl, rfl, hfz, hzi⟩ := hA.at hk
    have hw' : upd H a (.frz o (.dK kvs)) w = some (.lst (ws.map V.str)) := by rw [upd_ne hwa]; exact hw
    show gName _ (.str z) _ _ _
    walk_at "go"
    refine r_notInT (SqL.of hw') (hf z n hfz).1 ?_
    walk_at "go"
    exact ⟨rfl, _, _, rfl⟩
  · rintro σ H' ⟨rfl, w2, w3, rfl⟩
    refine r_thNx (thaw1 upd_same (noFrz_dK ha)) ?_
    have s2 := same_thaw ha (sb_frz (o := o) ha)
    have ha2 : upd (upd H a (.frz o (.dK kvs))) a (.dK kvs) a = some (.dK kvs) := upd_same
    generalize upd (upd H a (.frz o (.dK kvs))) a (.dK kvs) = H2 at *
    walk_at "go"
    refine r_itD ha2 fun o2 => ?_
    refine f_dict (fun i σ H' => H' = upd H2 a (.frz o2 (.dK kvs)) ∧ ∃ w3, σ = [some (.ref a), some (.ref w), w2, w3]) ⟨rfl, _, rfl⟩ ?_ ?_ ?_
    · rintro i σ H' _ ⟨rfl, _⟩; exact upd_same
    · rintro i k v σ H' hk ⟨rfl, w3, rfl⟩
      obtain ⟨z, n, rfl, rfl, hfz, hzi⟩ := hA.at hk
      have hRd : Rd (upd H2 a (.frz o2 (.dK kvs))) a (.dK kvs) := .inr ⟨o2, upd_same⟩
      show gName _ (.str z) _ _ _
      walk_at "go"
      refine ⟨n, rfl, (hf z n hfz).2.1, (hf z n hfz).2.2, ?_⟩
      walk_at "go"
      exact ⟨rfl, _, rfl⟩
    · rintro σ H' ⟨rfl, w3, rfl⟩
      refine r_thNx (thaw1 upd_same ?_) ?_
      · exact noFrz_dK ha
      have s3 := same_thaw ha2 (sb_frz (o := o2) ha2)
      have ha3 : upd (upd H2 a (.frz o2 (.dK kvs))) a (.dK kvs) a = some (.dK kvs) := upd_same
      generalize upd (upd H2 a (.frz o2 (.dK kvs))) a (.dK kvs) = H3 at *
      walk_at "go"
      refine ⟨a, kvs, f, rfl, ha3, hA, hz, fun l k' H4 s4 hl el hA4 => ?_⟩
      walk_at "go"
      exact q l k' H4 ((s2.trans s3).trans s4) ((s2.trans s3).free hl) el hA4
def sp_House_init (K : PySem.W.Frag) (d : Ad) : Sp := fun vs H Q _ => ∃ (x dx : Addr) (o : Ho), vs = [.ref x, eV o.el, .ref o.pa, .ref o.ca, .int o.w] ∧ H x = some (.ins d.c_House dx []) ∧ ∀ H', H' x = some (.ins d.c_House dx (fsH o)) → SameBut x H H' → Q .non H'
theorem ok_House_init {P : Program} {w : World} {K : PySem.W.Frag} {mg : Str → Option Value} {base : Heap} {d : Ad} (T : Tx K mg d) : FnOk P w K mg base CX0 1 d.f_House_init d.fd_House_init ["self", "elder", "promise", "cap", "weight"] (sp_House_init K d) := by
  refine T.F_House_init.ok sc_House_init (fun vs H Q E h => ?_) (fun cdv A outer s H vs Q E hr h => ?_)
  · obtain ⟨x, dx, o, rfl, _⟩ := h; rfl
  obtain ⟨x, dx, o, rfl, hx, q⟩ := h
  refine ⟨_, (pss_cons (ps_fld (pv 0) (pv 1) rfl)
    (pss_cons (ps_fld (pv 0) (pv 2) rfl)
    (pss_cons (ps_fld (pv 0) (pv 3) rfl)
    (pss_one (ps_fld (pv 0) (pv 4) rfl))))), ?_⟩
  try dsimp only [L2.cxOf, L2.Cx.nox, L2.Cx.wish, My.xw, My.pnd, My.suite]
  refine r_start (σ := [some (.ref x), some (eV o.el), some (.ref o.pa), some (.ref o.ca), some (.int o.w)]) rfl ?_
  have cl := T.CL_House
  have n1 : NoAttr K d.c_House "elder" := T.NA_House_elder
  have n2 : NoAttr K d.c_House "promise" := T.NA_House_promise
  have n3 : NoAttr K d.c_House "cap" := T.NA_House_cap
  have n4 : NoAttr K d.c_House "weight" := T.NA_House_weight
  walk_at "go"
  refine r_fsk upd_same cl n2 (by show 1 < 1000; decide) ?_
  walk_at "go"
  refine r_fsk upd_same cl n3 (by show 2 < 1000; decide) ?_
  walk_at "go"
  refine r_fsk upd_same cl n4 (by show 3 < 1000; decide) ?_
  walk_at "go"
  refine q _ (by rw [upd_same]; rfl) fun b u hb e => ?_
  rw [upd_ne hb, upd_ne hb, upd_ne hb, upd_ne hb]
  exact e
def sp_read_house (K : PySem.W.Frag) (d : Ad) : Sp := fun vs H Q _ => ∃ (w a b : Addr) (el : Option Str) (ws : List Str) (ka kb : List (Key × V)) (f g : Str → Option Int) (wt : Int), vs = [.ref w, eV el, .ref a, .ref b, .int wt] ∧ H w = some (.lst (ws.map V.str)) ∧
  H a = some (.dK ka) ∧ AD ka f ∧ ka.length ≤ 1000 ∧ H b = some (.dK kb) ∧ AD kb g ∧ kb.length ≤ 1000 ∧ (∀ z n, f z = some n → z ∈ ws ∧ 0 ≤ n ∧ n ≤ 10 ^ 30) ∧ (∀ z n, g z = some n → z ∈ ws ∧ 0 ≤ n ∧ n ≤ 10 ^ 30) ∧ 1 ≤ wt ∧ wt ≤ 1000 ∧
  ∀ h o H', Same H H' → H h = none → H o.pa = none → H o.ca = none → HoAt d H' h o → o.el = el → o.w = wt → (∀ z, o.fp z = posF f z) → (∀ z, o.fc z = posF g z) → Q (.ref h) H'
theorem ok_read_house {P : Program} {w : World} {K : PySem.W.Frag} {mg : Str → Option Value} {base : Heap} {d : Ad} (T : Tx K mg d) : FnOk P w K mg base (My.CX1 P w) 5 d.f_read_house d.fd_read_house ["wares", "elder", "promise", "cap", "weight"] (sp_read_house K d) := by
  refine My.okX T.F_read_house sc_read_house (fun vs H Q E h => ?_) (fun cdv A outer s H vs Q E hr h => ?_)
  · obtain ⟨w, a, b, el, ws, ka, kb, f, g, wt, rfl, _⟩ := h; rfl
  obtain ⟨w, a, b, el, ws, ka, kb, f, g, wt, rfl, hw, ha, hA, hz, hb, hB, hz2, hf, hg, w0, w1, q⟩ := h
  refine ⟨_, (pss_cons (ps_set (i := 5) sc_read_house.nd rfl (Or.inl rfl) (My.pe_callX ((ok_amounts_of T).mono (by decide)) hr rfl T.m_amounts_of T.F_amounts_of.kp T.b_amounts_of .nil My.xes_xw (pa_cons (pv 2) (pa_cons (pv 0) pa_nil))))
    (pss_cons (ps_set (i := 6) sc_read_house.nd rfl (Or.inl rfl) (My.pe_callX ((ok_amounts_of T).mono (by decide)) hr rfl T.m_amounts_of T.F_amounts_of.kp T.b_amounts_of .nil My.xes_xw (pa_cons (pv 3) (pa_cons (pv 0) pa_nil))))
    (pss_cons (ps_if (pt_not (pt_val (pe_call ((ok_is_whole_from T).mono (by decide)) hr rfl T.m_is_whole_from T.F_is_whole_from.kp T.b_is_whole_from .nil pass0 (pa_cons (pv 4) (pa_cons pe_int (pa_cons (pe_glob rfl T.m_GREATEST_WEIGHT T.r_GREATEST_WEIGHT) pa_nil)))))) (pss_one (My.ps_raise rfl T.X_NoNumber rfl T.m_NoNumber My.xes_xw (pa_cons pe_str pa_nil))) pss_nil)
    (pss_one (ps_ret (pe_make T.MK_House ((ok_House_init T).mono (by decide)) hr rfl T.m_House T.b_House_init .nil pass0 (pa_cons (pv 1) (pa_cons (pv 5) (pa_cons (pv 6) (pa_cons (pv 4) pa_nil)))))))))), ?_⟩
  try dsimp only [L2.cxOf, L2.Cx.nox, L2.Cx.wish, My.xw, My.pnd, My.suite]
  refine r_start (σ := [some (.ref w), some (eV el), some (.ref a), some (.ref b), some (.int wt), none, none]) rfl ?_
  walk_at "go"
  refine ⟨a, w, ka, f, ws, rfl, ha, hA, hz, hw, hf, fun lp kp H1 s1 hlp ep hAp => ?_⟩
  walk_at "go"
  refine ⟨b, w, kb, g, ws, rfl, s1 _ _ hb, hB, hz2, s1 _ _ hw, hg, fun lc kc H2 s2 hlc ec hAc => ?_⟩
  walk_at "go"
  refine ⟨wt, 1, 1000, rfl, w0, w1, ?_⟩
  walk_at "go"
  intro x dx hx hdx ne
  have ep2 := s2 _ _ ep
  refine ⟨x, dx, ⟨el, lp, kp, posF f, lc, kc, posF g, wt⟩, rfl, upd_same, fun H3 ex sb => ⟨rfl, ?_⟩⟩
  have s3 : Same H2 H3 := fun c o hc => sb c o (ne_of_none hc hx) (by rw [upd_ne (ne_of_none hc hx), upd_ne (ne_of_none hc hdx)]; exact hc)
  walk_at "go"
  exact q x ⟨el, lp, kp, posF f, lc, kc, posF g, wt⟩ H3 ((s1.trans s2).trans s3) ((s1.trans s2).free hx) hlp (s1.free hlc) ⟨⟨dx, ex⟩, s3 _ _ ep2, hAp, s3 _ _ ec, hAc⟩ rfl rfl (fun _ => rfl) fun _ => rfl
theorem same_put {H H' : Hp} {a : Addr} {o : HO} (s : Same H H') (n : H a = none) : Same H (upd H' a o) := fun b u e => by rw [upd_ne (ne_of_none e n)]; exact s b u e
def isL (c : Nat) : Bool := decide (97 ≤ c) && decide (c ≤ 122)
theorem inL : ∀ c : Nat, c < 128 → (!(Builtin.Str.occurrences (Str.ofString "abcdefghijklmnopqrstuvwxyz") ⟨#[c]⟩ 0 (Str.ofString "abcdefghijklmnopqrstuvwxyz").length 1).isEmpty) = isL c := by decide +kernel
def codes (x : Str) : List Nat := x.cps.toList
def goodS (x : Str) : Bool := decide (1 ≤ x.length) && decide (x.length ≤ 8) && (codes x).all isL
theorem len_codes (x : Str) : (codes x).length = x.length := by simp [codes, Str.length]
theorem goodS_of {z : Str} (h : goodS z = true) : 1 ≤ z.length ∧ z.length ≤ 8 ∧ ∀ c ∈ codes z, isL c = true := by
  unfold goodS at h
  rw [Bool.and_eq_true, Bool.and_eq_true, List.all_eq_true] at h
  exact ⟨of_decide_eq_true h.1.1, of_decide_eq_true h.1.2, h.2⟩
theorem isL_lt {c : Nat} (h : isL c = true) : c < 128 := by
  unfold isL at h
  rw [Bool.and_eq_true] at h
  have := of_decide_eq_true h.2
  omega
def sp_is_name (K : PySem.W.Frag) (d : Ad) : Sp := fun vs H Q _ => ∃ z, vs = [.str z] ∧ goodS z = true ∧ ∀ H', Same H H' → Q (.bl true) H'
theorem ok_is_name {P : Program} {w : World} {K : PySem.W.Frag} {mg : Str → Option Value} {base : Heap} {d : Ad} (T : Tx K mg d) : FnOk P w K mg base CX0 1 d.f_is_name d.fd_is_name ["thing"] (sp_is_name K d) := by
  refine T.F_is_name.ok sc_is_name (fun vs H Q E h => ?_) (fun cdv A outer s H vs Q E hr h => ?_)
  · obtain ⟨z, rfl, _⟩ := h; rfl
  obtain ⟨z, rfl, hg, q⟩ := h
  obtain ⟨h1, h8, hL⟩ := goodS_of hg
  have lz := len_codes z
  refine ⟨_, (pss_cons (ps_if (pt_not (pt_val (pe_callB My.call_isi2 rfl T.z_isinstance PyProof.Rows.boot_isinstance (pa_cons (pv 0) (pa_cons (pe_bltn (v := .ty "str") rfl T.z_str PyProof.Rows.boot_str rfl) pa_nil))))) (pss_one (ps_ret pe_bl)) pss_nil)
    (pss_cons (ps_if (PW.pt (pw_or (pt_cmpR op_lt (pe_callB My.call_lenS rfl T.z_len PySem.boot_len (pa_cons (pv 0) pa_nil)) pe_int (nomark _)) (pw_or1 (pt_cmpR op_gt (pe_callB My.call_lenS rfl T.z_len PySem.boot_len (pa_cons (pv 0) pa_nil)) (pe_glob rfl T.m_LONGEST_NAME T.r_LONGEST_NAME) (nomark _))))) (pss_one (ps_ret pe_bl)) pss_nil)
    (pss_one (ps_ret (pe_callB (My.call_allB rfl) rfl T.z_all PyProof.Rows.boot_all (pa_cons (My.pe_comp (caps := []) (cn := []) (My.caps_of rfl rfl (by rfl) (by rfl) rfl trivial (by rfl) rfl trivial (by decide)) rfl (My.pi_str (pv 0)) (fun _ _ _ _ => My.pf_nil) (fun _ _ _ _ => (pe_cmpR My.op_inS (pv 0) (pe_glob rfl T.m_LETTERS T.r_LETTERS) (by rfl)))) pa_nil)))))), ?_⟩
  try dsimp only [L2.cxOf, L2.Cx.nox, L2.Cx.wish, My.xw, My.pnd, My.suite]
  try dsimp only [My.cxC]
  refine r_start (σ := [some (.str z)]) rfl ?_
  walk_at "go"
  intro C s0 H0 fp acc hacc
  refine c_by z.length (fun i H' => H' = upd H acc (.lst (((codes z).take i).map fun c => V.bl (isL c)))) (by simp) (fun i H' hi _ => hi) (fun H' _ => rfl) ?_ ?_
  · rintro i H' v H'' hi rfl ⟨rfl, c, hc, rfl⟩
    have hc' : (codes z)[i]? = some c := by unfold codes; rw [Array.getElem?_toList]; exact hc
    have c128 := isL_lt (hL c (List.mem_of_getElem? hc'))
    walk_at "go"
    rw [inL c c128, upd_upd]
    congr 2
    rw [List.take_add_one, hc', List.map_append]
    rfl
  · rintro H' rfl
    walk_at "go"
    have e1 : ((codes z).take z.length).map (fun c => V.bl (isL c)) = ((codes z).map isL).map V.bl := by
      rw [← lz, List.take_length, List.map_map]; rfl
    rw [e1]
    refine r_all (bs := (codes z).map isL) (SqL.of upd_same) ?_
    have e2 : ((codes z).map isL).all id = true := by
      rw [List.all_map, List.all_eq_true]
      exact hL
    rw [e2]
    walk_at "go"
    exact q _ (same_new hacc _)
def sp_check_name (K : PySem.W.Frag) (d : Ad) : Sp := fun vs H Q _ => ∃ z, vs = [.str z] ∧ goodS z = true ∧ ∀ H', Same H H' → Q .non H'
theorem ok_check_name {P : Program} {w : World} {K : PySem.W.Frag} {mg : Str → Option Value} {base : Heap} {d : Ad} (T : Tx K mg d) : FnOk P w K mg base (My.CX1 P w) 2 d.f_check_name d.fd_check_name ["thing"] (sp_check_name K d) := by
  refine My.okX T.F_check_name sc_check_name (fun vs H Q E h => ?_) (fun cdv A outer s H vs Q E hr h => ?_)
  · obtain ⟨z, rfl, _⟩ := h; rfl
  obtain ⟨z, rfl, hg, q⟩ := h
  refine ⟨_, (pss_one (ps_if (pt_not (pt_val (pe_call ((ok_is_name T).mono (by decide)) hr rfl T.m_is_name T.F_is_name.kp T.b_is_name .nil pass0 (pa_cons (pv 0) pa_nil)))) (pss_one (My.ps_raise rfl T.X_NoName rfl T.m_NoName My.xes_xw (pa_cons pe_str pa_nil))) pss_nil)), ?_⟩
  try dsimp only [L2.cxOf, L2.Cx.nox, L2.Cx.wish, My.xw, My.pnd, My.suite]
  refine r_start (σ := [some (.str z)]) rfl ?_
  walk_at "go"
  refine ⟨z, rfl, hg, fun H' sm => ?_⟩
  walk_at "go"
  exact q _ sm
structure GoodT (ws : List Str) : Prop where
  lo : 1 ≤ ws.length
  hi : ws.length ≤ 6
  ok : ∀ z ∈ ws, goodS z = true
  nd : ws.Nodup
def sp_are_wares (K : PySem.W.Frag) (d : Ad) : Sp := fun vs H Q _ => ∃ (a : Addr) (ws : List Str), vs = [.ref a] ∧ H a = some (.lst (ws.map V.str)) ∧ GoodT ws ∧ ∀ H', Same H H' → Q (.bl true) H'
theorem ok_are_wares {P : Program} {w : World} {K : PySem.W.Frag} {mg : Str → Option Value} {base : Heap} {d : Ad} (T : Tx K mg d) : FnOk P w K mg base CX0 2 d.f_are_wares d.fd_are_wares ["thing"] (sp_are_wares K d) := by
  refine T.F_are_wares.ok sc_are_wares (fun vs H Q E h => ?_) (fun cdv A outer s H vs Q E hr h => ?_)
  · obtain ⟨a, ws, rfl, _⟩ := h; rfl
  obtain ⟨a, ws, rfl, ha, g, q⟩ := h
  have g1 := g.lo
  have g2 := g.hi
  have hl : (ws.map V.str).length = ws.length := List.length_map _
  refine ⟨_, (pss_cons (ps_if (PW.pt (pw_or (pt_not (pt_val (pe_callB My.call_isi2 rfl T.z_isinstance PyProof.Rows.boot_isinstance (pa_cons (pv 0) (pa_cons (pe_bltn (v := .ty "list") rfl T.z_list PyProof.Rows.boot_list rfl) pa_nil))))) (pw_or (pt_cmpR op_lt (pe_callB My.call_lenN rfl T.z_len PySem.boot_len (pa_cons (pv 0) pa_nil)) pe_int (nomark _)) (pw_or1 (pt_cmpR op_gt (pe_callB My.call_lenN rfl T.z_len PySem.boot_len (pa_cons (pv 0) pa_nil)) (pe_glob rfl T.m_MOST_WARES T.r_MOST_WARES) (nomark _)))))) (pss_one (ps_ret pe_bl)) pss_nil)
    (pss_one (ps_ret (pe_and (pe_callB (My.call_allB rfl) rfl T.z_all PyProof.Rows.boot_all (pa_cons (My.pe_comp (caps := []) (cn := []) (My.caps_of rfl rfl (by rfl) (by rfl) rfl trivial (by rfl) rfl trivial (by decide)) rfl (pi_list (pv 0)) (fun _ _ _ _ => My.pf_nil) (fun _ _ _ _ => (pe_call ((ok_is_name T).mono (by decide)) hr rfl T.m_is_name T.F_is_name.kp T.b_is_name .nil pass0 (pa_cons (pv 0) pa_nil)))) pa_nil)) (pe_one (pe_cmpR op_eq (pe_callB My.call_lenT rfl T.z_len PySem.boot_len (pa_cons (pe_callTy My.call_setT rfl T.z_set PyProof.Rows.boot_set (pa_cons (pv 0) pa_nil)) pa_nil)) (pe_callB My.call_lenN rfl T.z_len PySem.boot_len (pa_cons (pv 0) pa_nil)) (nomark _))))))), ?_⟩
  try dsimp only [L2.cxOf, L2.Cx.nox, L2.Cx.wish, My.xw, My.pnd, My.suite]
  try dsimp only [My.cxC]
  refine r_start (σ := [some (.ref a)]) rfl ?_
  walk_at "go"
  intro C s0 H0 fp acc hacc
  refine c_by ws.length (fun i H' => Same H H' ∧ H' acc = some (.lst ((List.replicate i true).map V.bl))) ⟨same_new hacc _, upd_same⟩ ?_ ?_ ?_ ?_
  · rintro i H' hi ⟨sm, _⟩
    exact ⟨_, .str ws[i], SqL.of (sm _ _ ha), by rw [List.getElem?_map, List.getElem?_eq_getElem hi]; rfl⟩
  · rintro H' ⟨sm, _⟩
    exact ⟨_, SqL.of (sm _ _ ha), by rw [hl]; exact Nat.le_refl _⟩
  · rintro i H' v H'' hi ⟨sm, ea⟩ ⟨rfl, hy⟩
    have hv := hy _ (SqL.of (sm _ _ ha))
    rw [List.getElem?_map, List.getElem?_eq_getElem hi] at hv
    cases hv
    walk_at "go"
    refine ⟨ws[i], rfl, g.ok _ (List.getElem_mem hi), fun H2 s2 => ?_⟩
    refine ⟨_, s2 _ _ ea, by rw [List.length_map, List.length_replicate]; show _ < 16777216; omega, same_put (sm.trans s2) hacc, ?_⟩
    rw [upd_same, List.replicate_succ', List.map_append]; rfl
  rintro H' ⟨sm, ea⟩
  walk_at "go"
  refine r_all (bs := List.replicate ws.length true) (SqL.of ea) ?_
  have e2 : (List.replicate ws.length true).all id = true := by simp
  rw [e2]
  walk_at "go"
  refine r_setT (zs := ws) (SqL.of (sm _ _ ha)) g.nd (by omega) fun c hc => ?_
  walk_at "go"
  refine r_lenT2 upd_same ?_
  walk_at "go"
  refine r_lenL (SqL.of (look_new (sm _ _ ha) hc)) ?_
  walk_at "go"
  rw [hl, decide_eq_true rfl]
  exact q _ (sm.trans (same_new hc _))
def Fin (ws : List Str) (f : Str → Option Int) : Prop := ∀ z n, f z = some n → z ∈ ws ∧ 0 ≤ n ∧ n ≤ 10 ^ 30
theorem posF_some {f : Str → Option Int} {y : Str} {n : Int} (h : posF f y = some n) : f y = some n ∧ 0 < n := by
  unfold posF at h
  cases e : f y with
  | none => rw [e] at h; cases h
  | some m =>
    rw [e] at h
    by_cases c : 0 < m
    · have h' : some m = some n := by simpa [c] using h
      cases h'
      exact ⟨rfl, c⟩
    · exact absurd h (by simp [c])
theorem gN_posF {ws : List Str} {f : Str → Option Int} (hf : Fin ws f) (y : Str) : gN (posF f) y = gN f y := by
  unfold gN posF
  cases e : f y with
  | none => rfl
  | some m =>
    have := (hf y m e).2.1
    by_cases c : 0 < m
    · simp [c]
    · have z : m = 0 := by omega
      subst z
      rfl
theorem pos_le {ws : List Str} {f g : Str → Option Int} (hg : Fin ws g) (h : ∀ y, gN f y ≤ gN g y) : ∀ z n, posF f z = some n → n ≤ gN (posF g) z := fun z n e => by
  have e1 := (posF_some e).1
  have := h z
  rw [gN_posF hg]
  unfold gN at this ⊢
  rw [e1] at this
  exact this
theorem pos_in {ws : List Str} {f : Str → Option Int} (hf : Fin ws f) : ∀ z, posF f z ≠ none → z ∈ ws := fun z h => by
  cases e : posF f z with
  | none => exact absurd e h
  | some n => exact (hf z n (posF_some e).1).1
def sp_Tree_init (K : PySem.W.Frag) (d : Ad) : Sp := fun vs H Q _ => ∃ (x dx w a b : Addr) (z : Str) (ws : List Str) (ka kb : List (Key × V)) (f g : Str → Option Int) (wt : Int), vs = [.ref x, .ref w, .str z, .ref a, .ref b, .int wt] ∧ H x = some (.ins d.c_Tree dx []) ∧
  H w = some (.lst (ws.map V.str)) ∧ GoodT ws ∧ goodS z = true ∧ H a = some (.dK ka) ∧ AD ka f ∧ ka.length ≤ 1000 ∧ H b = some (.dK kb) ∧ AD kb g ∧ kb.length ≤ 1000 ∧ Fin ws f ∧ Fin ws g ∧ 1 ≤ wt ∧ wt ≤ 1000 ∧ (∀ y, gN f y ≤ gN g y) ∧
  ∀ (S : Ts) (e : He) H', SameBut x H H' → TrAt d H' x S → H S.hs = none → H S.sw = none → H e.a = none → H e.x.pa = none → H e.x.ca = none → S.hl = [e] → e.n = z → e.x.el = none → e.x.w = wt → (∀ y, e.x.fp y = posF f y) → (∀ y, e.x.fc y = posF g y) → S.ws.Perm ws → PyProof.Rows.sortedS S.ws = true → Q .non H'
theorem ok_Tree_init {P : Program} {w : World} {K : PySem.W.Frag} {mg : Str → Option Value} {base : Heap} {d : Ad} (T : Tx K mg d) : FnOk P w K mg base (My.CX1 P w) 6 d.f_Tree_init d.fd_Tree_init ["self", "wares", "name", "promise", "cap", "weight"] (sp_Tree_init K d) := by
  refine My.okDX T.F_Tree_init sc_Tree_init (fun vs H Q E h => ?_) (fun cdv A outer s H vs Q E hr h => ?_)
  · obtain ⟨x, dx, w, a, b, z, ws, ka, kb, f, g, wt, rfl, _⟩ := h; rfl
  obtain ⟨x, dx, w, a, b, z, ws, ka, kb, f, g, wt, rfl, hx, hw, gt, gz, ha, hA, za, hb, hB, zb, ff, fg, w0, w1, le, q⟩ := h
  have g2 := gt.hi
  refine ⟨_, (pss_cons (ps_if (pt_not (pt_val (pe_call ((ok_are_wares T).mono (by decide)) hr rfl T.m_are_wares T.F_are_wares.kp T.b_are_wares .nil pass0 (pa_cons (pv 1) pa_nil)))) (pss_one (My.ps_raise rfl T.X_NoWare rfl T.m_NoWare My.xes_xw (pa_cons pe_str pa_nil))) pss_nil)
    (pss_cons (ps_expr (My.pe_callX ((ok_check_name T).mono (by decide)) hr rfl T.m_check_name T.F_check_name.kp T.b_check_name .nil My.xes_xw (pa_cons (pv 2) pa_nil)))
    (pss_cons (ps_set (i := 6) sc_Tree_init.nd rfl (Or.inl rfl) (My.pe_callX ((ok_read_house T).mono (by decide)) hr rfl T.m_read_house T.F_read_house.kp T.b_read_house .nil My.xes_xw (pa_cons (pv 1) (pa_cons pe_non (pa_cons (pv 3) (pa_cons (pv 4) (pa_cons (pv 5) pa_nil)))))))
    (pss_cons (ps_expr (My.pe_callX ((ok_check_promises T).mono (by decide)) hr rfl T.m_check_promises T.F_check_promises.kp T.b_check_promises .nil My.xes_xw (pa_cons (pv 2) (pa_cons (pe_fld (pv 6) rfl) (pa_cons (pe_fld (pv 6) rfl) pa_nil)))))
    (pss_cons (ps_fld (pv 0) (pe_callB My.call_sortL rfl T.z_sorted PyProof.Rows.boot_sorted (pa_cons (pv 1) pa_nil)) rfl)
    (pss_one (ps_fld (pv 0) (pe_disp (pps_cons (pv 2) (pv 6) pps_nil) rfl rfl (by simp) (by decide)) rfl))))))), ?_⟩
  try dsimp only [L2.cxOf, L2.Cx.nox, L2.Cx.wish, My.xw, My.pnd, My.suite]
  refine r_start (σ := [some (.ref x), some (.ref w), some (.str z), some (.ref a), some (.ref b), some (.int wt), none]) rfl ?_
  have ct := T.CL_Tree
  have ch := T.CL_House
  have n1 : NoAttr K d.c_Tree "sorted_wares" := T.NA_Tree_sorted_wares
  have n2 : NoAttr K d.c_Tree "houses" := T.NA_Tree_houses
  have n3 : NoAttr K d.c_House "promise" := T.NA_House_promise
  have n4 : NoAttr K d.c_House "cap" := T.NA_House_cap
  walk_at "go"
  refine ⟨w, ws, rfl, hw, gt, fun H1 s1 => ?_⟩
  walk_at "go"
  refine ⟨z, rfl, gz, fun H2 s2 => ?_⟩
  have t2 := s1.trans s2
  walk_at "go"
  refine ⟨w, a, b, none, ws, ka, kb, f, g, wt, rfl, t2 _ _ hw, t2 _ _ ha, hA, za, t2 _ _ hb, hB, zb, ff, fg, w0, w1, fun h o H3 s3 nh np nc hO eel ew efp efc => ?_⟩
  obtain ⟨⟨dh, ho⟩, hp, hpA, hc, hcA⟩ := id hO
  have efp' : o.fp = posF f := funext efp
  have efc' : o.fc = posF g := funext efc
  have lk : o.kp.length ≤ ws.length := hpA.le (by rw [efp']; exact pos_in ff)
  walk_at "go"
  refine ⟨.str z, o.pa, o.ca, o.kp, o.kc, o.fp, o.fc, rfl, .inl hp, .inl hc, hpA, hcA, by omega, by rw [efp', efc']; exact pos_le fg le, fun H4 s4 => ?_⟩
  have t4 := (t2.trans s3).trans s4
  have hx4 := t4 _ _ hx
  have hO4 := hO.same s4
  walk_at "go"
  refine r_sortL (SqL.of (t4 _ _ hw)) (by omega) fun l ss hl hpm hs => ?_
  walk_at "go"
  rename_i p hpp
  rw [upd_upd]
  refine r_fsk (look_new upd_same hpp) ct n2 (by show 1 < 1000; decide) ?_
  walk_at "go"
  have npx : p ≠ x := fun e => by subst e; rw [upd_same] at hpp; cases hpp
  have np4' : upd H4 l (.lst (ss.map V.str)) p = none := by rw [upd_ne npx] at hpp; exact hpp
  have nlx : x ≠ l := ne_of_none hx4 hl
  have npl : p ≠ l := fun e => by subst e; rw [upd_same] at np4'; cases np4'
  have np4 : H4 p = none := by rw [upd_ne npl] at np4'; exact np4'
  have sF : ∀ b u, b ≠ x → H4 b = some u → upd (upd (upd (upd H4 l (.lst (ss.map V.str))) x (.ins d.c_Tree dx (putF "sorted_wares" (V.ref l) []))) p (.dK [(Sum.inr z, V.ref h)])) x (.ins d.c_Tree dx (putF "houses" (V.ref p) (putF "sorted_wares" (V.ref l) []))) b = some u := fun b u hb e => by
    rw [upd_ne hb, upd_ne (ne_of_none e np4), upd_ne hb, upd_ne (ne_of_none e hl)]; exact e
  obtain ⟨⟨dh4, ho4⟩, hp4, hpA4, hc4, hcA4⟩ := hO4
  refine q ⟨l, ss, p, [⟨z, h, o⟩]⟩ ⟨z, h, o⟩ _ (fun b u hb e => sF b u hb (t4 _ _ e)) ⟨⟨dx, by rw [upd_same]; rfl⟩, ?_, ?_, List.nodup_cons.mpr ⟨by simp, List.nodup_nil⟩, by show 1 ≤ 60; decide, fun e he => ?_⟩ (t4.free np4) (t4.free hl) (t2.free nh) (t2.free np) (t2.free nc) rfl rfl eel ew efp efc hpm hs
  · show upd _ _ _ l = _
    rw [upd_ne nlx.symm, upd_ne npl.symm, upd_ne nlx.symm, upd_same]
  · show upd _ _ _ p = _
    rw [upd_ne npx, upd_same]
    rfl
  · have e' : e = ⟨z, h, o⟩ := by simpa using he
    subst e'
    have n1 : ∀ {b : Addr} {u : HO}, H4 b = some u → u ≠ .ins d.c_Tree dx [] → b ≠ x := fun e1 e2 e3 => by
      subst e3; rw [hx4] at e1; exact e2 (Option.some.inj e1).symm
    refine ⟨⟨dh4, sF _ _ (n1 ho4 fun e => ?_) ho4⟩, sF _ _ (n1 hp4 fun e => by cases e) hp4, hpA4, sF _ _ (n1 hc4 fun e => by cases e) hc4, hcA4⟩
    have := congrArg (fun u : HO => match u with | .ins _ _ fs => fs.length | _ => 0) e
    simp [fsH] at this
def upL (el : Nat → Nat) : Nat → Nat → List Nat
  | 0, k => [k]
  | f + 1, k => k :: (if k = 0 then [] else upL el f (el k))
def lineN (el : Nat → Nat) (k : Nat) : List Nat := upL el k k
def Low (el : Nat → Nat) (n : Nat) : Prop := ∀ k, 0 < k → k < n → el k < k
theorem upL_eq {el : Nat → Nat} {n : Nat} (lo : Low el n) : ∀ (f k : Nat), k < n → k ≤ f → upL el f k = lineN el k := by
  intro f
  induction f using Nat.strongRecOn with
  | ind f ih =>
    intro k kn kf
    cases f with
    | zero => have : k = 0 := by omega
              subst this; rfl
    | succ f =>
      cases k with
      | zero => rfl
      | succ k =>
        have l := lo (k + 1) (by omega) kn
        show (k + 1) :: (if k + 1 = 0 then [] else upL el f (el (k + 1))) = (k + 1) :: (if k + 1 = 0 then [] else upL el k (el (k + 1)))
        rw [if_neg (by omega), if_neg (by omega), ih f (by omega) (el (k + 1)) (by omega) (by omega)]
        rcases Nat.lt_or_ge k f with h | h
        · rw [ih k (by omega) (el (k + 1)) (by omega) (by omega)]
        · have : f = k := by omega
          subst this
          rw [ih f (by omega) (el (f + 1)) (by omega) (by omega)]
theorem lineN_zero (el : Nat → Nat) : lineN el 0 = [0] := rfl
theorem lineN_up {el : Nat → Nat} {n k : Nat} (lo : Low el n) (k0 : 0 < k) (kn : k < n) : lineN el k = k :: lineN el (el k) := by
  cases k with
  | zero => omega
  | succ k =>
    have l := lo (k + 1) k0 kn
    show (k + 1) :: (if k + 1 = 0 then [] else upL el k (el (k + 1))) = _
    rw [if_neg (by omega), upL_eq lo k _ (by omega) (by omega)]
theorem lineN_len {el : Nat → Nat} {n : Nat} (lo : Low el n) : ∀ k, k < n → (lineN el k).length ≤ k + 1 := by
  intro k
  induction k using Nat.strongRecOn with
  | ind k ih =>
    intro kn
    cases k with
    | zero => exact Nat.le_refl _
    | succ k =>
      have l := lo (k + 1) (by omega) kn
      rw [lineN_up lo (by omega) kn, List.length_cons]
      have := ih (el (k + 1)) l (by omega)
      omega
theorem lineN_self {el : Nat → Nat} {n k : Nat} (lo : Low el n) (kn : k < n) : k ∈ lineN el k := by
  cases k with
  | zero => exact List.mem_cons_self ..
  | succ k => rw [lineN_up lo (by omega) kn]; exact List.mem_cons_self ..
theorem lineN_le {el : Nat → Nat} {n : Nat} (lo : Low el n) : ∀ k, k < n → ∀ j ∈ lineN el k, j ≤ k := by
  intro k
  induction k using Nat.strongRecOn with
  | ind k ih =>
    intro kn j hj
    cases k with
    | zero => rw [lineN_zero] at hj; simp at hj; omega
    | succ k =>
      have l := lo (k + 1) (by omega) kn
      rw [lineN_up lo (by omega) kn] at hj
      rcases List.mem_cons.mp hj with h | h
      · omega
      · have := ih (el (k + 1)) l (by omega) j h
        omega
theorem lineN_in {el : Nat → Nat} {n : Nat} (lo : Low el n) {j : Nat} (j0 : 0 < j) : ∀ k, k < n → j ∈ lineN el k → el j ∈ lineN el k := by
  intro k
  induction k using Nat.strongRecOn with
  | ind k ih =>
    intro kn hj
    cases k with
    | zero => rw [lineN_zero] at hj; simp at hj; omega
    | succ k =>
      have l := lo (k + 1) (by omega) kn
      rw [lineN_up lo (by omega) kn] at hj ⊢
      rcases List.mem_cons.mp hj with h | h
      · subst h; exact List.mem_cons_of_mem _ (lineN_self lo (by omega))
      · exact List.mem_cons_of_mem _ (ih (el (k + 1)) l (by omega) h)
structure Pl (S : Ts) (nm : Nat → Str) (el : Nat → Nat) (n : Nat) : Prop where
  len : S.hl.length = n
  nam : ∀ k e, S.hl[k]? = some e → e.n = nm k ∧ e.x.el = if k = 0 then none else some (nm (el k))
  inj : ∀ i j, i < n → j < n → nm i = nm j → i = j
  low : Low el n
section
variable {S : Ts} {nm : Nat → Str} {el : Nat → Nat} {n : Nat}
theorem Pl.get (p : Pl S nm el n) {k : Nat} (kn : k < n) : ∃ e, S.hl[k]? = some e ∧ e.n = nm k ∧ e.x.el = if k = 0 then none else some (nm (el k)) := by
  have h : k < S.hl.length := by rw [p.len]; exact kn
  have e := List.getElem?_eq_getElem h
  exact ⟨_, e, p.nam k _ e⟩
theorem Pl.ix (p : Pl S nm el n) {e : He} (h : e ∈ S.hl) : ∃ k, k < n ∧ S.hl[k]? = some e ∧ e.n = nm k ∧ e.x.el = if k = 0 then none else some (nm (el k)) := by
  obtain ⟨k, hk, q⟩ := List.mem_iff_getElem.mp h
  have e1 : S.hl[k]? = some e := by rw [List.getElem?_eq_getElem hk, q]
  exact ⟨k, by rw [← p.len]; exact hk, e1, p.nam k e e1⟩
theorem Pl.nodup (p : Pl S nm el n) : (S.hl.map (·.n)).Nodup := by
  show List.Pairwise _ _
  rw [List.pairwise_map, List.pairwise_iff_getElem]
  intro i j hi hj lt q
  have h1 := (p.nam i _ (List.getElem?_eq_getElem hi)).1
  have h2 := (p.nam j _ (List.getElem?_eq_getElem hj)).1
  have := p.inj i j (by rw [← p.len]; exact hi) (by rw [← p.len]; exact hj) (by rw [← h1, ← h2]; exact q)
  omega
theorem Pl.at (p : Pl S nm el n) {k : Nat} (kn : k < n) : ∃ e, S.at (nm k) = some e ∧ S.hl[k]? = some e ∧ e.x.el = if k = 0 then none else some (nm (el k)) := by
  obtain ⟨e, h1, h2, h3⟩ := p.get kn
  have := at_of p.nodup (List.mem_of_getElem? h1)
  rw [h2] at this
  exact ⟨e, this, h1, h3⟩
theorem Pl.line (p : Pl S nm el n) : ∀ k, k < n → LineOf S (nm k) ((lineN el k).map nm) := by
  intro k
  induction k using Nat.strongRecOn with
  | ind k ih =>
    intro kn
    obtain ⟨e, h1, _, h3⟩ := p.at kn
    cases k with
    | zero => exact .top h1 h3
    | succ k =>
      have l := p.low (k + 1) (by omega) kn
      rw [if_neg (by omega)] at h3
      rw [lineN_up p.low (by omega) kn, List.map_cons]
      exact .up h1 h3 (ih _ l (by omega))
theorem Pl.wf (p : Pl S nm el n) : WF S := ⟨p.nodup, fun e he => by
  obtain ⟨k, kn, _, h, _⟩ := p.ix he
  rw [h]
  exact ⟨_, p.line k kn⟩⟩
theorem Pl.kid (p : Pl S nm el n) {j : Nat} {y : Str} (jn : j < n) (h : y ∈ kidsOf S (nm j)) : ∃ k, 0 < k ∧ k < n ∧ el k = j ∧ y = nm k := by
  obtain ⟨e, he, rfl⟩ := List.mem_map.mp h
  obtain ⟨hm, hd⟩ := List.mem_filter.mp he
  obtain ⟨k, kn, _, h1, h2⟩ := p.ix hm
  have hd' : e.x.el = some (nm j) := of_decide_eq_true hd
  rw [h2] at hd'
  by_cases z : k = 0
  · rw [if_pos z] at hd'; cases hd'
  · rw [if_neg z] at hd'
    have l := p.low k (by omega) kn
    exact ⟨k, by omega, kn, p.inj _ _ (by omega) jn (Option.some.inj hd'), h1⟩
theorem Pl.dep (p : Pl S nm el n) : ∀ m j, j < n → n ≤ j + m + 1 → Dep S m (nm j) := by
  intro m
  induction m with
  | zero =>
    intro j jn hn
    show kidsOf S (nm j) = []
    cases e : kidsOf S (nm j) with
    | nil => rfl
    | cons y r =>
      obtain ⟨k, k0, kn, ke, _⟩ := p.kid jn (y := y) (by rw [e]; exact List.mem_cons_self ..)
      have := p.low k k0 kn
      omega
  | succ m ih =>
    intro j jn hn y hy
    obtain ⟨k, k0, kn, ke, rfl⟩ := p.kid jn hy
    have := p.low k k0 kn
    exact ih k kn (by omega)
theorem Pl.ben (p : Pl S nm el n) : ∀ (m j : Nat) (zs : List Str), j < n → BenP S m (nm j) zs → ∀ y ∈ zs, ∃ k, k < n ∧ y = nm k ∧ j ∈ lineN el k := by
  intro m
  induction m with
  | zero =>
    rintro j _ jn ⟨parts, rest, hp, rfl, hb⟩ y hy
    rcases List.mem_cons.mp hy with h | h
    · exact ⟨j, jn, h, lineN_self p.low jn⟩
    · obtain ⟨l, hl, _⟩ := List.mem_flatten.mp h
      obtain ⟨q, hq, _⟩ := List.mem_map.mp hl
      exact (hb q hq).elim
  | succ m ih =>
    rintro j _ jn ⟨parts, rest, hp, rfl, hb⟩ y hy
    rcases List.mem_cons.mp hy with h | h
    · exact ⟨j, jn, h, lineN_self p.low jn⟩
    · obtain ⟨l, hl, hyl⟩ := List.mem_flatten.mp h
      obtain ⟨q, hq, rfl⟩ := List.mem_map.mp hl
      obtain ⟨k, k0, kn, ke, e⟩ := p.kid jn (hp.mem_iff.mp (List.mem_append_left _ (List.mem_map.mpr ⟨q, hq, rfl⟩)))
      have hB := hb q hq
      rw [e] at hB
      obtain ⟨i, i1, i2, i3⟩ := ih k q.2 kn hB y hyl
      refine ⟨i, i1, i2, ?_⟩
      have := lineN_in p.low k0 i i1 i3
      rw [ke] at this
      exact this
end
def sumR : Nat → (Nat → Int) → Int
  | 0, _ => 0
  | n + 1, f => sumR n f + f n
theorem sumR_le {f g : Nat → Int} : ∀ {n : Nat}, (∀ k, k < n → f k ≤ g k) → sumR n f ≤ sumR n g
  | 0, _ => Int.le_refl _
  | n + 1, h => by
    have h1 := sumR_le (n := n) fun k hk => h k (by omega)
    have h2 := h n (by omega)
    show sumR n f + f n ≤ sumR n g + g n
    omega
theorem sumR_nn {f : Nat → Int} : ∀ {n : Nat}, (∀ k, k < n → 0 ≤ f k) → 0 ≤ sumR n f
  | 0, _ => Int.le_refl _
  | n + 1, h => by
    have h1 := sumR_nn (n := n) fun k hk => h k (by omega)
    have h2 := h n (by omega)
    show 0 ≤ sumR n f + f n
    omega
theorem sumR_mono {f : Nat → Int} {n m : Nat} (hm : n ≤ m) (h : ∀ k, k < m → 0 ≤ f k) : sumR n f ≤ sumR m f := by
  induction m with
  | zero => have : n = 0 := by omega
            subst this; exact Int.le_refl _
  | succ m ih =>
    rcases Nat.lt_or_ge n (m + 1) with c | c
    · have h1 := ih (by omega) fun k hk => h k (by omega)
      have h2 := h m (by omega)
      show _ ≤ sumR m f + f m
      omega
    · have : n = m + 1 := by omega
      subst this; exact Int.le_refl _
def sumL (f : Nat → Int) : List Nat → Int
  | [] => 0
  | k :: r => f k + sumL f r
theorem sumL_perm {f : Nat → Int} {a b : List Nat} (h : a.Perm b) : sumL f a = sumL f b := by
  induction h with
  | nil => rfl
  | cons x _ ih => show _ + _ = _ + _; rw [ih]
  | swap x y l => show f y + (f x + sumL f l) = f x + (f y + sumL f l); omega
  | trans _ _ h1 h2 => rw [h1, h2]
theorem sumL_le {f : Nat → Int} : ∀ {n : Nat} {ks : List Nat}, ks.Nodup → (∀ k ∈ ks, k < n) → (∀ k, k < n → 0 ≤ f k) → sumL f ks ≤ sumR n f
  | 0, ks, _, h, _ => by
    cases ks with
    | nil => exact Int.le_refl _
    | cons k r => exact absurd (h k (List.mem_cons_self ..)) (by omega)
  | n + 1, ks, nd, h, p => by
    show _ ≤ sumR n f + f n
    by_cases m : n ∈ ks
    · rw [sumL_perm (List.perm_cons_erase m)]
      have nd2 := nd.erase n
      have := sumL_le (n := n) nd2 (fun k hk => by
        have h1 := h k (List.mem_of_mem_erase hk)
        have : k ≠ n := fun z => by subst z; exact (List.Nodup.not_mem_erase nd) hk
        omega) fun k hk => p k (by omega)
      show f n + _ ≤ _
      omega
    · have := sumL_le (n := n) nd (fun k hk => by
        have h1 := h k hk
        have : k ≠ n := fun z => m (z ▸ hk)
        omega) fun k hk => p k (by omega)
      have := p n (by omega)
      omega
theorem gN_add (f g : Str → Option Int) (z : Str) : gN (addF f g) z = gN f z + gN g z := by
  unfold gN addF
  cases e : g z with
  | none => simp
  | some b => rfl
theorem gN_sum (z : Str) : ∀ (ts : List Pt) (f0 : Str → Option Int), gN (ts.foldl (fun f t => addF f t.f) f0) z = gN f0 z + (ts.map fun t => gN t.f z).sum
  | [], f0 => by simp
  | t :: ts, f0 => by
    rw [List.foldl_cons, gN_sum z ts, gN_add, List.map_cons, List.sum_cons]
    omega
section
variable {S : Ts} {nm : Nat → Str} {el : Nat → Nat} {n : Nat}
theorem Pl.sums (p : Pl S nm el n) {v : Str} {pr : Nat → Int} (hp : ∀ k e, S.hl[k]? = some e → gN e.x.fp v = pr k) (h0 : ∀ k, k < n → 0 ≤ pr k) {m j : Nat} {bs : List Str} (jn : j < n) (hb : Ben S m (nm j) bs) :
    gN (sumF (bs.map (ptOf S))) v ≤ sumR n fun k => if j ∈ lineN el k then pr k else 0 := by
  have nd := (ben_nodup p.wf hb.part).1
  have hk := p.ben m j bs jn hb.part
  have key : ∀ bs : List Str, bs.Nodup → (∀ y ∈ bs, ∃ k, k < n ∧ y = nm k ∧ j ∈ lineN el k) → ∃ ks : List Nat, ks.Nodup ∧ (∀ k ∈ ks, k < n ∧ nm k ∈ bs) ∧ ((bs.map (ptOf S)).map fun t => gN t.f v).sum = sumL (fun k => if j ∈ lineN el k then pr k else 0) ks := by
    intro bs
    induction bs with
    | nil => intro _ _; exact ⟨[], List.nodup_nil, fun k hk => absurd hk (by simp), rfl⟩
    | cons y r ih =>
      intro nd h
      rw [List.nodup_cons] at nd
      obtain ⟨ks, k1, k2, k3⟩ := ih nd.2 fun y' hy => h y' (List.mem_cons_of_mem _ hy)
      obtain ⟨k, kn, rfl, kj⟩ := h y (List.mem_cons_self ..)
      obtain ⟨e, e1, e2, _⟩ := p.at kn
      refine ⟨k :: ks, List.nodup_cons.mpr ⟨fun m => nd.1 (k2 k m).2, k1⟩, fun k' hk' => ?_, ?_⟩
      · rcases List.mem_cons.mp hk' with rfl | hk'
        · exact ⟨kn, List.mem_cons_self ..⟩
        · exact ⟨(k2 k' hk').1, List.mem_cons_of_mem _ (k2 k' hk').2⟩
      · rw [List.map_cons, List.map_cons, List.sum_cons, k3, ptOf_at e1]
        show gN e.x.fp v + _ = (if j ∈ lineN el k then pr k else 0) + _
        rw [hp k e e2, if_pos kj]
  obtain ⟨ks, k1, k2, k3⟩ := key bs nd hk
  unfold sumF
  rw [gN_sum, k3]
  have z : gN noF v = 0 := rfl
  rw [z, Int.zero_add]
  exact sumL_le k1 (fun k hk => (k2 k hk).1) fun k hk => by
    split
    · exact h0 k hk
    · exact Int.le_refl _
end
theorem ad_oK {k : List (Key × V)} {f : Str → Option Int} (hk : AD k f) {ks : List (Str × Addr)} {z : Str} {h : Addr} (hl : lookO ks z = some h) : HO.dK k ≠ .dK (oK ks) := fun e => by
  have e2 : k = oK ks := by injection e
  subst e2
  have g1 := hk.get z
  rw [valV_oK, hl] at g1
  cases hf : f z with
  | none => rw [hf] at g1; cases g1
  | some n => rw [hf] at g1; cases g1
def sp_Tree_found (K : PySem.W.Frag) (d : Ad) : Sp := fun vs H Q E => ∃ (t a b : Addr) (S : Ts) (z : Str) (xe : V) (ka kb : List (Key × V)) (f g : Str → Option Int) (wt : Int), vs = [.ref t, .str z, xe, .ref a, .ref b, .int wt] ∧ TrAt d H t S ∧ goodS z = true ∧ S.at z = none ∧ Thing K H xe ∧
  (who S xe = none → ∀ H', Same H H' → E (.ref d.c_NoHouse) none H') ∧
  ∀ e, who S xe = some e → WF S ∧ OfWares S ∧ S.ws.length ≤ 50 ∧ H a = some (.dK ka) ∧ AD ka f ∧ ka.length ≤ 1000 ∧ H b = some (.dK kb) ∧ AD kb g ∧ kb.length ≤ 1000 ∧ Fin S.ws f ∧ Fin S.ws g ∧ 1 ≤ wt ∧ wt ≤ 1000 ∧ S.hl.length < 40 ∧
    (∃ zs, LineOf S e.n zs ∧ zs.length < 12 ∧ ∀ y ∈ zs, ∃ e', S.at y = some e' ∧ Dep S 12 y ∧ ∀ bs, Ben S 12 y bs → ∀ v n, addF (sumF (bs.map (ptOf S))) (posF f) v = some n → n ≤ gN e'.x.fc v) ∧ (∀ y, gN f y ≤ gN g y) ∧
    ∀ (e2 : He) H', SameBut S.hs H H' → H e2.a = none → H e2.x.pa = none → H e2.x.ca = none → TrAt d H' t { S with hl := S.hl ++ [e2] } → e2.n = z → e2.x.el = some e.n → e2.x.w = wt → (∀ y, e2.x.fp y = posF f y) → (∀ y, e2.x.fc y = posF g y) → Q .non H'
theorem ok_Tree_found {P : Program} {w : World} {K : PySem.W.Frag} {mg : Str → Option Value} {base : Heap} {d : Ad} (T : Tx K mg d) : FnOk P w K mg base (My.CX1 P w) 19 d.f_Tree_found d.fd_Tree_found ["self", "name", "elder", "promise", "cap", "weight"] (sp_Tree_found K d) := by
  refine My.okDX T.F_Tree_found sc_Tree_found (fun vs H Q E h => ?_) (fun cdv A outer s H vs Q E hr h => ?_)
  · obtain ⟨t, a, b, S, z, xe, ka, kb, f, g, wt, rfl, _⟩ := h; rfl
  obtain ⟨t, a, b, S, z, xe, ka, kb, f, g, wt, rfl, hT, gz, nz, hx, q2, q1⟩ := h
  refine ⟨_, (pss_cons (ps_expr (My.pe_callX ((ok_check_name T).mono (by decide)) hr rfl T.m_check_name T.F_check_name.kp T.b_check_name .nil My.xes_xw (pa_cons (pv 1) pa_nil)))
    (pss_cons (ps_if (pt_val (pe_meth (pv 0) T.CL_Tree T.ME_Tree_has ((ok_Tree_has T).mono (by decide)) hr T.b_Tree_has .nil pass0 (pa_cons (pv 1) pa_nil))) (pss_one (My.ps_raise rfl T.X_Taken rfl T.m_Taken My.xes_xw (pa_cons pe_str pa_nil))) pss_nil)
    (pss_cons (ps_expr (My.pe_methX (pv 0) T.CL_Tree T.ME_Tree_check_house ((ok_Tree_check_house T).mono (by decide)) hr T.b_Tree_check_house .nil My.xes_xw (pa_cons (pv 2) pa_nil)))
    (pss_cons (ps_set (i := 6) sc_Tree_found.nd rfl (Or.inl rfl) (My.pe_callX ((ok_read_house T).mono (by decide)) hr rfl T.m_read_house T.F_read_house.kp T.b_read_house .nil My.xes_xw (pa_cons (pe_fld (pv 0) rfl) (pa_cons (pv 2) (pa_cons (pv 3) (pa_cons (pv 4) (pa_cons (pv 5) pa_nil)))))))
    (pss_cons (ps_if (pt_cmpR op_ge (pe_callB My.call_lenDD rfl T.z_len PySem.boot_len (pa_cons (pe_fld (pv 0) rfl) pa_nil)) (pe_glob rfl T.m_MOST_HOUSES T.r_MOST_HOUSES) (nomark _)) (pss_one (My.ps_raise rfl T.X_TooMany rfl T.m_TooMany My.xes_xw (pa_cons pe_str pa_nil))) pss_nil)
    (pss_cons (ps_set (i := 7) sc_Tree_found.nd rfl (Or.inl rfl) (My.pe_methX (pv 0) T.CL_Tree T.ME_Tree_line ((ok_Tree_line T).mono (by decide)) hr T.b_Tree_line .nil My.xes_xw (pa_cons (pv 2) pa_nil)))
    (pss_cons (ps_if (pt_cmpR op_ge (pe_callB My.call_lenN rfl T.z_len PySem.boot_len (pa_cons (pv 7) pa_nil)) (pe_glob rfl T.m_LONGEST_LINE T.r_LONGEST_LINE) (nomark _)) (pss_one (My.ps_raise rfl T.X_TooDeep rfl T.m_TooDeep My.xes_xw (pa_cons pe_str pa_nil))) pss_nil)
    (pss_cons (ps_expr (My.pe_callX ((ok_check_promises T).mono (by decide)) hr rfl T.m_check_promises T.F_check_promises.kp T.b_check_promises .nil My.xes_xw (pa_cons (pv 1) (pa_cons (pe_fld (pv 6) rfl) (pa_cons (pe_fld (pv 6) rfl) pa_nil)))))
    (pss_cons (ps_expr (My.pe_methX (pv 0) T.CL_Tree T.ME_Tree_check_more ((ok_Tree_check_more T).mono (by decide)) hr T.b_Tree_check_more .nil My.xes_xw (pa_cons (pv 7) (pa_cons (pe_fld (pv 6) rfl) pa_nil))))
    (pss_one (ps_dput (hu_of hr) (pe_fld (pv 0) rfl) (pv 1) (pv 6) rfl))))))))))), ?_⟩
  try dsimp only [L2.cxOf, L2.Cx.nox, L2.Cx.wish, My.xw, My.pnd, My.suite]
  refine r_start (σ := [some (.ref t), some (.str z), some (xe), some (.ref a), some (.ref b), some (.int wt), none, none]) rfl ?_
  have ct := T.CL_Tree
  have ch := T.CL_House
  have n1 : NoAttr K d.c_Tree "sorted_wares" := T.NA_Tree_sorted_wares
  have n2 : NoAttr K d.c_Tree "houses" := T.NA_Tree_houses
  have n3 : NoAttr K d.c_House "promise" := T.NA_House_promise
  have n4 : NoAttr K d.c_House "cap" := T.NA_House_cap
  walk_at "go"
  refine ⟨z, rfl, gz, fun H1 s1 => ?_⟩
  have hT1 := hT.same s1
  obtain ⟨dx, ht⟩ := id hT1.1
  walk_at "go"
  refine ⟨t, S, .str z, rfl, hT1, .inl ⟨z, rfl⟩, ?_⟩
  rw [show who S (.str z) = none from nz]
  walk_at "go"
  show if false = true then _ else _
  walk_at "go"
  refine ⟨t, S, xe, rfl, hT1, hx.same s1, fun e he => ?_, fun he => q2 he H1 s1⟩
  obtain ⟨hW, hO, hws, ha, hA, za, hb, hB, zb, ff, fg, w0, w1, h40, ⟨zs, hL, hz12, hy⟩, le, q⟩ := q1 e he
  obtain ⟨y, rfl⟩ : ∃ y, xe = .str y := by
    rcases hx with h | ⟨_, nz'⟩
    · exact h
    · rw [who_not nz'] at he; cases he
  have ey : e.n = y := (at_mem he).2
  have hsw := hT1.2.1
  walk_at "go"
  refine ⟨S.sw, a, b, some y, S.ws, ka, kb, f, g, wt, rfl, hsw, s1 _ _ ha, hA, za, s1 _ _ hb, hB, zb, ff, fg, w0, w1, fun h o H3 s3 nh np nc hOo eel ew efp efc => ?_⟩
  obtain ⟨⟨dh, ho⟩, hp, hpA, hc, hcA⟩ := id hOo
  have efp' : o.fp = posF f := funext efp
  have efc' : o.fc = posF g := funext efc
  have lk : o.kp.length ≤ S.ws.length := hpA.le (by rw [efp']; exact pos_in ff)
  have hT3 := hT1.same s3
  obtain ⟨⟨dx3, ht3⟩, hw3, hh3, nd3, hz3, hE3⟩ := id hT3
  walk_at "go"
  refine r_lenD hh3 ?_
  rw [keys_len]
  walk_at "go"
  refine ⟨t, S, .str y, rfl, hT3, .inl ⟨y, zs, rfl, by rw [← ey]; exact hL, by omega, fun l hl => ?_⟩⟩
  have s4 := same_new hl (.lst (zs.map V.str))
  have eL : upd H3 l (.lst (zs.map V.str)) l = some (.lst (zs.map V.str)) := upd_same
  have hzl : (zs.map V.str).length = zs.length := List.length_map _
  generalize upd H3 l (.lst (zs.map V.str)) = H4 at *
  have ho4 := s4 _ _ ho
  have hp4 := s4 _ _ hp
  have hc4 := s4 _ _ hc
  walk_at "go"
  refine ⟨.str z, o.pa, o.ca, o.kp, o.kc, o.fp, o.fc, rfl, .inl hp4, .inl hc4, hpA, hcA, by omega, by rw [efp', efc']; exact pos_le fg le, fun H5 s5 => ?_⟩
  have s35 := s4.trans s5
  have ho5 := s35 _ _ ho
  have hT5 := hT3.same s35
  obtain ⟨dx5, ht5⟩ := id hT5.1
  walk_at "go"
  refine ⟨t, l, o.pa, S, zs, o.kp, o.fp, rfl, hT5, hW, hO, SqL.of (s5 _ _ eL), s35 _ _ hp, hpA, hws, by rw [efp']; exact pos_in ff, by rw [efp']; exact hy, fun H6 s6 => ?_⟩
  have s36 := s35.trans s6
  have s16 := s3.trans s36
  have s06 := s1.trans s16
  obtain ⟨⟨dx6, ht6⟩, hw6, hh6, nd6, hz6, hE6⟩ := hT3.same s36
  walk_at "go"
  have lkn : lookO S.keys z = none := by rw [look_at, nz]; rfl
  have hksz : (oK S.keys).length < sizeLine := by rw [keys_len]; show _ < 16777216; omega
  refine r_dpk hh6 hksz ?_
  rw [putK_oK lkn]
  walk_at "go"
  have sF : ∀ b u, b ≠ S.hs → H6 b = some u → upd H6 S.hs (.dK (oK (S.keys ++ [(z, h)]))) b = some u := fun b u hb e => by rw [upd_ne hb]; exact e
  have nH : ∀ {b : Addr} {u : HO}, H6 b = some u → u ≠ .dK (oK S.keys) → b ≠ S.hs := fun e1 e2 e3 => by
    subst e3; rw [hh6] at e1; exact e2 (Option.some.inj e1).symm
  have hT1' := hT1
  have fresh : ∀ {b : Addr} {u : HO}, H1 b = none → H6 b = some u → b ≠ S.hs := fun e1 _ e3 => by
    subst e3; rw [hT1'.2.2.1] at e1; cases e1
  refine q ⟨z, h, o⟩ _ (fun b u hb e => sF b u hb (s06 _ _ e)) (s1.free nh) (s1.free np) (s1.free nc) ⟨⟨dx6, sF _ _ (nH ht6 (by intro e; cases e)) ht6⟩, sF _ _ (nH hw6 (by intro e; cases e)) hw6, ?_, ?_, ?_, fun e1 he1 => ?_⟩ rfl (by rw [ey]; exact eel) ew efp efc
  · show upd _ _ _ S.hs = some (.dK (oK (Ts.keys _)))
    rw [upd_same]
    unfold Ts.keys
    rw [List.map_append]; rfl
  · show (List.map _ (S.hl ++ [_])).Nodup
    rw [List.map_append, List.nodup_append]
    refine ⟨nd6, List.nodup_cons.mpr ⟨by simp, List.nodup_nil⟩, fun x hx1 y' hy1 e => ?_⟩
    have : y' = z := by simpa using hy1
    subst this
    subst e
    obtain ⟨e2, m2, rfl⟩ := List.mem_map.mp hx1
    rw [at_of nd6 m2] at nz
    cases nz
  · show (S.hl ++ [_]).length ≤ 60
    rw [List.length_append]
    show _ + 1 ≤ 60
    omega
  · rcases List.mem_append.mp he1 with m | m
    · obtain ⟨⟨dy, hy1⟩, hy2, hy3, hy4, hy5⟩ := hE6 e1 m
      have no : ∀ {k : List (Key × V)} {f : Str → Option Int}, AD k f → HO.dK k ≠ .dK (oK S.keys) := fun hk => ad_oK hk (z := e1.n) (h := e1.a) (by rw [look_at, at_of nd6 m]; rfl)
      exact ⟨⟨dy, sF _ _ (nH hy1 (by intro e; cases e)) hy1⟩, sF _ _ (nH hy2 (no hy3)) hy2, hy3, sF _ _ (nH hy4 (no hy5)) hy4, hy5⟩
    · have : e1 = ⟨z, h, o⟩ := by simpa using m
      subst this
      have h6 := s36 _ _ ho
      refine ⟨⟨dh, sF _ _ (fresh nh h6) h6⟩, sF _ _ (fresh np (s36 _ _ hp)) (s36 _ _ hp), hpA, sF _ _ (fresh nc (s36 _ _ hc)) (s36 _ _ hc), hcA⟩
abbrev ABC : Str := Str.ofString "abcdefghijklmnopqrstuvwxyz"
def letc (i : Int) : Nat := 97 + (i % 26).toNat
theorem letAt (g : Int) : atI ABC.cps.toList (g % 26) = some (letc g) := by
  have e0 := Int.emod_nonneg g (show (26 : Int) ≠ 0 by decide)
  have e1 := Int.emod_lt_of_pos g (show (0 : Int) < 26 by decide)
  have h : ∀ k : Nat, k < 26 → ABC.cps.toList[k]? = some (97 + k) := by decide +kernel
  have e : g % 26 = (((g % 26).toNat : Nat) : Int) := by omega
  rw [e]
  rw [atI_nat (h (g % 26).toNat (by omega))]
  rfl
theorem letc_isL (g : Int) : isL (letc g) = true := by
  have e0 := Int.emod_nonneg g (show (26 : Int) ≠ 0 by decide)
  have e1 := Int.emod_lt_of_pos g (show (0 : Int) < 26 by decide)
  unfold isL letc
  rw [Bool.and_eq_true, decide_eq_true_iff, decide_eq_true_iff]
  omega
theorem letc_inj {g g' : Int} (h : letc g = letc g') : g % 26 = g' % 26 := by
  have e0 := Int.emod_nonneg g (show (26 : Int) ≠ 0 by decide)
  have f0 := Int.emod_nonneg g' (show (26 : Int) ≠ 0 by decide)
  unfold letc at h
  omega
def nmJ (c k : Int) (j : Nat) : Nat := letc (c.fdiv 192 + (0 + (j : Int)) * (c.fdiv 7 % 11) + k * if decide (0 + (j : Int) = c.fdiv 24 % (1 + c.fdiv 3 % 8)) = true then 1 else 0)
def nmL (c k : Int) : List Nat := if c % 3 = 0 then List.replicate (1 + (k + c.fdiv 78) % 8).toNat (letc (c.fdiv 3 + k.fdiv 8)) else (List.range (1 + c.fdiv 3 % 8).toNat).map (nmJ c k)
def ofL (l : List Nat) : Str := ⟨l.toArray⟩
def nmS (c k : Int) : Str := ofL (nmL c k)
theorem codes_ofL (l : List Nat) : codes (ofL l) = l := by simp [codes, ofL]
theorem ofL_inj {l m : List Nat} (h : ofL l = ofL m) : l = m := by rw [← codes_ofL l, ← codes_ofL m, h]
theorem ofL_snoc (l : List Nat) (c : Nat) : ofL l ++ (⟨#[c]⟩ : Str) = ofL (l ++ [c]) := by
  have e : (ofL l ++ (⟨#[c]⟩ : Str)).cps = (ofL (l ++ [c])).cps := by
    rw [Str.cps_append]
    simp [ofL]
  exact congrArg Str.mk e
theorem ofL_len (l : List Nat) : (ofL l).length = l.length := by simp [ofL, Str.length]
theorem nmS_good (c k : Int) : goodS (nmS c k) = true := by
  have a0 := Int.emod_nonneg (k + c.fdiv 78) (show (8 : Int) ≠ 0 by decide)
  have a1 := Int.emod_lt_of_pos (k + c.fdiv 78) (show (0 : Int) < 8 by decide)
  have b0 := Int.emod_nonneg (c.fdiv 3) (show (8 : Int) ≠ 0 by decide)
  have b1 := Int.emod_lt_of_pos (c.fdiv 3) (show (0 : Int) < 8 by decide)
  unfold goodS nmS
  rw [ofL_len, codes_ofL, Bool.and_eq_true, Bool.and_eq_true, decide_eq_true_iff, decide_eq_true_iff, List.all_eq_true]
  unfold nmL
  by_cases z : c % 3 = 0
  · rw [if_pos z, List.length_replicate]
    refine ⟨by omega, fun x hx => ?_⟩
    rw [(List.mem_replicate.mp hx).2]
    exact letc_isL _
  · rw [if_neg z, List.length_map, List.length_range]
    refine ⟨by omega, fun x hx => ?_⟩
    obtain ⟨j, _, rfl⟩ := List.mem_map.mp hx
    exact letc_isL _
theorem nmS_inj {c k k' : Int} (h0 : 0 ≤ k) (h1 : k ≤ 20) (g0 : 0 ≤ k') (g1 : k' ≤ 20) (h : nmS c k = nmS c k') : k = k' := by
  have hl := ofL_inj h
  unfold nmL at hl
  by_cases z : c % 3 = 0
  · rw [if_pos z, if_pos z] at hl
    have hn := congrArg List.length hl
    rw [List.length_replicate, List.length_replicate] at hn
    have a0 := Int.emod_nonneg (k + c.fdiv 78) (show (8 : Int) ≠ 0 by decide)
    have b0 := Int.emod_nonneg (k' + c.fdiv 78) (show (8 : Int) ≠ 0 by decide)
    have hc : letc (c.fdiv 3 + k.fdiv 8) = letc (c.fdiv 3 + k'.fdiv 8) := by
      have m : letc (c.fdiv 3 + k.fdiv 8) ∈ List.replicate (1 + (k + c.fdiv 78) % 8).toNat (letc (c.fdiv 3 + k.fdiv 8)) := List.mem_replicate.mpr ⟨by omega, rfl⟩
      rw [hl] at m
      exact (List.mem_replicate.mp m).2
    have hc' := letc_inj hc
    rw [Int.fdiv_eq_ediv_of_nonneg k (by decide), Int.fdiv_eq_ediv_of_nonneg k' (by decide)] at hc'
    generalize c.fdiv 78 = x at *
    generalize c.fdiv 3 = y at *
    omega
  · rw [if_neg z, if_neg z] at hl
    have b0 := Int.emod_nonneg (c.fdiv 3) (show (8 : Int) ≠ 0 by decide)
    have at0 := Int.emod_nonneg (c.fdiv 24) (show (1 + c.fdiv 3 % 8 : Int) ≠ 0 by omega)
    have at1 := Int.emod_lt_of_pos (c.fdiv 24) (show (0 : Int) < 1 + c.fdiv 3 % 8 by omega)
    have hj := congrArg (fun l : List Nat => l[(c.fdiv 24 % (1 + c.fdiv 3 % 8)).toNat]?) hl
    simp only [List.getElem?_map] at hj
    rw [List.getElem?_range (by omega)] at hj
    have hj' : nmJ c k (c.fdiv 24 % (1 + c.fdiv 3 % 8)).toNat = nmJ c k' (c.fdiv 24 % (1 + c.fdiv 3 % 8)).toNat := by simpa using hj
    unfold nmJ at hj'
    have e : (0 : Int) + (((c.fdiv 24 % (1 + c.fdiv 3 % 8)).toNat : Nat) : Int) = c.fdiv 24 % (1 + c.fdiv 3 % 8) := by omega
    rw [e, decide_eq_true rfl, if_pos rfl] at hj'
    have := letc_inj hj'
    generalize c.fdiv 192 + c.fdiv 24 % (1 + c.fdiv 3 % 8) * (c.fdiv 7 % 11) = x at *
    omega
def sp_cell_at (K : PySem.W.Frag) (d : Ad) : Sp := fun vs H Q _ => ∃ (a : Addr) (ns : List Int) (k : Int), vs = [.ref a, .int k] ∧ SqL K H a (ns.map V.int) ∧ 0 ≤ k ∧ Q (.int (cell ns k)) H
theorem ok_cell_at {P : Program} {w : World} {K : PySem.W.Frag} {mg : Str → Option Value} {base : Heap} {d : Ad} (T : Tx K mg d) : FnOk P w K mg base CX0 1 d.f_cell_at d.fd_cell_at ["_law_script", "_law_k"] (sp_cell_at K d) := by
  refine T.F_cell_at.ok sc_cell_at (fun vs H Q E h => ?_) (fun cdv A outer s H vs Q E hr h => ?_)
  · obtain ⟨a, ns, k, rfl, _⟩ := h; rfl
  obtain ⟨a, ns, k, rfl, hS, h0, q⟩ := h
  refine ⟨_, (pss_cons (ps_if (pt_cmpR op_lt (pv 1) (pe_callB My.call_lenN rfl T.z_len PySem.boot_len (pa_cons (pv 0) pa_nil)) (nomark _)) (pss_one (ps_ret (pe_ix ix_list (pv 0) (pv 1) (fun _ _ => rfl)))) pss_nil)
    (pss_one (ps_ret pe_int))), ?_⟩
  try dsimp only [L2.cxOf, L2.Cx.nox, L2.Cx.wish, My.xw, My.pnd, My.suite]
  refine r_start (σ := [some (.ref a), some (.int k)]) rfl ?_
  walk_at "go"
  have hl : (ns.map V.int).length = ns.length := List.length_map _
  refine i_2 (fun c => ?_) (fun c => ?_)
  · rw [hl] at c
    walk_at "go"
    refine r_ixL hS (cell_at h0 c) ?_
    exact q
  · rw [hl] at c
    walk_at "go"
    rw [cell_out c h0] at q; exact q
def sp_mixed (K : PySem.W.Frag) (d : Ad) : Sp := fun vs H Q _ => ∃ c k : Int, vs = [.int c, .int k] ∧ 0 ≤ k ∧ k ≤ 10000 ∧ ∀ r : Int, 0 ≤ r → Q (.int r) H
theorem ok_mixed {P : Program} {w : World} {K : PySem.W.Frag} {mg : Str → Option Value} {base : Heap} {d : Ad} (T : Tx K mg d) : FnOk P w K mg base CX0 1 d.f_mixed d.fd_mixed ["_law_cell", "_law_k"] (sp_mixed K d) := by
  refine T.F_mixed.ok sc_mixed (fun vs H Q E h => ?_) (fun cdv A outer s H vs Q E hr h => ?_)
  · obtain ⟨c, k, rfl, _⟩ := h; rfl
  obtain ⟨c, k, rfl, k0, k1, q⟩ := h
  refine ⟨_, (pss_cons (ps_set (i := 2) sc_mixed.nd rfl (Or.inl rfl) (pe_op op_mod (pe_op op_add (pe_op op_add (pv 0) (pe_op My.op_mulB pe_int (pv 1))) pe_int) pe_int))
    (pss_one (ps_ret (pe_op op_mod (pe_op My.op_mulB (pe_op op_mod (pe_op My.op_mulB (pv 2) (pv 2)) pe_int) pe_int) pe_int)))), ?_⟩
  try dsimp only [L2.cxOf, L2.Cx.nox, L2.Cx.wish, My.xw, My.pnd, My.suite]
  refine r_start (σ := [some (.int c), some (.int k), none]) rfl ?_
  walk_at "go"
  have m0 := Int.emod_nonneg (c + 7919 * k + 12345) (show (2147483629 : Int) ≠ 0 by decide)
  have m1 := Int.emod_lt_of_pos (c + 7919 * k + 12345) (show (0 : Int) < 2147483629 by decide)
  generalize (c + 7919 * k + 12345) % 2147483629 = u at *
  walk_at "go"
  have n0 := Int.emod_nonneg (u * u) (show (2147483629 : Int) ≠ 0 by decide)
  have n1 := Int.emod_lt_of_pos (u * u) (show (0 : Int) < 2147483629 by decide)
  generalize u * u % 2147483629 = y at *
  walk_at "go"
  exact q _ (Int.emod_nonneg _ (by decide))
def sp_name (K : PySem.W.Frag) (d : Ad) : Sp := fun vs H Q _ => ∃ c k : Int, vs = [.int c, .int k] ∧ 0 ≤ k ∧ k ≤ 1000 ∧ Q (.str (nmS c k)) H
theorem ok_name {P : Program} {w : World} {K : PySem.W.Frag} {mg : Str → Option Value} {base : Heap} {d : Ad} (T : Tx K mg d) : FnOk P w K mg base CX0 1 d.f_name d.fd_name ["_law_cell", "_law_k"] (sp_name K d) := by
  refine T.F_name.ok sc_name (fun vs H Q E h => ?_) (fun cdv A outer s H vs Q E hr h => ?_)
  · obtain ⟨c, k, rfl, _⟩ := h; rfl
  obtain ⟨c, k, rfl, k0, k1, q⟩ := h
  refine ⟨_, (pss_cons (ps_set (i := 2) sc_name.nd rfl (Or.inl rfl) pe_str)
    (pss_cons (ps_if (pt_cmpR op_eq (pe_op op_mod (pv 0) pe_int) pe_int (nomark _)) (pss_one (ps_ret (pe_op My.op_repC (pe_ix ix_str (pv 2) (pe_op op_mod (pe_op op_add (pe_op My.op_fdivB (pv 0) pe_int) (pe_op My.op_fdivB (pv 1) pe_int)) pe_int) (fun _ _ => rfl)) (pe_op op_add pe_int (pe_op op_mod (pe_op op_add (pv 1) (pe_op My.op_fdivB (pv 0) pe_int)) pe_int))))) pss_nil)
    (pss_cons (ps_set (i := 3) sc_name.nd rfl (Or.inl rfl) (pe_op op_add pe_int (pe_op op_mod (pe_op My.op_fdivB (pv 0) pe_int) pe_int)))
    (pss_cons (ps_set (i := 4) sc_name.nd rfl (Or.inl rfl) (pe_op op_mod (pe_op My.op_fdivB (pv 0) pe_int) (pv 3)))
    (pss_cons (ps_set (i := 5) sc_name.nd rfl (Or.inl rfl) pe_str)
    (pss_cons (ps_for PassesOwn.never rfl (pi_range1 rfl T.z_range (pa_cons (pv 3) pa_nil)) (pg_name (i := 6) sc_name.nd rfl (Or.inl rfl)) (pss_cons (ps_set (i := 7) sc_name.nd rfl (Or.inl rfl) (pe_op My.op_mulB (pv 1) (pe_callTy My.call_intB rfl T.z_int PyProof.Rows.boot_int (pa_cons (pe_cmpR op_eq (pv 6) (pv 4) (nomark _)) pa_nil))))
    (pss_cons (ps_set (i := 8) sc_name.nd rfl (Or.inl rfl) (pe_op op_add (pe_op op_add (pe_op My.op_fdivB (pv 0) pe_int) (pe_op My.op_mulB (pv 6) (pe_op op_mod (pe_op My.op_fdivB (pv 0) pe_int) pe_int))) (pv 7)))
    (pss_one (ps_set (i := 5) sc_name.nd rfl (Or.inl rfl) (pe_op My.op_catS (pv 5) (pe_ix ix_str (pv 2) (pe_op op_mod (pv 8) pe_int) (fun _ _ => rfl))))))))
    (pss_one (ps_ret (pv 5))))))))), ?_⟩
  try dsimp only [L2.cxOf, L2.Cx.nox, L2.Cx.wish, My.xw, My.pnd, My.suite]
  refine r_start (σ := [some (.int c), some (.int k), none, none, none, none, none, none, none]) rfl ?_
  walk_at "go"
  refine i_2 (fun z => ?_) (fun z => ?_)
  · walk_at "go"
    refine r_ixS (by decide) (letAt _) ?_
    walk_at "go"
    have a0 := Int.emod_nonneg (k + c.fdiv 78) (show (8 : Int) ≠ 0 by decide)
    have a1 := Int.emod_lt_of_pos (k + c.fdiv 78) (show (0 : Int) < 8 by decide)
    refine r_repC (by omega) (by omega) ?_
    unfold nmS nmL at q
    rw [if_pos z] at q
    exact q
  · walk_at "go"
    have b0 := Int.emod_nonneg (c.fdiv 3) (show (8 : Int) ≠ 0 by decide)
    have b1 := Int.emod_lt_of_pos (c.fdiv 3) (show (0 : Int) < 8 by decide)
    have d0 := Int.emod_nonneg (c.fdiv 7) (show (11 : Int) ≠ 0 by decide)
    have d1 := Int.emod_lt_of_pos (c.fdiv 7) (show (0 : Int) < 11 by decide)
    have ks : k.natAbs < 2 ^ 600 := Nat.lt_of_le_of_lt (show k.natAbs ≤ 1000 by omega) (by decide)
    have ds : (c.fdiv 7 % 11).natAbs < 2 ^ 600 := Nat.lt_of_le_of_lt (show (c.fdiv 7 % 11).natAbs ≤ 11 by omega) (by decide)
    refine f_range (fun i σ H' => H' = H ∧ ∃ w1 w2 w3, σ = [some (V.int c), some (V.int k), some (V.str ABC), some (V.int (1 + c.fdiv 3 % 8)), some (V.int (c.fdiv 24 % (1 + c.fdiv 3 % 8))), some (V.str (ofL ((List.range i).map (nmJ c k)))), w1, w2, w3]) ⟨rfl, none, none, none, rfl⟩ ?_ ?_
    · rintro i σ H' hi ⟨rfl, w1, w2, w3, rfl⟩
      have is : ((0 : Int) + (i : Int)).natAbs < 2 ^ 600 := Nat.lt_of_le_of_lt (show ((0 : Int) + (i : Int)).natAbs ≤ 8 by omega) (by decide)
      walk_at "go"
      refine r_ixS (by decide) (letAt _) ?_
      have lz : (ofL ((List.range i).map (nmJ c k))).length = i := by rw [ofL_len, List.length_map, List.length_range]
      refine r_catS ?_ ?_
      · rw [lz]; show _ + 1 ≤ 16777216; omega
      walk_at "go"
      have ee : (List.range (i + 1)).map (nmJ c k) = (List.range i).map (nmJ c k) ++ [nmJ c k i] := by rw [List.range_succ, List.map_append]; rfl
      rw [ofL_snoc, ee]
      exact ⟨rfl, _, _, _, rfl⟩
    · rintro σ H' ⟨rfl, w1, w2, w3, rfl⟩
      walk_at "go"
      unfold nmS nmL at q
      rw [if_neg z] at q
      exact q
def iV (e : Nat) : V := .int (e : Int)
def sp_elders (K : PySem.W.Frag) (d : Ad) : Sp := fun vs H Q _ => ∃ (lc : Addr) (cs : List Int) (sh : Int), vs = [.ref lc, .int sh] ∧ SqL K H lc (cs.map V.int) ∧ cs.length ≤ 12 ∧
  ∀ (l : Addr) (es : List Nat), H l = none → es.length = cs.length → (∀ (k e : Nat), es[k]? = some e → e ≤ k ∧ e ≤ 10) → Q (.ref l) (upd H l (.lst (.non :: es.map iV)))
theorem ok_elders {P : Program} {w : World} {K : PySem.W.Frag} {mg : Str → Option Value} {base : Heap} {d : Ad} (T : Tx K mg d) : FnOk P w K mg base CX0 1 d.f_elders d.fd_elders ["_law_cells", "_law_shape"] (sp_elders K d) := by
  refine T.F_elders.ok sc_elders (fun vs H Q E h => ?_) (fun cdv A outer s H vs Q E hr h => ?_)
  · obtain ⟨lc, cs, sh, rfl, _⟩ := h; rfl
  obtain ⟨lc, cs, sh, rfl, hS, hn, q⟩ := h
  refine ⟨_, (pss_cons (ps_set (i := 2) sc_elders.nd rfl (Or.inl rfl) (pe_lst (pa_cons pe_non pa_nil)))
    (pss_cons (ps_for PassesOwn.never rfl (pi_range1 rfl T.z_range (pa_cons (pe_callB My.call_lenN rfl T.z_len PySem.boot_len (pa_cons (pv 0) pa_nil)) pa_nil)) (pg_name (i := 3) sc_elders.nd rfl (Or.inl rfl)) (pss_cons (ps_set (i := 4) sc_elders.nd rfl (Or.inl rfl) (pe_op op_mod (pe_ix ix_list (pv 0) (pv 3) (fun _ _ => rfl)) (pe_callB (My.call_minR rfl) rfl T.z_min PyProof.Rows.boot_min (pa_cons (pe_op op_add (pv 3) pe_int) (pa_cons pe_int pa_nil)))))
    (pss_cons (My.ps_cut (ps_if (pt_cmpR op_eq (pv 1) pe_int (nomark _)) (pss_one (ps_set (i := 4) sc_elders.nd rfl (Or.inl rfl) (pe_callB (My.call_minR rfl) rfl T.z_min PyProof.Rows.boot_min (pa_cons (pv 3) (pa_cons pe_int pa_nil))))) pss_nil))
    (pss_cons (My.ps_cut (ps_if (pt_cmpR op_eq (pv 1) pe_int (nomark _)) (pss_one (ps_set (i := 4) sc_elders.nd rfl (Or.inl rfl) (pe_callB (My.call_minR rfl) rfl T.z_min PyProof.Rows.boot_min (pa_cons (pe_callB (My.call_maxR rfl) rfl T.z_max PyProof.Rows.boot_max (pa_cons pe_int (pa_cons (pe_op op_sub (pv 3) pe_int) pa_nil))) (pa_cons pe_int pa_nil))))) pss_nil))
    (pss_one (ps_expr (pe_bm PySem.F.plainAttrs_list PySem.F.slot_list_append PySem.F.type_list_append mt_append (pv 2) (pa_cons (pv 4) pa_nil))))))))
    (pss_one (ps_ret (pv 2))))), ?_⟩
  try dsimp only [L2.cxOf, L2.Cx.nox, L2.Cx.wish, My.xw, My.pnd, My.suite]
  refine r_start (σ := [some (.ref lc), some (.int sh), none, none, none]) rfl ?_
  have hl : (cs.map V.int).length = cs.length := List.length_map _
  walk_at "go"
  rename_i l hl0
  refine f_range (fun i σ H' => ∃ (es : List Nat) (w1 w2 : Option V), σ = [some (.ref lc), some (.int sh), some (.ref l), w1, w2] ∧ H' = upd H l (.lst (.non :: es.map iV)) ∧ es.length = i ∧ ∀ (k e : Nat), es[k]? = some e → e ≤ k ∧ e ≤ 10) ⟨[], none, none, rfl, rfl, rfl, fun k e h => by simp at h⟩ ?_ ?_
  · rintro i σ H' hi ⟨es, w1, w2, rfl, rfl, hes, hp⟩
    have hi' : i < cs.length := by omega
    have eL : upd H l (.lst (.non :: es.map iV)) l = some (.lst (.non :: es.map iV)) := upd_same
    have hS' := sqL_new (o := .lst (.non :: es.map iV)) hS hl0
    walk_at "go"
    refine r_ixL hS' (cell_at (by omega) (by omega)) ?_
    walk_at "go"
    generalize hm : (if (11 : Int) < 0 + (i : Int) + 1 then (11 : Int) else 0 + (i : Int) + 1) = m
    have m0 : 0 < m ∧ m ≤ (i : Int) + 1 ∧ m ≤ 11 := by rw [← hm]; split <;> omega
    have a0 := Int.emod_nonneg (cell cs (0 + (i : Int))) (show m ≠ 0 by omega)
    have a1 := Int.emod_lt_of_pos (cell cs (0 + (i : Int))) m0.1
    generalize cell cs (0 + (i : Int)) % m = a at *
    refine r_cut (fun σ H' => ∃ a : Int, σ = [some (.ref lc), some (.int sh), some (.ref l), some (.int (0 + (i : Int))), some (.int a)] ∧ H' = upd H l (.lst (.non :: es.map iV)) ∧ 0 ≤ a ∧ a ≤ i ∧ a ≤ 10) ?_ ?_
    · walk_at "go"
      refine i_2 (fun c => ?_) (fun c => ?_)
      · walk_at "go"
        exact ⟨_, rfl, rfl, by split <;> omega, by split <;> omega, by split <;> omega⟩
      · walk_at "go"
        exact ⟨_, rfl, rfl, by omega, by omega, by omega⟩
    rintro σ' H' ⟨a, rfl, rfl, a0, a1, a2⟩
    walk_at "go"
    refine r_cut (fun σ H' => ∃ a : Int, σ = [some (.ref lc), some (.int sh), some (.ref l), some (.int (0 + (i : Int))), some (.int a)] ∧ H' = upd H l (.lst (.non :: es.map iV)) ∧ 0 ≤ a ∧ a ≤ i ∧ a ≤ 10) ?_ ?_
    · walk_at "go"
      refine i_2 (fun c => ?_) (fun c => ?_)
      · walk_at "go"
        refine ⟨_, rfl, rfl, ?_, ?_, ?_⟩ <;> (split <;> split <;> omega)
      · walk_at "go"
        exact ⟨_, rfl, rfl, by omega, by omega, by omega⟩
    rintro σ' H' ⟨a, rfl, rfl, a0, a1, a2⟩
    have hzz : (V.non :: es.map iV).length < sizeLine := by rw [List.length_cons, List.length_map]; show _ < 16777216; omega
    walk_at "go"
    rw [upd_upd]
    have ea : V.int a = iV a.toNat := by unfold iV; rw [Int.toNat_of_nonneg a0]
    refine ⟨es ++ [a.toNat], _, _, rfl, by rw [ea, List.map_append]; rfl, by rw [List.length_append, hes]; rfl, fun k e he => ?_⟩
    rcases Nat.lt_or_ge k es.length with h | h
    · rw [List.getElem?_append_left h] at he
      exact hp k e he
    · have hk := (List.getElem?_eq_some_iff.mp he).1
      rw [List.length_append, List.length_singleton] at hk
      have ek : k = es.length := by omega
      subst ek
      rw [List.getElem?_append_right (Nat.le_refl _), Nat.sub_self] at he
      have : a.toNat = e := by simpa using he
      omega
  · rintro σ H' ⟨es, w1, w2, rfl, rfl, hes, hp⟩
    walk_at "go"
    exact q l es hl0 (by omega) hp
theorem at_ws {ws : List Str} {i : Nat} (hi : i < ws.length) {k : Int} (e : k = (i : Int)) : atI (ws.map V.str) k = some (.str ws[i]) := by
  subst e
  exact atI_nat (by rw [List.getElem?_map, List.getElem?_eq_getElem hi]; rfl)
def FinB (ws : List Str) (B : Int) (f : Str → Option Int) : Prop := ∀ z n, f z = some n → z ∈ ws ∧ 0 ≤ n ∧ n ≤ B
theorem FinB.put {ws : List Str} {B : Int} {f : Str → Option Int} (h : FinB ws B f) {z : Str} {n : Int} (hz : z ∈ ws) (h0 : 0 ≤ n) (h1 : n ≤ B) : FinB ws B (putF' f z n) := fun y m e => by
  unfold putF' at e
  by_cases c : y = z
  · rw [if_pos c] at e; cases e; rw [c]; exact ⟨hz, h0, h1⟩
  · rw [if_neg c] at e; exact h y m e
theorem finB_nil {ws : List Str} {B : Int} : FinB ws B noF := fun z n e => by cases e
structure PtN (H H' : Hp) (ws : List Str) (B : Int) (t : Pt) : Prop where
  fr : H t.a = none
  loc : H' t.a = some (.dK t.k)
  ad : AD t.k t.f
  fn : FinB ws B t.f
structure ScOk (sc : Int) : Prop where
  lo : 0 ≤ sc
  hi : sc ≤ 10 ^ 27
def sp_promises (K : PySem.W.Frag) (d : Ad) : Sp := fun vs H Q _ => ∃ (lc lw : Addr) (cs : List Int) (ws : List Str) (sc : Int), vs = [.ref lc, .ref lw, .int sc] ∧ SqL K H lc (cs.map V.int) ∧ cs.length ≤ 13 ∧ SqL K H lw (ws.map V.str) ∧ ws.length ≤ 3 ∧ ScOk sc ∧
  ∀ (l : Addr) (ts : List Pt) H', Same H H' → H l = none → H' l = some (.lst (ts.map fun t => .ref t.a)) → ts.length = cs.length → (∀ t ∈ ts, PtN H H' ws (5 * 10 ^ 27) t) → Q (.ref l) H'
theorem ok_promises {P : Program} {w : World} {K : PySem.W.Frag} {mg : Str → Option Value} {base : Heap} {d : Ad} (T : Tx K mg d) : FnOk P w K mg base CX0 2 d.f_promises d.fd_promises ["_law_cells", "_law_wares", "_law_scale"] (sp_promises K d) := by
  refine T.F_promises.ok sc_promises (fun vs H Q E h => ?_) (fun cdv A outer s H vs Q E hr h => ?_)
  · obtain ⟨lc, lw, cs, ws, sc, rfl, _⟩ := h; rfl
  obtain ⟨lc, lw, cs, ws, sc, rfl, hS, hn, hW, hw, sk, q⟩ := h
  refine ⟨_, (pss_cons (ps_set (i := 3) sc_promises.nd rfl (Or.inl rfl) (pe_lst pa_nil))
    (pss_cons (ps_for PassesOwn.never rfl (pi_range1 rfl T.z_range (pa_cons (pe_callB My.call_lenN rfl T.z_len PySem.boot_len (pa_cons (pv 0) pa_nil)) pa_nil)) (pg_name (i := 4) sc_promises.nd rfl (Or.inl rfl)) (pss_cons (ps_set (i := 5) sc_promises.nd rfl (Or.inl rfl) pe_dnewK)
    (pss_cons (ps_for PassesOwn.never rfl (pi_range1 rfl T.z_range (pa_cons (pe_callB My.call_lenN rfl T.z_len PySem.boot_len (pa_cons (pv 1) pa_nil)) pa_nil)) (pg_name (i := 6) sc_promises.nd rfl (Or.inl rfl)) (pss_cons (ps_set (i := 7) sc_promises.nd rfl (Or.inl rfl) (pe_call ((ok_mixed T).mono (by decide)) hr rfl T.m_mixed T.F_mixed.kp T.b_mixed .nil pass0 (pa_cons (pe_op My.op_fdivB (pe_ix ix_list (pv 0) (pv 4) (fun _ _ => rfl)) pe_int) (pa_cons (pe_op op_add (pe_op My.op_mulB pe_int (pv 4)) (pv 6)) pa_nil))))
    (pss_one (My.ps_cut (ps_if (pt_cmpR op_gt (pe_op op_mod (pv 7) pe_int) pe_int (nomark _)) (pss_one (ps_dput (hu_of hr) (pv 5) (pe_ix ix_list (pv 1) (pv 6) (fun _ _ => rfl)) (pe_op My.op_mulB (pe_op op_mod (pe_op My.op_fdivB (pv 7) pe_int) pe_int) (pv 2)) rfl)) pss_nil)))))
    (pss_one (ps_expr (pe_bm PySem.F.plainAttrs_list PySem.F.slot_list_append PySem.F.type_list_append mt_append (pv 3) (pa_cons (pv 5) pa_nil)))))))
    (pss_one (ps_ret (pv 3))))), ?_⟩
  try dsimp only [L2.cxOf, L2.Cx.nox, L2.Cx.wish, My.xw, My.pnd, My.suite]
  refine r_start (σ := [some (.ref lc), some (.ref lw), some (.int sc), none, none, none, none, none]) rfl ?_
  have hl : (cs.map V.int).length = cs.length := List.length_map _
  have hl2 : (ws.map V.str).length = ws.length := List.length_map _
  walk_at "go"
  rename_i l hl0
  refine f_range (fun i σ H' => ∃ (ts : List Pt) (w1 w2 w3 w4 : Option V), σ = [some (.ref lc), some (.ref lw), some (.int sc), some (.ref l), w1, w2, w3, w4] ∧ Same H H' ∧ H' l = some (.lst (ts.map fun t => .ref t.a)) ∧ ts.length = i ∧ ∀ t ∈ ts, PtN H H' ws (5 * 10 ^ 27) t) ⟨[], none, none, none, none, rfl, same_new hl0 _, upd_same, rfl, fun t h => by simp at h⟩ ?_ ?_
  · rintro i σ H' hi ⟨ts, w1, w2, w3, w4, rfl, sm, eL, hts, hp⟩
    have hi' : i < cs.length := by omega
    have hW1 := sm.seq hW
    have hS1 := sm.seq hS
    walk_at "go"
    rename_i p hpn
    have hp0 : H p = none := sm.free hpn
    have nlp : l ≠ p := fun z => by subst z; rw [eL] at hpn; cases hpn
    refine f_range (fun j σ H2 => ∃ (k' : List (Key × V)) (f : Str → Option Int) (w3 w4 : Option V), σ = [some (.ref lc), some (.ref lw), some (.int sc), some (.ref l), some (.int (0 + (i : Int))), some (.ref p), w3, w4] ∧ H2 = upd H' p (.dK k') ∧ AD k' f ∧ FinB ws (5 * 10 ^ 27) f ∧ k'.length ≤ j) ⟨[], noF, w3, w4, rfl, rfl, AD.nil, finB_nil, Nat.le_refl _⟩ ?_ ?_
    · rintro j σ H2 hj ⟨k', f, w3, w4, rfl, rfl, hA, hF, hk⟩
      have hj' : j < ws.length := by omega
      have s2 := same_new hpn (.dK k')
      have hS2 := (sm.trans s2).seq hS
      have hW2 := (sm.trans s2).seq hW
      walk_at "go"
      refine r_ixL hS2 (cell_at (by omega) (by omega)) ?_
      walk_at "go"
      refine ⟨_, _, rfl, by omega, by omega, fun r r0 => ?_⟩
      walk_at "go"
      have e0 := Int.emod_nonneg (r.fdiv 4) (show (6 : Int) ≠ 0 by decide)
      have e1 := Int.emod_lt_of_pos (r.fdiv 4) (show (0 : Int) < 6 by decide)
      have sb : sc.natAbs < 2 ^ 600 := by
        have a := sk.lo
        have b := sk.hi
        exact Nat.lt_of_le_of_lt (show sc.natAbs ≤ 10 ^ 27 by omega) (by decide)
      have eb : (r.fdiv 4 % 6).natAbs < 2 ^ 600 := Nat.lt_of_le_of_lt (show (r.fdiv 4 % 6).natAbs ≤ 6 by omega) (by decide)
      have v0 : 0 ≤ r.fdiv 4 % 6 * sc := Int.mul_nonneg e0 sk.lo
      have v1 : r.fdiv 4 % 6 * sc ≤ 5 * 10 ^ 27 := Int.mul_le_mul (by omega) sk.hi sk.lo (by decide)
      refine r_cut0 ?_
      walk_at "go"
      refine i_2 (fun c => ?_) (fun c => ?_)
      · walk_at "go"
        refine r_ixL hW2 (at_ws hj' (by omega)) ?_
        walk_at "go"
        rw [upd_upd]
        have := length_putK k' (Sum.inr ws[j]) (.int (r.fdiv 4 % 6 * sc))
        exact ⟨_, _, _, _, rfl, rfl, hA.put ws[j] _, hF.put (List.getElem_mem hj') v0 v1, by omega⟩
      · walk_at "go"
        exact ⟨_, _, _, _, rfl, rfl, hA, hF, by omega⟩
    · rintro σ H2 ⟨k', f, w3, w4, rfl, rfl, hA, hF, hk⟩
      have eL2 : upd H' p (.dK k') l = some (.lst (ts.map fun t => .ref t.a)) := by rw [upd_ne nlp]; exact eL
      walk_at "go"
      refine ⟨ts ++ [⟨p, k', f⟩], _, _, _, _, rfl, same_put (same_put sm hp0) hl0, by rw [upd_same, List.map_append]; rfl, by rw [List.length_append, hts]; rfl, fun t ht => ?_⟩
      have s3 : ∀ b o, b ≠ l → b ≠ p → H' b = some o → upd (upd H' p (.dK k')) l (.lst (ts.map (fun t => V.ref t.a) ++ [V.ref p])) b = some o := fun b o h1 h2 e => by rw [upd_ne h1, upd_ne h2]; exact e
      rcases List.mem_append.mp ht with h | h
      · have z := hp t h
        refine ⟨z.fr, s3 _ _ (fun e => by have := z.loc; rw [e, eL] at this; cases this) (fun e => ?_) z.loc, z.ad, z.fn⟩
        have := z.loc
        rw [e, hpn] at this
        cases this
      · have : t = ⟨p, k', f⟩ := by simpa using h
        subst this
        exact ⟨hp0, by rw [upd_ne nlp.symm]; exact upd_same, hA, hF⟩
  · rintro σ H' ⟨ts, w1, w2, w3, w4, rfl, sm, eL, hts, hp⟩
    walk_at "go"
    exact q l ts H' sm hl0 eL (by omega) hp
def elN (es : List Nat) (k : Nat) : Nat := (es[k - 1]?).getD 0
def ptN (ts : List Pt) (k : Nat) (v : Str) : Int := match ts[k]? with
  | some t => gN t.f v
  | none => 0
def SumsAt (H : Hp) (ws : List Str) (qs : List Addr) (G : Nat → Str → Int) : Prop := ∀ (j : Nat) (q : Addr), qs[j]? = some q → ∃ (k : List (Key × V)) (f : Str → Option Int), H q = some (.dK k) ∧ AD k f ∧ (∀ z, f z ≠ none → z ∈ ws) ∧ ∀ v, gN f v = G j v
theorem SumsAt.cast {H : Hp} {ws : List Str} {qs : List Addr} {G G' : Nat → Str → Int} (h : SumsAt H ws qs G) (e : ∀ j v, j < qs.length → G j v = G' j v) : SumsAt H ws qs G' := fun j q hq => by
  obtain ⟨k, f, a, b, c, g⟩ := h j q hq
  have hj := (List.getElem?_eq_some_iff.mp hq).1
  exact ⟨k, f, a, b, c, fun v => by rw [g, e j v hj]⟩
theorem SumsAt.same {H H' : Hp} {ws : List Str} {qs : List Addr} {G : Nat → Str → Int} (h : SumsAt H ws qs G) (s : ∀ q ∈ qs, ∀ o, H q = some o → H' q = some o) : SumsAt H' ws qs G := fun j q hq => by
  obtain ⟨k, f, a, r⟩ := h j q hq
  exact ⟨k, f, s q (List.mem_of_getElem? hq) _ a, r⟩
theorem gN_put (f : Str → Option Int) (z : Str) (n : Int) (v : Str) : gN (putF' f z n) v = if v = z then n else gN f v := by
  unfold gN putF'
  by_cases c : v = z
  · rw [if_pos c, if_pos c]; rfl
  · rw [if_neg c, if_neg c]
theorem SumsAt.put {H : Hp} {ws : List Str} {qs : List Addr} {G : Nat → Str → Int} (nd : qs.Nodup) (h : SumsAt H ws qs G) {at_ : Nat} {q : Addr} (hq : qs[at_]? = some q) {k : List (Key × V)} {f : Str → Option Int} (hA : AD k f) (hf : ∀ z, f z ≠ none → z ∈ ws) (hg : ∀ v, gN f v = G at_ v) {z : Str} (hz : z ∈ ws) {n : Int} :
    SumsAt (upd H q (.dK (putK k (Sum.inr z) (.int n)))) ws qs (fun j v => if j = at_ ∧ v = z then n else G j v) := fun j r hr => by
  by_cases e : j = at_
  · subst e
    rw [hq] at hr; cases hr
    refine ⟨_, _, upd_same, hA.put z n, fun y hy => ?_, fun v => ?_⟩
    · unfold putF' at hy
      by_cases c : y = z
      · rw [c]; exact hz
      · rw [if_neg c] at hy; exact hf y hy
    · show _ = if j = j ∧ v = z then n else G j v
      rw [gN_put]
      by_cases c : v = z
      · rw [if_pos c, if_pos ⟨rfl, c⟩]
      · rw [if_neg c, if_neg (fun x => c x.2), hg]
  · obtain ⟨k', f', a, b, c, g⟩ := h j r hr
    have ne : r ≠ q := fun x => by
      subst x
      obtain ⟨h1, e1⟩ := List.getElem?_eq_some_iff.mp hr
      obtain ⟨h2, e2⟩ := List.getElem?_eq_some_iff.mp hq
      rcases Nat.lt_or_ge j at_ with lt | ge
      · exact (List.pairwise_iff_getElem.mp nd) j at_ h1 h2 lt (by rw [e1, e2])
      · exact (List.pairwise_iff_getElem.mp nd) at_ j h2 h1 (by omega) (by rw [e1, e2])
    exact ⟨k', f', by rw [upd_ne ne]; exact a, b, c, fun v => by show _ = if j = at_ ∧ v = z then n else G j v; rw [g, if_neg (fun x => e x.1)]⟩
theorem lineN_pw {el : Nat → Nat} {n : Nat} (lo : Low el n) : ∀ k, k < n → (lineN el k).Pairwise (fun a b => b < a) := by
  intro k
  induction k using Nat.strongRecOn with
  | ind k ih =>
    intro kn
    cases k with
    | zero => rw [lineN_zero]; exact List.pairwise_singleton ..
    | succ k =>
      have l := lo (k + 1) (by omega) kn
      rw [lineN_up lo (by omega) kn, List.pairwise_cons]
      refine ⟨fun a ha => ?_, ih _ l (by omega)⟩
      have := lineN_le lo (el (k + 1)) (by omega) a ha
      omega
def oV : Option Nat → V
  | none => .non
  | some a => .int (a : Int)
def restL (el : Nat → Nat) : Option Nat → List Nat
  | none => []
  | some a => lineN el a
def meas4 (σ : L2.St) : Nat := match σ[4]? with
  | some (some (V.int a)) => a.toNat + 1
  | _ => 0
def sp_sums (K : PySem.W.Frag) (d : Ad) : Sp := fun vs H Q _ => ∃ (le lp : Addr) (es : List Nat) (ts : List Pt) (ws : List Str), vs = [.ref le, .ref lp] ∧ H le = some (.lst (.non :: es.map iV)) ∧ SqL K H lp (ts.map fun t => .ref t.a) ∧ ts.length = es.length + 1 ∧ ts.length ≤ 13 ∧ ws.length ≤ 3 ∧
  (∀ (k e : Nat), es[k]? = some e → e ≤ k) ∧ (∀ t ∈ ts, H t.a = some (.dK t.k) ∧ AD t.k t.f ∧ ∀ z, t.f z ≠ none → z ∈ ws) ∧
  ∀ (l : Addr) (qs : List Addr) H', Same H H' → H l = none → H' l = some (.lst (qs.map V.ref)) → qs.length = ts.length → (∀ q ∈ qs, H q = none) → SumsAt H' ws qs (fun j v => sumR ts.length fun k => if j ∈ lineN (elN es) k then ptN ts k v else 0) → Q (.ref l) H'
theorem ok_sums {P : Program} {w : World} {K : PySem.W.Frag} {mg : Str → Option Value} {base : Heap} {d : Ad} (T : Tx K mg d) : FnOk P w K mg base CX0 1 d.f_sums d.fd_sums ["_law_elders_here", "_law_promises_here"] (sp_sums K d) := by
  refine T.F_sums.ok sc_sums (fun vs H Q E h => ?_) (fun cdv A outer s H vs Q E hr h => ?_)
  · obtain ⟨le, lp, es, ts, ws, rfl, _⟩ := h; rfl
  obtain ⟨le, lp, es, ts, ws, rfl, hE, hP, hn, h13, hw, lo, hts, q⟩ := h
  refine ⟨_, (pss_cons (My.ps_comp (j := 2) (caps := []) (cn := []) (My.caps_of rfl rfl (by rfl) (by rfl) rfl trivial (by rfl) rfl trivial (by decide)) rfl sc_sums.nd rfl rfl (pi_list (pv 1)) (fun _ _ _ _ => My.pf_nil) (fun _ _ _ _ => pe_dnewK))
    (pss_cons (ps_for PassesOwn.never rfl (pi_range1 rfl T.z_range (pa_cons (pe_callB My.call_lenN rfl T.z_len PySem.boot_len (pa_cons (pv 0) pa_nil)) pa_nil)) (pg_name (i := 3) sc_sums.nd rfl (Or.inl rfl)) (pss_cons (ps_set (i := 4) sc_sums.nd rfl (Or.inl rfl) (pv 3))
    (pss_one (ps_while PassesOwn.never (pt_cmpR My.op_notNN (pv 4) pe_non (nomark _)) (pss_cons (My.ps_thA (ps_for PassesOwn.never rfl (My.pi_items (pe_bm0 PySem.F.plainAttrs_dict PySem.F.slot_dict_items PySem.F.type_dict_items My.mt_items (pe_ix ix_list (pv 1) (pv 3) (fun _ _ => rfl)))) (pg_tup rfl (pgs_cons (pg_name (i := 5) sc_sums.nd rfl (Or.inl rfl)) (pgs_cons (pg_name (i := 6) sc_sums.nd rfl (Or.inl rfl)) pgs_nil))) (pss_one (ps_dput (hu_of hr) (pe_ix ix_list (pv 2) (pv 4) (fun _ _ => rfl)) (pv 5) (pe_op op_add (pe_dget2 (hu_of hr) (pe_ix ix_list (pv 2) (pv 4) (fun _ _ => rfl)) (pv 5) pe_int ⟨rfl, rfl, rfl, rfl⟩) (pv 6)) rfl))))
    (pss_one (ps_set (i := 4) sc_sums.nd rfl (Or.inl rfl) (pe_ix ix_list (pv 0) (pv 4) (fun _ _ => rfl)))))))))
    (pss_one (ps_ret (pv 2))))), ?_⟩
  try dsimp only [L2.cxOf, L2.Cx.nox, L2.Cx.wish, My.xw, My.pnd, My.suite]
  try dsimp only [My.cxC]
  refine r_start (σ := [some (.ref le), some (.ref lp), none, none, none, none, none]) rfl ?_
  have hl : (ts.map fun t => V.ref t.a).length = ts.length := List.length_map _
  walk_at "go"
  intro C s0 H0 fp na hna
  have low : Low (elN es) ts.length := fun k k0 kn => by
    unfold elN
    cases e : es[k - 1]? with
    | none => exact k0
    | some a => have := lo _ _ e; show a < k; omega
  refine c_by ts.length (fun i H' => ∃ qs : List Addr, qs.length = i ∧ qs.Nodup ∧ (∀ q ∈ qs, H q = none ∧ q ≠ na ∧ H' q = some (.dK [])) ∧ Same H H' ∧ H' na = some (.lst (qs.map V.ref))) ⟨[], rfl, List.nodup_nil, fun q h => by simp at h, same_new hna _, upd_same⟩ ?_ ?_ ?_ ?_
  · rintro i H' hi ⟨qs, _, _, _, sm, _⟩
    exact ⟨_, .ref ts[i].a, sm.seq hP, by rw [List.getElem?_map, List.getElem?_eq_getElem hi]; rfl⟩
  · rintro H' ⟨qs, _, _, _, sm, _⟩
    exact ⟨_, sm.seq hP, by rw [hl]; exact Nat.le_refl _⟩
  · rintro i H' v H'' hi ⟨qs, e1, e2, e3, sm, eN⟩ ⟨rfl, hy⟩
    walk_at "go"
    rename_i p hpn
    have npn : p ≠ na := fun z => by subst z; rw [eN] at hpn; cases hpn
    refine ⟨qs ++ [p], by rw [List.length_append, e1]; rfl, ?_, fun q hq => ?_, same_put (same_put sm (sm.free hpn)) hna, by rw [upd_same, List.map_append]; rfl⟩
    · rw [List.nodup_append]
      refine ⟨e2, List.nodup_cons.mpr ⟨by simp, List.nodup_nil⟩, fun a ha b hb e => ?_⟩
      have : b = p := by simpa using hb
      subst this
      subst e
      rw [(e3 a ha).2.2] at hpn
      cases hpn
    · rcases List.mem_append.mp hq with h | h
      · obtain ⟨a1, a2, a3⟩ := e3 q h
        exact ⟨a1, a2, by rw [upd_ne a2, upd_ne (ne_of_none a3 hpn)]; exact a3⟩
      · have : q = p := by simpa using h
        subst this
        exact ⟨sm.free hpn, npn, by rw [upd_ne npn]; exact upd_same⟩
  rintro H' ⟨qs, e1, e2, e3, sm, eN⟩
  have hE' := sm _ _ hE
  have fq : ∀ q ∈ qs, H q = none ∧ q ≠ na := fun q hq => ⟨(e3 q hq).1, (e3 q hq).2.1⟩
  walk_at "go"
  have hll : (V.non :: es.map iV).length = ts.length := by rw [List.length_cons, List.length_map, hn]
  refine f_range (fun i σ H2 => ∃ w1 w2 w3 w4, σ = [some (.ref le), some (.ref lp), some (.ref na), w1, w2, w3, w4] ∧ Same H H2 ∧ H2 na = some (.lst (qs.map V.ref)) ∧ SumsAt H2 ws qs (fun j v => sumR i fun k => if j ∈ lineN (elN es) k then ptN ts k v else 0)) ⟨none, none, none, none, rfl, sm, eN, fun j q hq => ?_⟩ ?_ ?_
  · exact ⟨[], noF, (e3 q (List.mem_of_getElem? hq)).2.2, AD.nil, fun z h => absurd rfl h, fun v => rfl⟩
  · rintro i σ H2 hi ⟨w1, w2, w3, w4, rfl, s2, eN2, hG⟩
    have hi' : i < ts.length := by omega
    have tm := List.getElem_mem hi'
    generalize ht : ts[i] = t at tm
    obtain ⟨ht1, ht2, ht3⟩ := hts t tm
    have pt : ∀ v, ptN ts i v = gN t.f v := fun v => by unfold ptN; rw [List.getElem?_eq_getElem hi', ht]
    walk_at "go"
    simp only [Int.zero_add]
    refine while_by (fun σ H3 => ∃ (done : List Nat) (o : Option Nat) (w5 w6 : Option V), σ = [some (.ref le), some (.ref lp), some (.ref na), some (.int (i : Int)), some (oV o), w5, w6] ∧ done ++ restL (elN es) o = lineN (elN es) i ∧ (∀ a, o = some a → a ≤ i) ∧ Same H H3 ∧ H3 na = some (.lst (qs.map V.ref)) ∧ SumsAt H3 ws qs (fun j v => (sumR i fun k => if j ∈ lineN (elN es) k then ptN ts k v else 0) + if j ∈ done then gN t.f v else 0)) (fun σ _ => meas4 σ) ⟨[], some i, w3, w4, rfl, rfl, fun a h => by cases h; exact Nat.le_refl _, s2, eN2, hG.cast fun j v _ => by simp⟩ ?_ ?_
    · rintro σ H3 ⟨done, o, w5, w6, rfl, hd, ha, s3, eN3, hG3⟩
      cases o with
      | none =>
        rw [show oV none = V.non from rfl]
        walk_at "go"
        have hd' : done = lineN (elN es) i := by rw [← hd]; exact (List.append_nil _).symm
        refine ⟨_, _, _, _, rfl, s3, eN3, hG3.cast fun j v _ => ?_⟩
        rw [hd', ← pt v]
        rfl
      | some a =>
        have hai := ha a rfl
        have haq : a < qs.length := by omega
        rw [show oV (some a) = V.int (a : Int) from rfl]
        have hP3 := s3.seq hP
        have ht1' := s3 _ _ ht1
        walk_at "go"
        refine r_iI ?_
        walk_at "go"
        refine r_ixL hP3 (atI_nat (j := i) (by rw [List.getElem?_map, List.getElem?_eq_getElem hi', ht]; rfl)) ?_
        walk_at "go"
        refine r_items (.inl ht1') fun vw hvw => ?_
        refine r_itI upd_same (look_new ht1' hvw) fun o2 => ?_
        have nqt : ∀ q ∈ qs, q ≠ t.a := fun q hq => (ne_of_none ht1 (fq q hq).1).symm
        have nnt : na ≠ t.a := (ne_of_none ht1 hna).symm
        have sb0 : SameBut t.a H (upd (upd H3 vw (ViewO vw t.a)) t.a (.frz o2 (.dK t.k))) := SameBut.at (SameBut.of (s3.trans (same_new hvw _)))
        refine f_items (fun m σ H4 => ∃ (w5 w6 : Option V), σ = [some (.ref le), some (.ref lp), some (.ref na), some (.int (i : Int)), some (.int (a : Int)), w5, w6] ∧ SameBut t.a H H4 ∧ H4 t.a = some (.frz o2 (.dK t.k)) ∧ H4 na = some (.lst (qs.map V.ref)) ∧
          SumsAt H4 ws qs (fun j v => ((sumR i fun k => if j ∈ lineN (elN es) k then ptN ts k v else 0) + if j ∈ done then gN t.f v else 0) + if j = a ∧ v ∈ (keysS t.k).take m then gN t.f v else 0)) ⟨w5, w6, rfl, sb0, upd_same, by rw [upd_ne nnt, upd_ne (ne_of_none eN3 hvw)]; exact eN3, ?_⟩ ?_ ?_ ?_
        · refine (hG3.same fun q hq o e => ?_).cast fun j v _ => by simp
          rw [upd_ne (nqt q hq), upd_ne (ne_of_none e hvw)]; exact e
        · rintro m σ H4 _ ⟨w5, w6, rfl, sb, fz, _⟩; exact fz
        · rintro m k x T σ H4 hk ⟨w5, w6, rfl, sb, fz, eN4, hG4⟩ hT
          obtain ⟨z, n, rfl, rfl, hf, hzm⟩ := ht2.at hk
          obtain ⟨kq, gq, q1, q2, q3, q4⟩ := hG4 a qs[a] (List.getElem?_eq_getElem haq)
          have s5 := same_new hT (.tup [.str z, .int n])
          have eT : upd H4 T (.tup [.str z, .int n]) T = some (.tup [.str z, .int n]) := upd_same
          have eN5 := s5 _ _ eN4
          have q1' := s5 _ _ q1
          have fz5 := s5 _ _ fz
          have hG5 := hG4.same (H' := upd H4 T (.tup [.str z, .int n])) fun q _ o e => s5 _ _ e
          have sb5 := sb.same s5
          show gTup K _ _ (.ref T) _ (upd H4 T (.tup [.str z, .int n])) _
          generalize upd H4 T (.tup [.str z, .int n]) = H5 at *
          have hRq : Rd H5 qs[a] (.dK kq) := .inl q1'
          have atq : atI (qs.map V.ref) (a : Int) = some (.ref qs[a]) := atI_nat (by rw [List.getElem?_map, List.getElem?_eq_getElem haq]; rfl)
          walk_at "go"
          refine r_ixL (SqL.of eN5) atq ?_
          walk_at "go"
          refine r_ixL (SqL.of eN5) atq ?_
          have hkq : kq.length < sizeLine := by have := q2.le q3; show _ < 16777216; omega
          walk_at "go"
          have mq := List.getElem_mem haq
          refine ⟨_, _, rfl, sb_put sb5 (fq _ mq).1, by rw [upd_ne (nqt _ mq).symm]; exact fz5, by rw [upd_ne (fq _ mq).2.symm]; exact eN5, (SumsAt.put e2 hG5 (List.getElem?_eq_getElem haq) q2 q3 q4 (ht3 z (by rw [hf]; simp))).cast fun j v _ => ?_⟩
          have q4z : gN gq z = ((sumR i fun k => if a ∈ lineN (elN es) k then ptN ts k z else 0) + if a ∈ done then gN t.f z else 0) + (if a = a ∧ z ∈ (keysS t.k).take m then gN t.f z else 0) := q4 z
          have nz : z ∉ (keysS t.k).take m := fun h => by
            have := take_in ht2.knd hzm
            rw [List.contains_iff_mem.mpr h] at this
            cases this
          have gz : gN t.f z = n := by unfold gN; rw [hf]; rfl
          have ts1 := take_succ_mem hzm v
          by_cases c : j = a ∧ v = z
          · rw [if_neg (show ¬ (a = a ∧ z ∈ (keysS t.k).take m) from fun h => nz h.2)] at q4z
            rw [if_pos c, q4z, if_pos (show j = a ∧ v ∈ (keysS t.k).take (m + 1) from ⟨c.1, ts1.mpr (.inr c.2)⟩), c.1, c.2, gz]
            omega
          · rw [if_neg c]
            congr 1
            by_cases d1 : j = a
            · have d2 : v ≠ z := fun h => c ⟨d1, h⟩
              have d3 : (j = a ∧ v ∈ (keysS t.k).take m) = (j = a ∧ v ∈ (keysS t.k).take (m + 1)) := propext ⟨fun h => ⟨h.1, ts1.mpr (.inl h.2)⟩, fun h => ⟨h.1, (ts1.mp h.2).resolve_right d2⟩⟩
              simp only [d3]
            · rw [if_neg (show ¬ (j = a ∧ v ∈ (keysS t.k).take m) from fun h => d1 h.1), if_neg (show ¬ (j = a ∧ v ∈ (keysS t.k).take (m + 1)) from fun h => d1 h.1)]
        · rintro σ H4 ⟨w5, w6, rfl, sb, fz, eN4, hG4⟩
          refine r_thNx (thaw1 fz (noFrz_dK ht1)) ?_
          have s6 := same_thaw ht1 sb
          have eN6 : upd H4 t.a (.dK t.k) na = some (.lst (qs.map V.ref)) := by rw [upd_ne nnt]; exact eN4
          have hG6 : SumsAt (upd H4 t.a (.dK t.k)) ws qs _ := hG4.same fun q hq o e => by rw [upd_ne (nqt q hq)]; exact e
          generalize upd H4 t.a (.dK t.k) = H6 at *
          have eE := s6 _ _ hE
          have hai' : a < ts.length := by omega
          have pw := lineN_pw low i hi'
          rw [← hd] at pw
          have nda : a ∉ done := fun h => by
            have := (List.pairwise_append.mp pw).2.2 a h a (by show a ∈ lineN (elN es) a; exact lineN_self low hai')
            exact Nat.lt_irrefl _ this
          have gE : ∀ j v, j < qs.length → ((sumR i fun k => if j ∈ lineN (elN es) k then ptN ts k v else 0) + if j ∈ done then gN t.f v else 0) + (if j = a ∧ v ∈ (keysS t.k).take t.k.length then gN t.f v else 0) = (sumR i fun k => if j ∈ lineN (elN es) k then ptN ts k v else 0) + if j ∈ done ++ [a] then gN t.f v else 0 := fun j v _ => by
            rw [← ht2.klen, List.take_length]
            have z0 : v ∉ keysS t.k → gN t.f v = 0 := fun h => by
              have : t.f v = none := by
                cases e : t.f v with
                | none => rfl
                | some n => exact absurd ((ht2.kin v).mpr (by rw [e]; simp)) h
              unfold gN; rw [this]; rfl
            by_cases d1 : j = a
            · subst d1
              rw [if_neg nda, if_pos (List.mem_append_right _ (List.mem_singleton.mpr rfl))]
              by_cases d2 : v ∈ keysS t.k
              · rw [if_pos ⟨rfl, d2⟩]; omega
              · rw [if_neg (show ¬ (j = j ∧ v ∈ keysS t.k) from fun h => d2 h.2), z0 d2]; omega
            · rw [if_neg (show ¬ (j = a ∧ v ∈ keysS t.k) from fun h => d1 h.1)]
              have d3 : (j ∈ done ++ [a]) = (j ∈ done) := propext ⟨fun h => (List.mem_append.mp h).resolve_right (fun h => d1 (List.mem_singleton.mp h)), fun h => List.mem_append_left _ h⟩
              simp only [d3]
              omega
          walk_at "go"
          cases a with
          | zero =>
            refine r_ixL (SqL.of eE) (atI_nat (j := 0) rfl) ?_
            walk_at "go"
            refine ⟨⟨done ++ [0], none, _, _, rfl, by rw [← hd]; show (done ++ [0]) ++ [] = _; rw [List.append_nil]; rfl, fun a h => (by cases h), s6, eN6, hG6.cast gE⟩, ?_⟩
            show 0 < _ + 1
            omega
          | succ b =>
            have hb : b < es.length := by omega
            have eb : elN es (b + 1) = es[b] := by unfold elN; rw [Nat.add_sub_cancel, List.getElem?_eq_getElem hb]; rfl
            have lb := low (b + 1) (by omega) hai'
            refine r_ixL (v := iV es[b]) (SqL.of eE) (atI_nat (j := b + 1) (by rw [List.getElem?_cons_succ, List.getElem?_map, List.getElem?_eq_getElem hb]; rfl)) ?_
            walk_at "go"
            refine ⟨⟨done ++ [b + 1], some es[b], _, _, rfl, ?_, fun a h => by cases h; rw [eb] at lb; omega, s6, eN6, hG6.cast gE⟩, ?_⟩
            · rw [← hd, List.append_assoc]
              show done ++ ([b + 1] ++ lineN (elN es) es[b]) = done ++ lineN (elN es) (b + 1)
              rw [lineN_up low (by omega) hai', eb]; rfl
            · rw [eb] at lb
              show ((es[b] : Nat) : Int).toNat + 1 < (((b + 1 : Nat) : Int)).toNat + 1
              omega
    · rintro σ H1 Q1 Q2 h ⟨v, hv, w, k, hk, hq⟩
      exact ⟨v, hv, w, k, hk, h _ _ hq⟩
  · rintro σ H2 ⟨w1, w2, w3, w4, rfl, s2, eN2, hG⟩
    walk_at "go"
    exact q na qs H2 s2 hna eN2 e1 (fun q hq => (fq q hq).1) (hG.cast fun j v _ => by rw [hll]; rfl)
theorem FinB.nn {ws : List Str} {B : Int} {f : Str → Option Int} (h : FinB ws B f) (v : Str) : 0 ≤ gN f v := by
  unfold gN
  cases e : f v with
  | none => exact Int.le_refl _
  | some n => exact (h v n e).2.1
def sp_caps (K : PySem.W.Frag) (d : Ad) : Sp := fun vs H Q _ => ∃ (lc ls lw : Addr) (cs : List Int) (qs : List Addr) (ws : List Str) (sc : Int) (G : Nat → Str → Int), vs = [.ref lc, .ref ls, .ref lw, .int sc] ∧ SqL K H lc (cs.map V.int) ∧ cs.length ≤ 13 ∧ SqL K H ls (qs.map V.ref) ∧ qs.length = cs.length ∧ SqL K H lw (ws.map V.str) ∧ ws.length ≤ 3 ∧ ScOk sc ∧
  SumsAt H ws qs G ∧ (∀ j v, j < qs.length → 0 ≤ G j v ∧ G j v ≤ 10 ^ 29) ∧
  ∀ (l : Addr) (ts : List Pt) H', Same H H' → H l = none → H' l = some (.lst (ts.map fun t => .ref t.a)) → ts.length = cs.length → (∀ (j : Nat) (t : Pt), ts[j]? = some t → PtN H H' ws (10 ^ 30) t ∧ ∀ v ∈ ws, G j v ≤ gN t.f v) → Q (.ref l) H'
theorem ok_caps {P : Program} {w : World} {K : PySem.W.Frag} {mg : Str → Option Value} {base : Heap} {d : Ad} (T : Tx K mg d) : FnOk P w K mg base CX0 2 d.f_caps d.fd_caps ["_law_cells", "_law_sums_here", "_law_wares", "_law_scale"] (sp_caps K d) := by
  refine T.F_caps.ok sc_caps (fun vs H Q E h => ?_) (fun cdv A outer s H vs Q E hr h => ?_)
  · obtain ⟨lc, ls, lw, cs, qs, ws, sc, G, rfl, _⟩ := h; rfl
  obtain ⟨lc, ls, lw, cs, qs, ws, sc, G, rfl, hS, hn, hQ, hqn, hW, hw, sk, hG, hB, q⟩ := h
  refine ⟨_, (pss_cons (ps_set (i := 4) sc_caps.nd rfl (Or.inl rfl) (pe_lst pa_nil))
    (pss_cons (ps_for PassesOwn.never rfl (pi_range1 rfl T.z_range (pa_cons (pe_callB My.call_lenN rfl T.z_len PySem.boot_len (pa_cons (pv 0) pa_nil)) pa_nil)) (pg_name (i := 5) sc_caps.nd rfl (Or.inl rfl)) (pss_cons (ps_set (i := 6) sc_caps.nd rfl (Or.inl rfl) pe_dnewK)
    (pss_cons (ps_for PassesOwn.never rfl (pi_range1 rfl T.z_range (pa_cons (pe_callB My.call_lenN rfl T.z_len PySem.boot_len (pa_cons (pv 2) pa_nil)) pa_nil)) (pg_name (i := 7) sc_caps.nd rfl (Or.inl rfl)) (pss_cons (ps_set (i := 8) sc_caps.nd rfl (Or.inl rfl) (pe_call ((ok_mixed T).mono (by decide)) hr rfl T.m_mixed T.F_mixed.kp T.b_mixed .nil pass0 (pa_cons (pe_op My.op_fdivB (pe_ix ix_list (pv 0) (pv 5) (fun _ _ => rfl)) pe_int) (pa_cons (pe_op op_add (pe_op op_add (pe_op My.op_mulB pe_int (pv 5)) (pv 7)) pe_int) pa_nil))))
    (pss_cons (ps_set (i := 9) sc_caps.nd rfl (Or.inl rfl) (pe_ix ix_list (pe_lst (pa_cons pe_int (pa_cons (pv 3) (pa_cons pe_int (pa_cons (pe_op My.op_mulB pe_int (pv 3)) (pa_cons (pe_op My.op_mulB pe_int (pv 3)) (pa_cons pe_int (pa_cons (pe_op op_pow pe_int pe_int) (pa_cons pe_int pa_nil))))))))) (pe_op op_mod (pv 8) pe_int) (fun _ _ => rfl)))
    (pss_cons (ps_set (i := 10) sc_caps.nd rfl (Or.inl rfl) (pe_op op_add (pe_dget2 (hu_of hr) (pe_ix ix_list (pv 1) (pv 5) (fun _ _ => rfl)) (pe_ix ix_list (pv 2) (pv 7) (fun _ _ => rfl)) pe_int ⟨rfl, rfl, rfl, rfl⟩) (pv 9)))
    (pss_one (My.ps_cut (ps_if (PW.pt (pw_or (pt_cmpR op_gt (pv 10) pe_int (nomark _)) (pw_or1 (pt_cmpR op_eq (pe_op op_mod (pe_op My.op_fdivB (pv 8) pe_int) pe_int) pe_int (nomark _))))) (pss_one (ps_dput (hu_of hr) (pv 6) (pe_ix ix_list (pv 2) (pv 7) (fun _ _ => rfl)) (pv 10) rfl)) pss_nil)))))))
    (pss_one (ps_expr (pe_bm PySem.F.plainAttrs_list PySem.F.slot_list_append PySem.F.type_list_append mt_append (pv 4) (pa_cons (pv 6) pa_nil)))))))
    (pss_one (ps_ret (pv 4))))), ?_⟩
  try dsimp only [L2.cxOf, L2.Cx.nox, L2.Cx.wish, My.xw, My.pnd, My.suite]
  refine r_start (σ := [some (.ref lc), some (.ref ls), some (.ref lw), some (.int sc), none, none, none, none, none, none, none]) rfl ?_
  have hl : (cs.map V.int).length = cs.length := List.length_map _
  have hl2 : (ws.map V.str).length = ws.length := List.length_map _
  walk_at "go"
  rename_i l hl0
  refine f_range (fun i σ H' => ∃ (ts : List Pt) (w1 w2 w3 w4 w5 w6 : Option V), σ = [some (.ref lc), some (.ref ls), some (.ref lw), some (.int sc), some (.ref l), w1, w2, w3, w4, w5, w6] ∧ Same H H' ∧ H' l = some (.lst (ts.map fun t => .ref t.a)) ∧ ts.length = i ∧ ∀ (j : Nat) (t : Pt), ts[j]? = some t → PtN H H' ws (10 ^ 30) t ∧ ∀ v ∈ ws, G j v ≤ gN t.f v) ⟨[], none, none, none, none, none, none, rfl, same_new hl0 _, upd_same, rfl, fun j t h => by simp at h⟩ ?_ ?_
  · rintro i σ H' hi ⟨ts, w1, w2, w3, w4, w5, w6, rfl, sm, eL, hts, hp⟩
    have hi' : i < cs.length := by omega
    have hW1 := sm.seq hW
    have hS1 := sm.seq hS
    have hiq : i < qs.length := by omega
    obtain ⟨kq, fq, hq1, hq2, hq3, hq4⟩ := hG i qs[i] (List.getElem?_eq_getElem hiq)
    have eix : atI (qs.map V.ref) (0 + (i : Int)) = some (.ref qs[i]) := by rw [Int.zero_add]; exact atI_nat (by rw [List.getElem?_map, List.getElem?_eq_getElem hiq]; rfl)
    walk_at "go"
    rename_i p hpn
    have hp0 : H p = none := sm.free hpn
    have nlp : l ≠ p := fun z => by subst z; rw [eL] at hpn; cases hpn
    refine f_range (fun j σ H2 => ∃ (k' : List (Key × V)) (f : Str → Option Int) (w3 w4 w5 w6 : Option V), σ = [some (.ref lc), some (.ref ls), some (.ref lw), some (.int sc), some (.ref l), some (.int (0 + (i : Int))), some (.ref p), w3, w4, w5, w6] ∧ Same H' H2 ∧ H2 p = some (.dK k') ∧ AD k' f ∧ FinB ws (10 ^ 30) f ∧ k'.length ≤ j ∧ ∀ v ∈ ws.take j, G i v ≤ gN f v) ⟨[], noF, w3, w4, w5, w6, rfl, same_new hpn _, upd_same, AD.nil, finB_nil, Nat.le_refl _, fun v h => by simp at h⟩ ?_ ?_
    · rintro j σ H2 hj ⟨k', f, w3, w4, w5, w6, rfl, s2, eP, hA, hF, hk, hg⟩
      have hj' : j < ws.length := by omega
      have hS2 := (sm.trans s2).seq hS
      have hW2 := (sm.trans s2).seq hW
      have hQ2 := (sm.trans s2).seq hQ
      have hq1' := (sm.trans s2) _ _ hq1
      walk_at "go"
      refine r_ixL hS2 (cell_at (by omega) (by omega)) ?_
      walk_at "go"
      refine ⟨_, _, rfl, by omega, by omega, fun r r0 => ?_⟩
      have slo := sk.lo
      have sb : sc.natAbs < 2 ^ 600 := by
        have b := sk.hi
        exact Nat.lt_of_le_of_lt (show sc.natAbs ≤ 10 ^ 27 by omega) (by decide)
      walk_at "go"
      rename_i pm hpm
      have s3 := same_new hpm (.lst [V.int 0, V.int sc, V.int 0, V.int (2 * sc), V.int (7 * sc), V.int 1, V.int (10 ^ Int.toNat 29), V.int 0])
      have eM : upd H2 pm (.lst [V.int 0, V.int sc, V.int 0, V.int (2 * sc), V.int (7 * sc), V.int 1, V.int (10 ^ Int.toNat 29), V.int 0]) pm = some (.lst ([0, sc, 0, 2 * sc, 7 * sc, 1, 10 ^ Int.toNat 29, 0].map V.int)) := upd_same
      generalize upd H2 pm (.lst [V.int 0, V.int sc, V.int 0, V.int (2 * sc), V.int (7 * sc), V.int 1, V.int (10 ^ Int.toNat 29), V.int 0]) = H3 at *
      have m8 := Int.emod_nonneg r (show (8 : Int) ≠ 0 by decide)
      have m9 := Int.emod_lt_of_pos r (show (0 : Int) < 8 by decide)
      refine r_menu (xs := [0, sc, 0, 2 * sc, 7 * sc, 1, 10 ^ Int.toNat 29, 0]) (SqL.of eM) m8 m9 fun m hm => ?_
      have mb : 0 ≤ m ∧ m ≤ 10 ^ 29 := by
        have b := sk.hi
        simp only [List.mem_cons, List.not_mem_nil, or_false] at hm
        have e29 : (10 : Int) ^ Int.toNat 29 = 10 ^ 29 := rfl
        rw [e29] at hm
        omega
      clear hm
      have s23 := s2.trans s3
      have hS3 := s3.seq hS2
      have hW3 := s3.seq hW2
      have hQ3 := s3.seq hQ2
      have hq1'' := s3 _ _ hq1'
      have eP3 := s3 _ _ eP
      have hRq : Rd H3 qs[i] (.dK kq) := .inl hq1''
      walk_at "go"
      refine r_ixL hQ3 eix ?_
      walk_at "go"
      refine r_ixL hW3 (at_ws hj' (by omega)) ?_
      walk_at "go"
      have gq : gN fq ws[j] = G i ws[j] := hq4 _
      have gB := hB i ws[j] hiq
      have tk : ∀ v, v ∈ ws.take (j + 1) → v ∈ ws.take j ∨ v = ws[j] := fun v hv => by
        rw [List.take_add_one, List.getElem?_eq_getElem hj'] at hv
        rcases List.mem_append.mp hv with h | h
        · exact .inl h
        · exact .inr (by simpa using h)
      have fin : ∀ many : Int, many = gN fq ws[j] + m → AD (putK k' (Sum.inr ws[j]) (.int many)) (putF' f ws[j] many) ∧ FinB ws (10 ^ 30) (putF' f ws[j] many) ∧ (putK k' (Sum.inr ws[j]) (.int many)).length ≤ j + 1 ∧ ∀ v, v ∈ ws.take (j + 1) → G i v ≤ gN (putF' f ws[j] many) v := fun many em => by
        have := length_putK k' (Sum.inr ws[j]) (.int many)
        refine ⟨hA.put ws[j] many, hF.put (List.getElem_mem hj') (by omega) (by omega), by omega, fun v hv => ?_⟩
        rw [gN_put]
        by_cases c : v = ws[j]
        · rw [if_pos c, c]; omega
        · rw [if_neg c]
          rcases tk v hv with h | h
          · exact hg v h
          · exact absurd h c
      refine r_cut0 ?_
      walk_at "go"
      refine i_2 (fun c => ?_) (fun c => ?_)
      · walk_at "go"
        refine r_ixL hW3 (at_ws hj' (by omega)) ?_
        walk_at "go"
        obtain ⟨f1, f2, f3, f4⟩ := fin _ rfl
        exact ⟨_, _, _, _, _, _, rfl, same_put s23 hpn, upd_same, f1, f2, f3, f4⟩
      · walk_at "go"
        refine i_2 (fun c2 => ?_) (fun c2 => ?_)
        · walk_at "go"
          refine r_ixL hW3 (at_ws hj' (by omega)) ?_
          walk_at "go"
          obtain ⟨f1, f2, f3, f4⟩ := fin _ rfl
          exact ⟨_, _, _, _, _, _, rfl, same_put s23 hpn, upd_same, f1, f2, f3, f4⟩
        · walk_at "go"
          refine ⟨_, _, _, _, _, _, rfl, s23, eP3, hA, hF, by omega, fun v hv => ?_⟩
          rcases tk v hv with h | h
          · exact hg v h
          · have := hF.nn v
            rw [h] at this ⊢
            omega
    · rintro σ H2 ⟨k', f, w3, w4, w5, w6, rfl, s2, eP, hA, hF, hk, hg⟩
      have eL2 := s2 _ _ eL
      walk_at "go"
      refine ⟨ts ++ [⟨p, k', f⟩], _, _, _, _, _, _, rfl, same_put (sm.trans s2) hl0, by rw [upd_same, List.map_append]; rfl, by rw [List.length_append, hts]; rfl, fun j t ht => ?_⟩
      rw [List.take_of_length_le (by omega)] at hg
      rcases Nat.lt_or_ge j ts.length with h | h
      · rw [List.getElem?_append_left h] at ht
        obtain ⟨z, zz⟩ := hp j t ht
        refine ⟨⟨z.fr, ?_, z.ad, z.fn⟩, zz⟩
        have n1 : t.a ≠ l := fun e => by have := z.loc; rw [e, eL] at this; cases this
        rw [upd_ne n1]
        exact s2 _ _ z.loc
      · have e : j = i := by
          have := (List.getElem?_eq_some_iff.mp ht).1
          rw [List.length_append, List.length_singleton] at this
          omega
        subst e
        rw [List.getElem?_append_right h, hts, Nat.sub_self] at ht
        have : t = ⟨p, k', f⟩ := by simpa using ht.symm
        subst this
        exact ⟨⟨hp0, by rw [upd_ne nlp.symm]; exact eP, hA, hF⟩, hg⟩
  · rintro σ H' ⟨ts, w1, w2, w3, w4, w5, w6, rfl, sm, eL, hts, hp⟩
    walk_at "go"
    exact q l ts H' sm hl0 eL (by omega) hp
structure PL where
  lw : Addr
  ln : Addr
  le : Addr
  lp : Addr
  lc : Addr
  ws : List Str
  nm : List Str
  es : List Nat
  tp : List Pt
  tc : List Pt
structure PlF (P : PL) : Prop where
  w1 : 1 ≤ P.ws.length
  w3 : P.ws.length ≤ 3
  wg : ∀ z ∈ P.ws, goodS z = true
  wn : P.ws.Nodup
  nl : P.nm.length = P.es.length + 1
  n12 : P.nm.length ≤ 12
  ng : ∀ z ∈ P.nm, goodS z = true
  nn : P.nm.Nodup
  lo : ∀ (k e : Nat), P.es[k]? = some e → e ≤ k ∧ e ≤ 10
  pl : P.tp.length = P.nm.length
  cl : P.tc.length = P.nm.length
  pa : ∀ t ∈ P.tp, AD t.k t.f ∧ FinB P.ws (5 * 10 ^ 27) t.f
  ca : ∀ t ∈ P.tc, AD t.k t.f ∧ FinB P.ws (10 ^ 30) t.f
  le : ∀ (j : Nat) (t : Pt), P.tc[j]? = some t → ∀ v ∈ P.ws, (sumR P.tp.length fun k => if j ∈ lineN (elN P.es) k then ptN P.tp k v else 0) ≤ gN t.f v
structure PlAt (H : Hp) (p : Addr) (P : PL) : Prop where
  top : H p = some (.lst [.ref P.lw, .ref P.ln, .ref P.le, .ref P.lp, .ref P.lc])
  w : H P.lw = some (.lst (P.ws.map V.str))
  n : H P.ln = some (.lst (P.nm.map V.str))
  e : H P.le = some (.lst (.non :: P.es.map iV))
  pr : H P.lp = some (.lst (P.tp.map fun t => .ref t.a))
  cp : H P.lc = some (.lst (P.tc.map fun t => .ref t.a))
  pd : ∀ t ∈ P.tp, H t.a = some (.dK t.k)
  cd : ∀ t ∈ P.tc, H t.a = some (.dK t.k)
theorem PlAt.same {H H' : Hp} {p : Addr} {P : PL} (h : PlAt H p P) (s : Same H H') : PlAt H' p P :=
  ⟨s _ _ h.top, s _ _ h.w, s _ _ h.n, s _ _ h.e, s _ _ h.pr, s _ _ h.cp, fun t m => s _ _ (h.pd t m), fun t m => s _ _ (h.cd t m)⟩
theorem nm_nodup (c : Int) {n : Nat} (hn : n ≤ 20) : ((List.range n).map fun k : Nat => nmS c (0 + (k : Int))).Nodup := by
  show List.Pairwise _ _
  rw [List.pairwise_map]
  refine List.Pairwise.imp_of_mem (R := fun a b => a < b) (fun {a b} ha hb lt e => ?_) List.pairwise_lt_range
  have h1 := List.mem_range.mp ha
  have h2 := List.mem_range.mp hb
  have := nmS_inj (by omega) (by omega) (by omega) (by omega) e
  omega
theorem sumR_bd {f : Nat → Int} {B : Int} : ∀ {n : Nat}, (∀ k, k < n → f k ≤ B) → sumR n f ≤ n * B
  | 0, _ => by show (0 : Int) ≤ ((0 : Nat) : Int) * B; rw [Int.natCast_zero, Int.zero_mul]; exact Int.le_refl _
  | n + 1, h => by
    have h1 := sumR_bd (n := n) fun k hk => h k (by omega)
    have h2 := h n (by omega)
    show sumR n f + f n ≤ ((n + 1 : Nat) : Int) * B
    rw [Int.natCast_add, Int.add_mul]
    have : ((1 : Nat) : Int) * B = B := by rw [Int.natCast_one, Int.one_mul]
    omega
theorem FinB.gb {ws : List Str} {B : Int} {f : Str → Option Int} (h : FinB ws B f) (b0 : 0 ≤ B) (v : Str) : gN f v ≤ B := by
  unfold gN
  cases e : f v with
  | none => exact b0
  | some n => exact (h v n e).2.2
theorem ptN_bd {ws : List Str} {B : Int} {ts : List Pt} (b0 : 0 ≤ B) (h : ∀ t ∈ ts, FinB ws B t.f) (k : Nat) (v : Str) : 0 ≤ ptN ts k v ∧ ptN ts k v ≤ B := by
  unfold ptN
  cases e : ts[k]? with
  | none => exact ⟨Int.le_refl _, b0⟩
  | some t => exact ⟨(h t (List.mem_of_getElem? e)).nn v, (h t (List.mem_of_getElem? e)).gb b0 v⟩
def sp_plan (K : PySem.W.Frag) (d : Ad) : Sp := fun vs H Q _ => ∃ (a : Addr) (ns : List Int) (st : Int) (ct : Nat), vs = [.ref a, .int st, .int ct] ∧ SqL K H a (ns.map V.int) ∧ 0 ≤ st ∧ ct ≤ 11 ∧
  ∀ (p : Addr) (P : PL) H', Same H H' → PlF P → PlAt H' p P → P.nm.length = ct + 1 → (∀ k : Nat, ct + 1 ≤ k → k ≤ 20 → nmS (cell ns (0 + ((2 : Nat) : Int))) (k : Int) ∉ P.nm) → Q (.ref p) H'
theorem ok_plan {P : Program} {w : World} {K : PySem.W.Frag} {mg : Str → Option Value} {base : Heap} {d : Ad} (T : Tx K mg d) : FnOk P w K mg base CX0 3 d.f_plan d.fd_plan ["_law_script", "_law_start", "_law_count"] (sp_plan K d) := by
  refine T.F_plan.ok sc_plan (fun vs H Q E h => ?_) (fun cdv A outer s H vs Q E hr h => ?_)
  · obtain ⟨a, ns, st, ct, rfl, _⟩ := h; rfl
  obtain ⟨a, ns, st, ct, rfl, hS, h0, h11, q⟩ := h
  refine ⟨_, (pss_cons (ps_set (i := 3) sc_plan.nd rfl (Or.inr rfl) (My.pe_comp (caps := [0]) (cn := ["_law_script"]) (My.caps_of rfl rfl (by rfl) (by rfl) rfl ⟨rfl, trivial⟩ (by rfl) rfl ⟨⟨rfl, rfl, rfl, rfl, _, rfl⟩, trivial⟩ (by decide)) rfl (pi_range1 rfl T.z_range (pa_cons pe_int pa_nil)) (fun _ _ _ _ => My.pf_nil) (fun _ _ _ _ => (pe_call ((ok_cell_at T).mono (by decide)) hr rfl T.m_cell_at T.F_cell_at.kp T.b_cell_at .nil pass0 (pa_cons (pv 1) (pa_cons (pv 0) pa_nil))))))
    (pss_cons (My.ps_comp (j := 4) (caps := [3]) (cn := ["_law_head"]) (My.caps_of rfl rfl (by rfl) (by rfl) rfl ⟨rfl, trivial⟩ (by rfl) rfl ⟨⟨rfl, rfl, rfl, rfl, _, rfl⟩, trivial⟩ (by decide)) rfl sc_plan.nd rfl rfl (pi_range1 rfl T.z_range (pa_cons (pe_op op_add pe_int (pe_op op_mod (pe_ix ix_list (pv 3) pe_int (fun _ _ => rfl)) pe_int)) pa_nil)) (fun _ _ _ _ => My.pf_nil) (fun _ _ _ _ => (pe_call ((ok_name T).mono (by decide)) hr rfl T.m_name T.F_name.kp T.b_name .nil pass0 (pa_cons (pe_ix ix_list (pv 1) pe_int (fun _ _ => rfl)) (pa_cons (pv 0) pa_nil)))))
    (pss_cons (ps_set (i := 5) sc_plan.nd rfl (Or.inl rfl) (pe_ix ix_list (pe_lst (pa_cons pe_int (pa_cons pe_int (pa_cons pe_int (pa_cons (pe_op op_pow pe_int pe_int) pa_nil))))) (pe_op op_mod (pe_op My.op_fdivB (pe_ix ix_list (pv 3) pe_int (fun _ _ => rfl)) pe_int) pe_int) (fun _ _ => rfl)))
    (pss_cons (My.ps_comp (j := 6) (caps := [0, 1]) (cn := ["_law_script", "_law_start"]) (My.caps_of rfl rfl (by rfl) (by rfl) rfl ⟨rfl, ⟨rfl, trivial⟩⟩ (by rfl) rfl ⟨⟨rfl, rfl, rfl, rfl, _, rfl⟩, ⟨⟨rfl, rfl, rfl, rfl, _, rfl⟩, trivial⟩⟩ (by decide)) rfl sc_plan.nd rfl rfl (pi_range1 rfl T.z_range (pa_cons (pv 2) pa_nil)) (fun _ _ _ _ => My.pf_nil) (fun _ _ _ _ => (pe_call ((ok_cell_at T).mono (by decide)) hr rfl T.m_cell_at T.F_cell_at.kp T.b_cell_at .nil pass0 (pa_cons (pv 1) (pa_cons (pe_op op_add (pv 2) (pv 0)) pa_nil)))))
    (pss_cons (ps_set (i := 7) sc_plan.nd rfl (Or.inl rfl) (pe_call ((ok_elders T).mono (by decide)) hr rfl T.m_elders T.F_elders.kp T.b_elders .nil pass0 (pa_cons (pv 6) (pa_cons (pe_op op_mod (pe_ix ix_list (pv 3) pe_int (fun _ _ => rfl)) pe_int) pa_nil))))
    (pss_cons (ps_set (i := 8) sc_plan.nd rfl (Or.inl rfl) (pe_call ((ok_promises T).mono (by decide)) hr rfl T.m_promises T.F_promises.kp T.b_promises .nil pass0 (pa_cons (pe_op op_cat (pe_lst (pa_cons (pe_ix ix_list (pv 3) pe_int (fun _ _ => rfl)) pa_nil)) (pv 6)) (pa_cons (pv 4) (pa_cons (pv 5) pa_nil)))))
    (pss_cons (ps_set (i := 9) sc_plan.nd rfl (Or.inl rfl) (pe_call ((ok_caps T).mono (by decide)) hr rfl T.m_caps T.F_caps.kp T.b_caps .nil pass0 (pa_cons (pe_op op_cat (pe_lst (pa_cons (pe_ix ix_list (pv 3) pe_int (fun _ _ => rfl)) pa_nil)) (pv 6)) (pa_cons (pe_call ((ok_sums T).mono (by decide)) hr rfl T.m_sums T.F_sums.kp T.b_sums .nil pass0 (pa_cons (pv 7) (pa_cons (pv 8) pa_nil))) (pa_cons (pv 4) (pa_cons (pv 5) pa_nil))))))
    (pss_cons (My.ps_comp (j := 10) (caps := [3]) (cn := ["_law_head"]) (My.caps_of rfl rfl (by rfl) (by rfl) rfl ⟨rfl, trivial⟩ (by rfl) rfl ⟨⟨rfl, rfl, rfl, rfl, _, rfl⟩, trivial⟩ (by decide)) rfl sc_plan.nd rfl rfl (pi_range1 rfl T.z_range (pa_cons (pe_op op_add (pv 2) pe_int) pa_nil)) (fun _ _ _ _ => My.pf_nil) (fun _ _ _ _ => (pe_call ((ok_name T).mono (by decide)) hr rfl T.m_name T.F_name.kp T.b_name .nil pass0 (pa_cons (pe_ix ix_list (pv 1) pe_int (fun _ _ => rfl)) (pa_cons (pv 0) pa_nil)))))
    (pss_one (ps_ret (pe_lst (pa_cons (pv 4) (pa_cons (pv 10) (pa_cons (pv 7) (pa_cons (pv 8) (pa_cons (pv 9) pa_nil)))))))))))))))), ?_⟩
  try dsimp only [L2.cxOf, L2.Cx.nox, L2.Cx.wish, My.xw, My.pnd, My.suite]
  try dsimp only [My.cxC]
  refine r_start (σ := [some (.ref a), some (.int st), some (.int ct), none, none, none, none, none, none, none, none]) rfl ?_
  generalize hci : ((ct : Nat) : Int) = ci
  walk_at "go"
  -- head
  intro C s0 H0 fp lh hlh
  refine c_by 4 (fun i H' => H' = upd H lh (.lst (((List.range i).map fun k : Nat => cell ns (0 + (k : Int))).map V.int))) rfl (fun i H' hi _ => hi) (fun H' _ => Nat.le_refl _) ?_ ?_
  · rintro i H' v H'' hi rfl ⟨rfl, rfl⟩
    have hS' := sqL_new (o := .lst (((List.range i).map fun k : Nat => cell ns (0 + (k : Int))).map V.int)) hS hlh
    walk_at "go"
    refine ⟨a, ns, _, rfl, hS', by omega, ?_⟩
    refine ⟨_, upd_same, by rw [List.length_map, List.length_map, List.length_range]; show _ < 16777216; omega, ?_⟩
    rw [upd_upd, List.range_succ, List.map_append, List.map_append]; rfl
  rintro H' rfl
  have eH : upd H lh (.lst (((List.range 4).map fun k : Nat => cell ns (0 + (k : Int))).map V.int)) lh = some (.lst [.int (cell ns (0 + ((0 : Nat) : Int))), .int (cell ns (0 + ((1 : Nat) : Int))), .int (cell ns (0 + ((2 : Nat) : Int))), .int (cell ns (0 + ((3 : Nat) : Int)))]) := upd_same
  have s1 := same_new hlh (.lst (((List.range 4).map fun k : Nat => cell ns (0 + (k : Int))).map V.int))
  generalize upd H lh (.lst (((List.range 4).map fun k : Nat => cell ns (0 + (k : Int))).map V.int)) = H1 at *
  generalize cell ns (0 + ((0 : Nat) : Int)) = c0 at *
  generalize cell ns (0 + ((1 : Nat) : Int)) = c1 at *
  generalize cell ns (0 + ((2 : Nat) : Int)) = c2 at *
  generalize cell ns (0 + ((3 : Nat) : Int)) = c3 at *
  have k0 := Int.emod_nonneg c0 (show (3 : Int) ≠ 0 by decide)
  have k1 := Int.emod_lt_of_pos c0 (show (0 : Int) < 3 by decide)
  walk_at "go"
  -- wares
  intro C2 s2' H02 fp2 lw hlw
  generalize hnw : (1 + c0 % 3).toNat = nw
  have nw1 : 1 ≤ nw ∧ nw ≤ 3 := by omega
  refine c_by nw (fun i H' => H' = upd H1 lw (.lst (((List.range i).map fun k : Nat => nmS c1 (0 + (k : Int))).map V.str))) rfl (fun i H' hi _ => hi) (fun H' _ => Nat.le_refl _) ?_ ?_
  · rintro i H' v H'' hi rfl ⟨rfl, rfl⟩
    have eH' := look_new (o' := .lst (((List.range i).map fun k : Nat => nmS c1 (0 + (k : Int))).map V.str)) eH hlw
    walk_at "go"
    refine ⟨_, _, rfl, by omega, by omega, ?_⟩
    refine ⟨_, upd_same, by rw [List.length_map, List.length_map, List.length_range]; show _ < 16777216; omega, ?_⟩
    rw [upd_upd, List.range_succ, List.map_append, List.map_append]; rfl
  rintro H' rfl
  have hwl : ((List.range nw).map fun k : Nat => nmS c1 (0 + (k : Int))).length = nw := by rw [List.length_map, List.length_range]
  have hwg : ∀ z ∈ (List.range nw).map fun k : Nat => nmS c1 (0 + (k : Int)), goodS z = true := fun z hz => by
    obtain ⟨k, _, rfl⟩ := List.mem_map.mp hz
    exact nmS_good _ _
  have hwn := nm_nodup c1 (n := nw) (by omega)
  generalize ((List.range nw).map fun k : Nat => nmS c1 (0 + (k : Int))) = ws at *
  have s2 := same_new hlw (.lst (ws.map V.str))
  have eW : upd H1 lw (.lst (ws.map V.str)) lw = some (.lst (ws.map V.str)) := upd_same
  generalize upd H1 lw (.lst (ws.map V.str)) = H2 at *
  have eH2 := s2 _ _ eH
  walk_at "go"
  rename_i pm hpm
  have s3 := same_new hpm (.lst [V.int 1, V.int 1, V.int 7000000001, V.int (10 ^ Int.toNat 27)])
  have m0 := Int.emod_nonneg (c0.fdiv 3) (show (4 : Int) ≠ 0 by decide)
  have m1 := Int.emod_lt_of_pos (c0.fdiv 3) (show (0 : Int) < 4 by decide)
  refine r_menu (xs := [1, 1, 7000000001, 10 ^ Int.toNat 27]) (SqL.of upd_same) m0 m1 fun sc hsc => ?_
  have sk : ScOk sc := by
    simp only [List.mem_cons, List.not_mem_nil, or_false] at hsc
    have e27 : (10 : Int) ^ Int.toNat 27 = 10 ^ 27 := rfl
    rw [e27] at hsc
    exact ⟨by omega, by omega⟩
  clear hsc
  generalize upd H2 pm (.lst [V.int 1, V.int 1, V.int 7000000001, V.int (10 ^ Int.toNat 27)]) = H3 at *
  have s13 := (s1.trans s2).trans s3
  have eH3 := s3 _ _ eH2
  have eW3 := s3 _ _ eW
  walk_at "go"
  -- cells
  intro C3 s3' H03 fp3 lc hlc
  have ect : ci.toNat = ct := by omega
  refine c_by ci.toNat (fun i H' => ∃ cs : List Int, H' = upd H3 lc (.lst (cs.map V.int)) ∧ cs.length = i) ⟨[], rfl, rfl⟩ (fun i H' hi _ => hi) (fun H' _ => Nat.le_refl _) ?_ ?_
  · rintro i H' v H'' hi ⟨cs, rfl, hc⟩ ⟨rfl, rfl⟩
    have hS' := sqL_new (o := .lst (cs.map V.int)) (s13.seq hS) hlc
    walk_at "go"
    refine ⟨a, ns, _, rfl, hS', by omega, ?_⟩
    refine ⟨_, upd_same, by rw [List.length_map]; show _ < 16777216; omega, ?_⟩
    exact ⟨cs ++ [_], by rw [upd_upd, List.map_append]; rfl, by rw [List.length_append, hc]; rfl⟩
  rintro H' ⟨cs, rfl, hc⟩
  have s4 := same_new hlc (.lst (cs.map V.int))
  have eC : upd H3 lc (.lst (cs.map V.int)) lc = some (.lst (cs.map V.int)) := upd_same
  generalize upd H3 lc (.lst (cs.map V.int)) = H4 at *
  have eH4 := s4 _ _ eH3
  have eW4 := s4 _ _ eW3
  walk_at "go"
  refine ⟨lc, cs, _, rfl, SqL.of eC, by omega, fun le es hle hel hlo => ?_⟩
  have s5 := same_new hle (.lst (.non :: es.map iV))
  have eE : upd H4 le (.lst (.non :: es.map iV)) le = some (.lst (.non :: es.map iV)) := upd_same
  generalize upd H4 le (.lst (.non :: es.map iV)) = H5 at *
  have eH5 := s5 _ _ eH4
  have eW5 := s5 _ _ eW4
  have eC5 := s5 _ _ eC
  walk_at "go"
  rename_i p1 hp1
  have hcl : (cs.map V.int).length = cs.length := List.length_map _
  refine r_cat upd_same (look_new eC5 hp1) (by rw [hcl]; show 1 + _ ≤ 16777216; omega) fun p2 hp2 => ?_
  have s6 := (same_new hp1 (.lst [V.int c3])).trans (same_new hp2 (.lst ([V.int c3] ++ cs.map V.int)))
  have e6 : upd (upd H5 p1 (.lst [V.int c3])) p2 (.lst ([V.int c3] ++ cs.map V.int)) p2 = some (.lst ((c3 :: cs).map V.int)) := upd_same
  generalize upd (upd H5 p1 (.lst [V.int c3])) p2 (.lst ([V.int c3] ++ cs.map V.int)) = H6 at *
  walk_at "go"
  refine ⟨p2, lw, c3 :: cs, ws, sc, rfl, SqL.of e6, by rw [List.length_cons]; omega, SqL.of (s6 _ _ eW5), by omega, sk, fun lp tp H7 s7 hlp elp htl htp => ?_⟩
  rw [List.length_cons] at htl
  have s57 := s6.trans s7
  have eH7 := s57 _ _ eH5
  have eC7 := s57 _ _ eC5
  have eW7 := s57 _ _ eW5
  have eE7 := s57 _ _ eE
  walk_at "go"
  rename_i p3 hp3
  refine r_cat upd_same (look_new eC7 hp3) (by rw [hcl]; show 1 + _ ≤ 16777216; omega) fun p4 hp4 => ?_
  have s8 := (same_new hp3 (.lst [V.int c3])).trans (same_new hp4 (.lst ([V.int c3] ++ cs.map V.int)))
  have e8 : upd (upd H7 p3 (.lst [V.int c3])) p4 (.lst ([V.int c3] ++ cs.map V.int)) p4 = some (.lst ((c3 :: cs).map V.int)) := upd_same
  generalize upd (upd H7 p3 (.lst [V.int c3])) p4 (.lst ([V.int c3] ++ cs.map V.int)) = H8 at *
  walk_at "go"
  have tpf : ∀ t ∈ tp, FinB ws (5 * 10 ^ 27) t.f := fun t m => (htp t m).fn
  refine ⟨le, lp, es, tp, ws, rfl, s8 _ _ eE7, SqL.of (s8 _ _ elp), by omega, by omega, by omega, fun k e he => (hlo k e he).1, fun t m => ⟨s8 _ _ (htp t m).loc, (htp t m).ad, fun z hz => ?_⟩, fun ls qs H9 s9 hls els hql hqf hG => ?_⟩
  · cases e : t.f z with
    | none => exact absurd e hz
    | some n => exact (tpf t m z n e).1
  have s89 := s8.trans s9
  walk_at "go"
  refine ⟨p4, ls, lw, c3 :: cs, qs, ws, sc, _, rfl, SqL.of (s9 _ _ e8), by rw [List.length_cons]; omega, SqL.of els, by rw [List.length_cons]; omega, SqL.of (s89 _ _ eW7), by omega, sk, hG, fun j v hj => ⟨?_, ?_⟩, fun lcp tc H10 s10 hlcp elcp htcl htc => ?_⟩
  · refine sumR_nn fun k hk => ?_
    split
    · exact (ptN_bd (by decide) tpf k v).1
    · exact Int.le_refl _
  · have z := sumR_bd (n := tp.length) (f := fun k => if j ∈ lineN (elN es) k then ptN tp k v else 0) (B := 5 * 10 ^ 27) fun k hk => by
      show (if j ∈ lineN (elN es) k then ptN tp k v else 0) ≤ _
      split
      · exact (ptN_bd (by decide) tpf k v).2
      · decide
    have z2 : (tp.length : Int) * (5 * 10 ^ 27) ≤ 12 * (5 * 10 ^ 27) := Int.mul_le_mul_of_nonneg_right (by omega) (by decide)
    omega
  rw [List.length_cons] at htcl
  have s710 := s89.trans s10
  have eH10 := s710 _ _ eH7
  walk_at "go"
  -- names
  intro C4 s4' H04 fp4 ln hln
  generalize hnn : (ci + 1).toNat = nn
  have nn1 : nn = ct + 1 := by omega
  refine c_by nn (fun i H' => H' = upd H10 ln (.lst (((List.range i).map fun k : Nat => nmS c2 (0 + (k : Int))).map V.str))) rfl (fun i H' hi _ => hi) (fun H' _ => Nat.le_refl _) ?_ ?_
  · rintro i H' v H'' hi rfl ⟨rfl, rfl⟩
    have eH' := look_new (o' := .lst (((List.range i).map fun k : Nat => nmS c2 (0 + (k : Int))).map V.str)) eH10 hln
    walk_at "go"
    refine ⟨_, _, rfl, by omega, by omega, ?_⟩
    refine ⟨_, upd_same, by rw [List.length_map, List.length_map, List.length_range]; show _ < 16777216; omega, ?_⟩
    rw [upd_upd, List.range_succ, List.map_append, List.map_append]; rfl
  rintro H' rfl
  have hnl : ((List.range nn).map fun k : Nat => nmS c2 (0 + (k : Int))).length = nn := by rw [List.length_map, List.length_range]
  have hng : ∀ z ∈ (List.range nn).map fun k : Nat => nmS c2 (0 + (k : Int)), goodS z = true := fun z hz => by
    obtain ⟨k, _, rfl⟩ := List.mem_map.mp hz
    exact nmS_good _ _
  have hnd := nm_nodup c2 (n := nn) (by omega)
  have hfr : ∀ k : Nat, ct + 1 ≤ k → k ≤ 20 → nmS c2 (k : Int) ∉ (List.range nn).map fun k : Nat => nmS c2 (0 + (k : Int)) := fun k k0 k1 m => by
    obtain ⟨j, hj, e⟩ := List.mem_map.mp m
    have hj' := List.mem_range.mp hj
    have := nmS_inj (by omega) (by omega) (by omega) (by omega) e
    omega
  generalize ((List.range nn).map fun k : Nat => nmS c2 (0 + (k : Int))) = nm at *
  have s11 := same_new hln (.lst (nm.map V.str))
  have eN : upd H10 ln (.lst (nm.map V.str)) ln = some (.lst (nm.map V.str)) := upd_same
  generalize upd H10 ln (.lst (nm.map V.str)) = H11 at *
  walk_at "go"
  rename_i pl hpl
  have s12 := same_new hpl (.lst [V.ref lw, V.ref ln, V.ref le, V.ref lp, V.ref lcp])
  have s1012 := s11.trans s12
  have s712 := s710.trans s1012
  have sAll : Same H _ := ((((s13.trans s4).trans s5).trans s57).trans s712)
  have a1 : 1 ≤ ws.length := by omega
  have a2 : ws.length ≤ 3 := by omega
  have a3 : nm.length = es.length + 1 := by omega
  have a4 : nm.length ≤ 12 := by omega
  have a5 : tp.length = nm.length := by omega
  have a6 : tc.length = nm.length := by omega
  have a7 : nm.length = ct + 1 := by omega
  refine q pl ⟨lw, ln, le, lp, lcp, ws, nm, es, tp, tc⟩ _ sAll ⟨a1, a2, hwg, hwn, a3, a4, hng, hnd, hlo, a5, a6, fun t m => ⟨(htp t m).ad, (htp t m).fn⟩, fun t m => ?_, fun j t ht => (htc j t ht).2⟩
    ⟨upd_same, s712 _ _ eW7, s12 _ _ eN, s712 _ _ eE7, s712 _ _ elp, s1012 _ _ elcp, fun t m => s712 _ _ (htp t m).loc, fun t m => ?_⟩ a7 hfr
  · obtain ⟨j, hj, e⟩ := List.mem_iff_getElem.mp m
    have := (htc j t (by rw [List.getElem?_eq_getElem hj, e])).1
    exact ⟨this.ad, this.fn⟩
  · obtain ⟨j, hj, e⟩ := List.mem_iff_getElem.mp m
    exact s1012 _ _ (htc j t (by rw [List.getElem?_eq_getElem hj, e])).1.loc
theorem elN_low {es : List Nat} (lo : ∀ (k e : Nat), es[k]? = some e → e ≤ k) (n : Nat) : Low (elN es) n := fun k k0 kn => by
  unfold elN
  cases e : es[k - 1]? with
  | none => exact k0
  | some a => have := lo _ _ e; show a < k; omega
theorem elN_at {es : List Nat} {b : Nat} (hb : b < es.length) : elN es (b + 1) = es[b] := by unfold elN; rw [Nat.add_sub_cancel, List.getElem?_eq_getElem hb]; rfl
theorem FinB.fin {ws : List Str} {B : Int} {f : Str → Option Int} (h : FinB ws B f) (hB : B ≤ 10 ^ 30) : Fin ws f := fun z n e => by
  obtain ⟨a, b, c⟩ := h z n e
  exact ⟨a, b, by omega⟩
theorem fin_perm {ws ws' : List Str} {f : Str → Option Int} (h : Fin ws f) (p : ws'.Perm ws) : Fin ws' f := fun z n e => by
  obtain ⟨a, b, c⟩ := h z n e
  exact ⟨p.mem_iff.mpr a, b, c⟩
def nmF (P : PL) (k : Nat) : Str := (P.nm[k]?).getD (ofL [])
def tfF (ts : List Pt) (k : Nat) : Str → Option Int := match ts[k]? with
  | some t => t.f
  | none => noF
theorem ptN_eq (ts : List Pt) (k : Nat) (v : Str) : ptN ts k v = gN (tfF ts k) v := by
  unfold ptN tfF
  cases ts[k]? <;> rfl
structure TInv (S : Ts) (P : PL) (n : Nat) (wt : Nat → Int) : Prop where
  pl : Pl S (nmF P) (elN P.es) n
  wp : S.ws.Perm P.ws
  ws : PyProof.Rows.sortedS S.ws = true
  da : ∀ (k : Nat) (e : He), S.hl[k]? = some e → (∀ v, e.x.fp v = posF (tfF P.tp k) v) ∧ (∀ v, e.x.fc v = posF (tfF P.tc k) v) ∧ e.x.w = wt k
theorem nmF_at {P : PL} {k : Nat} (h : k < P.nm.length) : nmF P k = P.nm[k] := by unfold nmF; rw [List.getElem?_eq_getElem h]; rfl
theorem nmF_inj {P : PL} (f : PlF P) {n : Nat} (hn : n ≤ P.nm.length) : ∀ i j, i < n → j < n → nmF P i = nmF P j → i = j := fun i j hi hj e => by
  rw [nmF_at (by omega), nmF_at (by omega)] at e
  rcases Nat.lt_trichotomy i j with h | h | h
  · exact absurd e ((List.pairwise_iff_getElem.mp f.nn) i j (by omega) (by omega) h)
  · exact h
  · exact absurd e.symm ((List.pairwise_iff_getElem.mp f.nn) j i (by omega) (by omega) h)
theorem PlF.low {P : PL} (f : PlF P) (n : Nat) : Low (elN P.es) n := elN_low (fun k e h => (f.lo k e h).1) n
theorem tf_fin {P : PL} (f : PlF P) {k : Nat} (hk : k < P.nm.length) : ∃ t, P.tp[k]? = some t ∧ t ∈ P.tp ∧ tfF P.tp k = t.f ∧ AD t.k t.f ∧ Fin P.ws t.f := by
  have h : k < P.tp.length := by rw [f.pl]; exact hk
  have e := List.getElem?_eq_getElem h
  refine ⟨_, e, List.getElem_mem h, by unfold tfF; rw [e], (f.pa _ (List.getElem_mem h)).1, (f.pa _ (List.getElem_mem h)).2.fin (by decide)⟩
theorem tc_fin {P : PL} (f : PlF P) {k : Nat} (hk : k < P.nm.length) : ∃ t, P.tc[k]? = some t ∧ t ∈ P.tc ∧ tfF P.tc k = t.f ∧ AD t.k t.f ∧ Fin P.ws t.f := by
  have h : k < P.tc.length := by rw [f.cl]; exact hk
  have e := List.getElem?_eq_getElem h
  refine ⟨_, e, List.getElem_mem h, by unfold tfF; rw [e], (f.ca _ (List.getElem_mem h)).1, (f.ca _ (List.getElem_mem h)).2.fin (by decide)⟩
theorem fin_nn {ws : List Str} {f : Str → Option Int} (h : Fin ws f) (v : Str) : 0 ≤ gN f v := by
  unfold gN
  cases e : f v with
  | none => exact Int.le_refl _
  | some n => exact (h v n e).2.1
theorem fin_out {ws : List Str} {f : Str → Option Int} (h : Fin ws f) {v : Str} (hv : v ∉ ws) : gN f v = 0 := by
  unfold gN
  cases e : f v with
  | none => rfl
  | some n => exact absurd (h v n e).1 hv
theorem pr_nn {P : PL} (f : PlF P) {k : Nat} (hk : k < P.nm.length) (v : Str) : 0 ≤ gN (tfF P.tp k) v := by
  obtain ⟨t, _, _, e, _, h⟩ := tf_fin f hk
  rw [e]; exact fin_nn h v
theorem cap_ge {P : PL} (f : PlF P) {j : Nat} (hj : j < P.nm.length) (v : Str) : (sumR P.nm.length fun k => if j ∈ lineN (elN P.es) k then gN (tfF P.tp k) v else 0) ≤ gN (tfF P.tc j) v := by
  obtain ⟨t, e1, e2, e3, e4, e5⟩ := tc_fin f hj
  rw [e3]
  by_cases hv : v ∈ P.ws
  · have z := f.le j t e1 v hv
    rw [f.pl] at z
    have : (fun k => if j ∈ lineN (elN P.es) k then ptN P.tp k v else 0) = fun k => if j ∈ lineN (elN P.es) k then gN (tfF P.tp k) v else 0 := funext fun k => by rw [ptN_eq]
    rw [this] at z
    exact z
  · have z : (sumR P.nm.length fun k => if j ∈ lineN (elN P.es) k then gN (tfF P.tp k) v else 0) ≤ sumR P.nm.length fun _ => 0 := sumR_le fun k hk => by
      split
      · obtain ⟨t', _, _, q, _, h⟩ := tf_fin f hk
        rw [q, fin_out h hv]; exact Int.le_refl _
      · exact Int.le_refl _
    have z0 : ∀ n, (sumR n fun _ => 0) = 0 := fun n => by
      induction n with
      | zero => rfl
      | succ n ih => show sumR n _ + 0 = 0; rw [ih]; rfl
    rw [z0] at z
    have := fin_nn e5 v
    omega
theorem own_le {P : PL} (f : PlF P) {k : Nat} (hk : k < P.nm.length) (v : Str) : gN (tfF P.tp k) v ≤ gN (tfF P.tc k) v := by
  have z := cap_ge f hk v
  have h : gN (tfF P.tp k) v ≤ sumR P.nm.length fun i => if k ∈ lineN (elN P.es) i then gN (tfF P.tp i) v else 0 := by
    have h1 : sumL (fun i => if k ∈ lineN (elN P.es) i then gN (tfF P.tp i) v else 0) [k] ≤ sumR P.nm.length fun i => if k ∈ lineN (elN P.es) i then gN (tfF P.tp i) v else 0 :=
      sumL_le (List.nodup_cons.mpr ⟨by simp, List.nodup_nil⟩) (fun i hi => by have : i = k := by simpa using hi
                                                                              omega) fun i hi => by
        split
        · exact pr_nn f hi v
        · exact Int.le_refl _
    have h2 : sumL (fun i => if k ∈ lineN (elN P.es) i then gN (tfF P.tp i) v else 0) [k] = gN (tfF P.tp k) v := by
      show (if k ∈ lineN (elN P.es) k then gN (tfF P.tp k) v else 0) + 0 = _
      rw [if_pos (lineN_self (f.low P.nm.length) hk), Int.add_zero]
    omega
  omega
theorem TInv.ask {S : Ts} {P : PL} {k : Nat} {wt : Nat → Int} (h : TInv S P k wt) (f : PlF P) (k0 : 0 < k) (kn : k < P.nm.length) : ∃ e, S.at (nmF P (elN P.es k)) = some e ∧ e.n = nmF P (elN P.es k) ∧ WF S ∧ OfWares S ∧ S.ws.length ≤ 50 ∧ S.hl.length < 40 ∧ S.at (nmF P k) = none ∧
    ∃ zs, LineOf S e.n zs ∧ zs.length < 12 ∧ ∀ y ∈ zs, ∃ e', S.at y = some e' ∧ Dep S 12 y ∧ ∀ bs, Ben S 12 y bs → ∀ v n, addF (sumF (bs.map (ptOf S))) (posF (tfF P.tp k)) v = some n → n ≤ gN e'.x.fc v := by
  have low := f.low P.nm.length
  have lk := low k k0 kn
  have n12 := f.n12
  obtain ⟨e, h1, h2, h3⟩ := h.pl.at lk
  have en : e.n = nmF P (elN P.es k) := (at_mem h1).2
  refine ⟨e, h1, en, h.pl.wf, ⟨by have := h.wp.length_eq; have := f.w3; omega, fun e' he z hz => ?_⟩, by have := h.wp.length_eq; have := f.w3; omega, by rw [h.pl.len]; omega, ?_, (lineN (elN P.es) (elN P.es k)).map (nmF P), by rw [en]; exact h.pl.line _ lk, ?_, fun y hy => ?_⟩
  · obtain ⟨i, hi, q, _⟩ := h.pl.ix he
    obtain ⟨t, _, _, q2, _, q3⟩ := tf_fin f (k := i) (by omega)
    rw [(h.da i e' q).1, q2] at hz
    exact h.wp.mem_iff.mpr (pos_in q3 z hz)
  · cases c : S.at (nmF P k) with
    | none => rfl
    | some e' =>
      obtain ⟨i, hi, _, q, _⟩ := h.pl.ix (at_mem c).1
      have := nmF_inj f (n := P.nm.length) (Nat.le_refl _) i k (by omega) kn (by rw [← q, (at_mem c).2])
      omega
  · rw [List.length_map]
    have hl := lineN_len low (elN P.es k) (by omega)
    have : elN P.es k ≤ 10 := by
      obtain ⟨b, rfl⟩ : ∃ b, k = b + 1 := ⟨k - 1, by omega⟩
      have hb : b < P.es.length := by have := f.nl; omega
      rw [elN_at hb]
      exact (f.lo b _ (List.getElem?_eq_getElem hb)).2
    omega
  · obtain ⟨j, hj, rfl⟩ := List.mem_map.mp hy
    have jl := lineN_le low (elN P.es k) (by omega) j hj
    have jk : j < k := by omega
    obtain ⟨e', q1, q2, _⟩ := h.pl.at jk
    refine ⟨e', q1, h.pl.dep 12 j jk (by omega), fun bs hb v n hn => ?_⟩
    have hs := h.pl.sums (v := v) (pr := fun i => gN (tfF P.tp i) v) (fun i e2 he2 => ?_) (fun i hi => pr_nn f (by omega) v) jk hb
    · have g1 : n = gN (addF (sumF (bs.map (ptOf S))) (posF (tfF P.tp k))) v := by unfold gN; rw [hn]; rfl
      obtain ⟨t, _, _, t3, _, t5⟩ := tf_fin f kn
      rw [gN_add, t3, gN_posF t5, ← t3] at g1
      obtain ⟨u, _, _, u3, _, u5⟩ := tc_fin f (k := j) (by omega)
      have fc : e'.x.fc = posF u.f := by rw [← u3]; exact funext (h.da j e' q2).2.1
      rw [fc, gN_posF u5, ← u3]
      have cg := cap_ge f (j := j) (by omega) v
      have mono := sumR_mono (f := fun i => if j ∈ lineN (elN P.es) i then gN (tfF P.tp i) v else 0) (n := k + 1) (m := P.nm.length) (by omega) fun i hi => by
        try dsimp only
        split
        · exact pr_nn f hi v
        · exact Int.le_refl _
      have top : (sumR (k + 1) fun i => if j ∈ lineN (elN P.es) i then gN (tfF P.tp i) v else 0) = (sumR k fun i => if j ∈ lineN (elN P.es) i then gN (tfF P.tp i) v else 0) + gN (tfF P.tp k) v := by
        show sumR k _ + (if j ∈ lineN (elN P.es) k then gN (tfF P.tp k) v else 0) = _
        rw [if_pos]
        rw [lineN_up low k0 kn]
        exact List.mem_cons_of_mem _ hj
      omega
    · obtain ⟨t, _, _, t3, _, t5⟩ := tf_fin f (k := i) (by have := (List.getElem?_eq_some_iff.mp he2).1; rw [h.pl.len] at this; omega)
      rw [show e2.x.fp = posF (tfF P.tp i) from funext (h.da i e2 he2).1, t3]
      exact gN_posF t5 v
theorem TInv.next {S : Ts} {P : PL} {k : Nat} {wt : Nat → Int} (h : TInv S P k wt) (f : PlF P) (k0 : 0 < k) (kn : k < P.nm.length) {e2 : He} {w : Int} (en : e2.n = nmF P k) (el : e2.x.el = some (nmF P (elN P.es k))) (ew : e2.x.w = w) (ep : ∀ v, e2.x.fp v = posF (tfF P.tp k) v) (ec : ∀ v, e2.x.fc v = posF (tfF P.tc k) v) :
    TInv { S with hl := S.hl ++ [e2] } P (k + 1) (fun i => if i = k then w else wt i) := by
  have hl := h.pl.len
  have split : ∀ (i : Nat) (e : He), (S.hl ++ [e2])[i]? = some e → (i < k ∧ S.hl[i]? = some e) ∨ (i = k ∧ e = e2) := fun i e he => by
    rcases Nat.lt_or_ge i S.hl.length with c | c
    · rw [List.getElem?_append_left c] at he
      exact .inl ⟨by omega, he⟩
    · have := (List.getElem?_eq_some_iff.mp he).1
      rw [List.length_append, List.length_singleton] at this
      have ei : i = S.hl.length := by omega
      rw [List.getElem?_append_right c, ei, Nat.sub_self] at he
      exact .inr ⟨by omega, by simpa using he.symm⟩
  refine ⟨⟨by show (S.hl ++ [e2]).length = _; rw [List.length_append, hl]; rfl, fun i e he => ?_, nmF_inj f (by omega), fun i i0 ik => f.low P.nm.length i i0 (by omega)⟩, h.wp, h.ws, fun i e he => ?_⟩
  · rcases split i e he with ⟨a, b⟩ | ⟨rfl, rfl⟩
    · exact h.pl.nam i e b
    · exact ⟨en, by rw [if_neg (by omega)]; exact el⟩
  · rcases split i e he with ⟨a, b⟩ | ⟨rfl, rfl⟩
    · obtain ⟨x, y, z⟩ := h.da i e b
      exact ⟨x, y, by rw [if_neg (by omega)]; exact z⟩
    · exact ⟨ep, ec, by rw [if_pos rfl]; exact ew⟩
structure Apart (S : Ts) (t q : Addr) : Prop where
  t : t ≠ q
  sw : S.sw ≠ q
  hs : S.hs ≠ q
  ho : ∀ e ∈ S.hl, e.a ≠ q ∧ e.x.pa ≠ q ∧ e.x.ca ≠ q
theorem PlAt.sb {d : Ad} {H H' : Hp} {t p : Addr} {S : Ts} {P : PL} {e : He} (h : PlAt H p P) (f : PlF P) (hT : TrAt d H t S) (he : e ∈ S.hl) (sb : SameBut S.hs H H') : PlAt H' p P := by
  have hh := hT.2.2.1
  have nL : ∀ {b : Addr} {xs : List V}, H b = some (.lst xs) → b ≠ S.hs := fun e1 e2 => by subst e2; rw [hh] at e1; cases e1
  have nD : ∀ {b : Addr} {k : List (Key × V)} {g : Str → Option Int}, H b = some (.dK k) → AD k g → b ≠ S.hs := fun e1 a e2 => by
    subst e2
    rw [hh] at e1
    exact ad_oK a (z := e.n) (h := e.a) (by rw [look_at, at_of hT.2.2.2.1 he]; rfl) (Option.some.inj e1).symm
  exact ⟨sb _ _ (nL h.top) h.top, sb _ _ (nL h.w) h.w, sb _ _ (nL h.n) h.n, sb _ _ (nL h.e) h.e, sb _ _ (nL h.pr) h.pr, sb _ _ (nL h.cp) h.cp,
    fun t m => sb _ _ (nD (h.pd t m) (f.pa t m).1) (h.pd t m), fun t m => sb _ _ (nD (h.cd t m) (f.ca t m).1) (h.cd t m)⟩
theorem sort_eq {ss ss' : List Str} (h : ss.Perm ss') (a : PyProof.Rows.sortedS ss = true) (b : PyProof.Rows.sortedS ss' = true) : ss = ss' :=
  List.Perm.eq_of_pairwise (le := leS) (fun x y _ _ h1 h2 => leS_anti h1 h2) (sorted_pw a) (sorted_pw b) h
theorem TInv.names {S : Ts} {P : PL} {n : Nat} {wt : Nat → Int} (h : TInv S P n wt) (hn : n ≤ P.nm.length) : S.hl.map (·.n) = P.nm.take n := by
  apply List.ext_getElem?
  intro i
  rw [List.getElem?_map]
  rcases Nat.lt_or_ge i n with c | c
  · obtain ⟨e, h1, h2, _⟩ := h.pl.get c
    rw [h1, List.getElem?_take_of_lt c, List.getElem?_eq_getElem (by omega), ← nmF_at (by omega)]
    show some e.n = _
    rw [h2]
  · rw [List.getElem?_eq_none (by rw [h.pl.len]; exact c), List.getElem?_eq_none (by rw [List.length_take]; omega)]
    rfl
theorem pl_one {S : Ts} {P : PL} {e : He} (f : PlF P) (hl : S.hl = [e]) (en : e.n = nmF P 0) (el : e.x.el = none) : Pl S (nmF P) (elN P.es) 1 := by
  refine ⟨by rw [hl]; rfl, fun k e' he => ?_, fun i j hi hj _ => by omega, fun k k0 k1 => by omega⟩
  rw [hl] at he
  have hk := (List.getElem?_eq_some_iff.mp he).1
  have e0 : k = 0 := by rw [List.length_singleton] at hk; omega
  subst e0
  have : e' = e := by simpa using he.symm
  subst this
  exact ⟨en, el⟩
theorem TInv.cast {S : Ts} {P : PL} {n : Nat} {wt wt' : Nat → Int} (h : TInv S P n wt) (e : ∀ j, j < n → wt j = wt' j) : TInv S P n wt' := ⟨h.pl, h.wp, h.ws, fun k x hx => by
  have hk := (List.getElem?_eq_some_iff.mp hx).1
  rw [h.pl.len] at hk
  obtain ⟨a, b, c⟩ := h.da k x hx
  exact ⟨a, b, c.trans (e k hk)⟩⟩
theorem fin_no {ws : List Str} : Fin ws noF := fun z n e => by cases e
def sp_tree (K : PySem.W.Frag) (d : Ad) : Sp := fun vs H Q _ => ∃ (p : Addr) (P : PL), vs = [.ref p] ∧ PlF P ∧ PlAt H p P ∧ ∀ (t : Addr) (S : Ts) H', Same H H' → H t = none → H S.hs = none → TrAt d H' t S → TInv S P P.nm.length (fun _ => 1) → Q (.ref t) H'
theorem ok_tree {P : Program} {w : World} {K : PySem.W.Frag} {mg : Str → Option Value} {base : Heap} {d : Ad} (T : Tx K mg d) : FnOk P w K mg base CX0 20 d.f_tree d.fd_tree ["_law_plan_here"] (sp_tree K d) := by
  refine T.F_tree.ok sc_tree (fun vs H Q E h => ?_) (fun cdv A outer s H vs Q E hr h => ?_)
  · obtain ⟨p, P, rfl, _⟩ := h; rfl
  obtain ⟨p, P, rfl, pf, pa, q⟩ := h
  have n12 := pf.n12
  have nl := pf.nl
  have gt : GoodT P.ws := ⟨pf.w1, by have := pf.w3; omega, pf.wg, pf.wn⟩
  refine ⟨_, (pss_cons (ps_asg (pv 0) (My.pg_lst rfl (pgs_cons (pg_name (i := 1) sc_tree.nd rfl (Or.inl rfl)) (pgs_cons (pg_name (i := 2) sc_tree.nd rfl (Or.inl rfl)) (pgs_cons (pg_name (i := 3) sc_tree.nd rfl (Or.inl rfl)) (pgs_cons (pg_name (i := 4) sc_tree.nd rfl (Or.inl rfl)) (pgs_cons (pg_name (i := 5) sc_tree.nd rfl (Or.inl rfl)) pgs_nil)))))))
    (pss_cons (ps_set (i := 6) sc_tree.nd rfl (Or.inl rfl) (My.pe_makeX (W := fun _ _ _ _ => False) T.MK_Tree ((ok_Tree_init T).mono (by decide)) hr rfl T.m_Tree T.b1_Tree_init T.rd_Tree_init My.xes_no (pa_cons (pe_callTy My.call_listR rfl T.z_list PyProof.Rows.boot_list (pa_cons (pv 1) pa_nil)) (pa_cons (pe_ix ix_list (pv 2) pe_int (fun _ _ => rfl)) (pa_cons (pe_callTy My.call_dictR rfl T.z_dict PyProof.Rows.boot_dict (pa_cons (pe_ix ix_list (pv 4) pe_int (fun _ _ => rfl)) pa_nil)) (pa_cons (pe_callTy My.call_dictR rfl T.z_dict PyProof.Rows.boot_dict (pa_cons (pe_ix ix_list (pv 5) pe_int (fun _ _ => rfl)) pa_nil)) pa_nil))))))
    (pss_cons (ps_for PassesOwn.never rfl (pi_range2 rfl T.z_range (pa_cons pe_int (pa_cons (pe_callB My.call_lenN rfl T.z_len PySem.boot_len (pa_cons (pv 2) pa_nil)) pa_nil))) (pg_name (i := 7) sc_tree.nd rfl (Or.inl rfl)) (pss_one (ps_expr (My.pe_methX (W := fun _ _ _ _ => False) (pv 6) T.CL_Tree T.ME_Tree_found ((ok_Tree_found T).mono (by decide)) hr T.b1_Tree_found T.rd_Tree_found My.xes_no (pa_cons (pe_ix ix_list (pv 2) (pv 7) (fun _ _ => rfl)) (pa_cons (pe_ix ix_list (pv 2) (pe_ix ix_list (pv 3) (pv 7) (fun _ _ => rfl)) (fun _ _ => rfl)) (pa_cons (pe_callTy My.call_dictR rfl T.z_dict PyProof.Rows.boot_dict (pa_cons (pe_ix ix_list (pv 4) (pv 7) (fun _ _ => rfl)) pa_nil)) (pa_cons (pe_callTy My.call_dictR rfl T.z_dict PyProof.Rows.boot_dict (pa_cons (pe_ix ix_list (pv 5) (pv 7) (fun _ _ => rfl)) pa_nil)) pa_nil))))))))
    (pss_one (ps_ret (pv 6)))))), ?_⟩
  try dsimp only [L2.cxOf, L2.Cx.nox, L2.Cx.wish, My.xw, My.pnd, My.suite]
  refine r_start (σ := [some (.ref p), none, none, none, none, none, none, none]) rfl ?_
  have ct := T.CL_Tree
  have etop := pa.top
  have ew := pa.w
  have hz0 : P.nm[0]? = some (nmF P 0) := by rw [nmF_at (by omega)]; exact List.getElem?_eq_getElem (by omega)
  have gz : goodS (nmF P 0) = true := pf.ng _ (List.mem_of_getElem? hz0)
  have xn0 : atI (P.nm.map V.str) 0 = some (.str (nmF P 0)) := atI_nat (j := 0) (by rw [List.getElem?_map, hz0]; rfl)
  obtain ⟨tp, tp1, tp2, tp3, tp4, tp5⟩ := tf_fin pf (k := 0) (by omega)
  obtain ⟨tc, tc1, tc2, tc3, tc4, tc5⟩ := tc_fin pf (k := 0) (by omega)
  have xp : atI (P.tp.map fun t => V.ref t.a) 0 = some (.ref tp.a) := atI_nat (j := 0) (by rw [List.getElem?_map, tp1]; rfl)
  have xc : atI (P.tc.map fun t => V.ref t.a) 0 = some (.ref tc.a) := atI_nat (j := 0) (by rw [List.getElem?_map, tc1]; rfl)
  have lp1 : tp.k.length ≤ 1000 := by have := tp4.le (fun z hz => by cases e : tp.f z with | none => exact absurd e hz | some n => exact (tp5 z n e).1); have := pf.w3; omega
  have lc1 : tc.k.length ≤ 1000 := by have := tc4.le (fun z hz => by cases e : tc.f z with | none => exact absurd e hz | some n => exact (tc5 z n e).1); have := pf.w3; omega
  have ole := own_le pf (k := 0) (by omega)
  walk_at "go"
  refine r_listL (SqL.of ew) fun h0 hh0 => ?_
  have s1 := same_new hh0 (.lst (P.ws.map V.str))
  have e0 : upd H h0 (.lst (P.ws.map V.str)) h0 = some (.lst (P.ws.map V.str)) := upd_same
  generalize upd H h0 (.lst (P.ws.map V.str)) = H1 at *
  have pa1 := pa.same s1
  have en1 := pa1.n
  have ep1 := pa1.pr
  walk_at "go"
  refine r_ixL (SqL.of en1) xn0 ?_
  walk_at "go"
  refine r_ixL (SqL.of ep1) xp ?_
  have hRp : Rd H1 tp.a (.dK tp.k) := .inl (pa1.pd tp tp2)
  walk_at "go"
  rename_i h1 hh1
  have s2 := same_new hh1 (.dK tp.k)
  have e1 : upd H1 h1 (.dK tp.k) h1 = some (.dK tp.k) := upd_same
  generalize upd H1 h1 (.dK tp.k) = H2 at *
  have pa2 := pa1.same s2
  have ec2 := pa2.cp
  refine r_ixL (SqL.of ec2) xc ?_
  have hRc : Rd H2 tc.a (.dK tc.k) := .inl (pa2.cd tc tc2)
  walk_at "go"
  rename_i h2 hh2
  have s3 := same_new hh2 (.dK tc.k)
  have e2 : upd H2 h2 (.dK tc.k) h2 = some (.dK tc.k) := upd_same
  generalize upd H2 h2 (.dK tc.k) = H3 at *
  have s03 := (s1.trans s2).trans s3
  intro x dx hx hdx ne
  have sN : ∀ b u, H3 b = some u → upd (upd H3 dx (.own x)) x (.ins d.c_Tree dx []) b = some u := fun b u e => by rw [upd_ne (ne_of_none e hx), upd_ne (ne_of_none e hdx)]; exact e
  refine ⟨x, dx, h0, h1, h2, nmF P 0, P.ws, tp.k, tc.k, tp.f, tc.f, 1, rfl, upd_same, sN _ _ ((s2.trans s3) _ _ e0), gt, gz, sN _ _ (s3 _ _ e1), tp4, lp1, sN _ _ e2, tc4, lc1, tp5, tc5, by decide, by decide, fun y => by rw [← tp3, ← tc3]; exact ole y, fun S e H4 sb hT hs' f1 f2 f3 f4 hl en' ee ew' efp efc hpm hso => ⟨rfl, ?_⟩⟩
  have s4 : Same H3 H4 := fun b u e => sb b u (ne_of_none e hx) (sN b u e)
  have fr : H3 S.hs = none := by
    cases r : H3 S.hs with
    | none => rfl
    | some u => rw [sN _ _ r] at hs'; cases hs'
  have s04 := s03.trans s4
  have hs0 : H S.hs = none := s03.free fr
  have hx0 : H x = none := s03.free hx
  have tI : TInv S P (1 + 0) (fun _ => 1) := ⟨pl_one pf hl en' ee, hpm, hso, fun k e' he => by
    rw [hl] at he
    have hk := (List.getElem?_eq_some_iff.mp he).1
    have e0 : k = 0 := by rw [List.length_singleton] at hk; omega
    subst e0
    have : e' = e := by simpa using he.symm
    subst this
    exact ⟨by rw [tp3]; exact efp, by rw [tc3]; exact efc, ew'⟩⟩
  have hnl2 : (P.nm.map V.str).length = P.nm.length := List.length_map _
  have hrn1 : ((((P.nm.map V.str).length : Nat) : Int) - 1).toNat = P.nm.length - 1 := by rw [hnl2]; omega
  have en4 := s04 _ _ pa.n
  clear sN fr hs' sb f1 f2 f3 f4 hpm hso efp efc ew' ee hl en' s4 s03 s3 s2 s1 hRp hRc e0 e1 e2 pa1 pa2 en1 ep1 ec2 hx hdx ne hh0 hh1 hh2 xp xc tp4 tp5 tc4 tc5 tp1 tp2 tp3 tc1 tc2 tc3 lp1 lc1 ole gt etop ew
  walk_at "go"
  unfold iRng2
  walk_at "go"
  refine ⟨1, _, rfl, ⟨by decide, by decide, by rw [hnl2]; omega, by rw [hnl2]; omega⟩, ?_⟩
  rw [hrn1]
  refine f_range (fun i σ H' => ∃ (w : Option V) (S' : Ts), σ = [some (V.ref p), some (V.ref P.lw), some (V.ref P.ln), some (V.ref P.le), some (V.ref P.lp), some (V.ref P.lc), some (V.ref x), w] ∧ H S'.hs = none ∧ TrAt d H' x S' ∧ TInv S' P (1 + i) (fun _ => 1) ∧ Same H H') ⟨none, S, rfl, hs0, hT, tI, s04⟩ ?_ ?_
  · rintro i σ H' hi ⟨w, S', rfl, hs1, hT', hI', sm⟩
    clear hT tI s04 hs0
    have kn : 1 + i < P.nm.length := by omega
    obtain ⟨e', ae, een, hW, hOw, hw50, h40, nk, line⟩ := hI'.ask pf (by omega) kn
    obtain ⟨tp, tp1, tp2, tp3, tp4, tp5⟩ := tf_fin pf kn
    obtain ⟨tc, tc1, tc2, tc3, tc4, tc5⟩ := tc_fin pf kn
    have low := pf.low P.nm.length (1 + i) (by omega) kn
    have hb : i < P.es.length := by omega
    have eb : elN P.es (1 + i) = P.es[i] := by rw [Nat.add_comm 1 i]; exact elN_at hb
    have xe : atI (V.non :: P.es.map iV) (((1 + i : Nat)) : Int) = some (V.int ((elN P.es (1 + i) : Nat) : Int)) := by rw [eb]; exact atI_nat (by rw [Nat.add_comm 1 i, List.getElem?_cons_succ, List.getElem?_map, List.getElem?_eq_getElem hb]; rfl)
    have xn2 : atI (P.nm.map V.str) ((elN P.es (1 + i) : Nat) : Int) = some (.str (nmF P (elN P.es (1 + i)))) := by rw [nmF_at (by omega)]; exact atI_nat (by rw [List.getElem?_map, List.getElem?_eq_getElem (by omega)]; rfl)
    have xp : atI (P.tp.map fun t => V.ref t.a) (((1 + i : Nat)) : Int) = some (.ref tp.a) := atI_nat (by rw [List.getElem?_map, tp1]; rfl)
    have xc : atI (P.tc.map fun t => V.ref t.a) (((1 + i : Nat)) : Int) = some (.ref tc.a) := atI_nat (by rw [List.getElem?_map, tc1]; rfl)
    have xn : atI (P.nm.map V.str) (((1 + i : Nat)) : Int) = some (.str (nmF P (1 + i))) := by rw [nmF_at kn]; exact atI_nat (by rw [List.getElem?_map, List.getElem?_eq_getElem kn]; rfl)
    have gzk : goodS (nmF P (1 + i)) = true := by rw [nmF_at kn]; exact pf.ng _ (List.getElem_mem kn)
    have lp1 : tp.k.length ≤ 1000 := by have := tp4.le (fun z hz => by cases e : tp.f z with | none => exact absurd e hz | some n => exact (tp5 z n e).1); have := pf.w3; omega
    have lc1 : tc.k.length ≤ 1000 := by have := tc4.le (fun z hz => by cases e : tc.f z with | none => exact absurd e hz | some n => exact (tc5 z n e).1); have := pf.w3; omega
    have ole := own_le pf kn
    rw [show (1 : Int) + (i : Int) = (((1 + i : Nat)) : Int) by omega]
    generalize ((elN P.es (1 + i) : Nat) : Int) = ej at xe xn2
    generalize hki : (((1 + i : Nat)) : Int) = ki at *
    have pa' := pa.same sm
    have en' := pa'.n
    have ee' := pa'.e
    have ep' := pa'.pr
    obtain ⟨dx', ht'⟩ := id hT'.1
    clear hrn1 hnl2
    walk_at "go"
    refine r_ixL (SqL.of en') xn ?_
    walk_at "go"
    refine r_ixL (SqL.of ee') xe ?_
    walk_at "go"
    refine r_ixL (SqL.of en') xn2 ?_
    walk_at "go"
    refine r_ixL (SqL.of ep') xp ?_
    have hRp : Rd H' tp.a (.dK tp.k) := .inl (pa'.pd tp tp2)
    walk_at "go"
    rename_i h1 hh1
    have s1 := same_new hh1 (.dK tp.k)
    have e1 : upd H' h1 (.dK tp.k) h1 = some (.dK tp.k) := upd_same
    generalize upd H' h1 (.dK tp.k) = H1 at *
    have pa1 := pa'.same s1
    refine r_ixL (SqL.of pa1.cp) xc ?_
    have hRc : Rd H1 tc.a (.dK tc.k) := .inl (pa1.cd tc tc2)
    walk_at "go"
    rename_i h2 hh2
    have s2 := same_new hh2 (.dK tc.k)
    have e2 : upd H1 h2 (.dK tc.k) h2 = some (.dK tc.k) := upd_same
    generalize upd H1 h2 (.dK tc.k) = H2 at *
    have s12 := s1.trans s2
    refine ⟨x, h1, h2, S', nmF P (1 + i), .str (nmF P (elN P.es (1 + i))), tp.k, tc.k, tp.f, tc.f, 1, rfl, hT'.same s12, gzk, nk, .inl ⟨_, rfl⟩, fun hn => ?_, fun e3 he3 => ?_⟩
    · rw [show who S' (.str (nmF P (elN P.es (1 + i)))) = some e' from ae] at hn; cases hn
    · have e33 : e' = e3 := Option.some.inj (ae.symm.trans he3)
      subst e33
      refine ⟨hW, hOw, hw50, s2 _ _ e1, tp4, lp1, e2, tc4, lc1, fin_perm tp5 hI'.wp, fin_perm tc5 hI'.wp, by decide, by decide, h40, by rw [← tp3]; exact line, fun y => by rw [← tp3, ← tc3]; exact ole y, fun e4 H5 sb f1 f2 f3 hT5 n1 n2 n3 n4 n5 => ?_⟩
      walk_at "go"
      exact ⟨_, { S' with hl := S'.hl ++ [e4] }, rfl, hs1, hT5, (hI'.next pf (by omega) kn n1 (by rw [n2, een]) n3 (by rw [tp3]; exact n4) (by rw [tc3]; exact n5)).cast fun j hj => by (split <;> rfl), fun b u e => sb b u (ne_of_none e hs1) ((sm.trans s12) b u e)⟩
  rintro σ H' ⟨w, S', rfl, hs1, hT', hI', sm⟩
  walk_at "go"
  exact q x S' H' sm hx0 hs1 hT' (by rw [show P.nm.length = 1 + (P.nm.length - 1) by omega]; exact hI')
inductive Odd (H : Hp) : V → Prop
  | non : Odd H .non
  | tru : Odd H (.bl true)
  | num : Odd H (.int 7)
  | lst {a : Addr} {xs : List V} (h : H a = some (.lst xs)) : Odd H (.ref a)
  | tup {a : Addr} {xs : List V} (h : H a = some (.tup xs)) : Odd H (.ref a)
  | dct {a : Addr} (h : H a = some (.dK [])) : Odd H (.ref a)
def sp_thing (K : PySem.W.Frag) (d : Ad) : Sp := fun vs H Q _ => ∃ (c : Int) (ln : Addr) (nm : List Str) (z : Str), vs = [.int c, .ref ln, .str z] ∧ H ln = some (.lst (nm.map V.str)) ∧ 1 ≤ nm.length ∧ nm.length ≤ 20 ∧ (∀ y ∈ nm, goodS y = true) ∧ ∀ x H', Same H H' → ((∃ y, x = .str y) ∨ Odd H' x) → Q x H'
theorem ok_thing {P : Program} {w : World} {K : PySem.W.Frag} {mg : Str → Option Value} {base : Heap} {d : Ad} (T : Tx K mg d) : FnOk P w K mg base CX0 3 d.f_thing d.fd_thing ["_law_cell", "_law_names", "_law_fresh"] (sp_thing K d) := by
  refine T.F_thing.ok sc_thing (fun vs H Q E h => ?_) (fun cdv A outer s H vs Q E hr h => ?_)
  · obtain ⟨c, ln, nm, z, rfl, _⟩ := h; rfl
  obtain ⟨c, ln, nm, z, rfl, hN, n1, n2, hg, q⟩ := h
  refine ⟨_, (pss_cons (ps_set (i := 3) sc_thing.nd rfl (Or.inl rfl) (pe_ix ix_list (pv 1) (pe_op op_mod (pe_op My.op_fdivB (pv 0) pe_int) (pe_callB My.call_lenN rfl T.z_len PySem.boot_len (pa_cons (pv 1) pa_nil))) (fun _ _ => rfl)))
    (pss_cons (ps_set (i := 4) sc_thing.nd rfl (Or.inl rfl) (pe_lst (pa_cons (pv 2) (pa_cons (pe_op My.op_catS (pv 3) pe_str) (pa_cons (pe_slice My.sl_str (pv 3) (po_some pe_int) po_none) (pa_cons (pe_slice My.sl_str (pv 3) po_none (po_some (pe_un un_neg pe_int))) (pa_cons (pe_bm0 PySem.F.plainAttrs_str PySem.F.slot_str_upper PySem.F.type_str_upper My.mt_upper (pv 3)) (pa_cons pe_str (pa_cons pe_non (pa_cons pe_bl (pa_cons pe_int (pa_cons (pe_lst (pa_cons (pv 3) pa_nil)) (pa_cons (pe_tup (pa_cons (pv 3) pa_nil)) (pa_cons pe_dnewK pa_nil))))))))))))))
    (pss_one (ps_ret (pe_ix ix_list (pv 4) (pe_op op_mod (pv 0) pe_int) (fun _ _ => rfl)))))), ?_⟩
  try dsimp only [L2.cxOf, L2.Cx.nox, L2.Cx.wish, My.xw, My.pnd, My.suite]
  refine r_start (σ := [some (.int c), some (.ref ln), some (.str z), none, none]) rfl ?_
  have hnl2 : (nm.map V.str).length = nm.length := List.length_map _
  walk_at "go"
  have m0 := Int.emod_nonneg (c.fdiv 12) (show ((nm.map V.str).length : Int) ≠ 0 by omega)
  have m1 := Int.emod_lt_of_pos (c.fdiv 12) (show (0 : Int) < ((nm.map V.str).length : Int) by omega)
  generalize c.fdiv 12 % ((nm.map V.str).length : Int) = m at *
  obtain ⟨k, rfl⟩ : ∃ k : Nat, m = (k : Int) := ⟨m.toNat, by omega⟩
  have hk : k < nm.length := by omega
  have gy := hg nm[k] (List.getElem_mem hk)
  refine r_ixL (SqL.of hN) (atI_nat (j := k) (by rw [List.getElem?_map, List.getElem?_eq_getElem hk]; rfl)) ?_
  generalize nm[k] = y at *
  obtain ⟨y1, y8, yL⟩ := goodS_of gy
  have hup : Builtin.Str.tooLong (Txt.upper y).length = false := upper_fit y8 fun c hc => by
    have := yL c hc
    unfold isL at this
    simpa using this
  clear hk m0 m1 hnl2 n1 n2 hg gy
  walk_at "go"
  refine r_upper hup ?_
  generalize Txt.upper y = yu at *
  walk_at "go"
  rename_i la hla ta hta da hda lb hlb
  have s4 : Same H (upd (upd (upd (upd H la (.lst [V.str y])) ta (.tup [V.str y])) da (.dK [])) lb (.lst [V.str z, V.str (y ++ Str.ofString "a"), V.str (Txt.slice y (some 1) none), V.str (Txt.slice y none (some (-1))), V.str yu, V.str (Str.ofString ""), V.non, V.bl true, V.int 7, V.ref la, V.ref ta, V.ref da])) := (((same_new hla _).trans (same_new hta _)).trans (same_new hda _)).trans (same_new hlb _)
  have el := look_new (o' := .lst [V.str z, V.str (y ++ Str.ofString "a"), V.str (Txt.slice y (some 1) none), V.str (Txt.slice y none (some (-1))), V.str yu, V.str (Str.ofString ""), V.non, V.bl true, V.int 7, V.ref la, V.ref ta, V.ref da]) (look_new (o' := .dK []) (look_new (o' := .tup [V.str y]) (show upd H la (.lst [V.str y]) la = some (.lst [V.str y]) from upd_same) hta) hda) hlb
  have et := look_new (o' := .lst [V.str z, V.str (y ++ Str.ofString "a"), V.str (Txt.slice y (some 1) none), V.str (Txt.slice y none (some (-1))), V.str yu, V.str (Str.ofString ""), V.non, V.bl true, V.int 7, V.ref la, V.ref ta, V.ref da]) (look_new (o' := .dK []) (show upd (upd H la (.lst [V.str y])) ta (.tup [V.str y]) ta = some (.tup [V.str y]) from upd_same) hda) hlb
  have ed := look_new (o' := .lst [V.str z, V.str (y ++ Str.ofString "a"), V.str (Txt.slice y (some 1) none), V.str (Txt.slice y none (some (-1))), V.str yu, V.str (Str.ofString ""), V.non, V.bl true, V.int 7, V.ref la, V.ref ta, V.ref da]) (show upd (upd (upd H la (.lst [V.str y])) ta (.tup [V.str y])) da (.dK []) da = some (.dK []) from upd_same) hlb
  have eb : upd (upd (upd (upd H la (.lst [V.str y])) ta (.tup [V.str y])) da (.dK [])) lb (.lst [V.str z, V.str (y ++ Str.ofString "a"), V.str (Txt.slice y (some 1) none), V.str (Txt.slice y none (some (-1))), V.str yu, V.str (Str.ofString ""), V.non, V.bl true, V.int 7, V.ref la, V.ref ta, V.ref da]) lb = some (.lst [V.str z, V.str (y ++ Str.ofString "a"), V.str (Txt.slice y (some 1) none), V.str (Txt.slice y none (some (-1))), V.str yu, V.str (Str.ofString ""), V.non, V.bl true, V.int 7, V.ref la, V.ref ta, V.ref da]) := upd_same
  generalize upd (upd (upd (upd H la (.lst [V.str y])) ta (.tup [V.str y])) da (.dK [])) lb (.lst [V.str z, V.str (y ++ Str.ofString "a"), V.str (Txt.slice y (some 1) none), V.str (Txt.slice y none (some (-1))), V.str yu, V.str (Str.ofString ""), V.non, V.bl true, V.int 7, V.ref la, V.ref ta, V.ref da]) = H4 at *
  have c0 := Int.emod_nonneg c (show (12 : Int) ≠ 0 by decide)
  have c1 := Int.emod_lt_of_pos c (show (0 : Int) < 12 by decide)
  generalize c % 12 = m at *
  have hc : m = 0 ∨ m = 1 ∨ m = 2 ∨ m = 3 ∨ m = 4 ∨ m = 5 ∨ m = 6 ∨ m = 7 ∨ m = 8 ∨ m = 9 ∨ m = 10 ∨ m = 11 := by omega
  rcases hc with rfl | rfl | rfl | rfl | rfl | rfl | rfl | rfl | rfl | rfl | rfl | rfl
  · exact r_ixL (SqL.of eb) (atI_nat (j := 0) rfl) (q _ _ s4 (.inl ⟨_, rfl⟩))
  · exact r_ixL (SqL.of eb) (atI_nat (j := 1) rfl) (q _ _ s4 (.inl ⟨_, rfl⟩))
  · exact r_ixL (SqL.of eb) (atI_nat (j := 2) rfl) (q _ _ s4 (.inl ⟨_, rfl⟩))
  · exact r_ixL (SqL.of eb) (atI_nat (j := 3) rfl) (q _ _ s4 (.inl ⟨_, rfl⟩))
  · exact r_ixL (SqL.of eb) (atI_nat (j := 4) rfl) (q _ _ s4 (.inl ⟨_, rfl⟩))
  · exact r_ixL (SqL.of eb) (atI_nat (j := 5) rfl) (q _ _ s4 (.inl ⟨_, rfl⟩))
  · exact r_ixL (SqL.of eb) (atI_nat (j := 6) rfl) (q _ _ s4 (.inr .non))
  · exact r_ixL (SqL.of eb) (atI_nat (j := 7) rfl) (q _ _ s4 (.inr .tru))
  · exact r_ixL (SqL.of eb) (atI_nat (j := 8) rfl) (q _ _ s4 (.inr .num))
  · exact r_ixL (SqL.of eb) (atI_nat (j := 9) rfl) (q _ _ s4 (.inr (.lst el)))
  · exact r_ixL (SqL.of eb) (atI_nat (j := 10) rfl) (q _ _ s4 (.inr (.tup et)))
  · exact r_ixL (SqL.of eb) (atI_nat (j := 11) rfl) (q _ _ s4 (.inr (.dct ed)))
def sp_Tree_floors (K : PySem.W.Frag) (d : Ad) : Sp := fun _ _ _ _ => False
theorem ok_Tree_floors {P : Program} {w : World} {K : PySem.W.Frag} {mg : Str → Option Value} {base : Heap} {d : Ad} (T : Tx K mg d) : FnOk P w K mg base (My.CX1 P w) 17 d.f_Tree_floors d.fd_Tree_floors ["self", "name"] (sp_Tree_floors K d) := ok_none
def sp_Tree_check_move (K : PySem.W.Frag) (d : Ad) : Sp := fun vs H Q E => ∃ (t : Addr) (S : Ts) (x y : V), vs = [.ref t, x, y] ∧ TrAt d H t S ∧ ((Thing K H x ∧ who S x = none) ∨ ∃ z zs, x = .str z ∧ LineOf S z zs ∧ zs.length ≤ 1000 ∧ Thing K H y ∧ who S y = none) ∧ ∀ H', Same H H' → E (.ref d.c_NoHouse) none H'
theorem ok_Tree_check_move {P : Program} {w : World} {K : PySem.W.Frag} {mg : Str → Option Value} {base : Heap} {d : Ad} (T : Tx K mg d) : FnOk P w K mg base (My.CX1 P w) 19 d.f_Tree_check_move d.fd_Tree_check_move ["self", "name", "elder"] (sp_Tree_check_move K d) := by
  refine My.okX T.F_Tree_check_move sc_Tree_check_move (fun vs H Q E h => ?_) (fun cdv A outer s H vs Q E hr h => ?_)
  · obtain ⟨t, S, x, y, rfl, _⟩ := h; rfl
  obtain ⟨t, S, x, y, rfl, hT, hc, q⟩ := h
  refine ⟨_, (pss_cons (ps_set (i := 3) sc_Tree_check_move.nd rfl (Or.inr rfl) (My.pe_methX (pv 0) T.CL_Tree T.ME_Tree_line ((ok_Tree_line T).mono (by decide)) hr T.b_Tree_line .nil My.xes_xw (pa_cons (pv 1) pa_nil)))
    (pss_cons (ps_set (i := 4) sc_Tree_check_move.nd rfl (Or.inl rfl) (My.pe_methX (pv 0) T.CL_Tree T.ME_Tree_line ((ok_Tree_line T).mono (by decide)) hr T.b_Tree_line .nil My.xes_xw (pa_cons (pv 2) pa_nil)))
    (pss_cons (ps_if (PW.pt (pw_or (pt_cmpR op_in_seq (pv 1) (pv 4) (by rfl)) (pw_or1 (pt_cmpR op_eq (pv 2) (My.pe_methX (pv 0) T.CL_Tree T.ME_Tree_elder_of ((ok_Tree_elder_of T).mono (by decide)) hr T.b_Tree_elder_of .nil My.xes_xw (pa_cons (pv 1) pa_nil)) (nomark _))))) (pss_one (My.ps_raise rfl T.X_NoMove rfl T.m_NoMove My.xes_xw (pa_cons pe_str pa_nil))) pss_nil)
    (pss_cons (ps_if (pt_cmpR op_gt (pe_op op_add (pe_callB My.call_lenN rfl T.z_len PySem.boot_len (pa_cons (pv 4) pa_nil)) (My.pe_methX (pv 0) T.CL_Tree T.ME_Tree_floors ((ok_Tree_floors T).mono (by decide)) hr T.b_Tree_floors .nil My.xes_xw (pa_cons (pv 1) pa_nil))) (pe_glob rfl T.m_LONGEST_LINE T.r_LONGEST_LINE) (nomark _)) (pss_one (My.ps_raise rfl T.X_TooDeep rfl T.m_TooDeep My.xes_xw (pa_cons pe_str pa_nil))) pss_nil)
    (pss_one (ps_expr (My.pe_methX (pv 0) T.CL_Tree T.ME_Tree_check_more ((ok_Tree_check_more T).mono (by decide)) hr T.b_Tree_check_more .nil My.xes_xw (pa_cons (My.pe_comp (caps := [3]) (cn := ["own_line"]) (My.caps_of rfl rfl (by rfl) (by rfl) rfl ⟨rfl, trivial⟩ (by rfl) rfl ⟨⟨rfl, rfl, rfl, rfl, _, rfl⟩, trivial⟩ (by decide)) rfl (pi_list (pv 4)) (fun _ _ _ _ => (My.pf_one (pt_cmpR op_notIn_seq (pv 0) (pv 1) (by rfl)))) (fun _ _ _ _ => (pv 0))) (pa_cons (My.pe_methX (pv 0) T.CL_Tree T.ME_Tree_promised_beneath ((ok_Tree_promised_beneath T).mono (by decide)) hr T.b_Tree_promised_beneath .nil My.xes_xw (pa_cons (pv 1) pa_nil)) pa_nil))))))))), ?_⟩
  try dsimp only [L2.cxOf, L2.Cx.nox, L2.Cx.wish, My.xw, My.pnd, My.suite]
  refine r_start (σ := [some (.ref t), some (x), some (y), none, none]) rfl ?_
  have ct := T.CL_Tree
  obtain ⟨dx, ht⟩ := id hT.1
  walk_at "go"
  rcases hc with ⟨tx, wx⟩ | ⟨z, zs, rfl, hL, hzs, ty, wy⟩
  · exact ⟨t, S, x, rfl, hT, .inr ⟨tx, wx, fun l hl => q _ (same_new hl _)⟩⟩
  · refine ⟨t, S, .str z, rfl, hT, .inl ⟨z, zs, rfl, hL, hzs, fun l hl => ?_⟩⟩
    have s1 := same_new hl (.lst (zs.map V.str))
    generalize upd H l (.lst (zs.map V.str)) = H1 at *
    have hT1 := hT.same s1
    have ht1 := s1 _ _ ht
    walk_at "go"
    exact ⟨t, S, y, rfl, hT1, .inr ⟨ty.same s1, wy, fun l2 hl2 => q _ (s1.trans (same_new hl2 _))⟩⟩
def sp_Tree_move (K : PySem.W.Frag) (d : Ad) : Sp := sp_Tree_check_move K d
theorem ok_Tree_move {P : Program} {w : World} {K : PySem.W.Frag} {mg : Str → Option Value} {base : Heap} {d : Ad} (T : Tx K mg d) : FnOk P w K mg base (My.CX1 P w) 20 d.f_Tree_move d.fd_Tree_move ["self", "name", "elder"] (sp_Tree_move K d) := by
  refine My.okX T.F_Tree_move sc_Tree_move (fun vs H Q E h => ?_) (fun cdv A outer s H vs Q E hr h => ?_)
  · obtain ⟨t, S, x, y, rfl, _⟩ := h; rfl
  obtain ⟨t, S, x, y, rfl, hT, hc, q⟩ := h
  refine ⟨_, (pss_cons (ps_expr (My.pe_methX (pv 0) T.CL_Tree T.ME_Tree_check_move ((ok_Tree_check_move T).mono (by decide)) hr T.b_Tree_check_move .nil My.xes_xw (pa_cons (pv 1) (pa_cons (pv 2) pa_nil))))
    (pss_one (ps_fld (pe_dget (hu_of hr) (pe_fld (pv 0) rfl) (pv 1) (fun _ _ => rfl)) (pv 2) rfl))), ?_⟩
  try dsimp only [L2.cxOf, L2.Cx.nox, L2.Cx.wish, My.xw, My.pnd, My.suite]
  refine r_start (σ := [some (.ref t), some (x), some (y)]) rfl ?_
  have ct := T.CL_Tree
  obtain ⟨dx, ht⟩ := id hT.1
  walk_at "go"
  exact ⟨t, S, x, y, rfl, hT, hc, q⟩
def sp_ask (K : PySem.W.Frag) (d : Ad) : Sp := fun vs H Q E => ∃ (t : Addr) (S : Ts) (n : Int) (x : V) (z : Str) (zs : List Str), vs = [.ref t, .int n, x, .str z] ∧ TrAt d H t S ∧ 0 ≤ n ∧ n < 12 ∧ Thing K H x ∧ who S x = none ∧ LineOf S z zs ∧ zs.length ≤ 1000 ∧ WF S ∧ OfWares S ∧ ∀ H', Same H H' → E (.ref d.c_NoHouse) none H'
theorem ok_ask {P : Program} {w : World} {K : PySem.W.Frag} {mg : Str → Option Value} {base : Heap} {d : Ad} (T : Tx K mg d) : FnOk P w K mg base (My.CX1 P w) 21 d.f_ask d.fd_ask ["_law_tree_here", "_law_which", "_law_thing_here", "_law_name_here"] (sp_ask K d) := by
  refine My.okX T.F_ask sc_ask (fun vs H Q E h => ?_) (fun cdv A outer s H vs Q E hr h => ?_)
  · obtain ⟨t, S, n, x, z, zs, rfl, _⟩ := h; rfl
  obtain ⟨t, S, n, x, z, zs, rfl, hT, n0, n1, tx, wx, hL, hzs, hW, hO, q⟩ := h
  refine ⟨_, (pss_cons (ps_if (pt_cmpR op_eq (pv 1) pe_int (nomark _)) (pss_one (ps_ret (My.pe_methX (pv 0) T.CL_Tree T.ME_Tree_elder_of ((ok_Tree_elder_of T).mono (by decide)) hr T.b_Tree_elder_of .nil My.xes_xw (pa_cons (pv 2) pa_nil)))) pss_nil)
    (pss_cons (ps_if (pt_cmpR op_eq (pv 1) pe_int (nomark _)) (pss_one (ps_ret (My.pe_methX (pv 0) T.CL_Tree T.ME_Tree_promise_of ((ok_Tree_promise_of T).mono (by decide)) hr T.b_Tree_promise_of .nil My.xes_xw (pa_cons (pv 2) pa_nil)))) pss_nil)
    (pss_cons (ps_if (pt_cmpR op_eq (pv 1) pe_int (nomark _)) (pss_one (ps_ret (My.pe_methX (pv 0) T.CL_Tree T.ME_Tree_cap_of ((ok_Tree_cap_of T).mono (by decide)) hr T.b_Tree_cap_of .nil My.xes_xw (pa_cons (pv 2) pa_nil)))) pss_nil)
    (pss_cons (ps_if (pt_cmpR op_eq (pv 1) pe_int (nomark _)) (pss_one (ps_ret (My.pe_methX (pv 0) T.CL_Tree T.ME_Tree_weight_of ((ok_Tree_weight_of T).mono (by decide)) hr T.b_Tree_weight_of .nil My.xes_xw (pa_cons (pv 2) pa_nil)))) pss_nil)
    (pss_cons (ps_if (pt_cmpR op_eq (pv 1) pe_int (nomark _)) (pss_one (ps_ret (My.pe_methX (pv 0) T.CL_Tree T.ME_Tree_kids ((ok_Tree_kids T).mono (by decide)) hr T.b_Tree_kids .nil My.xes_xw (pa_cons (pv 2) pa_nil)))) pss_nil)
    (pss_cons (ps_if (pt_cmpR op_eq (pv 1) pe_int (nomark _)) (pss_one (ps_ret (My.pe_methX (pv 0) T.CL_Tree T.ME_Tree_line ((ok_Tree_line T).mono (by decide)) hr T.b_Tree_line .nil My.xes_xw (pa_cons (pv 2) pa_nil)))) pss_nil)
    (pss_cons (ps_if (pt_cmpR op_eq (pv 1) pe_int (nomark _)) (pss_one (ps_ret (My.pe_methX (pv 0) T.CL_Tree T.ME_Tree_beneath ((ok_Tree_beneath T).mono (by decide)) hr T.b_Tree_beneath .nil My.xes_xw (pa_cons (pv 2) pa_nil)))) pss_nil)
    (pss_cons (ps_if (pt_cmpR op_eq (pv 1) pe_int (nomark _)) (pss_one (ps_ret (My.pe_methX (pv 0) T.CL_Tree T.ME_Tree_promised_beneath ((ok_Tree_promised_beneath T).mono (by decide)) hr T.b_Tree_promised_beneath .nil My.xes_xw (pa_cons (pv 2) pa_nil)))) pss_nil)
    (pss_cons (ps_if (pt_cmpR op_eq (pv 1) pe_int (nomark _)) (pss_one (ps_ret (My.pe_methX (pv 0) T.CL_Tree T.ME_Tree_check_move ((ok_Tree_check_move T).mono (by decide)) hr T.b_Tree_check_move .nil My.xes_xw (pa_cons (pv 2) (pa_cons (pv 3) pa_nil))))) pss_nil)
    (pss_cons (ps_if (pt_cmpR op_eq (pv 1) pe_int (nomark _)) (pss_one (ps_ret (My.pe_methX (pv 0) T.CL_Tree T.ME_Tree_check_move ((ok_Tree_check_move T).mono (by decide)) hr T.b_Tree_check_move .nil My.xes_xw (pa_cons (pv 3) (pa_cons (pv 2) pa_nil))))) pss_nil)
    (pss_cons (ps_if (pt_cmpR op_eq (pv 1) pe_int (nomark _)) (pss_one (ps_ret (My.pe_methX (pv 0) T.CL_Tree T.ME_Tree_move ((ok_Tree_move T).mono (by decide)) hr T.b_Tree_move .nil My.xes_xw (pa_cons (pv 2) (pa_cons (pv 3) pa_nil))))) pss_nil)
    (pss_one (ps_ret (My.pe_methX (pv 0) T.CL_Tree T.ME_Tree_move ((ok_Tree_move T).mono (by decide)) hr T.b_Tree_move .nil My.xes_xw (pa_cons (pv 3) (pa_cons (pv 2) pa_nil)))))))))))))))), ?_⟩
  try dsimp only [L2.cxOf, L2.Cx.nox, L2.Cx.wish, My.xw, My.pnd, My.suite]
  refine r_start (σ := [some (.ref t), some (.int n), some (x), some (.str z)]) rfl ?_
  have ct := T.CL_Tree
  obtain ⟨dx, ht⟩ := id hT.1
  have hn : n = 0 ∨ n = 1 ∨ n = 2 ∨ n = 3 ∨ n = 4 ∨ n = 5 ∨ n = 6 ∨ n = 7 ∨ n = 8 ∨ n = 9 ∨ n = 10 ∨ n = 11 := by omega
  have noE : ∀ e, who S x = some e → False := fun e he => by rw [wx] at he; cases he
  rcases hn with rfl | rfl | rfl | rfl | rfl | rfl | rfl | rfl | rfl | rfl | rfl | rfl
  all_goals clear n0 n1
  all_goals walk_at "go"
  · exact ⟨t, S, x, rfl, hT, tx, fun e he => (noE e he).elim, fun _ => q _ (Same.refl _)⟩
  · exact ⟨t, S, x, rfl, hT, tx, fun e he => (noE e he).elim, fun _ => q _ (Same.refl _)⟩
  · exact ⟨t, S, x, rfl, hT, tx, fun e he => (noE e he).elim, fun _ => q _ (Same.refl _)⟩
  · exact ⟨t, S, x, rfl, hT, tx, fun e he => (noE e he).elim, fun _ => q _ (Same.refl _)⟩
  · exact ⟨t, S, x, rfl, hT, tx, fun e he => (noE e he).elim, fun _ => q _ (Same.refl _)⟩
  · exact ⟨t, S, x, rfl, hT, .inr ⟨tx, wx, fun l hl => q _ (same_new hl _)⟩⟩
  · exact ⟨t, S, x, rfl, hT, slim_of hW hT.2.2.2.2.1, tx, fun e he => (noE e he).elim, fun _ l hl => q _ (same_new hl _)⟩
  · exact ⟨t, S, x, rfl, hT, hW, hO, tx, fun e he => (noE e he).elim, fun _ l hl => q _ (same_new hl _)⟩
  · exact ⟨t, S, x, .str z, rfl, hT, .inl ⟨tx, wx⟩, q⟩
  · exact ⟨t, S, .str z, x, rfl, hT, .inr ⟨z, zs, rfl, hL, hzs, tx, wx⟩, q⟩
  · exact ⟨t, S, x, .str z, rfl, hT, .inl ⟨tx, wx⟩, q⟩
  · exact ⟨t, S, .str z, x, rfl, hT, .inr ⟨z, zs, rfl, hL, hzs, tx, wx⟩, q⟩
def sp_other (K : PySem.W.Frag) (d : Ad) : Sp := fun vs H Q _ => ∃ a : Addr, vs = [.ref a] ∧ H a = some (XO a (.ref d.c_NoHouse) none) ∧ ∀ H', Same H H' → Q (.bl false) H'
theorem ok_other {P : Program} {w : World} {K : PySem.W.Frag} {mg : Str → Option Value} {base : Heap} {d : Ad} (T : Tx K mg d) : My.FnOkH P w K mg base 1 d.f_other d.fd_other ["_law_e"] (sp_other K d) := by
  refine My.okH T.F_other sc_other (fun vs H Q E h => ?_) (fun cdv ax A outer s H vs Q E hr h => ?_)
  · obtain ⟨a, rfl, _⟩ := h; rfl
  obtain ⟨a, rfl, ha, q⟩ := h
  refine ⟨_, (pss_cons (ps_if (pt_val (pe_callB My.call_isxU rfl T.z_isinstance PyProof.Rows.boot_isinstance (pa_cons (pv 0) (pa_cons (pe_tup (pa_cons (pe_glob (v := .ref d.c_NoAmount) rfl T.m_NoAmount rfl) (pa_cons (pe_glob (v := .ref d.c_NoMove) rfl T.m_NoMove rfl) (pa_cons (pe_glob (v := .ref d.c_NoName) rfl T.m_NoName rfl) (pa_cons (pe_glob (v := .ref d.c_NoNumber) rfl T.m_NoNumber rfl) (pa_cons (pe_glob (v := .ref d.c_NoPromise) rfl T.m_NoPromise rfl) (pa_cons (pe_glob (v := .ref d.c_NoWare) rfl T.m_NoWare rfl) (pa_cons (pe_glob (v := .ref d.c_Taken) rfl T.m_Taken rfl) (pa_cons (pe_glob (v := .ref d.c_TooDeep) rfl T.m_TooDeep rfl) (pa_cons (pe_glob (v := .ref d.c_TooMany) rfl T.m_TooMany rfl) pa_nil)))))))))) pa_nil)))) (pss_one (ps_ret pe_bl)) pss_nil)
    (pss_one (ps_ret (pe_or (pe_not (pe_callB My.call_isx rfl T.z_isinstance PyProof.Rows.boot_isinstance (pa_cons (pv 0) (pa_cons (pe_glob (v := .ref d.c_TreeError) rfl T.m_TreeError rfl) pa_nil)))) (pe_one (pe_not (pe_callB My.call_isx rfl T.z_isinstance PyProof.Rows.boot_isinstance (pa_cons (pv 0) (pa_cons (pe_bltn (v := .ty "ValueError") rfl T.z_ValueError My.boot_ValueError rfl) pa_nil))))))))), ?_⟩
  try dsimp only [L2.cxOf, L2.Cx.nox, L2.Cx.wish, My.xw, My.pnd, My.suite]
  refine r_start (σ := [some (.ref a)]) rfl ?_
  walk_at "go"
  rename_i tp htp
  refine r_isxU (C := d.c_NoHouse) (cs := [d.c_NoAmount, d.c_NoMove, d.c_NoName, d.c_NoNumber, d.c_NoPromise, d.c_NoWare, d.c_Taken, d.c_TooDeep, d.c_TooMany]) (look_new ha htp) lives_none T.XA_NoHouse upd_same T.kAny ?_
  walk_at "go"
  refine r_isx (look_new ha htp) lives_none T.XA_NoHouse T.kT ?_
  walk_at "go"
  refine r_isxT (look_new ha htp) lives_none T.XA_NoHouse T.kV ?_
  walk_at "go"
  exact q _ (same_new htp _)
def sp_refused (K : PySem.W.Frag) (d : Ad) : Sp := fun vs H Q _ => ∃ (t : Addr) (S : Ts) (n : Int) (x : V) (z : Str) (zs : List Str), vs = [.ref t, .int n, x, .str z] ∧ TrAt d H t S ∧ 0 ≤ n ∧ n < 12 ∧ Thing K H x ∧ who S x = none ∧ LineOf S z zs ∧ zs.length ≤ 1000 ∧ WF S ∧ OfWares S ∧ ∀ H', Same H H' → Q (.bl true) H'
theorem ok_refused {P : Program} {w : World} {K : PySem.W.Frag} {mg : Str → Option Value} {base : Heap} {d : Ad} (T : Tx K mg d) : FnOk P w K mg base CX0 22 d.f_refused d.fd_refused ["_law_tree_here", "_law_which", "_law_thing_here", "_law_name_here"] (sp_refused K d) := by
  refine T.F_refused.ok sc_refused (fun vs H Q E h => ?_) (fun cdv A outer s H vs Q E hr h => ?_)
  · obtain ⟨t, S, n, x, z, zs, rfl, _⟩ := h; rfl
  obtain ⟨t, S, n, x, z, zs, rfl, hT, n0, n1, tx, wx, hL, hzs, hW, hO, q⟩ := h
  refine ⟨_, (pss_cons (ps_set (i := 4) sc_refused.nd rfl (Or.inl rfl) pe_bl)
    (pss_cons (My.ps_try rfl rfl (fun _ _ => (pss_one (ps_expr (My.pe_callX ((ok_ask T).mono (by decide)) hr rfl T.m_ask T.F_ask.kp T.b_ask .nil My.xes_xw (pa_cons (pv 0) (pa_cons (pv 1) (pa_cons (pv 2) (pa_cons (pv 3) pa_nil))))))))
    (My.ph_as (i := 5) sc_refused.nd rfl rfl T.B_TreeError rfl T.m_TreeError (fun _ => (pss_one (ps_set (i := 4) sc_refused.nd rfl (Or.inl rfl) (pe_and (pe_callB My.call_isx rfl T.z_isinstance PyProof.Rows.boot_isinstance (pa_cons (pv 5) (pa_cons (pe_glob (v := .ref d.c_NoHouse) rfl T.m_NoHouse rfl) pa_nil))) (pe_one (pe_not (My.pe_callH ((ok_other T).mono (by decide)) hr rfl T.m_other T.F_other.kp T.b_other (pa_cons (pv 5) pa_nil))))))))
    My.ph_none) pss_nil)
    (pss_one (ps_ret (pv 4))))), ?_⟩
  try dsimp only [L2.cxOf, L2.Cx.nox, L2.Cx.wish, My.xw, My.pnd, My.suite]
  refine r_start (σ := [some (.ref t), some (.int n), some (x), some (.str z), none, none]) rfl ?_
  walk_at "go"
  refine ⟨t, S, n, x, z, zs, rfl, hT, n0, n1, tx, wx, hL, hzs, hW, hO, fun H1 s1 => ?_⟩
  refine r_cl T.kcT (iteT ?_)
  walk_at "go"
  rename_i ae hae
  refine r_isx upd_same lives_none T.XA_NoHouse T.kN ?_
  walk_at "go"
  refine ⟨ae, rfl, upd_same, fun H2 s2 => ?_⟩
  walk_at "go"
  exact q _ ((s1.trans (same_new hae _)).trans s2)
def sp_founding_refused (K : PySem.W.Frag) (d : Ad) : Sp := fun vs H Q _ => ∃ (t : Addr) (S : Ts) (z : Str) (x : V), vs = [.ref t, .str z, x] ∧ TrAt d H t S ∧ goodS z = true ∧ S.at z = none ∧ Thing K H x ∧ who S x = none ∧ ∀ H', Same H H' → Q (.bl true) H'
theorem ok_founding_refused {P : Program} {w : World} {K : PySem.W.Frag} {mg : Str → Option Value} {base : Heap} {d : Ad} (T : Tx K mg d) : FnOk P w K mg base CX0 20 d.f_founding_refused d.fd_founding_refused ["_law_tree_here", "_law_fresh", "_law_thing_here"] (sp_founding_refused K d) := by
  refine T.F_founding_refused.ok sc_founding_refused (fun vs H Q E h => ?_) (fun cdv A outer s H vs Q E hr h => ?_)
  · obtain ⟨t, S, z, x, rfl, _⟩ := h; rfl
  obtain ⟨t, S, z, x, rfl, hT, gz, nz, tx, wx, q⟩ := h
  refine ⟨_, (pss_cons (ps_set (i := 3) sc_founding_refused.nd rfl (Or.inl rfl) pe_bl)
    (pss_cons (My.ps_try rfl rfl (fun _ _ => (pss_one (ps_expr (My.pe_methX (pv 0) T.CL_Tree T.ME_Tree_found ((ok_Tree_found T).mono (by decide)) hr T.b1_Tree_found T.rd_Tree_found My.xes_xw (pa_cons (pv 1) (pa_cons (pv 2) (pa_cons pe_dnewK (pa_cons pe_dnewK pa_nil))))))))
    (My.ph_own T.B_NoHouse rfl T.m_NoHouse (fun _ => (pss_one (ps_set (i := 3) sc_founding_refused.nd rfl (Or.inl rfl) pe_bl)))
    My.ph_none) pss_nil)
    (pss_one (ps_ret (pv 3))))), ?_⟩
  try dsimp only [L2.cxOf, L2.Cx.nox, L2.Cx.wish, My.xw, My.pnd, My.suite]
  refine r_start (σ := [some (.ref t), some (.str z), some (x), none]) rfl ?_
  have ct := T.CL_Tree
  obtain ⟨dx, ht⟩ := id hT.1
  walk_at "go"
  rename_i p1 hp1 p2 hp2
  have s2 : Same H (upd (upd H p1 (.dK [])) p2 (.dK [])) := (same_new hp1 _).trans (same_new hp2 _)
  refine ⟨t, p1, p2, S, z, x, [], [], noF, noF, 1, rfl, hT.same s2, gz, nz, tx.same s2, fun _ H' s' => ?_, fun e he => ?_⟩
  · refine r_cl T.kcN (iteT ?_)
    walk_at "go"
    exact q _ (s2.trans s')
  · rw [wx] at he; cases he
theorem Odd.thing {K : PySem.W.Frag} {H : Hp} {x : V} (h : Odd H x) : Thing K H x := by
  cases h with
  | non => exact .inr ⟨⟨_, .non, rfl⟩, fun z e => by cases e⟩
  | tru => exact .inr ⟨⟨_, .bl true, rfl⟩, fun z e => by cases e⟩
  | num => exact .inr ⟨⟨_, .int 7, rfl⟩, fun z e => by cases e⟩
  | lst h => exact .inr ⟨⟨_, .lst h, rfl⟩, fun z e => by cases e⟩
  | tup h => exact .inr ⟨⟨_, .tup h, rfl⟩, fun z e => by cases e⟩
  | dct h => exact .inr ⟨⟨_, .dK h, rfl⟩, fun z e => by cases e⟩
theorem Odd.same {H H' : Hp} {x : V} (h : Odd H x) (s : Same H H') : Odd H' x := by
  cases h with
  | non => exact .non
  | tru => exact .tru
  | num => exact .num
  | lst h => exact .lst (s _ _ h)
  | tup h => exact .tup (s _ _ h)
  | dct h => exact .dct (s _ _ h)
theorem Odd.nots {K : PySem.W.Frag} {H : Hp} {x : V} (h : Odd H x) : NotS K H x ∧ ∀ z, x ≠ .str z := by
  rcases h.thing (K := K) with ⟨z, e⟩ | q
  · cases h <;> cases e
  · exact q
theorem Odd.who {H : Hp} {S : Ts} {x : V} (h : Odd H x) : who S x = none := by cases h <;> rfl
theorem Odd.oddV {K : PySem.W.Frag} {H : Hp} {x : V} (h : Odd H x) : OddV K H x := by
  cases h with
  | non => exact .non
  | tru => exact .bl true
  | num => exact .int 7
  | lst h => exact .lst (SqL.of h)
  | tup h => exact .tup (.inl (.inl h))
  | dct h => exact .dct h
theorem TInv.out {S : Ts} {P : PL} {wt : Nat → Int} (h : TInv S P P.nm.length wt) {y : Str} (hy : y ∉ P.nm) : S.at y = none := by
  cases c : S.at y with
  | none => rfl
  | some e =>
    have m : e.n ∈ S.hl.map (·.n) := List.mem_map.mpr ⟨e, (at_mem c).1, rfl⟩
    rw [h.names (Nat.le_refl _), List.take_length, (at_mem c).2] at m
    exact absurd m hy
theorem add_no (f : Str → Option Int) : addF f (posF noF) = f := funext fun _ => rfl
theorem TInv.wares {S : Ts} {P : PL} {n : Nat} {wt : Nat → Int} (h : TInv S P n wt) (f : PlF P) (hn : n ≤ P.nm.length) : OfWares S := ⟨by have := h.wp.length_eq; have := f.w3; omega, fun e' he z hz => by
  obtain ⟨i, hi, q, _⟩ := h.pl.ix he
  obtain ⟨t, _, _, q2, _, q3⟩ := tf_fin f (k := i) (by omega)
  rw [(h.da i e' q).1, q2] at hz
  exact h.wp.mem_iff.mpr (pos_in q3 z hz)⟩
theorem TInv.ask0 {S : Ts} {P : PL} {wt : Nat → Int} (h : TInv S P P.nm.length wt) (f : PlF P) (n1 : 1 ≤ P.nm.length) {e : He} (ae : S.at (nmF P 0) = some e) : LineOf S e.n [nmF P 0] ∧ ∀ y ∈ [nmF P 0], ∃ e', S.at y = some e' ∧ Dep S 12 y ∧ ∀ bs, Ben S 12 y bs → ∀ v n, addF (sumF (bs.map (ptOf S))) (posF noF) v = some n → n ≤ gN e'.x.fc v := by
  have n12 := f.n12
  have en : e.n = nmF P 0 := (at_mem ae).2
  have hl := h.pl.line 0 (by omega)
  rw [en]
  refine ⟨hl, fun y hy => ?_⟩
  have ey : y = nmF P 0 := by simpa using hy
  subst ey
  obtain ⟨e', q1, q2, _⟩ := h.pl.at (k := 0) (by omega)
  refine ⟨e', q1, h.pl.dep 12 0 (by omega) (by omega), fun bs hb v n hn => ?_⟩
  rw [add_no] at hn
  have hs := h.pl.sums (v := v) (pr := fun i => gN (tfF P.tp i) v) (fun i e2 he2 => ?_) (fun i hi => pr_nn f (by omega) v) (by omega) hb
  · have g1 : n = gN (sumF (bs.map (ptOf S))) v := by unfold gN; rw [hn]; rfl
    obtain ⟨u, _, _, u3, _, u5⟩ := tc_fin f (k := 0) (by omega)
    have fc : e'.x.fc = posF u.f := by rw [← u3]; exact funext (h.da 0 e' q2).2.1
    rw [fc, gN_posF u5, ← u3]
    have cg := cap_ge f (j := 0) (by omega) v
    omega
  · obtain ⟨t, _, _, t3, _, t5⟩ := tf_fin f (k := i) (by have := (List.getElem?_eq_some_iff.mp he2).1; rw [h.pl.len] at this; omega)
    rw [show e2.x.fp = posF (tfF P.tp i) from funext (h.da i e2 he2).1, t3]
    exact gN_posF t5 v
theorem Pl.more {S : Ts} {nm : Nat → Str} {el : Nat → Nat} {n : Nat} (p : Pl S nm el n) (n0 : 0 < n) {e2 : He} (he : e2.x.el = some (nm 0)) (fr : ∀ i, i < n → nm i ≠ e2.n) : Pl { S with hl := S.hl ++ [e2] } (fun k => if k < n then nm k else e2.n) (fun k => if k < n then el k else 0) (n + 1) := by
  have hl := p.len
  refine ⟨by show (S.hl ++ [e2]).length = _; rw [List.length_append, hl]; rfl, fun i e hi => ?_, fun i j hi hj e => ?_, fun k k0 kn => ?_⟩
  · have hi : (S.hl ++ [e2])[i]? = some e := hi
    rcases Nat.lt_or_ge i S.hl.length with c | c
    · rw [List.getElem?_append_left c] at hi
      obtain ⟨a, b⟩ := p.nam i e hi
      have c' : i < n := by omega
      try dsimp only
      rw [if_pos c', if_pos c']
      refine ⟨a, ?_⟩
      rw [b]
      by_cases z : i = 0
      · rw [if_pos z, if_pos z]
      · have := p.low i (by omega) c'
        rw [if_neg z, if_neg z, if_pos (by omega)]
    · have := (List.getElem?_eq_some_iff.mp hi).1
      rw [List.length_append, List.length_singleton] at this
      have ei : i = n := by omega
      rw [List.getElem?_append_right c, show i - S.hl.length = 0 by omega] at hi
      have : e = e2 := by simpa using hi.symm
      subst this
      try dsimp only
      have h1 : ¬ i < n := by omega
      have h2 : ¬ i = 0 := by omega
      rw [if_neg h1, if_neg h2, if_neg h1, if_pos n0]
      exact ⟨rfl, he⟩
  · try dsimp only at e
    split at e <;> split at e
    · rename_i a b; exact p.inj i j a b e
    · rename_i a b; exact absurd e (fr i a)
    · rename_i a b; exact absurd e.symm (fr j b)
    · omega
  · try dsimp only
    split
    · rename_i a; exact p.low k k0 a
    · exact k0
theorem Pl.nokid {S : Ts} {nm : Nat → Str} {el : Nat → Nat} {n : Nat} (p : Pl S nm el (n + 1)) : kidsOf S (nm n) = [] := by
  cases e : kidsOf S (nm n) with
  | nil => rfl
  | cons y r =>
    obtain ⟨k, k0, kn, ke, _⟩ := p.kid (j := n) (by omega) (y := y) (by rw [e]; exact List.mem_cons_self ..)
    have := p.low k k0 kn
    omega
theorem ben_none {S : Ts} {n : Nat} {z : Str} {zs : List Str} (hk : kidsOf S z = []) (h : Ben S (n + 1) z zs) : zs = [z] := by
  obtain ⟨parts, hp, rfl, _⟩ := h
  rw [hk] at hp
  have : parts = [] := List.map_eq_nil_iff.mp (List.perm_nil.mp hp)
  rw [this]; rfl
theorem deq_ad {K : PySem.W.Frag} {H : Hp} {n : Nat} {a b : Addr} {ka kb : List (Key × V)} {f : Str → Option Int} (ha : H a = some (.dK ka)) (hb : H b = some (.dK kb)) (ne : a ≠ b) (A : AD ka f) (B : AD kb f) : DEq K H (n + 1) (.ref a) (.ref b) true := by
  have z := DEq.dd (K := K) (n := n) (.inl ha) (.inl hb) ne A.flat B.flat
  rw [A.eq B] at z
  exact z
def sp_law0 (K : PySem.W.Frag) : Sp := fun vs H Q _ => ∃ (a : Addr) (ns : List Int), vs = [.ref a] ∧ SqL K H a (ns.map V.int) ∧ ns.length ≤ 63 ∧ ∀ H', Q (.bl true) H'
def sp_law (K : PySem.W.Frag) (d : Ad) : Sp := sp_law0 K
theorem ok_law {P : Program} {w : World} {K : PySem.W.Frag} {mg : Str → Option Value} {base : Heap} {d : Ad} (T : Tx K mg d) : FnOk P w K mg base CX0 23 d.f_law d.fd_law ["_law_script"] (sp_law K d) := by
  refine T.F_law.ok sc_law (fun vs H Q E h => ?_) (fun cdv A outer s H vs Q E hr h => ?_)
  · obtain ⟨a, ns, rfl, _⟩ := h; rfl
  obtain ⟨a, ns, rfl, hS, h63, q⟩ := h
  refine ⟨_, (pss_cons (ps_set (i := 1) sc_law.nd rfl (Or.inl rfl) (pe_call ((ok_plan T).mono (by decide)) hr rfl T.m_plan T.F_plan.kp T.b_plan .nil pass0 (pa_cons (pv 0) (pa_cons pe_int (pa_cons (pe_op op_mod (pe_op My.op_fdivB (pe_call ((ok_cell_at T).mono (by decide)) hr rfl T.m_cell_at T.F_cell_at.kp T.b_cell_at .nil pass0 (pa_cons (pv 0) (pa_cons pe_int pa_nil))) pe_int) pe_int) pa_nil)))))
    (pss_cons (ps_set (i := 2) sc_law.nd rfl (Or.inl rfl) (pe_ix ix_list (pv 1) pe_int (fun _ _ => rfl)))
    (pss_cons (ps_set (i := 3) sc_law.nd rfl (Or.inl rfl) (pe_call ((ok_name T).mono (by decide)) hr rfl T.m_name T.F_name.kp T.b_name .nil pass0 (pa_cons (pe_call ((ok_cell_at T).mono (by decide)) hr rfl T.m_cell_at T.F_cell_at.kp T.b_cell_at .nil pass0 (pa_cons (pv 0) (pa_cons pe_int pa_nil))) (pa_cons (pe_callB My.call_lenN rfl T.z_len PySem.boot_len (pa_cons (pv 2) pa_nil)) pa_nil))))
    (pss_cons (ps_set (i := 4) sc_law.nd rfl (Or.inl rfl) (pe_call ((ok_name T).mono (by decide)) hr rfl T.m_name T.F_name.kp T.b_name .nil pass0 (pa_cons (pe_call ((ok_cell_at T).mono (by decide)) hr rfl T.m_cell_at T.F_cell_at.kp T.b_cell_at .nil pass0 (pa_cons (pv 0) (pa_cons pe_int pa_nil))) (pa_cons (pe_op op_add (pe_callB My.call_lenN rfl T.z_len PySem.boot_len (pa_cons (pv 2) pa_nil)) pe_int) pa_nil))))
    (pss_cons (ps_set (i := 5) sc_law.nd rfl (Or.inl rfl) (pe_call ((ok_tree T).mono (by decide)) hr rfl T.m_tree T.F_tree.kp T.b_tree .nil pass0 (pa_cons (pv 1) pa_nil)))
    (pss_cons (ps_set (i := 6) sc_law.nd rfl (Or.inl rfl) (pe_call ((ok_thing T).mono (by decide)) hr rfl T.m_thing T.F_thing.kp T.b_thing .nil pass0 (pa_cons (pe_call ((ok_cell_at T).mono (by decide)) hr rfl T.m_cell_at T.F_cell_at.kp T.b_cell_at .nil pass0 (pa_cons (pv 0) (pa_cons pe_int pa_nil))) (pa_cons (pv 2) (pa_cons (pv 3) pa_nil)))))
    (pss_cons (My.ps_cut (ps_if (PW.pt (pw_and (pt_val (pe_callB My.call_isi2 rfl T.z_isinstance PyProof.Rows.boot_isinstance (pa_cons (pv 6) (pa_cons (pe_bltn (v := .ty "str") rfl T.z_str PyProof.Rows.boot_str rfl) pa_nil)))) (pw_and1 (pt_cmpR op_in_seq (pv 6) (pv 2) (by rfl))))) (pss_one (ps_set (i := 6) sc_law.nd rfl (Or.inl rfl) (pv 3))) pss_nil))
    (pss_cons (ps_set (i := 7) sc_law.nd rfl (Or.inl rfl) (pe_ix ix_list (pv 2) (pe_op op_mod (pe_call ((ok_cell_at T).mono (by decide)) hr rfl T.m_cell_at T.F_cell_at.kp T.b_cell_at .nil pass0 (pa_cons (pv 0) (pa_cons pe_int pa_nil))) (pe_callB My.call_lenN rfl T.z_len PySem.boot_len (pa_cons (pv 2) pa_nil))) (fun _ _ => rfl)))
    (pss_cons (ps_if (PW.pt (pw_or (pt_cmpR My.op_notB (pe_meth (pv 5) T.CL_Tree T.ME_Tree_has ((ok_Tree_has T).mono (by decide)) hr T.b_Tree_has .nil pass0 (pa_cons (pv 6) pa_nil)) pe_bl (nomark _)) (pw_or1 (pt_not (pt_val (pe_call ((ok_founding_refused T).mono (by decide)) hr rfl T.m_founding_refused T.F_founding_refused.kp T.b_founding_refused .nil pass0 (pa_cons (pv 5) (pa_cons (pv 4) (pa_cons (pv 6) pa_nil))))))))) (pss_one (ps_ret pe_bl)) pss_nil)
    (pss_cons (ps_for PassesOwn.never rfl (pi_range1 rfl T.z_range (pa_cons pe_int pa_nil)) (pg_name (i := 8) sc_law.nd rfl (Or.inl rfl)) (pss_one (ps_if (pt_not (pt_val (pe_call ((ok_refused T).mono (by decide)) hr rfl T.m_refused T.F_refused.kp T.b_refused .nil pass0 (pa_cons (pv 5) (pa_cons (pv 8) (pa_cons (pv 6) (pa_cons (pv 7) pa_nil))))))) (pss_one (ps_ret pe_bl)) pss_nil)))
    (pss_cons (ps_if (PW.pt (pw_or (pt_cmpR (My.op_neD (My.hu8 hr)) (pe_meth0 (pv 5) T.CL_Tree T.ME_Tree_names ((ok_Tree_names T).mono (by decide)) hr T.b_Tree_names .nil pass0) (pe_callB My.call_sortL rfl T.z_sorted PyProof.Rows.boot_sorted (pa_cons (pv 2) pa_nil)) (nomark _)) (pw_or1 (pt_cmpR My.op_notB (pe_meth (pv 5) T.CL_Tree T.ME_Tree_has ((ok_Tree_has T).mono (by decide)) hr T.b_Tree_has .nil pass0 (pa_cons (pv 7) pa_nil)) pe_bl (nomark _))))) (pss_one (ps_ret pe_bl)) pss_nil)
    (pss_cons (ps_if (pt_cmpR (My.op_neO (My.hu8 hr)) (pv 6) (pv 3) (nomark _)) (pss_one (ps_ret pe_bl)) pss_nil)
    (pss_cons (ps_expr (My.pe_methX (W := fun _ _ _ _ => False) (pv 5) T.CL_Tree T.ME_Tree_found ((ok_Tree_found T).mono (by decide)) hr T.b_Tree_found .nil My.xes_no (pa_cons (pv 3) (pa_cons (pe_ix ix_list (pv 2) pe_int (fun _ _ => rfl)) (pa_cons pe_dnewK (pa_cons (pe_disp (pps_cons (pe_ix ix_list (pe_ix ix_list (pv 1) pe_int (fun _ _ => rfl)) pe_int (fun _ _ => rfl)) pe_int pps_nil) rfl rfl (by simp) (by decide)) (pa_cons pe_int pa_nil)))))))
    (pss_cons (ps_if (PW.pt (pw_or (pt_cmpR My.op_notB (pe_meth (pv 5) T.CL_Tree T.ME_Tree_has ((ok_Tree_has T).mono (by decide)) hr T.b_Tree_has .nil pass0 (pa_cons (pv 3) pa_nil)) pe_bl (nomark _)) (pw_or (pt_cmpR op_ne (My.pe_methX (W := fun _ _ _ _ => False) (pv 5) T.CL_Tree T.ME_Tree_elder_of ((ok_Tree_elder_of T).mono (by decide)) hr T.b_Tree_elder_of .nil My.xes_no (pa_cons (pv 3) pa_nil)) (pe_ix ix_list (pv 2) pe_int (fun _ _ => rfl)) (nomark _)) (pw_or1 (pt_cmpR (My.op_neD (My.hu8 hr)) (My.pe_methX (W := fun _ _ _ _ => False) (pv 5) T.CL_Tree T.ME_Tree_line ((ok_Tree_line T).mono (by decide)) hr T.b_Tree_line .nil My.xes_no (pa_cons (pv 3) pa_nil)) (pe_lst (pa_cons (pv 3) (pa_cons (pe_ix ix_list (pv 2) pe_int (fun _ _ => rfl)) pa_nil))) (nomark _)))))) (pss_one (ps_ret pe_bl)) pss_nil)
    (pss_one (ps_ret (pe_and (pe_cmpR op_eq (My.pe_methX (W := fun _ _ _ _ => False) (pv 5) T.CL_Tree T.ME_Tree_weight_of ((ok_Tree_weight_of T).mono (by decide)) hr T.b_Tree_weight_of .nil My.xes_no (pa_cons (pv 3) pa_nil)) pe_int (nomark _)) (pe_and (pe_cmpR (My.op_eqD (My.hu8 hr)) (My.pe_methX (W := fun _ _ _ _ => False) (pv 5) T.CL_Tree T.ME_Tree_promised_beneath ((ok_Tree_promised_beneath T).mono (by decide)) hr T.b_Tree_promised_beneath .nil My.xes_no (pa_cons (pv 3) pa_nil)) pe_dnewK (nomark _)) (pe_one (pe_cmpR (My.op_eqD (My.hu8 hr)) (My.pe_methX (W := fun _ _ _ _ => False) (pv 5) T.CL_Tree T.ME_Tree_beneath ((ok_Tree_beneath T).mono (by decide)) hr T.b_Tree_beneath .nil My.xes_no (pa_cons (pv 3) pa_nil)) (pe_lst (pa_cons (pv 3) pa_nil)) (nomark _))))))))))))))))))))), ?_⟩
  try dsimp only [L2.cxOf, L2.Cx.nox, L2.Cx.wish, My.xw, My.pnd, My.suite]
  try dsimp only [My.cxC]
  refine r_start (σ := [some (.ref a), none, none, none, none, none, none, none, none]) rfl ?_
  have ct := T.CL_Tree
  walk_at "go"
  refine ⟨a, ns, 3, rfl, hS, by decide, ?_⟩
  walk_at "go"
  have c0 := Int.emod_nonneg ((cell ns 3).fdiv 4) (show (5 : Int) ≠ 0 by decide)
  have c1 := Int.emod_lt_of_pos ((cell ns 3).fdiv 4) (show (0 : Int) < 5 by decide)
  generalize (cell ns 3).fdiv 4 % 5 = cv at *
  refine ⟨a, ns, 6, cv.toNat, by rw [Int.toNat_of_nonneg c0], hS, by decide, by omega, fun p P H1 s1 pf pa hnm hfr0 => ?_⟩
  have hS1 := s1.seq hS
  have en := pa.n
  have etop := pa.top
  have hnl2 : (P.nm.map V.str).length = P.nm.length := List.length_map _
  have n5 : P.nm.length ≤ 5 := by omega
  have n1 : 1 ≤ P.nm.length := by omega
  have f1 : nmS (cell ns 2) (((P.nm.map V.str).length : Nat) : Int) ∉ P.nm := hfr0 _ (by omega) (by omega)
  have f2 : nmS (cell ns 2) ((((P.nm.map V.str).length : Nat) : Int) + 1) ∉ P.nm := hfr0 ((P.nm.map V.str).length + 1) (by omega) (by omega)
  have g1 := nmS_good (cell ns 2) (((P.nm.map V.str).length : Nat) : Int)
  have g2 := nmS_good (cell ns 2) ((((P.nm.map V.str).length : Nat) : Int) + 1)
  clear c0 c1 hfr0 hnm
  walk_at "go"
  refine ⟨a, ns, 2, rfl, hS1, by decide, ?_⟩
  walk_at "go"
  refine ⟨_, _, rfl, by omega, by omega, ?_⟩
  walk_at "go"
  refine ⟨a, ns, 2, rfl, hS1, by decide, ?_⟩
  walk_at "go"
  refine ⟨_, _, rfl, by omega, by omega, ?_⟩
  generalize nmS (cell ns 2) ((((P.nm.map V.str).length : Nat) : Int) + 1) = zo at *
  generalize nmS (cell ns 2) (((P.nm.map V.str).length : Nat) : Int) = zf at *
  walk_at "go"
  refine ⟨p, P, rfl, pf, pa, fun t S H2 s2 ht0 hs0 hT hI => ?_⟩
  have hS2 := s2.seq hS1
  have pa2 := pa.same s2
  have en2 := pa2.n
  clear hS hS1 s1 pa en etop ht0 hs0
  walk_at "go"
  refine ⟨a, ns, 4, rfl, hS2, by decide, ?_⟩
  walk_at "go"
  refine ⟨_, P.ln, P.nm, zf, rfl, en2, n1, by omega, pf.ng, fun x H3 s3 hx => ?_⟩
  have hS3 := s3.seq hS2
  have pa3 := pa2.same s3
  have en3 := pa3.n
  have hT3 := hT.same s3
  clear hS2 pa2 en2 hT s2 s3
  walk_at "go"
  refine r_cut (fun σ H' => H' = H3 ∧ ∃ x' : V, σ = [some (V.ref a), some (V.ref p), some (V.ref P.ln), some (.str zf), some (.str zo), some (V.ref t), some x', none, none] ∧ ((∃ y, x' = .str y ∧ y ∉ P.nm) ∨ Odd H3 x')) ?_ ?_
  · rcases hx with ⟨y, rfl⟩ | ho
    · walk_at "go"
      refine r_inSs (SqL.of en3) ?_
      by_cases m : y ∈ P.nm
      · rw [decide_eq_true m]
        walk_at "go"
        exact ⟨rfl, _, rfl, .inl ⟨_, rfl, f1⟩⟩
      · rw [decide_eq_false m]
        walk_at "go"
        exact ⟨rfl, _, rfl, .inl ⟨_, rfl, m⟩⟩
    · obtain ⟨⟨ty, ht1, ht2⟩, nz⟩ := ho.nots (K := K)
      walk_at "go"
      exact ⟨rfl, _, rfl, .inr ho⟩
  rintro σ H' ⟨rfl, x', rfl, hx'⟩
  clear hx x
  have tx : Thing K H' x' := hx'.elim (fun ⟨y, e, _⟩ => .inl ⟨y, e⟩) fun o => o.thing
  have wx : who S x' = none := by
    rcases hx' with ⟨y, rfl, hy⟩ | o
    · exact hI.out hy
    · exact o.who
  walk_at "go"
  refine ⟨a, ns, 5, rfl, hS3, by decide, ?_⟩
  walk_at "go"
  have m0 := Int.emod_nonneg (cell ns 5) (show ((P.nm.map V.str).length : Int) ≠ 0 by omega)
  have m1 := Int.emod_lt_of_pos (cell ns 5) (show (0 : Int) < ((P.nm.map V.str).length : Int) by omega)
  generalize cell ns 5 % ((P.nm.map V.str).length : Int) = m at *
  obtain ⟨k, rfl⟩ : ∃ k : Nat, m = (k : Int) := ⟨m.toNat, by omega⟩
  have hk : k < P.nm.length := by omega
  refine r_ixL (SqL.of en3) (atI_nat (j := k) (by rw [List.getElem?_map, List.getElem?_eq_getElem hk]; rfl)) ?_
  have hL := hI.pl.line k hk
  obtain ⟨ek, aek, _⟩ := hI.pl.at hk
  have hll : ((lineN (elN P.es) k).map (nmF P)).length ≤ 1000 := by rw [List.length_map]; have := lineN_len (pf.low P.nm.length) k hk; omega
  rw [nmF_at hk] at hL aek
  generalize P.nm[k] = zn at *
  generalize (lineN (elN P.es) k).map (nmF P) = zs at *
  have hO := hI.wares pf (Nat.le_refl _)
  have hW := hI.pl.wf
  clear m0 m1 hS3
  obtain ⟨dx3, ht3⟩ := id hT3.1
  walk_at "go"
  refine ⟨t, S, x', rfl, hT3, tx, ?_⟩
  rw [wx]
  walk_at "go"
  refine r_notB ?_
  show ∃ b, V.bl false = .bl b ∧ _
  walk_at "go"
  refine ⟨t, S, zo, x', rfl, hT3, g2, hI.out f2, tx, wx, fun H4 s4 => ?_⟩
  clear f2 g2 ht3
  walk_at "go"
  refine f_range (fun i σ H5 => ∃ w : Option V, σ = [some (V.ref a), some (V.ref p), some (V.ref P.ln), some (.str zf), some (.str zo), some (V.ref t), some x', some (.str zn), w] ∧ Same H' H5) ⟨none, rfl, s4⟩ ?_ ?_
  · rintro i σ H5 hi ⟨w, rfl, sm⟩
    rw [Int.zero_add]
    have tx' := tx.same sm
    have hT' := hT3.same sm
    have hi12 : ((i : Nat) : Int) < 12 := by omega
    have hi0 : 0 ≤ ((i : Nat) : Int) := by omega
    generalize ((i : Nat) : Int) = ki at *
    walk_at "go"
    refine ⟨t, S, ki, x', zn, zs, rfl, hT', hi0, hi12, tx', wx, hL, hll, hW, hO, fun H6 s6 => ?_⟩
    walk_at "go"
    exact ⟨_, rfl, sm.trans s6⟩
  rintro σ H5 ⟨w, rfl, s5⟩
  have hT5 := hT3.same s5
  have pa5 := pa3.same s5
  have en5 := pa5.n
  clear s4 hT3 pa3 en3 tx hL hll zs
  have hx5 : (∃ y, x' = .str y ∧ y ∉ P.nm) ∨ Odd H5 x' := hx'.imp id fun o => o.same s5
  clear hx' s5
  have nmE := hI.names (Nat.le_refl _)
  rw [List.take_length] at nmE
  have dqs : ∀ (H : Hp) (n : Nat) (ss : List Str), DEqs K H n (ss.map V.str) (ss.map V.str) := fun H n ss => DEqs.self fun x hx => by
    obtain ⟨z, _, rfl⟩ := List.mem_map.mp hx
    exact deq_str z
  obtain ⟨dx5, ht5⟩ := id hT5.1
  walk_at "go"
  refine ⟨t, S, rfl, hT5, fun l3 ss3 hl3 hp3 hs3 => ?_⟩
  have s6 := same_new hl3 (.lst (ss3.map V.str))
  have el6 : upd H5 l3 (.lst (ss3.map V.str)) l3 = some (.lst (ss3.map V.str)) := upd_same
  generalize upd H5 l3 (.lst (ss3.map V.str)) = H6 at *
  have en6 := s6 _ _ en5
  walk_at "go"
  refine r_sortL (SqL.of en6) (by omega) fun l4 ss4 hl4 hp4 hs4 => ?_
  have ess4 : ss4 = ss3 := sort_eq (hp4.trans (by rw [← nmE]; exact hp3.symm)) hs4 hs3
  subst ess4
  have ne4 : l3 ≠ l4 := ne_of_none el6 hl4
  refine r_neD (n := 1) ne4 (by decide) (deq_list (n := 0) (SqL.of (look_new el6 hl4)) (SqL.of upd_same) ne4 (dqs _ 0 _)) ?_
  have s7 := s6.trans (same_new hl4 (.lst (ss4.map V.str)))
  generalize upd H6 l4 (.lst (ss4.map V.str)) = H7 at *
  have hT7 := hT5.same s7
  have pa7 := pa5.same s7
  have en7 := pa7.n
  have hx7 : (∃ y, x' = .str y ∧ y ∉ P.nm) ∨ Odd H7 x' := hx5.imp id fun o => o.same s7
  clear s6 s7 hx5 hT5 pa5 en5 en6 el6 hl3 hl4 hp3 hp4 hs3 hs4 ne4 ht5
  obtain ⟨dx7, ht7⟩ := id hT7.1
  walk_at "go"
  refine ⟨t, S, .str zn, rfl, hT7, .inl ⟨_, rfl⟩, ?_⟩
  rw [show who S (.str zn) = some ek from aek]
  walk_at "go"
  refine r_notB ?_
  show ∃ b, V.bl false = .bl b ∧ _
  walk_at "go"
  rcases hx7 with ⟨y, rfl, hy⟩ | ho
  rotate_left
  · refine r_neOo ho.oddV ?_
    walk_at "go"
    exact q _
  refine r_neOs ?_
  by_cases c : y = zf
  rotate_left
  · rw [decide_eq_false c]
    walk_at "go"
    exact q _
  subst c
  rw [decide_eq_true rfl]
  clear hy wx
  obtain ⟨e, ae, hek, hel⟩ := hI.pl.at (k := 0) (by omega)
  rw [if_pos rfl] at hel
  have een := (at_mem ae).2
  obtain ⟨hL0, hA0⟩ := hI.ask0 pf n1 ae
  have hz0 : P.nm[0]? = some (nmF P 0) := by rw [nmF_at (by omega)]; exact List.getElem?_eq_getElem (by omega)
  have xn0 : atI (P.nm.map V.str) 0 = some (.str (nmF P 0)) := atI_nat (j := 0) (by rw [List.getElem?_map, hz0]; rfl)
  have w1 := pf.w1
  have w3 := pf.w3
  have hwz : P.ws[0]? = some P.ws[0] := List.getElem?_eq_getElem (by omega)
  have xw0 : atI (P.ws.map V.str) 0 = some (.str P.ws[0]) := atI_nat (j := 0) (by rw [List.getElem?_map, hwz]; rfl)
  have hwm : P.ws[0] ∈ P.ws := List.getElem_mem (by omega)
  generalize P.ws[0] = w0 at *
  have hwS : w0 ∈ S.ws := hI.wp.mem_iff.mpr hwm
  have hwl : S.ws.length ≤ 50 := by have := hI.wp.length_eq; omega
  have ew7 := pa7.w
  have etop7 := pa7.top
  have n40 : S.hl.length < 40 := by rw [hI.pl.len]; omega
  have plS := hI.pl
  have oS := hI.out f1
  have frS : ∀ i, i < P.nm.length → nmF P i ≠ y := fun i hi e => f1 (by rw [← e, nmF_at hi]; exact List.getElem_mem hi)
  clear hI aek hwz hz0 hwm
  walk_at "go"
  refine r_ixL (SqL.of en7) xn0 ?_
  walk_at "go"
  rename_i d1 hd1 d2 hd2
  refine r_ixL (SqL.of (look_new (look_new ew7 hd1) hd2)) xw0 ?_
  walk_at "go"
  have s8 : Same H7 (upd (upd (upd H7 d1 (.dK [])) d2 (.dK [])) d2 (.dK [(Sum.inr w0, .int 3)])) := same_put ((same_new hd1 _).trans (same_new hd2 _)) (by
    cases r : H7 d2 with
    | none => rfl
    | some u => rw [look_new r hd1] at hd2; cases hd2)
  have nd : d1 ≠ d2 := fun z => by rw [← z, upd_same] at hd2; cases hd2
  have ed1 : upd (upd (upd H7 d1 (.dK [])) d2 (.dK [])) d2 (.dK [(Sum.inr w0, .int 3)]) d1 = some (.dK []) := by rw [upd_ne nd, upd_ne nd]; exact upd_same
  have ed2 : upd (upd (upd H7 d1 (.dK [])) d2 (.dK [])) d2 (.dK [(Sum.inr w0, .int 3)]) d2 = some (.dK [(Sum.inr w0, .int 3)]) := upd_same
  generalize upd (upd (upd H7 d1 (.dK [])) d2 (.dK [])) d2 (.dK [(Sum.inr w0, .int 3)]) = H8 at *
  have hT8 := hT7.same s8
  have pa8 := pa7.same s8
  refine ⟨t, d1, d2, S, y, .str (nmF P 0), [], [(Sum.inr w0, .int 3)], noF, putF' noF w0 3, 8, rfl, hT8, g1, oS, .inl ⟨_, rfl⟩, fun hn => ?_, fun e' he' => ?_⟩
  · rw [show who S (.str (nmF P 0)) = some e from ae] at hn; cases hn
  have ee : e = e' := Option.some.inj (ae.symm.trans he')
  subst ee
  refine ⟨hW, hO, hwl, ed1, AD.nil, by decide, ed2, AD.nil.put w0 3, (by show 1 ≤ 1000; decide), fin_no, fun z n hz => ?_, by decide, by decide, n40, ⟨[nmF P 0], hL0, (by show 1 < 12; decide), hA0⟩, fun v => ?_, fun e2 H9 sb b1 b2 b3 hT9 b4 b5 b6 b7 b8 => ?_⟩
  · unfold putF' at hz
    split at hz
    · rename_i c; cases hz; rw [c]; exact ⟨hwS, by decide, by decide⟩
    · cases hz
  · show (0 : Int) ≤ gN (putF' noF w0 3) v
    unfold gN putF'
    split
    · decide
    · exact Int.le_refl _
  have pl9 := plS.more (by omega) (e2 := e2) (by rw [b5, een]) (fun i hi => by rw [b4]; exact frS i hi)
  have pa9 := pa8.sb pf hT8 (at_mem ae).1 sb
  obtain ⟨S9, eS9⟩ : ∃ S9 : Ts, S9 = { S with hl := S.hl ++ [e2] } := ⟨_, rfl⟩
  rw [← eS9] at pl9 hT9
  have a9 : S9.at y = some e2 := by
    have z := at_of pl9.nodup (e := e2) (by rw [eS9]; exact List.mem_append_right _ (List.mem_singleton.mpr rfl))
    rw [b4] at z; exact z
  have a9z : S9.at (nmF P 0) = some e := by
    have z := at_of pl9.nodup (e := e) (by rw [eS9]; exact List.mem_append_left _ (at_mem ae).1)
    rw [een] at z; exact z
  have k9 : kidsOf S9 y = [] := by
    have z := pl9.nokid
    try dsimp only at z
    rw [if_neg (Nat.lt_irrefl _), b4] at z; exact z
  have d9 : Dep S9 12 e2.n := by
    have z := pl9.dep 12 P.nm.length (by omega) (by omega)
    try dsimp only at z
    rw [if_neg (Nat.lt_irrefl _)] at z; exact z
  have l9 : LineOf S9 y [y, nmF P 0] := .up a9 (by rw [b5, een]) (.top a9z hel)
  have o9 : OfWares S9 := by
    rw [eS9]
    refine ⟨hO.1, fun e' he' z hz => ?_⟩
    rcases List.mem_append.mp he' with m | m
    · exact hO.2 e' m z hz
    · have : e' = e2 := by simpa using m
      subst this
      rw [b7] at hz
      exact absurd rfl hz
  have w9 := pl9.wf
  have sl9 := slim_of w9 hT9.2.2.2.2.1
  have whoE : ∀ e', who S9 (.str y) = some e' → e2 = e' := fun e' h => Option.some.inj (a9.symm.trans h)
  have whoN : who S9 (.str y) ≠ none := fun h => by rw [show who S9 (.str y) = some e2 from a9] at h; cases h
  have en9 := pa9.n
  clear pl9 eS9 s8 nd ed1 ed2 hd1 hd2 hT7 hT8 pa7 pa8 pa9 en7 ew7 etop7 ht7 hA0 hL0 plS frS oS a9z hel hek hW hO hwl hwS xw0 sb b1 b2 b3 b8 n40
  obtain ⟨dx9, ht9⟩ := id hT9.1
  walk_at "go"
  refine ⟨t, S9, .str y, rfl, hT9, .inl ⟨_, rfl⟩, ?_⟩
  rw [show who S9 (.str y) = some e2 from a9]
  walk_at "go"
  refine r_notB ?_
  show ∃ b, V.bl false = .bl b ∧ _
  walk_at "go"
  refine ⟨t, S9, .str y, rfl, hT9, .inl ⟨_, rfl⟩, fun e' he' => ?_, fun hn => absurd hn whoN⟩
  rw [← whoE e' he', b5, een, show eV (some (nmF P 0)) = V.str (nmF P 0) from rfl]
  walk_at "go"
  refine r_ixL (SqL.of en9) xn0 ?_
  walk_at "go"
  refine ⟨t, S9, .str y, rfl, hT9, .inl ⟨y, [y, nmF P 0], rfl, l9, (by show 2 ≤ 1000; decide), fun l5 hl5 => ?_⟩⟩
  have s10 := same_new hl5 (.lst ([y, nmF P 0].map V.str))
  have el10 : upd H9 l5 (.lst ([y, nmF P 0].map V.str)) l5 = some (.lst ([y, nmF P 0].map V.str)) := upd_same
  generalize upd H9 l5 (.lst ([y, nmF P 0].map V.str)) = H10 at *
  have en10 := s10 _ _ en9
  have hT10 := hT9.same s10
  walk_at "go"
  refine r_ixL (SqL.of en10) xn0 ?_
  walk_at "go"
  rename_i m1 hm1
  have ne5 : l5 ≠ m1 := ne_of_none el10 hm1
  refine r_neD (n := 1) ne5 (by decide) (deq_list (n := 0) (SqL.of (look_new el10 hm1)) (SqL.of upd_same) ne5 (dqs _ 0 [y, nmF P 0])) ?_
  have hT11 := hT10.same (same_new hm1 (.lst [V.str y, V.str (nmF P 0)]))
  generalize upd H10 m1 (.lst [V.str y, V.str (nmF P 0)]) = H11 at *
  clear s10 el10 en10 hT10 hm1 ne5 hl5 hT9 ht9 en9
  obtain ⟨dx11, ht11⟩ := id hT11.1
  walk_at "go"
  refine ⟨t, S9, .str y, rfl, hT11, .inl ⟨_, rfl⟩, fun e' he' => ?_, fun hn => absurd hn whoN⟩
  rw [← whoE e' he', b6]
  walk_at "go"
  refine ⟨t, S9, .str y, rfl, hT11, w9, o9, .inl ⟨_, rfl⟩, fun e' he' => ?_, fun hn => absurd hn whoN⟩
  have ee := whoE e' he'
  subst ee
  refine ⟨d9, fun l6 zs6 k6 H12 s12 hl6 el12 hb ad => ?_⟩
  have ez : zs6 = [y] := by rw [← b4]; exact ben_none (by rw [b4]; exact k9) hb
  subst ez
  have ad0 : AD k6 noF := ad.cast fun z => by
    show addF noF (ptOf S9 y).f z = none
    rw [ptOf_at a9]
    unfold addF
    dsimp only
    rw [b7]
    rfl
  have hT12 := hT11.same s12
  clear ad hb
  walk_at "go"
  rename_i m2 hm2
  have ne6 : l6 ≠ m2 := ne_of_none el12 hm2
  refine r_eqD (n := 1) ne6 (by decide) (deq_ad (n := 0) (look_new el12 hm2) upd_same ne6 ad0 AD.nil) ?_
  have hT13 := hT12.same (same_new hm2 (.dK []))
  generalize upd H12 m2 (.dK []) = H13 at *
  clear hT11 hT12 ht11 s12 hl6 el12 hm2 ne6 ad0
  obtain ⟨dx13, ht13⟩ := id hT13.1
  walk_at "go"
  refine ⟨t, S9, .str y, rfl, hT13, sl9, .inl ⟨_, rfl⟩, fun e' he' => ?_, fun hn => absurd hn whoN⟩
  have ee := whoE e' he'
  subst ee
  refine ⟨d9, fun l7 zs7 H14 s14 hl7 el14 hb7 => ?_⟩
  have ez7 : zs7 = [y] := by rw [← b4]; exact ben_none (by rw [b4]; exact k9) hb7
  subst ez7
  walk_at "go"
  rename_i m3 hm3
  have ne7 : l7 ≠ m3 := ne_of_none el14 hm3
  refine r_eqD (n := 1) ne7 (by decide) (deq_list (n := 0) (SqL.of (look_new el14 hm3)) (SqL.of upd_same) ne7 (dqs _ 0 [y])) ?_
  walk_at "go"
  exact q _
theorem txt_mk {K : PySem.W.Frag} {h : Heap} {mg : Str → Option Value} {fa : Addr} {f_is_whole f_is_name f_is_whole_from f_is_amount f_amounts_of f_above_nought f_amount_of f_added f_beyond f_total_of f_are_wares f_check_name f_read_house f_check_promises f_cell_at f_mixed f_name f_elders f_promises f_sums f_caps f_plan f_tree f_thing f_ask f_other f_refused f_founding_refused f_law f_House_init f_Tree_init f_Tree_found f_Tree_wares f_Tree_names f_Tree_has f_Tree_check_house f_Tree_house_of f_Tree_elder_of f_Tree_promise_of f_Tree_cap_of f_Tree_weight_of f_Tree_kids f_Tree_line f_Tree_beneath f_Tree_promised_beneath f_Tree_floors f_Tree_check_more f_Tree_check_move f_Tree_move f_i_NoPromise c_House c_Tree c_TreeError c_NoName c_Taken c_NoHouse c_NoMove c_NoPromise c_NoWare c_NoAmount c_NoNumber c_TooMany c_TooDeep : Addr} (X : K.In h) (G : h.Ns mainGlobals mg) (hfa : mg "law" = some (.ref fa))
    {od_is_whole an_is_whole : Option Addr} {sl_is_whole : Array (Option Value)} {oc_is_whole kV_is_whole dc_is_whole pm_is_whole cd_is_whole ct_is_whole : Value}
    (a_is_whole : PySem.W.nsIn K mainGlobals "is_whole" = some (some (.ref f_is_whole))) (l_is_whole : K.lookup f_is_whole = some ⟨oc_is_whole, od_is_whole, .func (PySem.W.fnOf "is_whole" "is_whole" (defArgs s_is_whole) (defBody s_is_whole) (defScope s_is_whole) .none kV_is_whole dc_is_whole pm_is_whole an_is_whole cd_is_whole ct_is_whole), sl_is_whole⟩) (c_is_whole : PySem.W.codeIn K cd_is_whole "is_whole" = true) (k_is_whole : PySem.W.keepIn K (.ref f_is_whole) = true)
    {od_is_name an_is_name : Option Addr} {sl_is_name : Array (Option Value)} {oc_is_name kV_is_name dc_is_name pm_is_name cd_is_name ct_is_name : Value}
    (a_is_name : PySem.W.nsIn K mainGlobals "is_name" = some (some (.ref f_is_name))) (l_is_name : K.lookup f_is_name = some ⟨oc_is_name, od_is_name, .func (PySem.W.fnOf "is_name" "is_name" (defArgs s_is_name) (defBody s_is_name) (defScope s_is_name) .none kV_is_name dc_is_name pm_is_name an_is_name cd_is_name ct_is_name), sl_is_name⟩) (c_is_name : PySem.W.codeIn K cd_is_name "is_name" = true) (k_is_name : PySem.W.keepIn K (.ref f_is_name) = true)
    {od_is_whole_from an_is_whole_from : Option Addr} {sl_is_whole_from : Array (Option Value)} {oc_is_whole_from kV_is_whole_from dc_is_whole_from pm_is_whole_from cd_is_whole_from ct_is_whole_from : Value}
    (a_is_whole_from : PySem.W.nsIn K mainGlobals "is_whole_from" = some (some (.ref f_is_whole_from))) (l_is_whole_from : K.lookup f_is_whole_from = some ⟨oc_is_whole_from, od_is_whole_from, .func (PySem.W.fnOf "is_whole_from" "is_whole_from" (defArgs s_is_whole_from) (defBody s_is_whole_from) (defScope s_is_whole_from) .none kV_is_whole_from dc_is_whole_from pm_is_whole_from an_is_whole_from cd_is_whole_from ct_is_whole_from), sl_is_whole_from⟩) (c_is_whole_from : PySem.W.codeIn K cd_is_whole_from "is_whole_from" = true) (k_is_whole_from : PySem.W.keepIn K (.ref f_is_whole_from) = true)
    {od_is_amount an_is_amount : Option Addr} {sl_is_amount : Array (Option Value)} {oc_is_amount kV_is_amount dc_is_amount pm_is_amount cd_is_amount ct_is_amount : Value}
    (a_is_amount : PySem.W.nsIn K mainGlobals "is_amount" = some (some (.ref f_is_amount))) (l_is_amount : K.lookup f_is_amount = some ⟨oc_is_amount, od_is_amount, .func (PySem.W.fnOf "is_amount" "is_amount" (defArgs s_is_amount) (defBody s_is_amount) (defScope s_is_amount) .none kV_is_amount dc_is_amount pm_is_amount an_is_amount cd_is_amount ct_is_amount), sl_is_amount⟩) (c_is_amount : PySem.W.codeIn K cd_is_amount "is_amount" = true) (k_is_amount : PySem.W.keepIn K (.ref f_is_amount) = true)
    {od_amounts_of an_amounts_of : Option Addr} {sl_amounts_of : Array (Option Value)} {oc_amounts_of kV_amounts_of dc_amounts_of pm_amounts_of cd_amounts_of ct_amounts_of : Value}
    (a_amounts_of : PySem.W.nsIn K mainGlobals "amounts_of" = some (some (.ref f_amounts_of))) (l_amounts_of : K.lookup f_amounts_of = some ⟨oc_amounts_of, od_amounts_of, .func (PySem.W.fnOf "amounts_of" "amounts_of" (defArgs s_amounts_of) (defBody s_amounts_of) (defScope s_amounts_of) .none kV_amounts_of dc_amounts_of pm_amounts_of an_amounts_of cd_amounts_of ct_amounts_of), sl_amounts_of⟩) (c_amounts_of : PySem.W.codeIn K cd_amounts_of "amounts_of" = true) (k_amounts_of : PySem.W.keepIn K (.ref f_amounts_of) = true)
    {od_above_nought an_above_nought : Option Addr} {sl_above_nought : Array (Option Value)} {oc_above_nought kV_above_nought dc_above_nought pm_above_nought cd_above_nought ct_above_nought : Value}
    (a_above_nought : PySem.W.nsIn K mainGlobals "above_nought" = some (some (.ref f_above_nought))) (l_above_nought : K.lookup f_above_nought = some ⟨oc_above_nought, od_above_nought, .func (PySem.W.fnOf "above_nought" "above_nought" (defArgs s_above_nought) (defBody s_above_nought) (defScope s_above_nought) .none kV_above_nought dc_above_nought pm_above_nought an_above_nought cd_above_nought ct_above_nought), sl_above_nought⟩) (c_above_nought : PySem.W.codeIn K cd_above_nought "above_nought" = true) (k_above_nought : PySem.W.keepIn K (.ref f_above_nought) = true)
    {od_amount_of an_amount_of : Option Addr} {sl_amount_of : Array (Option Value)} {oc_amount_of kV_amount_of dc_amount_of pm_amount_of cd_amount_of ct_amount_of : Value}
    (a_amount_of : PySem.W.nsIn K mainGlobals "amount_of" = some (some (.ref f_amount_of))) (l_amount_of : K.lookup f_amount_of = some ⟨oc_amount_of, od_amount_of, .func (PySem.W.fnOf "amount_of" "amount_of" (defArgs s_amount_of) (defBody s_amount_of) (defScope s_amount_of) .none kV_amount_of dc_amount_of pm_amount_of an_amount_of cd_amount_of ct_amount_of), sl_amount_of⟩) (c_amount_of : PySem.W.codeIn K cd_amount_of "amount_of" = true) (k_amount_of : PySem.W.keepIn K (.ref f_amount_of) = true)
    {od_added an_added : Option Addr} {sl_added : Array (Option Value)} {oc_added kV_added dc_added pm_added cd_added ct_added : Value}
    (a_added : PySem.W.nsIn K mainGlobals "added" = some (some (.ref f_added))) (l_added : K.lookup f_added = some ⟨oc_added, od_added, .func (PySem.W.fnOf "added" "added" (defArgs s_added) (defBody s_added) (defScope s_added) .none kV_added dc_added pm_added an_added cd_added ct_added), sl_added⟩) (c_added : PySem.W.codeIn K cd_added "added" = true) (k_added : PySem.W.keepIn K (.ref f_added) = true)
    {od_beyond an_beyond : Option Addr} {sl_beyond : Array (Option Value)} {oc_beyond kV_beyond dc_beyond pm_beyond cd_beyond ct_beyond : Value}
    (a_beyond : PySem.W.nsIn K mainGlobals "beyond" = some (some (.ref f_beyond))) (l_beyond : K.lookup f_beyond = some ⟨oc_beyond, od_beyond, .func (PySem.W.fnOf "beyond" "beyond" (defArgs s_beyond) (defBody s_beyond) (defScope s_beyond) .none kV_beyond dc_beyond pm_beyond an_beyond cd_beyond ct_beyond), sl_beyond⟩) (c_beyond : PySem.W.codeIn K cd_beyond "beyond" = true) (k_beyond : PySem.W.keepIn K (.ref f_beyond) = true)
    {od_total_of an_total_of : Option Addr} {sl_total_of : Array (Option Value)} {oc_total_of kV_total_of dc_total_of pm_total_of cd_total_of ct_total_of : Value}
    (a_total_of : PySem.W.nsIn K mainGlobals "total_of" = some (some (.ref f_total_of))) (l_total_of : K.lookup f_total_of = some ⟨oc_total_of, od_total_of, .func (PySem.W.fnOf "total_of" "total_of" (defArgs s_total_of) (defBody s_total_of) (defScope s_total_of) .none kV_total_of dc_total_of pm_total_of an_total_of cd_total_of ct_total_of), sl_total_of⟩) (c_total_of : PySem.W.codeIn K cd_total_of "total_of" = true) (k_total_of : PySem.W.keepIn K (.ref f_total_of) = true)
    {od_are_wares an_are_wares : Option Addr} {sl_are_wares : Array (Option Value)} {oc_are_wares kV_are_wares dc_are_wares pm_are_wares cd_are_wares ct_are_wares : Value}
    (a_are_wares : PySem.W.nsIn K mainGlobals "are_wares" = some (some (.ref f_are_wares))) (l_are_wares : K.lookup f_are_wares = some ⟨oc_are_wares, od_are_wares, .func (PySem.W.fnOf "are_wares" "are_wares" (defArgs s_are_wares) (defBody s_are_wares) (defScope s_are_wares) .none kV_are_wares dc_are_wares pm_are_wares an_are_wares cd_are_wares ct_are_wares), sl_are_wares⟩) (c_are_wares : PySem.W.codeIn K cd_are_wares "are_wares" = true) (k_are_wares : PySem.W.keepIn K (.ref f_are_wares) = true)
    {od_check_name an_check_name : Option Addr} {sl_check_name : Array (Option Value)} {oc_check_name kV_check_name dc_check_name pm_check_name cd_check_name ct_check_name : Value}
    (a_check_name : PySem.W.nsIn K mainGlobals "check_name" = some (some (.ref f_check_name))) (l_check_name : K.lookup f_check_name = some ⟨oc_check_name, od_check_name, .func (PySem.W.fnOf "check_name" "check_name" (defArgs s_check_name) (defBody s_check_name) (defScope s_check_name) .none kV_check_name dc_check_name pm_check_name an_check_name cd_check_name ct_check_name), sl_check_name⟩) (c_check_name : PySem.W.codeIn K cd_check_name "check_name" = true) (k_check_name : PySem.W.keepIn K (.ref f_check_name) = true)
    {od_read_house an_read_house : Option Addr} {sl_read_house : Array (Option Value)} {oc_read_house kV_read_house dc_read_house pm_read_house cd_read_house ct_read_house : Value}
    (a_read_house : PySem.W.nsIn K mainGlobals "read_house" = some (some (.ref f_read_house))) (l_read_house : K.lookup f_read_house = some ⟨oc_read_house, od_read_house, .func (PySem.W.fnOf "read_house" "read_house" (defArgs s_read_house) (defBody s_read_house) (defScope s_read_house) .none kV_read_house dc_read_house pm_read_house an_read_house cd_read_house ct_read_house), sl_read_house⟩) (c_read_house : PySem.W.codeIn K cd_read_house "read_house" = true) (k_read_house : PySem.W.keepIn K (.ref f_read_house) = true)
    {od_check_promises an_check_promises : Option Addr} {sl_check_promises : Array (Option Value)} {oc_check_promises kV_check_promises dc_check_promises pm_check_promises cd_check_promises ct_check_promises : Value}
    (a_check_promises : PySem.W.nsIn K mainGlobals "check_promises" = some (some (.ref f_check_promises))) (l_check_promises : K.lookup f_check_promises = some ⟨oc_check_promises, od_check_promises, .func (PySem.W.fnOf "check_promises" "check_promises" (defArgs s_check_promises) (defBody s_check_promises) (defScope s_check_promises) .none kV_check_promises dc_check_promises pm_check_promises an_check_promises cd_check_promises ct_check_promises), sl_check_promises⟩) (c_check_promises : PySem.W.codeIn K cd_check_promises "check_promises" = true) (k_check_promises : PySem.W.keepIn K (.ref f_check_promises) = true)
    {od_cell_at an_cell_at : Option Addr} {sl_cell_at : Array (Option Value)} {oc_cell_at kV_cell_at dc_cell_at pm_cell_at cd_cell_at ct_cell_at : Value}
    (a_cell_at : PySem.W.nsIn K mainGlobals "_law_cell_at" = some (some (.ref f_cell_at))) (l_cell_at : K.lookup f_cell_at = some ⟨oc_cell_at, od_cell_at, .func (PySem.W.fnOf "_law_cell_at" "_law_cell_at" (defArgs s_cell_at) (defBody s_cell_at) (defScope s_cell_at) .none kV_cell_at dc_cell_at pm_cell_at an_cell_at cd_cell_at ct_cell_at), sl_cell_at⟩) (c_cell_at : PySem.W.codeIn K cd_cell_at "_law_cell_at" = true) (k_cell_at : PySem.W.keepIn K (.ref f_cell_at) = true)
    {od_mixed an_mixed : Option Addr} {sl_mixed : Array (Option Value)} {oc_mixed kV_mixed dc_mixed pm_mixed cd_mixed ct_mixed : Value}
    (a_mixed : PySem.W.nsIn K mainGlobals "_law_mixed" = some (some (.ref f_mixed))) (l_mixed : K.lookup f_mixed = some ⟨oc_mixed, od_mixed, .func (PySem.W.fnOf "_law_mixed" "_law_mixed" (defArgs s_mixed) (defBody s_mixed) (defScope s_mixed) .none kV_mixed dc_mixed pm_mixed an_mixed cd_mixed ct_mixed), sl_mixed⟩) (c_mixed : PySem.W.codeIn K cd_mixed "_law_mixed" = true) (k_mixed : PySem.W.keepIn K (.ref f_mixed) = true)
    {od_name an_name : Option Addr} {sl_name : Array (Option Value)} {oc_name kV_name dc_name pm_name cd_name ct_name : Value}
    (a_name : PySem.W.nsIn K mainGlobals "_law_name" = some (some (.ref f_name))) (l_name : K.lookup f_name = some ⟨oc_name, od_name, .func (PySem.W.fnOf "_law_name" "_law_name" (defArgs s_name) (defBody s_name) (defScope s_name) .none kV_name dc_name pm_name an_name cd_name ct_name), sl_name⟩) (c_name : PySem.W.codeIn K cd_name "_law_name" = true) (k_name : PySem.W.keepIn K (.ref f_name) = true)
    {od_elders an_elders : Option Addr} {sl_elders : Array (Option Value)} {oc_elders kV_elders dc_elders pm_elders cd_elders ct_elders : Value}
    (a_elders : PySem.W.nsIn K mainGlobals "_law_elders" = some (some (.ref f_elders))) (l_elders : K.lookup f_elders = some ⟨oc_elders, od_elders, .func (PySem.W.fnOf "_law_elders" "_law_elders" (defArgs s_elders) (defBody s_elders) (defScope s_elders) .none kV_elders dc_elders pm_elders an_elders cd_elders ct_elders), sl_elders⟩) (c_elders : PySem.W.codeIn K cd_elders "_law_elders" = true) (k_elders : PySem.W.keepIn K (.ref f_elders) = true)
    {od_promises an_promises : Option Addr} {sl_promises : Array (Option Value)} {oc_promises kV_promises dc_promises pm_promises cd_promises ct_promises : Value}
    (a_promises : PySem.W.nsIn K mainGlobals "_law_promises" = some (some (.ref f_promises))) (l_promises : K.lookup f_promises = some ⟨oc_promises, od_promises, .func (PySem.W.fnOf "_law_promises" "_law_promises" (defArgs s_promises) (defBody s_promises) (defScope s_promises) .none kV_promises dc_promises pm_promises an_promises cd_promises ct_promises), sl_promises⟩) (c_promises : PySem.W.codeIn K cd_promises "_law_promises" = true) (k_promises : PySem.W.keepIn K (.ref f_promises) = true)
    {od_sums an_sums : Option Addr} {sl_sums : Array (Option Value)} {oc_sums kV_sums dc_sums pm_sums cd_sums ct_sums : Value}
    (a_sums : PySem.W.nsIn K mainGlobals "_law_sums" = some (some (.ref f_sums))) (l_sums : K.lookup f_sums = some ⟨oc_sums, od_sums, .func (PySem.W.fnOf "_law_sums" "_law_sums" (defArgs s_sums) (defBody s_sums) (defScope s_sums) .none kV_sums dc_sums pm_sums an_sums cd_sums ct_sums), sl_sums⟩) (c_sums : PySem.W.codeIn K cd_sums "_law_sums" = true) (k_sums : PySem.W.keepIn K (.ref f_sums) = true)
    {od_caps an_caps : Option Addr} {sl_caps : Array (Option Value)} {oc_caps kV_caps dc_caps pm_caps cd_caps ct_caps : Value}
    (a_caps : PySem.W.nsIn K mainGlobals "_law_caps" = some (some (.ref f_caps))) (l_caps : K.lookup f_caps = some ⟨oc_caps, od_caps, .func (PySem.W.fnOf "_law_caps" "_law_caps" (defArgs s_caps) (defBody s_caps) (defScope s_caps) .none kV_caps dc_caps pm_caps an_caps cd_caps ct_caps), sl_caps⟩) (c_caps : PySem.W.codeIn K cd_caps "_law_caps" = true) (k_caps : PySem.W.keepIn K (.ref f_caps) = true)
    {od_plan an_plan : Option Addr} {sl_plan : Array (Option Value)} {oc_plan kV_plan dc_plan pm_plan cd_plan ct_plan : Value}
    (a_plan : PySem.W.nsIn K mainGlobals "_law_plan" = some (some (.ref f_plan))) (l_plan : K.lookup f_plan = some ⟨oc_plan, od_plan, .func (PySem.W.fnOf "_law_plan" "_law_plan" (defArgs s_plan) (defBody s_plan) (defScope s_plan) .none kV_plan dc_plan pm_plan an_plan cd_plan ct_plan), sl_plan⟩) (c_plan : PySem.W.codeIn K cd_plan "_law_plan" = true) (k_plan : PySem.W.keepIn K (.ref f_plan) = true)
    {od_tree an_tree : Option Addr} {sl_tree : Array (Option Value)} {oc_tree kV_tree dc_tree pm_tree cd_tree ct_tree : Value}
    (a_tree : PySem.W.nsIn K mainGlobals "_law_tree" = some (some (.ref f_tree))) (l_tree : K.lookup f_tree = some ⟨oc_tree, od_tree, .func (PySem.W.fnOf "_law_tree" "_law_tree" (defArgs s_tree) (defBody s_tree) (defScope s_tree) .none kV_tree dc_tree pm_tree an_tree cd_tree ct_tree), sl_tree⟩) (c_tree : PySem.W.codeIn K cd_tree "_law_tree" = true) (k_tree : PySem.W.keepIn K (.ref f_tree) = true)
    {od_thing an_thing : Option Addr} {sl_thing : Array (Option Value)} {oc_thing kV_thing dc_thing pm_thing cd_thing ct_thing : Value}
    (a_thing : PySem.W.nsIn K mainGlobals "_law_thing" = some (some (.ref f_thing))) (l_thing : K.lookup f_thing = some ⟨oc_thing, od_thing, .func (PySem.W.fnOf "_law_thing" "_law_thing" (defArgs s_thing) (defBody s_thing) (defScope s_thing) .none kV_thing dc_thing pm_thing an_thing cd_thing ct_thing), sl_thing⟩) (c_thing : PySem.W.codeIn K cd_thing "_law_thing" = true) (k_thing : PySem.W.keepIn K (.ref f_thing) = true)
    {od_ask an_ask : Option Addr} {sl_ask : Array (Option Value)} {oc_ask kV_ask dc_ask pm_ask cd_ask ct_ask : Value}
    (a_ask : PySem.W.nsIn K mainGlobals "_law_ask" = some (some (.ref f_ask))) (l_ask : K.lookup f_ask = some ⟨oc_ask, od_ask, .func (PySem.W.fnOf "_law_ask" "_law_ask" (defArgs s_ask) (defBody s_ask) (defScope s_ask) .none kV_ask dc_ask pm_ask an_ask cd_ask ct_ask), sl_ask⟩) (c_ask : PySem.W.codeIn K cd_ask "_law_ask" = true) (k_ask : PySem.W.keepIn K (.ref f_ask) = true)
    {od_other an_other : Option Addr} {sl_other : Array (Option Value)} {oc_other kV_other dc_other pm_other cd_other ct_other : Value}
    (a_other : PySem.W.nsIn K mainGlobals "_law_other" = some (some (.ref f_other))) (l_other : K.lookup f_other = some ⟨oc_other, od_other, .func (PySem.W.fnOf "_law_other" "_law_other" (defArgs s_other) (defBody s_other) (defScope s_other) .none kV_other dc_other pm_other an_other cd_other ct_other), sl_other⟩) (c_other : PySem.W.codeIn K cd_other "_law_other" = true) (k_other : PySem.W.keepIn K (.ref f_other) = true)
    {od_refused an_refused : Option Addr} {sl_refused : Array (Option Value)} {oc_refused kV_refused dc_refused pm_refused cd_refused ct_refused : Value}
    (a_refused : PySem.W.nsIn K mainGlobals "_law_refused" = some (some (.ref f_refused))) (l_refused : K.lookup f_refused = some ⟨oc_refused, od_refused, .func (PySem.W.fnOf "_law_refused" "_law_refused" (defArgs s_refused) (defBody s_refused) (defScope s_refused) .none kV_refused dc_refused pm_refused an_refused cd_refused ct_refused), sl_refused⟩) (c_refused : PySem.W.codeIn K cd_refused "_law_refused" = true) (k_refused : PySem.W.keepIn K (.ref f_refused) = true)
    {od_founding_refused an_founding_refused : Option Addr} {sl_founding_refused : Array (Option Value)} {oc_founding_refused kV_founding_refused dc_founding_refused pm_founding_refused cd_founding_refused ct_founding_refused : Value}
    (a_founding_refused : PySem.W.nsIn K mainGlobals "_law_founding_refused" = some (some (.ref f_founding_refused))) (l_founding_refused : K.lookup f_founding_refused = some ⟨oc_founding_refused, od_founding_refused, .func (PySem.W.fnOf "_law_founding_refused" "_law_founding_refused" (defArgs s_founding_refused) (defBody s_founding_refused) (defScope s_founding_refused) .none kV_founding_refused dc_founding_refused pm_founding_refused an_founding_refused cd_founding_refused ct_founding_refused), sl_founding_refused⟩) (c_founding_refused : PySem.W.codeIn K cd_founding_refused "_law_founding_refused" = true) (k_founding_refused : PySem.W.keepIn K (.ref f_founding_refused) = true)
    {od_law an_law : Option Addr} {sl_law : Array (Option Value)} {oc_law kV_law dc_law pm_law cd_law ct_law : Value}
    (a_law : PySem.W.nsIn K mainGlobals "law" = some (some (.ref f_law))) (l_law : K.lookup f_law = some ⟨oc_law, od_law, .func (PySem.W.fnOf "law" "law" (defArgs s_law) (defBody s_law) (defScope s_law) .none kV_law dc_law pm_law an_law cd_law ct_law), sl_law⟩) (c_law : PySem.W.codeIn K cd_law "law" = true) (k_law : PySem.W.keepIn K (.ref f_law) = true)
    {od_House_init an_House_init : Option Addr} {sl_House_init : Array (Option Value)} {oc_House_init kV_House_init dc_House_init pm_House_init cd_House_init ct_House_init : Value}
    (a_House_init : PySem.W.findIn K (.ref c_House) "__init__" = some (some (.ref f_House_init))) (l_House_init : K.lookup f_House_init = some ⟨oc_House_init, od_House_init, .func (PySem.W.fnOf "__init__" "House.__init__" (defArgs s_House_init) (defBody s_House_init) (defScope s_House_init) .none kV_House_init dc_House_init pm_House_init an_House_init cd_House_init ct_House_init), sl_House_init⟩) (c_House_init : PySem.W.codeIn K cd_House_init "House.__init__" = true) (k_House_init : PySem.W.keepIn K (.ref f_House_init) = true)
    {od_Tree_init an_Tree_init : Option Addr} {sl_Tree_init : Array (Option Value)} {oc_Tree_init kV_Tree_init dc_Tree_init pm_Tree_init cd_Tree_init ct_Tree_init v0_Tree_init : Value} {t_Tree_init : Addr}
    (a_Tree_init : PySem.W.findIn K (.ref c_Tree) "__init__" = some (some (.ref f_Tree_init))) (l_Tree_init : K.lookup f_Tree_init = some ⟨oc_Tree_init, od_Tree_init, .func (PySem.W.fnOf "__init__" "Tree.__init__" (defArgs s_Tree_init) (defBody s_Tree_init) (defScope s_Tree_init) (.ref t_Tree_init) kV_Tree_init dc_Tree_init pm_Tree_init an_Tree_init cd_Tree_init ct_Tree_init), sl_Tree_init⟩) (c_Tree_init : PySem.W.codeIn K cd_Tree_init "Tree.__init__" = true) (k_Tree_init : PySem.W.keepIn K (.ref f_Tree_init) = true)
    {ob_Tree_init : Obj} {nn_Tree_init : Nat} (tt_Tree_init : K.lookup t_Tree_init = some ob_Tree_init) (td_Tree_init : ob_Tree_init.data = .seq #[v0_Tree_init] nn_Tree_init) (rd_Tree_init : Vals [.int 1] [v0_Tree_init])
    {od_Tree_found an_Tree_found : Option Addr} {sl_Tree_found : Array (Option Value)} {oc_Tree_found kV_Tree_found dc_Tree_found pm_Tree_found cd_Tree_found ct_Tree_found v0_Tree_found : Value} {t_Tree_found : Addr}
    (a_Tree_found : PySem.W.findIn K (.ref c_Tree) "found" = some (some (.ref f_Tree_found))) (l_Tree_found : K.lookup f_Tree_found = some ⟨oc_Tree_found, od_Tree_found, .func (PySem.W.fnOf "found" "Tree.found" (defArgs s_Tree_found) (defBody s_Tree_found) (defScope s_Tree_found) (.ref t_Tree_found) kV_Tree_found dc_Tree_found pm_Tree_found an_Tree_found cd_Tree_found ct_Tree_found), sl_Tree_found⟩) (c_Tree_found : PySem.W.codeIn K cd_Tree_found "Tree.found" = true) (k_Tree_found : PySem.W.keepIn K (.ref f_Tree_found) = true)
    {ob_Tree_found : Obj} {nn_Tree_found : Nat} (tt_Tree_found : K.lookup t_Tree_found = some ob_Tree_found) (td_Tree_found : ob_Tree_found.data = .seq #[v0_Tree_found] nn_Tree_found) (rd_Tree_found : Vals [.int 1] [v0_Tree_found])
    {od_Tree_wares an_Tree_wares : Option Addr} {sl_Tree_wares : Array (Option Value)} {oc_Tree_wares kV_Tree_wares dc_Tree_wares pm_Tree_wares cd_Tree_wares ct_Tree_wares : Value}
    (a_Tree_wares : PySem.W.findIn K (.ref c_Tree) "wares" = some (some (.ref f_Tree_wares))) (l_Tree_wares : K.lookup f_Tree_wares = some ⟨oc_Tree_wares, od_Tree_wares, .func (PySem.W.fnOf "wares" "Tree.wares" (defArgs s_Tree_wares) (defBody s_Tree_wares) (defScope s_Tree_wares) .none kV_Tree_wares dc_Tree_wares pm_Tree_wares an_Tree_wares cd_Tree_wares ct_Tree_wares), sl_Tree_wares⟩) (c_Tree_wares : PySem.W.codeIn K cd_Tree_wares "Tree.wares" = true) (k_Tree_wares : PySem.W.keepIn K (.ref f_Tree_wares) = true)
    {od_Tree_names an_Tree_names : Option Addr} {sl_Tree_names : Array (Option Value)} {oc_Tree_names kV_Tree_names dc_Tree_names pm_Tree_names cd_Tree_names ct_Tree_names : Value}
    (a_Tree_names : PySem.W.findIn K (.ref c_Tree) "names" = some (some (.ref f_Tree_names))) (l_Tree_names : K.lookup f_Tree_names = some ⟨oc_Tree_names, od_Tree_names, .func (PySem.W.fnOf "names" "Tree.names" (defArgs s_Tree_names) (defBody s_Tree_names) (defScope s_Tree_names) .none kV_Tree_names dc_Tree_names pm_Tree_names an_Tree_names cd_Tree_names ct_Tree_names), sl_Tree_names⟩) (c_Tree_names : PySem.W.codeIn K cd_Tree_names "Tree.names" = true) (k_Tree_names : PySem.W.keepIn K (.ref f_Tree_names) = true)
    {od_Tree_has an_Tree_has : Option Addr} {sl_Tree_has : Array (Option Value)} {oc_Tree_has kV_Tree_has dc_Tree_has pm_Tree_has cd_Tree_has ct_Tree_has : Value}
    (a_Tree_has : PySem.W.findIn K (.ref c_Tree) "has" = some (some (.ref f_Tree_has))) (l_Tree_has : K.lookup f_Tree_has = some ⟨oc_Tree_has, od_Tree_has, .func (PySem.W.fnOf "has" "Tree.has" (defArgs s_Tree_has) (defBody s_Tree_has) (defScope s_Tree_has) .none kV_Tree_has dc_Tree_has pm_Tree_has an_Tree_has cd_Tree_has ct_Tree_has), sl_Tree_has⟩) (c_Tree_has : PySem.W.codeIn K cd_Tree_has "Tree.has" = true) (k_Tree_has : PySem.W.keepIn K (.ref f_Tree_has) = true)
    {od_Tree_check_house an_Tree_check_house : Option Addr} {sl_Tree_check_house : Array (Option Value)} {oc_Tree_check_house kV_Tree_check_house dc_Tree_check_house pm_Tree_check_house cd_Tree_check_house ct_Tree_check_house : Value}
    (a_Tree_check_house : PySem.W.findIn K (.ref c_Tree) "check_house" = some (some (.ref f_Tree_check_house))) (l_Tree_check_house : K.lookup f_Tree_check_house = some ⟨oc_Tree_check_house, od_Tree_check_house, .func (PySem.W.fnOf "check_house" "Tree.check_house" (defArgs s_Tree_check_house) (defBody s_Tree_check_house) (defScope s_Tree_check_house) .none kV_Tree_check_house dc_Tree_check_house pm_Tree_check_house an_Tree_check_house cd_Tree_check_house ct_Tree_check_house), sl_Tree_check_house⟩) (c_Tree_check_house : PySem.W.codeIn K cd_Tree_check_house "Tree.check_house" = true) (k_Tree_check_house : PySem.W.keepIn K (.ref f_Tree_check_house) = true)
    {od_Tree_house_of an_Tree_house_of : Option Addr} {sl_Tree_house_of : Array (Option Value)} {oc_Tree_house_of kV_Tree_house_of dc_Tree_house_of pm_Tree_house_of cd_Tree_house_of ct_Tree_house_of : Value}
    (a_Tree_house_of : PySem.W.findIn K (.ref c_Tree) "house_of" = some (some (.ref f_Tree_house_of))) (l_Tree_house_of : K.lookup f_Tree_house_of = some ⟨oc_Tree_house_of, od_Tree_house_of, .func (PySem.W.fnOf "house_of" "Tree.house_of" (defArgs s_Tree_house_of) (defBody s_Tree_house_of) (defScope s_Tree_house_of) .none kV_Tree_house_of dc_Tree_house_of pm_Tree_house_of an_Tree_house_of cd_Tree_house_of ct_Tree_house_of), sl_Tree_house_of⟩) (c_Tree_house_of : PySem.W.codeIn K cd_Tree_house_of "Tree.house_of" = true) (k_Tree_house_of : PySem.W.keepIn K (.ref f_Tree_house_of) = true)
    {od_Tree_elder_of an_Tree_elder_of : Option Addr} {sl_Tree_elder_of : Array (Option Value)} {oc_Tree_elder_of kV_Tree_elder_of dc_Tree_elder_of pm_Tree_elder_of cd_Tree_elder_of ct_Tree_elder_of : Value}
    (a_Tree_elder_of : PySem.W.findIn K (.ref c_Tree) "elder_of" = some (some (.ref f_Tree_elder_of))) (l_Tree_elder_of : K.lookup f_Tree_elder_of = some ⟨oc_Tree_elder_of, od_Tree_elder_of, .func (PySem.W.fnOf "elder_of" "Tree.elder_of" (defArgs s_Tree_elder_of) (defBody s_Tree_elder_of) (defScope s_Tree_elder_of) .none kV_Tree_elder_of dc_Tree_elder_of pm_Tree_elder_of an_Tree_elder_of cd_Tree_elder_of ct_Tree_elder_of), sl_Tree_elder_of⟩) (c_Tree_elder_of : PySem.W.codeIn K cd_Tree_elder_of "Tree.elder_of" = true) (k_Tree_elder_of : PySem.W.keepIn K (.ref f_Tree_elder_of) = true)
    {od_Tree_promise_of an_Tree_promise_of : Option Addr} {sl_Tree_promise_of : Array (Option Value)} {oc_Tree_promise_of kV_Tree_promise_of dc_Tree_promise_of pm_Tree_promise_of cd_Tree_promise_of ct_Tree_promise_of : Value}
    (a_Tree_promise_of : PySem.W.findIn K (.ref c_Tree) "promise_of" = some (some (.ref f_Tree_promise_of))) (l_Tree_promise_of : K.lookup f_Tree_promise_of = some ⟨oc_Tree_promise_of, od_Tree_promise_of, .func (PySem.W.fnOf "promise_of" "Tree.promise_of" (defArgs s_Tree_promise_of) (defBody s_Tree_promise_of) (defScope s_Tree_promise_of) .none kV_Tree_promise_of dc_Tree_promise_of pm_Tree_promise_of an_Tree_promise_of cd_Tree_promise_of ct_Tree_promise_of), sl_Tree_promise_of⟩) (c_Tree_promise_of : PySem.W.codeIn K cd_Tree_promise_of "Tree.promise_of" = true) (k_Tree_promise_of : PySem.W.keepIn K (.ref f_Tree_promise_of) = true)
    {od_Tree_cap_of an_Tree_cap_of : Option Addr} {sl_Tree_cap_of : Array (Option Value)} {oc_Tree_cap_of kV_Tree_cap_of dc_Tree_cap_of pm_Tree_cap_of cd_Tree_cap_of ct_Tree_cap_of : Value}
    (a_Tree_cap_of : PySem.W.findIn K (.ref c_Tree) "cap_of" = some (some (.ref f_Tree_cap_of))) (l_Tree_cap_of : K.lookup f_Tree_cap_of = some ⟨oc_Tree_cap_of, od_Tree_cap_of, .func (PySem.W.fnOf "cap_of" "Tree.cap_of" (defArgs s_Tree_cap_of) (defBody s_Tree_cap_of) (defScope s_Tree_cap_of) .none kV_Tree_cap_of dc_Tree_cap_of pm_Tree_cap_of an_Tree_cap_of cd_Tree_cap_of ct_Tree_cap_of), sl_Tree_cap_of⟩) (c_Tree_cap_of : PySem.W.codeIn K cd_Tree_cap_of "Tree.cap_of" = true) (k_Tree_cap_of : PySem.W.keepIn K (.ref f_Tree_cap_of) = true)
    {od_Tree_weight_of an_Tree_weight_of : Option Addr} {sl_Tree_weight_of : Array (Option Value)} {oc_Tree_weight_of kV_Tree_weight_of dc_Tree_weight_of pm_Tree_weight_of cd_Tree_weight_of ct_Tree_weight_of : Value}
    (a_Tree_weight_of : PySem.W.findIn K (.ref c_Tree) "weight_of" = some (some (.ref f_Tree_weight_of))) (l_Tree_weight_of : K.lookup f_Tree_weight_of = some ⟨oc_Tree_weight_of, od_Tree_weight_of, .func (PySem.W.fnOf "weight_of" "Tree.weight_of" (defArgs s_Tree_weight_of) (defBody s_Tree_weight_of) (defScope s_Tree_weight_of) .none kV_Tree_weight_of dc_Tree_weight_of pm_Tree_weight_of an_Tree_weight_of cd_Tree_weight_of ct_Tree_weight_of), sl_Tree_weight_of⟩) (c_Tree_weight_of : PySem.W.codeIn K cd_Tree_weight_of "Tree.weight_of" = true) (k_Tree_weight_of : PySem.W.keepIn K (.ref f_Tree_weight_of) = true)
    {od_Tree_kids an_Tree_kids : Option Addr} {sl_Tree_kids : Array (Option Value)} {oc_Tree_kids kV_Tree_kids dc_Tree_kids pm_Tree_kids cd_Tree_kids ct_Tree_kids : Value}
    (a_Tree_kids : PySem.W.findIn K (.ref c_Tree) "kids" = some (some (.ref f_Tree_kids))) (l_Tree_kids : K.lookup f_Tree_kids = some ⟨oc_Tree_kids, od_Tree_kids, .func (PySem.W.fnOf "kids" "Tree.kids" (defArgs s_Tree_kids) (defBody s_Tree_kids) (defScope s_Tree_kids) .none kV_Tree_kids dc_Tree_kids pm_Tree_kids an_Tree_kids cd_Tree_kids ct_Tree_kids), sl_Tree_kids⟩) (c_Tree_kids : PySem.W.codeIn K cd_Tree_kids "Tree.kids" = true) (k_Tree_kids : PySem.W.keepIn K (.ref f_Tree_kids) = true)
    {od_Tree_line an_Tree_line : Option Addr} {sl_Tree_line : Array (Option Value)} {oc_Tree_line kV_Tree_line dc_Tree_line pm_Tree_line cd_Tree_line ct_Tree_line : Value}
    (a_Tree_line : PySem.W.findIn K (.ref c_Tree) "line" = some (some (.ref f_Tree_line))) (l_Tree_line : K.lookup f_Tree_line = some ⟨oc_Tree_line, od_Tree_line, .func (PySem.W.fnOf "line" "Tree.line" (defArgs s_Tree_line) (defBody s_Tree_line) (defScope s_Tree_line) .none kV_Tree_line dc_Tree_line pm_Tree_line an_Tree_line cd_Tree_line ct_Tree_line), sl_Tree_line⟩) (c_Tree_line : PySem.W.codeIn K cd_Tree_line "Tree.line" = true) (k_Tree_line : PySem.W.keepIn K (.ref f_Tree_line) = true)
    {od_Tree_beneath an_Tree_beneath : Option Addr} {sl_Tree_beneath : Array (Option Value)} {oc_Tree_beneath kV_Tree_beneath dc_Tree_beneath pm_Tree_beneath cd_Tree_beneath ct_Tree_beneath : Value}
    (a_Tree_beneath : PySem.W.findIn K (.ref c_Tree) "beneath" = some (some (.ref f_Tree_beneath))) (l_Tree_beneath : K.lookup f_Tree_beneath = some ⟨oc_Tree_beneath, od_Tree_beneath, .func (PySem.W.fnOf "beneath" "Tree.beneath" (defArgs s_Tree_beneath) (defBody s_Tree_beneath) (defScope s_Tree_beneath) .none kV_Tree_beneath dc_Tree_beneath pm_Tree_beneath an_Tree_beneath cd_Tree_beneath ct_Tree_beneath), sl_Tree_beneath⟩) (c_Tree_beneath : PySem.W.codeIn K cd_Tree_beneath "Tree.beneath" = true) (k_Tree_beneath : PySem.W.keepIn K (.ref f_Tree_beneath) = true)
    {od_Tree_promised_beneath an_Tree_promised_beneath : Option Addr} {sl_Tree_promised_beneath : Array (Option Value)} {oc_Tree_promised_beneath kV_Tree_promised_beneath dc_Tree_promised_beneath pm_Tree_promised_beneath cd_Tree_promised_beneath ct_Tree_promised_beneath : Value}
    (a_Tree_promised_beneath : PySem.W.findIn K (.ref c_Tree) "promised_beneath" = some (some (.ref f_Tree_promised_beneath))) (l_Tree_promised_beneath : K.lookup f_Tree_promised_beneath = some ⟨oc_Tree_promised_beneath, od_Tree_promised_beneath, .func (PySem.W.fnOf "promised_beneath" "Tree.promised_beneath" (defArgs s_Tree_promised_beneath) (defBody s_Tree_promised_beneath) (defScope s_Tree_promised_beneath) .none kV_Tree_promised_beneath dc_Tree_promised_beneath pm_Tree_promised_beneath an_Tree_promised_beneath cd_Tree_promised_beneath ct_Tree_promised_beneath), sl_Tree_promised_beneath⟩) (c_Tree_promised_beneath : PySem.W.codeIn K cd_Tree_promised_beneath "Tree.promised_beneath" = true) (k_Tree_promised_beneath : PySem.W.keepIn K (.ref f_Tree_promised_beneath) = true)
    {od_Tree_floors an_Tree_floors : Option Addr} {sl_Tree_floors : Array (Option Value)} {oc_Tree_floors kV_Tree_floors dc_Tree_floors pm_Tree_floors cd_Tree_floors ct_Tree_floors : Value}
    (a_Tree_floors : PySem.W.findIn K (.ref c_Tree) "floors" = some (some (.ref f_Tree_floors))) (l_Tree_floors : K.lookup f_Tree_floors = some ⟨oc_Tree_floors, od_Tree_floors, .func (PySem.W.fnOf "floors" "Tree.floors" (defArgs s_Tree_floors) (defBody s_Tree_floors) (defScope s_Tree_floors) .none kV_Tree_floors dc_Tree_floors pm_Tree_floors an_Tree_floors cd_Tree_floors ct_Tree_floors), sl_Tree_floors⟩) (c_Tree_floors : PySem.W.codeIn K cd_Tree_floors "Tree.floors" = true) (k_Tree_floors : PySem.W.keepIn K (.ref f_Tree_floors) = true)
    {od_Tree_check_more an_Tree_check_more : Option Addr} {sl_Tree_check_more : Array (Option Value)} {oc_Tree_check_more kV_Tree_check_more dc_Tree_check_more pm_Tree_check_more cd_Tree_check_more ct_Tree_check_more : Value}
    (a_Tree_check_more : PySem.W.findIn K (.ref c_Tree) "check_more" = some (some (.ref f_Tree_check_more))) (l_Tree_check_more : K.lookup f_Tree_check_more = some ⟨oc_Tree_check_more, od_Tree_check_more, .func (PySem.W.fnOf "check_more" "Tree.check_more" (defArgs s_Tree_check_more) (defBody s_Tree_check_more) (defScope s_Tree_check_more) .none kV_Tree_check_more dc_Tree_check_more pm_Tree_check_more an_Tree_check_more cd_Tree_check_more ct_Tree_check_more), sl_Tree_check_more⟩) (c_Tree_check_more : PySem.W.codeIn K cd_Tree_check_more "Tree.check_more" = true) (k_Tree_check_more : PySem.W.keepIn K (.ref f_Tree_check_more) = true)
    {od_Tree_check_move an_Tree_check_move : Option Addr} {sl_Tree_check_move : Array (Option Value)} {oc_Tree_check_move kV_Tree_check_move dc_Tree_check_move pm_Tree_check_move cd_Tree_check_move ct_Tree_check_move : Value}
    (a_Tree_check_move : PySem.W.findIn K (.ref c_Tree) "check_move" = some (some (.ref f_Tree_check_move))) (l_Tree_check_move : K.lookup f_Tree_check_move = some ⟨oc_Tree_check_move, od_Tree_check_move, .func (PySem.W.fnOf "check_move" "Tree.check_move" (defArgs s_Tree_check_move) (defBody s_Tree_check_move) (defScope s_Tree_check_move) .none kV_Tree_check_move dc_Tree_check_move pm_Tree_check_move an_Tree_check_move cd_Tree_check_move ct_Tree_check_move), sl_Tree_check_move⟩) (c_Tree_check_move : PySem.W.codeIn K cd_Tree_check_move "Tree.check_move" = true) (k_Tree_check_move : PySem.W.keepIn K (.ref f_Tree_check_move) = true)
    {od_Tree_move an_Tree_move : Option Addr} {sl_Tree_move : Array (Option Value)} {oc_Tree_move kV_Tree_move dc_Tree_move pm_Tree_move cd_Tree_move ct_Tree_move : Value}
    (a_Tree_move : PySem.W.findIn K (.ref c_Tree) "move" = some (some (.ref f_Tree_move))) (l_Tree_move : K.lookup f_Tree_move = some ⟨oc_Tree_move, od_Tree_move, .func (PySem.W.fnOf "move" "Tree.move" (defArgs s_Tree_move) (defBody s_Tree_move) (defScope s_Tree_move) .none kV_Tree_move dc_Tree_move pm_Tree_move an_Tree_move cd_Tree_move ct_Tree_move), sl_Tree_move⟩) (c_Tree_move : PySem.W.codeIn K cd_Tree_move "Tree.move" = true) (k_Tree_move : PySem.W.keepIn K (.ref f_Tree_move) = true)
    {od_i_NoPromise an_i_NoPromise : Option Addr} {sl_i_NoPromise : Array (Option Value)} {oc_i_NoPromise kV_i_NoPromise dc_i_NoPromise pm_i_NoPromise cd_i_NoPromise ct_i_NoPromise : Value}
    (a_i_NoPromise : PySem.W.findIn K (.ref c_NoPromise) "__init__" = some (some (.ref f_i_NoPromise))) (l_i_NoPromise : K.lookup f_i_NoPromise = some ⟨oc_i_NoPromise, od_i_NoPromise, .func (PySem.W.fnOf "__init__" "NoPromise.__init__" (defArgs s_i_NoPromise) (defBody s_i_NoPromise) (defScope s_i_NoPromise) .none kV_i_NoPromise dc_i_NoPromise pm_i_NoPromise an_i_NoPromise cd_i_NoPromise ct_i_NoPromise), sl_i_NoPromise⟩) (c_i_NoPromise : PySem.W.codeIn K cd_i_NoPromise "NoPromise.__init__" = true) (k_i_NoPromise : PySem.W.keepIn K (.ref f_i_NoPromise) = true)
    (qi_i_NoPromise : My.initIn K c_NoPromise f_i_NoPromise = true) (hi_i_NoPromise : PySem.W.isFn K (.ref f_i_NoPromise) = true)
    (a_House : PySem.W.nsIn K mainGlobals "House" = some (some (.ref c_House)))
    (a_Tree : PySem.W.nsIn K mainGlobals "Tree" = some (some (.ref c_Tree)))
    (a_TreeError : PySem.W.nsIn K mainGlobals "TreeError" = some (some (.ref c_TreeError)))
    (a_NoName : PySem.W.nsIn K mainGlobals "NoName" = some (some (.ref c_NoName)))
    (a_Taken : PySem.W.nsIn K mainGlobals "Taken" = some (some (.ref c_Taken)))
    (a_NoHouse : PySem.W.nsIn K mainGlobals "NoHouse" = some (some (.ref c_NoHouse)))
    (a_NoMove : PySem.W.nsIn K mainGlobals "NoMove" = some (some (.ref c_NoMove)))
    (a_NoPromise : PySem.W.nsIn K mainGlobals "NoPromise" = some (some (.ref c_NoPromise)))
    (a_NoWare : PySem.W.nsIn K mainGlobals "NoWare" = some (some (.ref c_NoWare)))
    (a_NoAmount : PySem.W.nsIn K mainGlobals "NoAmount" = some (some (.ref c_NoAmount)))
    (a_NoNumber : PySem.W.nsIn K mainGlobals "NoNumber" = some (some (.ref c_NoNumber)))
    (a_TooMany : PySem.W.nsIn K mainGlobals "TooMany" = some (some (.ref c_TooMany)))
    (a_TooDeep : PySem.W.nsIn K mainGlobals "TooDeep" = some (some (.ref c_TooDeep)))
    {u_LETTERS : Value} (a_LETTERS : PySem.W.nsIn K mainGlobals "LETTERS" = some (some u_LETTERS)) (r_LETTERS : RelV (.str "abcdefghijklmnopqrstuvwxyz") u_LETTERS)
    {u_LONGEST_NAME : Value} (a_LONGEST_NAME : PySem.W.nsIn K mainGlobals "LONGEST_NAME" = some (some u_LONGEST_NAME)) (r_LONGEST_NAME : RelV (.int 8) u_LONGEST_NAME)
    {u_MOST_WARES : Value} (a_MOST_WARES : PySem.W.nsIn K mainGlobals "MOST_WARES" = some (some u_MOST_WARES)) (r_MOST_WARES : RelV (.int 6) u_MOST_WARES)
    {u_MOST_HOUSES : Value} (a_MOST_HOUSES : PySem.W.nsIn K mainGlobals "MOST_HOUSES" = some (some u_MOST_HOUSES)) (r_MOST_HOUSES : RelV (.int 40) u_MOST_HOUSES)
    {u_LONGEST_LINE : Value} (a_LONGEST_LINE : PySem.W.nsIn K mainGlobals "LONGEST_LINE" = some (some u_LONGEST_LINE)) (r_LONGEST_LINE : RelV (.int 12) u_LONGEST_LINE)
    {u_GREATEST_WEIGHT : Value} (a_GREATEST_WEIGHT : PySem.W.nsIn K mainGlobals "GREATEST_WEIGHT" = some (some u_GREATEST_WEIGHT)) (r_GREATEST_WEIGHT : RelV (.int 1000) u_GREATEST_WEIGHT)
    (q_NoHouse : PySem.W.excIn K c_NoHouse [.type "ValueError", .type "Exception", .type "BaseException", .type "object"] "ValueError.__new__" = true)
    (q_NoAmount : PySem.W.excIn K c_NoAmount [.type "ValueError", .type "Exception", .type "BaseException", .type "object"] "ValueError.__new__" = true)
    (q_NoWare : PySem.W.excIn K c_NoWare [.type "ValueError", .type "Exception", .type "BaseException", .type "object"] "ValueError.__new__" = true)
    (q_NoName : PySem.W.excIn K c_NoName [.type "ValueError", .type "Exception", .type "BaseException", .type "object"] "ValueError.__new__" = true)
    (q_NoNumber : PySem.W.excIn K c_NoNumber [.type "ValueError", .type "Exception", .type "BaseException", .type "object"] "ValueError.__new__" = true)
    (q_Taken : PySem.W.excIn K c_Taken [.type "ValueError", .type "Exception", .type "BaseException", .type "object"] "ValueError.__new__" = true)
    (q_TooMany : PySem.W.excIn K c_TooMany [.type "ValueError", .type "Exception", .type "BaseException", .type "object"] "ValueError.__new__" = true)
    (q_TooDeep : PySem.W.excIn K c_TooDeep [.type "ValueError", .type "Exception", .type "BaseException", .type "object"] "ValueError.__new__" = true)
    (q_NoMove : PySem.W.excIn K c_NoMove [.type "ValueError", .type "Exception", .type "BaseException", .type "object"] "ValueError.__new__" = true)
    (B_TreeError : PySem.W.kitCls K (.ref c_TreeError) (.type "BaseException") = some true)
    (B_NoHouse : PySem.W.kitCls K (.ref c_NoHouse) (.type "BaseException") = some true)
    (CL_House : Cls K c_House)
    (CL_Tree : Cls K c_Tree)
    (MK_House : Mk K c_House f_House_init)
    (MK_Tree : Mk K c_Tree f_Tree_init)
    (XA_NoHouse : My.XAt K c_NoHouse)
    (kAny : PySem.W.kitAny K (.ref c_NoHouse) [.ref c_NoAmount, .ref c_NoMove, .ref c_NoName, .ref c_NoNumber, .ref c_NoPromise, .ref c_NoWare, .ref c_Taken, .ref c_TooDeep, .ref c_TooMany] = some false)
    (kT : PySem.W.kitOne K (.ref c_NoHouse) (.ref c_TreeError) = some true)
    (kN : PySem.W.kitOne K (.ref c_NoHouse) (.ref c_NoHouse) = some true)
    (kV : PySem.W.kitOne K (.ref c_NoHouse) (.type "ValueError") = some true)
    (kcT : PySem.W.kitCls K (.ref c_NoHouse) (.ref c_TreeError) = some true)
    (kcN : PySem.W.kitCls K (.ref c_NoHouse) (.ref c_NoHouse) = some true)
    (ME_Tree_found : Meth K c_Tree "found" f_Tree_found)
    (ME_Tree_wares : Meth K c_Tree "wares" f_Tree_wares)
    (ME_Tree_names : Meth K c_Tree "names" f_Tree_names)
    (ME_Tree_has : Meth K c_Tree "has" f_Tree_has)
    (ME_Tree_check_house : Meth K c_Tree "check_house" f_Tree_check_house)
    (ME_Tree_house_of : Meth K c_Tree "house_of" f_Tree_house_of)
    (ME_Tree_elder_of : Meth K c_Tree "elder_of" f_Tree_elder_of)
    (ME_Tree_promise_of : Meth K c_Tree "promise_of" f_Tree_promise_of)
    (ME_Tree_cap_of : Meth K c_Tree "cap_of" f_Tree_cap_of)
    (ME_Tree_weight_of : Meth K c_Tree "weight_of" f_Tree_weight_of)
    (ME_Tree_kids : Meth K c_Tree "kids" f_Tree_kids)
    (ME_Tree_line : Meth K c_Tree "line" f_Tree_line)
    (ME_Tree_beneath : Meth K c_Tree "beneath" f_Tree_beneath)
    (ME_Tree_promised_beneath : Meth K c_Tree "promised_beneath" f_Tree_promised_beneath)
    (ME_Tree_floors : Meth K c_Tree "floors" f_Tree_floors)
    (ME_Tree_check_more : Meth K c_Tree "check_more" f_Tree_check_more)
    (ME_Tree_check_move : Meth K c_Tree "check_move" f_Tree_check_move)
    (ME_Tree_move : Meth K c_Tree "move" f_Tree_move)
    (NA_House_elder : PySem.W.findIn K (.ref c_House) "elder" = some none)
    (NA_House_promise : PySem.W.findIn K (.ref c_House) "promise" = some none)
    (NA_House_cap : PySem.W.findIn K (.ref c_House) "cap" = some none)
    (NA_House_weight : PySem.W.findIn K (.ref c_House) "weight" = some none)
    (NA_Tree_sorted_wares : PySem.W.findIn K (.ref c_Tree) "sorted_wares" = some none)
    (NA_Tree_houses : PySem.W.findIn K (.ref c_Tree) "houses" = some none)
    (y_ValueError : PySem.W.nsIn K mainGlobals "ValueError" = some none)
    (y_all : PySem.W.nsIn K mainGlobals "all" = some none)
    (y_bool : PySem.W.nsIn K mainGlobals "bool" = some none)
    (y_dict : PySem.W.nsIn K mainGlobals "dict" = some none)
    (y_int : PySem.W.nsIn K mainGlobals "int" = some none)
    (y_isinstance : PySem.W.nsIn K mainGlobals "isinstance" = some none)
    (y_len : PySem.W.nsIn K mainGlobals "len" = some none)
    (y_list : PySem.W.nsIn K mainGlobals "list" = some none)
    (y_max : PySem.W.nsIn K mainGlobals "max" = some none)
    (y_min : PySem.W.nsIn K mainGlobals "min" = some none)
    (y_range : PySem.W.nsIn K mainGlobals "range" = some none)
    (y_set : PySem.W.nsIn K mainGlobals "set" = some none)
    (y_sorted : PySem.W.nsIn K mainGlobals "sorted" = some none)
    (y_str : PySem.W.nsIn K mainGlobals "str" = some none)
    : ∃ d : Ad, Tx K mg d ∧ fa = d.f_law ∧ ∀ (s : Shared) (v : Value), BindsTo s d.fd_law ⟨[v], []⟩ [("_law_script", v)] := by
  have e := hfa.symm.trans (PySem.W.mg_of X G a_law)
  cases e
  have F_is_whole := fun_mk (st := s_is_whole) l_is_whole c_is_whole k_is_whole
  have b_is_whole := F_is_whole.binds (ps := ["thing"]) fun _ _ _ _ _ _ us hl => match us, hl with | [_], _ => rfl
  have F_is_name := fun_mk (st := s_is_name) l_is_name c_is_name k_is_name
  have b_is_name := F_is_name.binds (ps := ["thing"]) fun _ _ _ _ _ _ us hl => match us, hl with | [_], _ => rfl
  have F_is_whole_from := fun_mk (st := s_is_whole_from) l_is_whole_from c_is_whole_from k_is_whole_from
  have b_is_whole_from := F_is_whole_from.binds (ps := ["thing", "least", "most"]) fun _ _ _ _ _ _ us hl => match us, hl with | [_, _, _], _ => rfl
  have F_is_amount := fun_mk (st := s_is_amount) l_is_amount c_is_amount k_is_amount
  have b_is_amount := F_is_amount.binds (ps := ["thing"]) fun _ _ _ _ _ _ us hl => match us, hl with | [_], _ => rfl
  have F_amounts_of := fun_mk (st := s_amounts_of) l_amounts_of c_amounts_of k_amounts_of
  have b_amounts_of := F_amounts_of.binds (ps := ["handed", "wares"]) fun _ _ _ _ _ _ us hl => match us, hl with | [_, _], _ => rfl
  have F_above_nought := fun_mk (st := s_above_nought) l_above_nought c_above_nought k_above_nought
  have b_above_nought := F_above_nought.binds (ps := ["amounts"]) fun _ _ _ _ _ _ us hl => match us, hl with | [_], _ => rfl
  have F_amount_of := fun_mk (st := s_amount_of) l_amount_of c_amount_of k_amount_of
  have b_amount_of := F_amount_of.binds (ps := ["amounts", "ware"]) fun _ _ _ _ _ _ us hl => match us, hl with | [_, _], _ => rfl
  have F_added := fun_mk (st := s_added) l_added c_added k_added
  have b_added := F_added.binds (ps := ["one", "other"]) fun _ _ _ _ _ _ us hl => match us, hl with | [_, _], _ => rfl
  have F_beyond := fun_mk (st := s_beyond) l_beyond c_beyond k_beyond
  have b_beyond := F_beyond.binds (ps := ["one", "other"]) fun _ _ _ _ _ _ us hl => match us, hl with | [_, _], _ => rfl
  have F_total_of := fun_mk (st := s_total_of) l_total_of c_total_of k_total_of
  have b_total_of := F_total_of.binds (ps := ["many"]) fun _ _ _ _ _ _ us hl => match us, hl with | [_], _ => rfl
  have F_are_wares := fun_mk (st := s_are_wares) l_are_wares c_are_wares k_are_wares
  have b_are_wares := F_are_wares.binds (ps := ["thing"]) fun _ _ _ _ _ _ us hl => match us, hl with | [_], _ => rfl
  have F_check_name := fun_mk (st := s_check_name) l_check_name c_check_name k_check_name
  have b_check_name := F_check_name.binds (ps := ["thing"]) fun _ _ _ _ _ _ us hl => match us, hl with | [_], _ => rfl
  have F_read_house := fun_mk (st := s_read_house) l_read_house c_read_house k_read_house
  have b_read_house := F_read_house.binds (ps := ["wares", "elder", "promise", "cap", "weight"]) fun _ _ _ _ _ _ us hl => match us, hl with | [_, _, _, _, _], _ => rfl
  have F_check_promises := fun_mk (st := s_check_promises) l_check_promises c_check_promises k_check_promises
  have b_check_promises := F_check_promises.binds (ps := ["name", "promises", "cap"]) fun _ _ _ _ _ _ us hl => match us, hl with | [_, _, _], _ => rfl
  have F_cell_at := fun_mk (st := s_cell_at) l_cell_at c_cell_at k_cell_at
  have b_cell_at := F_cell_at.binds (ps := ["_law_script", "_law_k"]) fun _ _ _ _ _ _ us hl => match us, hl with | [_, _], _ => rfl
  have F_mixed := fun_mk (st := s_mixed) l_mixed c_mixed k_mixed
  have b_mixed := F_mixed.binds (ps := ["_law_cell", "_law_k"]) fun _ _ _ _ _ _ us hl => match us, hl with | [_, _], _ => rfl
  have F_name := fun_mk (st := s_name) l_name c_name k_name
  have b_name := F_name.binds (ps := ["_law_cell", "_law_k"]) fun _ _ _ _ _ _ us hl => match us, hl with | [_, _], _ => rfl
  have F_elders := fun_mk (st := s_elders) l_elders c_elders k_elders
  have b_elders := F_elders.binds (ps := ["_law_cells", "_law_shape"]) fun _ _ _ _ _ _ us hl => match us, hl with | [_, _], _ => rfl
  have F_promises := fun_mk (st := s_promises) l_promises c_promises k_promises
  have b_promises := F_promises.binds (ps := ["_law_cells", "_law_wares", "_law_scale"]) fun _ _ _ _ _ _ us hl => match us, hl with | [_, _, _], _ => rfl
  have F_sums := fun_mk (st := s_sums) l_sums c_sums k_sums
  have b_sums := F_sums.binds (ps := ["_law_elders_here", "_law_promises_here"]) fun _ _ _ _ _ _ us hl => match us, hl with | [_, _], _ => rfl
  have F_caps := fun_mk (st := s_caps) l_caps c_caps k_caps
  have b_caps := F_caps.binds (ps := ["_law_cells", "_law_sums_here", "_law_wares", "_law_scale"]) fun _ _ _ _ _ _ us hl => match us, hl with | [_, _, _, _], _ => rfl
  have F_plan := fun_mk (st := s_plan) l_plan c_plan k_plan
  have b_plan := F_plan.binds (ps := ["_law_script", "_law_start", "_law_count"]) fun _ _ _ _ _ _ us hl => match us, hl with | [_, _, _], _ => rfl
  have F_tree := fun_mk (st := s_tree) l_tree c_tree k_tree
  have b_tree := F_tree.binds (ps := ["_law_plan_here"]) fun _ _ _ _ _ _ us hl => match us, hl with | [_], _ => rfl
  have F_thing := fun_mk (st := s_thing) l_thing c_thing k_thing
  have b_thing := F_thing.binds (ps := ["_law_cell", "_law_names", "_law_fresh"]) fun _ _ _ _ _ _ us hl => match us, hl with | [_, _, _], _ => rfl
  have F_ask := fun_mk (st := s_ask) l_ask c_ask k_ask
  have b_ask := F_ask.binds (ps := ["_law_tree_here", "_law_which", "_law_thing_here", "_law_name_here"]) fun _ _ _ _ _ _ us hl => match us, hl with | [_, _, _, _], _ => rfl
  have F_other := fun_mk (st := s_other) l_other c_other k_other
  have b_other := F_other.binds (ps := ["_law_e"]) fun _ _ _ _ _ _ us hl => match us, hl with | [_], _ => rfl
  have F_refused := fun_mk (st := s_refused) l_refused c_refused k_refused
  have b_refused := F_refused.binds (ps := ["_law_tree_here", "_law_which", "_law_thing_here", "_law_name_here"]) fun _ _ _ _ _ _ us hl => match us, hl with | [_, _, _, _], _ => rfl
  have F_founding_refused := fun_mk (st := s_founding_refused) l_founding_refused c_founding_refused k_founding_refused
  have b_founding_refused := F_founding_refused.binds (ps := ["_law_tree_here", "_law_fresh", "_law_thing_here"]) fun _ _ _ _ _ _ us hl => match us, hl with | [_, _, _], _ => rfl
  have F_law := fun_mk (st := s_law) l_law c_law k_law
  have F_House_init := fun_mk (st := s_House_init) l_House_init c_House_init k_House_init
  have b_House_init := F_House_init.binds (ps := ["self", "elder", "promise", "cap", "weight"]) fun _ _ _ _ _ _ us hl => match us, hl with | [_, _, _, _, _], _ => rfl
  have F_Tree_init := My.funD_mk (st := s_Tree_init) l_Tree_init c_Tree_init k_Tree_init tt_Tree_init td_Tree_init
  have b_Tree_init : Binds K _ ["self", "wares", "name", "promise", "cap", "weight"] [] := F_Tree_init.binds (ps := ["self", "wares", "name", "promise", "cap", "weight"]) fun _ _ _ _ _ _ us hl => match us, hl with | [_, _, _, _, _, _], _ => by first | exact .inl rfl | exact .inr ⟨_, rfl, rfl⟩
  have b1_Tree_init : Binds K _ ["self", "wares", "name", "promise", "cap", "weight"] [v0_Tree_init] := F_Tree_init.binds (ps := ["self", "wares", "name", "promise", "cap", "weight"]) fun _ _ _ _ _ _ us hl => match us, (show us.length = 5 by simpa using hl) with | [_, _, _, _, _], _ => by first | exact .inl rfl | exact .inr ⟨_, rfl, rfl⟩
  have F_Tree_found := My.funD_mk (st := s_Tree_found) l_Tree_found c_Tree_found k_Tree_found tt_Tree_found td_Tree_found
  have b_Tree_found : Binds K _ ["self", "name", "elder", "promise", "cap", "weight"] [] := F_Tree_found.binds (ps := ["self", "name", "elder", "promise", "cap", "weight"]) fun _ _ _ _ _ _ us hl => match us, hl with | [_, _, _, _, _, _], _ => by first | exact .inl rfl | exact .inr ⟨_, rfl, rfl⟩
  have b1_Tree_found : Binds K _ ["self", "name", "elder", "promise", "cap", "weight"] [v0_Tree_found] := F_Tree_found.binds (ps := ["self", "name", "elder", "promise", "cap", "weight"]) fun _ _ _ _ _ _ us hl => match us, (show us.length = 5 by simpa using hl) with | [_, _, _, _, _], _ => by first | exact .inl rfl | exact .inr ⟨_, rfl, rfl⟩
  have F_Tree_wares := fun_mk (st := s_Tree_wares) l_Tree_wares c_Tree_wares k_Tree_wares
  have b_Tree_wares := F_Tree_wares.binds (ps := ["self"]) fun _ _ _ _ _ _ us hl => match us, hl with | [_], _ => rfl
  have F_Tree_names := fun_mk (st := s_Tree_names) l_Tree_names c_Tree_names k_Tree_names
  have b_Tree_names := F_Tree_names.binds (ps := ["self"]) fun _ _ _ _ _ _ us hl => match us, hl with | [_], _ => rfl
  have F_Tree_has := fun_mk (st := s_Tree_has) l_Tree_has c_Tree_has k_Tree_has
  have b_Tree_has := F_Tree_has.binds (ps := ["self", "thing"]) fun _ _ _ _ _ _ us hl => match us, hl with | [_, _], _ => rfl
  have F_Tree_check_house := fun_mk (st := s_Tree_check_house) l_Tree_check_house c_Tree_check_house k_Tree_check_house
  have b_Tree_check_house := F_Tree_check_house.binds (ps := ["self", "thing"]) fun _ _ _ _ _ _ us hl => match us, hl with | [_, _], _ => rfl
  have F_Tree_house_of := fun_mk (st := s_Tree_house_of) l_Tree_house_of c_Tree_house_of k_Tree_house_of
  have b_Tree_house_of := F_Tree_house_of.binds (ps := ["self", "name"]) fun _ _ _ _ _ _ us hl => match us, hl with | [_, _], _ => rfl
  have F_Tree_elder_of := fun_mk (st := s_Tree_elder_of) l_Tree_elder_of c_Tree_elder_of k_Tree_elder_of
  have b_Tree_elder_of := F_Tree_elder_of.binds (ps := ["self", "name"]) fun _ _ _ _ _ _ us hl => match us, hl with | [_, _], _ => rfl
  have F_Tree_promise_of := fun_mk (st := s_Tree_promise_of) l_Tree_promise_of c_Tree_promise_of k_Tree_promise_of
  have b_Tree_promise_of := F_Tree_promise_of.binds (ps := ["self", "name"]) fun _ _ _ _ _ _ us hl => match us, hl with | [_, _], _ => rfl
  have F_Tree_cap_of := fun_mk (st := s_Tree_cap_of) l_Tree_cap_of c_Tree_cap_of k_Tree_cap_of
  have b_Tree_cap_of := F_Tree_cap_of.binds (ps := ["self", "name"]) fun _ _ _ _ _ _ us hl => match us, hl with | [_, _], _ => rfl
  have F_Tree_weight_of := fun_mk (st := s_Tree_weight_of) l_Tree_weight_of c_Tree_weight_of k_Tree_weight_of
  have b_Tree_weight_of := F_Tree_weight_of.binds (ps := ["self", "name"]) fun _ _ _ _ _ _ us hl => match us, hl with | [_, _], _ => rfl
  have F_Tree_kids := fun_mk (st := s_Tree_kids) l_Tree_kids c_Tree_kids k_Tree_kids
  have b_Tree_kids := F_Tree_kids.binds (ps := ["self", "name"]) fun _ _ _ _ _ _ us hl => match us, hl with | [_, _], _ => rfl
  have F_Tree_line := fun_mk (st := s_Tree_line) l_Tree_line c_Tree_line k_Tree_line
  have b_Tree_line := F_Tree_line.binds (ps := ["self", "name"]) fun _ _ _ _ _ _ us hl => match us, hl with | [_, _], _ => rfl
  have F_Tree_beneath := fun_mk (st := s_Tree_beneath) l_Tree_beneath c_Tree_beneath k_Tree_beneath
  have b_Tree_beneath := F_Tree_beneath.binds (ps := ["self", "name"]) fun _ _ _ _ _ _ us hl => match us, hl with | [_, _], _ => rfl
  have F_Tree_promised_beneath := fun_mk (st := s_Tree_promised_beneath) l_Tree_promised_beneath c_Tree_promised_beneath k_Tree_promised_beneath
  have b_Tree_promised_beneath := F_Tree_promised_beneath.binds (ps := ["self", "name"]) fun _ _ _ _ _ _ us hl => match us, hl with | [_, _], _ => rfl
  have F_Tree_floors := fun_mk (st := s_Tree_floors) l_Tree_floors c_Tree_floors k_Tree_floors
  have b_Tree_floors := F_Tree_floors.binds (ps := ["self", "name"]) fun _ _ _ _ _ _ us hl => match us, hl with | [_, _], _ => rfl
  have F_Tree_check_more := fun_mk (st := s_Tree_check_more) l_Tree_check_more c_Tree_check_more k_Tree_check_more
  have b_Tree_check_more := F_Tree_check_more.binds (ps := ["self", "names", "more"]) fun _ _ _ _ _ _ us hl => match us, hl with | [_, _, _], _ => rfl
  have F_Tree_check_move := fun_mk (st := s_Tree_check_move) l_Tree_check_move c_Tree_check_move k_Tree_check_move
  have b_Tree_check_move := F_Tree_check_move.binds (ps := ["self", "name", "elder"]) fun _ _ _ _ _ _ us hl => match us, hl with | [_, _, _], _ => rfl
  have F_Tree_move := fun_mk (st := s_Tree_move) l_Tree_move c_Tree_move k_Tree_move
  have b_Tree_move := F_Tree_move.binds (ps := ["self", "name", "elder"]) fun _ _ _ _ _ _ us hl => match us, hl with | [_, _, _], _ => rfl
  have F_i_NoPromise := fun_mk (st := s_i_NoPromise) l_i_NoPromise c_i_NoPromise k_i_NoPromise
  have b_i_NoPromise := F_i_NoPromise.binds (ps := ["self", "house", "ware"]) fun _ _ _ _ _ _ us hl => match us, hl with | [_, _, _], _ => rfl
  refine ⟨⟨_, _, _, _, _, _, _, _, _, _, _, _, _, _, _, _, _, _, _, _, _, _, _, _, _, _, _, _, _, _, _, _, _, _, _, _, _, _, _, _, _, _, _, _, _, _, _, _, _, _, _, _, _, _, _, _, _, _, _, _, _, _, t_Tree_init, v0_Tree_init, _, _, t_Tree_found, v0_Tree_found, _, _, _, _, _, _, _, _, _, _, _, _, _, _, _, _, _, _, _, _, _, _, _, _, _, _, _, _, _, _, _, _, _, _, _, _, c_House, c_Tree, c_TreeError, c_NoName, c_Taken, c_NoHouse, c_NoMove, c_NoPromise, c_NoWare, c_NoAmount, c_NoNumber, c_TooMany, c_TooDeep, u_LETTERS, u_LONGEST_NAME, u_MOST_WARES, u_MOST_HOUSES, u_LONGEST_LINE, u_GREATEST_WEIGHT⟩, ⟨F_is_whole, PySem.W.mg_of X G a_is_whole, b_is_whole, F_is_name, PySem.W.mg_of X G a_is_name, b_is_name, F_is_whole_from, PySem.W.mg_of X G a_is_whole_from, b_is_whole_from, F_is_amount, PySem.W.mg_of X G a_is_amount, b_is_amount, F_amounts_of, PySem.W.mg_of X G a_amounts_of, b_amounts_of, F_above_nought, PySem.W.mg_of X G a_above_nought, b_above_nought, F_amount_of, PySem.W.mg_of X G a_amount_of, b_amount_of, F_added, PySem.W.mg_of X G a_added, b_added, F_beyond, PySem.W.mg_of X G a_beyond, b_beyond, F_total_of, PySem.W.mg_of X G a_total_of, b_total_of, F_are_wares, PySem.W.mg_of X G a_are_wares, b_are_wares, F_check_name, PySem.W.mg_of X G a_check_name, b_check_name, F_read_house, PySem.W.mg_of X G a_read_house, b_read_house, F_check_promises, PySem.W.mg_of X G a_check_promises, b_check_promises, F_cell_at, PySem.W.mg_of X G a_cell_at, b_cell_at, F_mixed, PySem.W.mg_of X G a_mixed, b_mixed, F_name, PySem.W.mg_of X G a_name, b_name, F_elders, PySem.W.mg_of X G a_elders, b_elders, F_promises, PySem.W.mg_of X G a_promises, b_promises, F_sums, PySem.W.mg_of X G a_sums, b_sums, F_caps, PySem.W.mg_of X G a_caps, b_caps, F_plan, PySem.W.mg_of X G a_plan, b_plan, F_tree, PySem.W.mg_of X G a_tree, b_tree, F_thing, PySem.W.mg_of X G a_thing, b_thing, F_ask, PySem.W.mg_of X G a_ask, b_ask, F_other, PySem.W.mg_of X G a_other, b_other, F_refused, PySem.W.mg_of X G a_refused, b_refused, F_founding_refused, PySem.W.mg_of X G a_founding_refused, b_founding_refused, F_law, PySem.W.mg_of X G a_law, F_House_init, b_House_init, F_Tree_init, b_Tree_init, b1_Tree_init, rd_Tree_init, F_Tree_found, b_Tree_found, b1_Tree_found, rd_Tree_found, F_Tree_wares, b_Tree_wares, F_Tree_names, b_Tree_names, F_Tree_has, b_Tree_has, F_Tree_check_house, b_Tree_check_house, F_Tree_house_of, b_Tree_house_of, F_Tree_elder_of, b_Tree_elder_of, F_Tree_promise_of, b_Tree_promise_of, F_Tree_cap_of, b_Tree_cap_of, F_Tree_weight_of, b_Tree_weight_of, F_Tree_kids, b_Tree_kids, F_Tree_line, b_Tree_line, F_Tree_beneath, b_Tree_beneath, F_Tree_promised_beneath, b_Tree_promised_beneath, F_Tree_floors, b_Tree_floors, F_Tree_check_more, b_Tree_check_more, F_Tree_check_move, b_Tree_check_move, F_Tree_move, b_Tree_move, F_i_NoPromise, My.xcli_of qi_i_NoPromise hi_i_NoPromise, b_i_NoPromise, PySem.W.mg_of X G a_House, PySem.W.mg_of X G a_Tree, PySem.W.mg_of X G a_TreeError, PySem.W.mg_of X G a_NoName, PySem.W.mg_of X G a_Taken, PySem.W.mg_of X G a_NoHouse, PySem.W.mg_of X G a_NoMove, PySem.W.mg_of X G a_NoPromise, PySem.W.mg_of X G a_NoWare, PySem.W.mg_of X G a_NoAmount, PySem.W.mg_of X G a_NoNumber, PySem.W.mg_of X G a_TooMany, PySem.W.mg_of X G a_TooDeep, PySem.W.mg_of X G a_LETTERS, r_LETTERS, PySem.W.mg_of X G a_LONGEST_NAME, r_LONGEST_NAME, PySem.W.mg_of X G a_MOST_WARES, r_MOST_WARES, PySem.W.mg_of X G a_MOST_HOUSES, r_MOST_HOUSES, PySem.W.mg_of X G a_LONGEST_LINE, r_LONGEST_LINE, PySem.W.mg_of X G a_GREATEST_WEIGHT, r_GREATEST_WEIGHT, PySem.W.mg_none_of X G y_ValueError, PySem.W.mg_none_of X G y_all, PySem.W.mg_none_of X G y_bool, PySem.W.mg_none_of X G y_dict, PySem.W.mg_none_of X G y_int, PySem.W.mg_none_of X G y_isinstance, PySem.W.mg_none_of X G y_len, PySem.W.mg_none_of X G y_list, PySem.W.mg_none_of X G y_max, PySem.W.mg_none_of X G y_min, PySem.W.mg_none_of X G y_range, PySem.W.mg_none_of X G y_set, PySem.W.mg_none_of X G y_sorted, PySem.W.mg_none_of X G y_str, CL_House, CL_Tree, MK_House, MK_Tree, XA_NoHouse, kAny, kT, kN, kV, kcT, kcN, ME_Tree_found, ME_Tree_wares, ME_Tree_names, ME_Tree_has, ME_Tree_check_house, ME_Tree_house_of, ME_Tree_elder_of, ME_Tree_promise_of, ME_Tree_cap_of, ME_Tree_weight_of, ME_Tree_kids, ME_Tree_line, ME_Tree_beneath, ME_Tree_promised_beneath, ME_Tree_floors, ME_Tree_check_more, ME_Tree_check_move, ME_Tree_move, NA_House_elder, NA_House_promise, NA_House_cap, NA_House_weight, NA_Tree_sorted_wares, NA_Tree_houses, My.xcls_of q_NoHouse, My.xcls_of q_NoAmount, My.xcls_of q_NoWare, My.xcls_of q_NoName, My.xcls_of q_NoNumber, My.xcls_of q_Taken, My.xcls_of q_TooMany, My.xcls_of q_TooDeep, My.xcls_of q_NoMove, B_TreeError, B_NoHouse⟩, rfl, fun s v => .of_eq rfl⟩
theorem walk {l : PySem.W.OpenLaw} {q : Program} {loose : List Str} {XP : (Str → Option Value) → Heap → Prop} {YP : World → Heap → Prop} {e : DefRec} {K : Params → PySem.W.Frag} (hn : l.most = some 63) (hdf : e.params.defaults = []) (hlaw : e.name = "law")
    (hY : ∀ (w : World) (h : Heap), YP w h → (K w.params).In h)
    (F : ∀ (w : World) (mg : Str → Option Value) (fa : Addr) (h : Heap), (K w.params).In h → h.Ns mainGlobals mg → mg "law" = some (.ref fa) → ∃ d : Ad, Tx (K w.params) mg d ∧ fa = d.f_law ∧ ∀ (s : Shared) (v : Value), BindsTo s d.fd_law ⟨[v], []⟩ [("_law_script", v)]) :
    PySem.W.WalkO q loose XP YP l.row.toRowW e [] (fun f vs => PySem.call f vs) := by
  refine L2.walk_of (n := 63) (k := 23) (x := "_law_script") (CX := fun _ => CX0) (sp := fun w => sp_law0 (K w.params)) hn (by decide) hdf ⟨rfl, by decide, by decide⟩ hY (fun w mg fa h KX G hm => ?_) (fun _ _ a ns hl _ hS => ⟨a, ns, rfl, hS, hl, fun _ => rfl⟩) fun _ _ _ _ _ z => z
  rw [hlaw] at hm
  obtain ⟨d, T, rfl, hb⟩ := F w mg fa h KX G hm
  exact ⟨d.fd_law, hb, fun base _ _ => (ok_law (P := l.prog) (w := w) (base := base) T).imp fun vs H Q E q => q⟩
end Our
namespace PySem.W.Fast
def tw2019287473796777371 := 0
def tw10697899625241216834 := 0
def tw13773604695565306686 := 0
def tw682897402076208737 := 0
def tw11792203129876848150 := 0
def tw13320065778073863655 := 0
def tw11289607538040981028 := 0
def tw1908952128302354839 := 0
def tw4009360541558593697 := 0
def tw4411717570982725588 := 0
def tw12497766513215600610 := 0
def tw10435692391993321150 := 0
def tw14741771552336243697 := 0
def tw18177261058058290854 := 0
def tw2762096188609436616 := 0
def tw1270784860430554425 := 0
def tw10298386857141161523 := 0
def tw9720567914659669656 := 0
def tw5341522058286929236 := 0
def tw2054170120123013900 := 0
def tw2025291328827185481 := 0
def tw5696190663438623471 := 0
def tw15875131744408884605 := 0
def tw9197039422122472636 := 0
def tw12201222954461538439 := 0
def tw2469879541423638616 := 0
def tw4360893923444836339 := 0
def tw12362465855821123572 := 0
def tw13327786475044331072 := 0
def tw48836888489216357 := 0
def tw12121581833308710581 := 0
def tw9674275440625314114 := 0
def tw8158262347817133498 := 0
def tw3813284712216586110 := 0
def tw9448805848431184713 := 0
def tw10277910333756161276 := 0
def tw11121708795404658716 := 0
def tw10048324233191025261 := 0
def tw10821520222818627444 := 0
def tw15701331016520765642 := 0
def tw4708627665734302849 := 0
def tw9553530084579148836 := 0
def tw16848951526354949981 := 0
def tw4536091056574686778 := 0
def tw525246400315103088 := 0
def tw17356556575574448512 := 0
def tw10340647358308557799 := 0
def tw6591367300726467293 := 0
def tw12964644694247521411 := 0
def tw9139434667465089029 := 0
def tw414110637858106324 := 0
def tw1351358168356222934 := 0
def tw6748341992348595031 := 0
def tw10015533140275407584 := 0
def tw6207164542370079266 := 0
def tw12088363680053397559 := 0
def tw14589628036924556778 := 0
def tw13806864137408982449 := 0
def tw8171254846258752096 := 0
def tw16386612612902648620 := 0
def tw12418138567257543057 := 0
def tw14187052904612779013 := 0
def tw15169815407943118653 := 0
def tw4708087798454338754 := 0
def tw764491765006507570 := 0
def tw8152727458054900316 := 0
def tw15544662138362735820 := 0
def tw18338050716758479804 := 0
def tw12369940257419648683 := 0
def tw15755130413763965584 := 0
def tw9822779173363398905 := 0
def tw15819637693610763061 := 0
def tw6644811066167817890 := 0
def tw11091529700704623740 := 0
def tw12610482037647210579 := 0
def tw2201502168397420488 := 0
def tw7080795315009830320 := 0
def tw10672901356758357702 := 0
def tw16981791115676135052 := 0
def tw10342161784794675599 := 0
def tw1393179962024237584 := 0
def tw15208793951926241936 := 0
def tw1402900241509801128 := 0
def tw13998315421958069831 := 0
def tw14385447670742448338 := 0
def tw7699149471374341087 := 0
def tw7327621894590721552 := 0
def tw6662398981648990658 := 0
def tw6912428226344966325 := 0
def tw4742544215221581257 := 0
def tw3305332505382664811 := 0
def tw6457485543519698113 := 0
def tw3220014150625183919 := 0
def tw7982731325325717664 := 0
def tw2657438048391736919 := 0
def tw15575732545005970674 := 0
def tw10521727924533527929 := 0
def tw7743976600066839025 := 0
def tw10936136375579199078 := 0
def tw45921492588714661 := 0
def tw4788319143077742437 := 0
def tw6444802169514891377 := 0
def tw9905911181963822794 := 0
def tw12303750718061193410 := 0
def tw9217723367022841307 := 0
def tw4056586113405317745 := 0
def tw6430766950902657395 := 0
def tw15911231990234005076 := 0
def tw12271373078874976454 := 0
def tw8357035478686855089 := 0
def tw18434944122513706494 := 0
def tw18096135770303208309 := 0
def tw4501793709402426794 := 0
def tw16405087733924698979 := 0
def tw8845764959484834771 := 0
def tw12843533479007306471 := 0
def tw8115027437262092691 := 0
def tw7369382361068762276 := 0
def tw14594597523824880296 := 0
def tw6785886640581910544 := 0
def tw4410084373667572468 := 0
def tw16556209183701233621 := 0
def tw16052371889137934170 := 0
def tw2864010181971484551 := 0
def tw11386392436054953353 := 0
def tw348800751962156914 := 0
def tw2577582508374469495 := 0
def tw719805738650980372 := 0
def tw11238340986112635626 := 0
def tw7674531509651815453 := 0
def tw16210852473512089997 := 0
def tw13714840263362067708 := 0
def tw5987136837761826406 := 0
def tw5365493058224307585 := 0
def tw84873566853140230 := 0
def tw4642198004050512986 := 0
def tw5236383813478055121 := 0
def tw12145593498565202289 := 0
def tw241549806550218945 := 0
def tw17634081146520229302 := 0
def tw14759162607346824172 := 0
def tw1081446534846619764 := 0
def tw2978054567368746647 := 0
def tw4631233097435550178 := 0
def tw1355805281231343174 := 0
def tw6519744720166606799 := 0
def tw17187532259107431883 := 0
def tw18315800234535797723 := 0
def tw556074610020488737 := 0
def tw13366590884021156273 := 0
def tw2543140714550806310 := 0
def tw3691151893282748525 := 0
def tw14583232628888052905 := 0
def tw5110978454992447894 := 0
def tw12984807882986497647 := 0
def tw8041755913330317740 := 0
def tw5467864357364145635 := 0
def tw11994649920988637527 := 0
def tw753887941437864696 := 0
def tw18406670516926368958 := 0
def tw10159326213060420802 := 0
def tw9352168809822945280 := 0
def tw8848941462399651496 := 0
def tw16832059358459469295 := 0
def tw16524347089187746829 := 0
def tw4779652276141662586 := 0
def tw5655197277550915679 := 0
def tw14946786355767787413 := 0
def tw9629484672230411614 := 0
def tw16073786216409991186 := 0
def tw16600123790679365893 := 0
def tw7120038202945144846 := 0
def tw7634385060501360463 := 0
def tw12632109327833781459 := 0
def tw5147523135939200557 := 0
def tw9699328129716975599 := 0
def tw8857053296359761222 := 0
def tw3162712530976985742 := 0
def tw6677114636209351001 := 0
def tw2711688975818526237 := 0
def tw11654388791093963798 := 0
def tw10542025799581209087 := 0
def tw2218668599768087265 := 0
def tw14826716995054886188 := 0
def tw14992922828726058783 := 0
def tw14085595702871444875 := 0
def tw2114242265017598866 := 0
def tw16647291979148221439 := 0
def tw10948338478796040540 := 0
def tw7058126158301929382 := 0
def tw967718746419608661 := 0
def tw16789106413203978330 := 0
def tw2025257787291066548 := 0
def tw5828352666411092565 := 0
def tw11634187494967066175 := 0
def tw7377950619452989604 := 0
def tw13335584916461333106 := 0
def tw1418443409471594207 := 0
def tw9635561651723897137 := 0
def tw8927054106973146222 := 0
def tw833117151380326318 := 0
def tw3934335139982939730 := 0
def tw13151761629724571377 := 0
def tw12200736511837414952 := 0
def tw11322076161492481088 := 0
def tw11021672909076959805 := 0
def tw4864003407265229175 := 0
def tw11685112717029562840 := 0
def tw6403705305111013494 := 0
def tw9272745940237827457 := 0
def tw5997475646734733375 := 0
def tw12047020453525629787 := 0
def tw17863322851457750365 := 0
def tw9475836579540018161 := 0
def tw13697294798463029068 := 0
def tw13605242725162065575 := 0
def tw9904284024015512579 := 0
def tw14781564447402614903 := 0
def tw13861485355608680935 := 0
def tw10418251053012118387 := 0
def tw4624219936297212530 := 0
def tw14438968437905328039 := 0
def tw11359344820019308599 := 0
def tw460466920734435207 := 0
def tw18089302677643658756 := 0
def tw17060899516218863457 := 0
def tw11578754790125154011 := 0
def tw9517757185819770286 := 0
def tw5790029480542890561 := 0
def tw7080329282151330002 := 0
def tw13621832320929423841 := 0
def tw1596266948249495367 := 0
def tw16564891093660564754 := 0
def tw5826197877059952276 := 0
def tw14363621419049852511 := 0
def tw12959373147476931023 := 0
def tw11760853736823359274 := 0
def tw11446122683169053857 := 0
def tw6140451036904965053 := 0
def tw17475997358614816578 := 0
def tw1724773439615752656 := 0
def tw12662979784048715651 := 0
def tw17859134419038324267 := 0
def tw895662861601130561 := 0
def tw7675536234116383195 := 0
def tw9770566646170083036 := 0
def tw7350762319282576586 := 0
def tw7147065690903608928 := 0
def tw3520400109978593767 := 0
def tw1875606224565043382 := 0
def tw3684490949283782862 := 0
def tw18225022777111432008 := 0
def tw12872234556866447151 := 0
def tw10067248335968521774 := 0
def tw18415594520863923257 := 0
def tw302325044210994409 := 0
def tw14487305348039492602 := 0
def tw11342927167041473203 := 0
def tw10527906673685213909 := 0
def tw9198840751402230280 := 0
def tw564420103784777706 := 0
def tw10990648934670301329 := 0
def tw14798236590086936391 := 0
def tw8795590799743730883 := 0
def tw17947900130347874155 := 0
def tw1299592176284357351 := 0
def tw10708041490500986890 := 0
def tw14056772672518258960 := 0
def tw505157077923212421 := 0
def tw3237882750973029303 := 0
def tw1093087659346384961 := 0
def tw1324275462126672471 := 0
def tw133519849864927618 := 0
def tw8806210021147708779 := 0
def tw11225011222956085652 := 0
def tw11872609366672444163 := 0
def tw4186875674322936648 := 0
def tw3248571664412076593 := 0
def tw1609768558281209195 := 0
def tw14039172453156585495 := 0
def tw12337229326891005989 := 0
def tw12101604310740165114 := 0
def tw4191519597192312918 := 0
def tw15698392269472862037 := 0
def tw7007053156281997145 := 0
def tw2854303254388635784 := 0
def tw2165718238008420830 := 0
def tw16732037738192271944 := 0
def tw615035021200786372 := 0
def tw398029480273624190 := 0
def tw17033511491178413279 := 0
def tw16159587561384479467 := 0
def tw977206125192362987 := 0
def tw6095279410186208098 := 0
def tw17093617242515808770 := 0
def tw9806442689304370588 := 0
def tw5457348723541203662 := 0
def tw13620462315981776498 := 0
def tw12580706007554168844 := 0
def tw14903691688603273841 := 0
def tw7539224398989494348 := 0
def tw7057281316910245804 := 0
def tw13942447546837440363 := 0
def tw8737140252437149361 := 0
def tw2961590108427882594 := 0
def tw17442908159396486782 := 0
def tw14437256251996338837 := 0
def tw580959295217499690 := 0
def tw17856206698073620117 := 0
def tw7428021832141349838 := 0
def tw442544871639331628 := 0
def tw3888118495497235186 := 0
def tw16411495793976998116 := 0
def tw13030566951744031832 := 0
def tw3531545037135488846 := 0
def tw13780592608356463314 := 0
def tw18113877245504989793 := 0
def tw7840153240983526079 := 0
def tw17368763102540035928 := 0
def tw8497002183831977765 := 0
def tw17921809281779693291 := 0
def tw13875271682640798127 := 0
def tw2273928001087730135 := 0
def tw5101801907859969272 := 0
def tw17589320200612399119 := 0
def tw9829179392990130903 := 0
def tw14596423386872655877 := 0
def tw10030165206942507389 := 0
def tw17423701192431177890 := 0
def tw775441812244485074 := 0
def tw16925524579670849105 := 0
def tw9305068052123120408 := 0
def tw15770774661695009930 := 0
def tw16081604413001748273 := 0
def tw6041557045259955793 := 0
def tw15613385692818476275 := 0
def tw5994605222318880486 := 0
def tw16086528631756638239 := 0
def tw17716521833827218865 := 0
def tw14655626903934394905 := 0
def tw6152226393683158290 := 0
def tw4278711002719954228 := 0
def tw10804802343347326125 := 0
def tw9707484348502969084 := 0
def tw2294833774631927511 := 0
def tw8225771599297554870 := 0
def tw7306821936336055895 := 0
def tw8121355287583033664 := 0
def tw4653646861578631297 := 0
def tw1925241692232144641 := 0
def tw14584496934209046253 := 0
def tw9507790970950891204 := 0
def tw8742468068011424984 := 0
def tw4855111966776800377 := 0
def tw16659896595136729753 := 0
def tw16060616625642415322 := 0
def tw14494759549777546655 := 0
def tw14093564506055539479 := 0
def tw1402407835559980976 := 0
def tw13138485669909547228 := 0
def tw1136091739875398046 := 0
def tw10128013460818466825 := 0
def tw7342153489543360233 := 0
def tw6073788534657667741 := 0
def tw4096751820284741890 := 0
def tw3407183268105363363 := 0
def tw3643280174106478315 := 0
def tw2207078831783364247 := 0
def tw17493134846195028148 := 0
def tw17199566113123890294 := 0
def tw15866188700515350558 := 0
def tw14619897898903003253 := 0
def tw13490342400521356687 := 0
def tw11841157694159180439 := 0
def tw11481330364859488894 := 0
def tw10373825744181801040 := 0
def tw8101437250834333429 := 0
def tw3123506608636141189 := 0
def tw10977018482968273190 := 0
def tw15886911141514827074 := 0
def tw5765033705930598669 := 0
def tw13496328420400855096 := 0
def tw14175918478355391997 := 0
def tw9515023027105975062 := 0
def tw430639730669506165 := 0
def tw1389347771931762888 := 0
def tw9815732009635408967 := 0
def tw15531352134489390870 := 0
def tw14909426768036414081 := 0
def tw12960127121749816758 := 0
def tw9993528668645445180 := 0
def tw9816038131516367997 := 0
def tw947248119037062407 := 0
def tw6832350407092255822 := 0
def tw5637311533736301404 := 0
def tw4856892731128911684 := 0
def tw3783084529496644502 := 0
def tw3251616664352678409 := 0
def tw16136873155879932176 := 0
def tw14906891694396558236 := 0
def tw14531331711503631159 := 0
def tw14287339176424673655 := 0
def tw12962657642302091574 := 0
def tw10123439652959539021 := 0
def tw3802320314711396388 := 0
def tw8843893984251176943 := 0
def tw7424620816492573685 := 0
def tw5509670574403670537 := 0
def tw4631921644764474880 := 0
def tw4439481537203870600 := 0
def tw442840223889777971 := 0
def tw3499937594915234358 := 0
def tw2350722740407163195 := 0
def tw16566970897865793441 := 0
def tw13171539765831481026 := 0
def tw12618189149780440457 := 0
def tw11396451884965434568 := 0
def tw11003059575835622839 := 0
def tw7438922205843915258 := 0
def tw8621439422714640134 := 0
def tw5368744319149892914 := 0
def tw18303653056459121966 := 0
def tw1283349166726112866 := 0
def tw9945734682038181251 := 0
def tw9488586317072581963 := 0
def tw9420966412257372523 := 0
def tw9404802856032349793 := 0
def tw9065445610763833242 := 0
def tw597200471772416543 := 0
def tw4568294768314113220 := 0
def tw224335157803772015 := 0
def tw15304128248900530358 := 0
def tw1335188865602330393 := 0
def tw8908014937964529281 := 0
def tw8683564842054308351 := 0
def tw7864335117088541024 := 0
def tw7512037938196436281 := 0
def tw7440236127893372233 := 0
def tw3807410206185438474 := 0
def tw15691073211682052624 := 0
def tw15170736084902425034 := 0
def tw14219745836022378905 := 0
def tw13613505638237512508 := 0
def tw12961631338017240972 := 0
def tw11667213989879350398 := 0
def tw11573735874772923308 := 0
def tw9957487523809975922 := 0
def tw992765550713900276 := 0
def tw9903947842928179734 := 0
def tw9838414419641463849 := 0
def tw9631479300564511411 := 0
def tw9602273466585370880 := 0
def tw9472027975074189293 := 0
def tw926689499389691505 := 0
def tw9111518842672054073 := 0
def tw9072965877420242436 := 0
def tw8897894484615524169 := 0
def tw8762476373032779276 := 0
def tw8754530909675646741 := 0
def tw8753183343564982099 := 0
def tw8664498169780874021 := 0
def tw856730020032946850 := 0
def tw8142309497236702266 := 0
def tw8131190844047113820 := 0
def tw8027484410258089819 := 0
def tw7993285762188449738 := 0
def tw7954405389264148112 := 0
def tw7783373358960203446 := 0
def tw7529835880969011343 := 0
def tw7506841043198914715 := 0
def tw7366342248693264479 := 0
def tw7353520449343702118 := 0
def tw7304520543852753348 := 0
def tw7171547222963780723 := 0
def tw7008849396174645894 := 0
def tw695314614954659864 := 0
def tw6885240667424258135 := 0
def tw6759382035204946911 := 0
def tw6701877541304404584 := 0
def tw6635817357017301201 := 0
def tw6525111240549750627 := 0
def tw650516725056366967 := 0
def tw6496804436659037613 := 0
def tw646869687183330514 := 0
def tw6402555176109190784 := 0
def tw6295363584721741452 := 0
def tw6247064679153146987 := 0
def tw6167262320267928668 := 0
def tw6113528208863029138 := 0
def tw5890787927722908936 := 0
def tw555272596495803788 := 0
def tw5351506661180952432 := 0
def tw5195392124243538359 := 0
def tw5104997707221281755 := 0
def tw5039608580701321720 := 0
def tw4949854755430600263 := 0
def tw4731336498341576781 := 0
def tw4632742289708397090 := 0
def tw4290654498911589993 := 0
def tw4275817694065845890 := 0
def tw4230816283712191619 := 0
def tw4193797518275195715 := 0
def tw4174563137006447415 := 0
def tw3859365214632984523 := 0
def tw3853539393011711586 := 0
def tw3733709970025504424 := 0
def tw3707806919360009710 := 0
def tw355556758560000030 := 0
def tw3481804213297522958 := 0
end PySem.W.Fast
open PySem PySem.W PyProof.Rows
set_option maxRecDepth 100000 in
set_option maxHeartbeats 0 in
theorem PySem.Challenge.cw_quotatree_k19_no_house_holds : PySem.Challenge.rw_quotatree_k19_no_house.Holds := by
  w_on; o_law; k_head; (case hw => w_witness2)
  k_fill
  refine Our.walk (l := PySem.Challenge.rw_quotatree_k19_no_house) rfl rfl rfl (fun w h Y => PySem.W.kIn_of Y) ?F
  case F =>
    intro w mg fa h KX G hmg
    refine' Our.txt_mk KX G hmg ?a_is_whole ?l_is_whole ?c_is_whole ?k_is_whole ?a_is_name ?l_is_name ?c_is_name ?k_is_name ?a_is_whole_from ?l_is_whole_from ?c_is_whole_from ?k_is_whole_from ?a_is_amount ?l_is_amount ?c_is_amount ?k_is_amount ?a_amounts_of ?l_amounts_of ?c_amounts_of ?k_amounts_of ?a_above_nought ?l_above_nought ?c_above_nought ?k_above_nought ?a_amount_of ?l_amount_of ?c_amount_of ?k_amount_of ?a_added ?l_added ?c_added ?k_added ?a_beyond ?l_beyond ?c_beyond ?k_beyond ?a_total_of ?l_total_of ?c_total_of ?k_total_of ?a_are_wares ?l_are_wares ?c_are_wares ?k_are_wares ?a_check_name ?l_check_name ?c_check_name ?k_check_name ?a_read_house ?l_read_house ?c_read_house ?k_read_house ?a_check_promises ?l_check_promises ?c_check_promises ?k_check_promises ?a_cell_at ?l_cell_at ?c_cell_at ?k_cell_at ?a_mixed ?l_mixed ?c_mixed ?k_mixed ?a_name ?l_name ?c_name ?k_name ?a_elders ?l_elders ?c_elders ?k_elders ?a_promises ?l_promises ?c_promises ?k_promises ?a_sums ?l_sums ?c_sums ?k_sums ?a_caps ?l_caps ?c_caps ?k_caps ?a_plan ?l_plan ?c_plan ?k_plan ?a_tree ?l_tree ?c_tree ?k_tree ?a_thing ?l_thing ?c_thing ?k_thing ?a_ask ?l_ask ?c_ask ?k_ask ?a_other ?l_other ?c_other ?k_other ?a_refused ?l_refused ?c_refused ?k_refused ?a_founding_refused ?l_founding_refused ?c_founding_refused ?k_founding_refused ?a_law ?l_law ?c_law ?k_law ?a_House_init ?l_House_init ?c_House_init ?k_House_init ?a_Tree_init ?l_Tree_init ?c_Tree_init ?k_Tree_init ?tt_Tree_init ?td_Tree_init ?rd_Tree_init ?a_Tree_found ?l_Tree_found ?c_Tree_found ?k_Tree_found ?tt_Tree_found ?td_Tree_found ?rd_Tree_found ?a_Tree_wares ?l_Tree_wares ?c_Tree_wares ?k_Tree_wares ?a_Tree_names ?l_Tree_names ?c_Tree_names ?k_Tree_names ?a_Tree_has ?l_Tree_has ?c_Tree_has ?k_Tree_has ?a_Tree_check_house ?l_Tree_check_house ?c_Tree_check_house ?k_Tree_check_house ?a_Tree_house_of ?l_Tree_house_of ?c_Tree_house_of ?k_Tree_house_of ?a_Tree_elder_of ?l_Tree_elder_of ?c_Tree_elder_of ?k_Tree_elder_of ?a_Tree_promise_of ?l_Tree_promise_of ?c_Tree_promise_of ?k_Tree_promise_of ?a_Tree_cap_of ?l_Tree_cap_of ?c_Tree_cap_of ?k_Tree_cap_of ?a_Tree_weight_of ?l_Tree_weight_of ?c_Tree_weight_of ?k_Tree_weight_of ?a_Tree_kids ?l_Tree_kids ?c_Tree_kids ?k_Tree_kids ?a_Tree_line ?l_Tree_line ?c_Tree_line ?k_Tree_line ?a_Tree_beneath ?l_Tree_beneath ?c_Tree_beneath ?k_Tree_beneath ?a_Tree_promised_beneath ?l_Tree_promised_beneath ?c_Tree_promised_beneath ?k_Tree_promised_beneath ?a_Tree_floors ?l_Tree_floors ?c_Tree_floors ?k_Tree_floors ?a_Tree_check_more ?l_Tree_check_more ?c_Tree_check_more ?k_Tree_check_more ?a_Tree_check_move ?l_Tree_check_move ?c_Tree_check_move ?k_Tree_check_move ?a_Tree_move ?l_Tree_move ?c_Tree_move ?k_Tree_move ?a_i_NoPromise ?l_i_NoPromise ?c_i_NoPromise ?k_i_NoPromise ?qi_i_NoPromise ?hi_i_NoPromise ?a_House ?a_Tree ?a_TreeError ?a_NoName ?a_Taken ?a_NoHouse ?a_NoMove ?a_NoPromise ?a_NoWare ?a_NoAmount ?a_NoNumber ?a_TooMany ?a_TooDeep ?a_LETTERS ?r_LETTERS ?a_LONGEST_NAME ?r_LONGEST_NAME ?a_MOST_WARES ?r_MOST_WARES ?a_MOST_HOUSES ?r_MOST_HOUSES ?a_LONGEST_LINE ?r_LONGEST_LINE ?a_GREATEST_WEIGHT ?r_GREATEST_WEIGHT ?q_NoHouse ?q_NoAmount ?q_NoWare ?q_NoName ?q_NoNumber ?q_Taken ?q_TooMany ?q_TooDeep ?q_NoMove ?B_TreeError ?B_NoHouse ?CL_House ?CL_Tree ?MK_House ?MK_Tree ?XA_NoHouse ?kAny ?kT ?kN ?kV ?kcT ?kcN ?ME_Tree_found ?ME_Tree_wares ?ME_Tree_names ?ME_Tree_has ?ME_Tree_check_house ?ME_Tree_house_of ?ME_Tree_elder_of ?ME_Tree_promise_of ?ME_Tree_cap_of ?ME_Tree_weight_of ?ME_Tree_kids ?ME_Tree_line ?ME_Tree_beneath ?ME_Tree_promised_beneath ?ME_Tree_floors ?ME_Tree_check_more ?ME_Tree_check_move ?ME_Tree_move ?NA_House_elder ?NA_House_promise ?NA_House_cap ?NA_House_weight ?NA_Tree_sorted_wares ?NA_Tree_houses ?y_ValueError ?y_all ?y_bool ?y_dict ?y_int ?y_isinstance ?y_len ?y_list ?y_max ?y_min ?y_range ?y_set ?y_sorted ?y_str
    (case a_House => k_is)
    (case a_Tree => k_is)
    (case a_TreeError => k_is)
    (case a_NoName => k_is)
    (case a_Taken => k_is)
    (case a_NoHouse => k_is)
    (case a_NoMove => k_is)
    (case a_NoPromise => k_is)
    (case a_NoWare => k_is)
    (case a_NoAmount => k_is)
    (case a_NoNumber => k_is)
    (case a_TooMany => k_is)
    (case a_TooDeep => k_is)
    (case a_is_whole => k_is); (case l_is_whole => k_is); (case c_is_whole => k_is); (case k_is_whole => k_is)
    (case a_is_name => k_is); (case l_is_name => k_is); (case c_is_name => k_is); (case k_is_name => k_is)
    (case a_is_whole_from => k_is); (case l_is_whole_from => k_is); (case c_is_whole_from => k_is); (case k_is_whole_from => k_is)
    (case a_is_amount => k_is); (case l_is_amount => k_is); (case c_is_amount => k_is); (case k_is_amount => k_is)
    (case a_amounts_of => k_is); (case l_amounts_of => k_is); (case c_amounts_of => k_is); (case k_amounts_of => k_is)
    (case a_above_nought => k_is); (case l_above_nought => k_is); (case c_above_nought => k_is); (case k_above_nought => k_is)
    (case a_amount_of => k_is); (case l_amount_of => k_is); (case c_amount_of => k_is); (case k_amount_of => k_is)
    (case a_added => k_is); (case l_added => k_is); (case c_added => k_is); (case k_added => k_is)
    (case a_beyond => k_is); (case l_beyond => k_is); (case c_beyond => k_is); (case k_beyond => k_is)
    (case a_total_of => k_is); (case l_total_of => k_is); (case c_total_of => k_is); (case k_total_of => k_is)
    (case a_are_wares => k_is); (case l_are_wares => k_is); (case c_are_wares => k_is); (case k_are_wares => k_is)
    (case a_check_name => k_is); (case l_check_name => k_is); (case c_check_name => k_is); (case k_check_name => k_is)
    (case a_read_house => k_is); (case l_read_house => k_is); (case c_read_house => k_is); (case k_read_house => k_is)
    (case a_check_promises => k_is); (case l_check_promises => k_is); (case c_check_promises => k_is); (case k_check_promises => k_is)
    (case a_cell_at => k_is); (case l_cell_at => k_is); (case c_cell_at => k_is); (case k_cell_at => k_is)
    (case a_mixed => k_is); (case l_mixed => k_is); (case c_mixed => k_is); (case k_mixed => k_is)
    (case a_name => k_is); (case l_name => k_is); (case c_name => k_is); (case k_name => k_is)
    (case a_elders => k_is); (case l_elders => k_is); (case c_elders => k_is); (case k_elders => k_is)
    (case a_promises => k_is); (case l_promises => k_is); (case c_promises => k_is); (case k_promises => k_is)
    (case a_sums => k_is); (case l_sums => k_is); (case c_sums => k_is); (case k_sums => k_is)
    (case a_caps => k_is); (case l_caps => k_is); (case c_caps => k_is); (case k_caps => k_is)
    (case a_plan => k_is); (case l_plan => k_is); (case c_plan => k_is); (case k_plan => k_is)
    (case a_tree => k_is); (case l_tree => k_is); (case c_tree => k_is); (case k_tree => k_is)
    (case a_thing => k_is); (case l_thing => k_is); (case c_thing => k_is); (case k_thing => k_is)
    (case a_ask => k_is); (case l_ask => k_is); (case c_ask => k_is); (case k_ask => k_is)
    (case a_other => k_is); (case l_other => k_is); (case c_other => k_is); (case k_other => k_is)
    (case a_refused => k_is); (case l_refused => k_is); (case c_refused => k_is); (case k_refused => k_is)
    (case a_founding_refused => k_is); (case l_founding_refused => k_is); (case c_founding_refused => k_is); (case k_founding_refused => k_is)
    (case a_law => k_is); (case l_law => k_is); (case c_law => k_is); (case k_law => k_is)
    (case a_House_init => k_is); (case l_House_init => k_is); (case c_House_init => k_is); (case k_House_init => k_is)
    (case a_Tree_init => k_is); (case l_Tree_init => k_is); (case c_Tree_init => k_is); (case k_Tree_init => k_is)
    (case tt_Tree_init => k_is); (case td_Tree_init => first | rfl | k_is); (case rd_Tree_init => first | exact .cons ⟨_, rfl⟩ .nil | exact .cons rfl .nil)
    (case a_Tree_found => k_is); (case l_Tree_found => k_is); (case c_Tree_found => k_is); (case k_Tree_found => k_is)
    (case tt_Tree_found => k_is); (case td_Tree_found => first | rfl | k_is); (case rd_Tree_found => first | exact .cons ⟨_, rfl⟩ .nil | exact .cons rfl .nil)
    (case a_Tree_wares => k_is); (case l_Tree_wares => k_is); (case c_Tree_wares => k_is); (case k_Tree_wares => k_is)
    (case a_Tree_names => k_is); (case l_Tree_names => k_is); (case c_Tree_names => k_is); (case k_Tree_names => k_is)
    (case a_Tree_has => k_is); (case l_Tree_has => k_is); (case c_Tree_has => k_is); (case k_Tree_has => k_is)
    (case a_Tree_check_house => k_is); (case l_Tree_check_house => k_is); (case c_Tree_check_house => k_is); (case k_Tree_check_house => k_is)
    (case a_Tree_house_of => k_is); (case l_Tree_house_of => k_is); (case c_Tree_house_of => k_is); (case k_Tree_house_of => k_is)
    (case a_Tree_elder_of => k_is); (case l_Tree_elder_of => k_is); (case c_Tree_elder_of => k_is); (case k_Tree_elder_of => k_is)
    (case a_Tree_promise_of => k_is); (case l_Tree_promise_of => k_is); (case c_Tree_promise_of => k_is); (case k_Tree_promise_of => k_is)
    (case a_Tree_cap_of => k_is); (case l_Tree_cap_of => k_is); (case c_Tree_cap_of => k_is); (case k_Tree_cap_of => k_is)
    (case a_Tree_weight_of => k_is); (case l_Tree_weight_of => k_is); (case c_Tree_weight_of => k_is); (case k_Tree_weight_of => k_is)
    (case a_Tree_kids => k_is); (case l_Tree_kids => k_is); (case c_Tree_kids => k_is); (case k_Tree_kids => k_is)
    (case a_Tree_line => k_is); (case l_Tree_line => k_is); (case c_Tree_line => k_is); (case k_Tree_line => k_is)
    (case a_Tree_beneath => k_is); (case l_Tree_beneath => k_is); (case c_Tree_beneath => k_is); (case k_Tree_beneath => k_is)
    (case a_Tree_promised_beneath => k_is); (case l_Tree_promised_beneath => k_is); (case c_Tree_promised_beneath => k_is); (case k_Tree_promised_beneath => k_is)
    (case a_Tree_floors => k_is); (case l_Tree_floors => k_is); (case c_Tree_floors => k_is); (case k_Tree_floors => k_is)
    (case a_Tree_check_more => k_is); (case l_Tree_check_more => k_is); (case c_Tree_check_more => k_is); (case k_Tree_check_more => k_is)
    (case a_Tree_check_move => k_is); (case l_Tree_check_move => k_is); (case c_Tree_check_move => k_is); (case k_Tree_check_move => k_is)
    (case a_Tree_move => k_is); (case l_Tree_move => k_is); (case c_Tree_move => k_is); (case k_Tree_move => k_is)
    (case a_i_NoPromise => k_is); (case l_i_NoPromise => k_is); (case c_i_NoPromise => k_is); (case k_i_NoPromise => k_is)
    (case qi_i_NoPromise => kernel_rfl); (case hi_i_NoPromise => k_is)
    (case a_LETTERS => k_is)
    (case r_LETTERS => exact ⟨_, rfl⟩)
    (case a_LONGEST_NAME => k_is)
    (case r_LONGEST_NAME => exact ⟨_, rfl⟩)
    (case a_MOST_WARES => k_is)
    (case r_MOST_WARES => exact ⟨_, rfl⟩)
    (case a_MOST_HOUSES => k_is)
    (case r_MOST_HOUSES => exact ⟨_, rfl⟩)
    (case a_LONGEST_LINE => k_is)
    (case r_LONGEST_LINE => exact ⟨_, rfl⟩)
    (case a_GREATEST_WEIGHT => k_is)
    (case r_GREATEST_WEIGHT => exact ⟨_, rfl⟩)
    (case q_NoHouse => k_exc)
    (case q_NoAmount => k_exc)
    (case q_NoWare => k_exc)
    (case q_NoName => k_exc)
    (case q_NoNumber => k_exc)
    (case q_Taken => k_exc)
    (case q_TooMany => k_exc)
    (case q_TooDeep => k_exc)
    (case q_NoMove => k_exc)
    (case B_TreeError => kernel_rfl)
    (case B_NoHouse => kernel_rfl)
    (case CL_House => (constructor <;> first | k_is | kernel_rfl))
    (case CL_Tree => (constructor <;> first | k_is | kernel_rfl))
    (case MK_House => (constructor <;> first | k_is | kernel_rfl))
    (case MK_Tree => (constructor <;> first | k_is | kernel_rfl))
    (case XA_NoHouse => (constructor <;> first | k_is | kernel_rfl))
    (case kAny => kernel_rfl)
    (case kT => kernel_rfl)
    (case kN => kernel_rfl)
    (case kV => kernel_rfl)
    (case kcT => kernel_rfl)
    (case kcN => kernel_rfl)
    (case ME_Tree_found => (constructor <;> first | k_is | kernel_rfl))
    (case ME_Tree_wares => (constructor <;> first | k_is | kernel_rfl))
    (case ME_Tree_names => (constructor <;> first | k_is | kernel_rfl))
    (case ME_Tree_has => (constructor <;> first | k_is | kernel_rfl))
    (case ME_Tree_check_house => (constructor <;> first | k_is | kernel_rfl))
    (case ME_Tree_house_of => (constructor <;> first | k_is | kernel_rfl))
    (case ME_Tree_elder_of => (constructor <;> first | k_is | kernel_rfl))
    (case ME_Tree_promise_of => (constructor <;> first | k_is | kernel_rfl))
    (case ME_Tree_cap_of => (constructor <;> first | k_is | kernel_rfl))
    (case ME_Tree_weight_of => (constructor <;> first | k_is | kernel_rfl))
    (case ME_Tree_kids => (constructor <;> first | k_is | kernel_rfl))
    (case ME_Tree_line => (constructor <;> first | k_is | kernel_rfl))
    (case ME_Tree_beneath => (constructor <;> first | k_is | kernel_rfl))
    (case ME_Tree_promised_beneath => (constructor <;> first | k_is | kernel_rfl))
    (case ME_Tree_floors => (constructor <;> first | k_is | kernel_rfl))
    (case ME_Tree_check_more => (constructor <;> first | k_is | kernel_rfl))
    (case ME_Tree_check_move => (constructor <;> first | k_is | kernel_rfl))
    (case ME_Tree_move => (constructor <;> first | k_is | kernel_rfl))
    (case NA_House_elder => k_is)
    (case NA_House_promise => k_is)
    (case NA_House_cap => k_is)
    (case NA_House_weight => k_is)
    (case NA_Tree_sorted_wares => k_is)
    (case NA_Tree_houses => k_is)
    (case y_ValueError => k_is)
    (case y_all => k_is)
    (case y_bool => k_is)
    (case y_dict => k_is)
    (case y_int => k_is)
    (case y_isinstance => k_is)
    (case y_len => k_is)
    (case y_list => k_is)
    (case y_max => k_is)
    (case y_min => k_is)
    (case y_range => k_is)
    (case y_set => k_is)
    (case y_sorted => k_is)
    (case y_str => k_is)
