import PyProof.Rows.All
import Wide.All
import OpenK.AllK
import Wide.FinOn
import Lean
import PyProof.EqAt
import PyProof.EqKinds
import PyProof.TupleCall
import PyProof.NeKinds
import KE.KEqDict
import KE.KRevIter
import PyProof.FactsAll.range_2
import PyProof.ZipIter
import PyProof.FitsReplace
import PyProof.MeetsStr
import PyProof.ListRange
import PyProof.CollectWalk
import PyProof.DictItems
import PyProof.DictItemsLoops
import PyProof.DictValues
import PyProof.DictWalks
import PyProof.StrCalls
import KE.KIsAll
import PyProof.Rows.Range3
import PyProof.Rows.MinMaxN
import PyProof.SumWalkG
import PyProof.MeetsStr2
import PyProof.StrBlockL
import PyProof.Rows.StrNews2
import PyProof.StrLawsOccR
import KE.KIntText
import PyProof.StrLawsIn
import PyProof.Rows.SeqMore2
import PyProof.ListOps
import PyProof.Rows.SeqMore
import PyProof.Rows.SeqGen
import PyProof.EnumFor
import PyProof.EnumMake
import KE.KSortTup
import KE.KDictList
import KE.KLam
import KE.KSortKey
import PyProof.AutoListH
import Wide.Seal
import PyProof.AttrMissHeap
import KE.KDictOf
import PyProof.Rows.SetFrom
import PySem.Challenge.RW_quotatree_k06_amounts_taken
set_option Elab.async false
set_option linter.all false
set_option maxRecDepth 100000
namespace L2
open PySem PySem.Spec PyProof.Rows
abbrev Key := Sum Int Str
def keyIs : Key → Value → Bool
  | .inl k, v => Value.isInt k v
  | .inr x, v => Value.isStrOf x v
def keyH (w : World) : Key → Int
  | .inl k => hashInt k
  | .inr x => hashStr w x
theorem keyIs_shape : ∀ {k : Key} {v : Value}, keyIs k v = true → (∃ i t, k = Sum.inl i ∧ v = Value.int i t) ∨ (∃ x t, k = Sum.inr x ∧ v = Value.str x t)
  | .inl i, v, h => by
    obtain ⟨t, e⟩ := Value.isInt_shape (k := i) (v := v) h
    exact .inl ⟨i, t, rfl, e⟩
  | .inr x, v, h => by
    obtain ⟨t, e⟩ := Value.isStrOf_shape (x := x) (v := v) h
    exact .inr ⟨x, t, rfl, e⟩
theorem keyIs_int (i : Int) (t : Tok) : keyIs (.inl i) (.int i t) = true := by simp [keyIs, Value.isInt]
theorem keyIs_str (x : Str) (t : Tok) : keyIs (.inr x) (.str x t) = true := by simp [keyIs, Value.isStrOf]
theorem key_ll (a b : Int) : decide ((Sum.inl a : Key) = Sum.inl b) = (a == b) := by
  by_cases e : a = b
  · subst e; simp
  · have h : ¬ (Sum.inl a : Key) = Sum.inl b := fun q => e (Sum.inl.inj q)
    rw [decide_eq_false h]
    exact (beq_eq_false_iff_ne.mpr e).symm
theorem key_rr (a b : Str) : decide ((Sum.inr a : Key) = Sum.inr b) = decide (a = b) := by
  by_cases e : a = b
  · subst e; simp
  · have h : ¬ (Sum.inr a : Key) = Sum.inr b := fun q => e (Sum.inr.inj q)
    rw [decide_eq_false h, decide_eq_false e]
theorem key_lr (a : Int) (b : Str) : decide ((Sum.inl a : Key) = Sum.inr b) = false := decide_eq_false (fun q => nomatch q)
theorem key_rl (a : Str) (b : Int) : decide ((Sum.inr a : Key) = Sum.inl b) = false := decide_eq_false (fun q => nomatch q)
def mixKind (prog : Program) (w : World) : PySem.KeyKind prog w Key where
  is := keyIs
  hash := keyH w
  inj := fun v a b ha hb => by
    rcases keyIs_shape ha with ⟨i, t, rfl, rfl⟩ | ⟨x, t, rfl, rfl⟩
    · rcases keyIs_shape hb with ⟨j, u, rfl, e⟩ | ⟨y, u, rfl, e⟩
      · injection e with e1 _; rw [e1]
      · exact nomatch e
    · rcases keyIs_shape hb with ⟨j, u, rfl, e⟩ | ⟨y, u, rfl, e⟩
      · exact nomatch e
      · injection e with e1 _; rw [e1]
  byValue := fun k v h => by
    rcases keyIs_shape h with ⟨i, t, rfl, rfl⟩ | ⟨x, t, rfl, rfl⟩ <;> rfl
  pyHash := fun hv h => by
    rcases keyIs_shape hv with ⟨i, t, rfl, rfl⟩ | ⟨x, t, rfl, rfl⟩
    · exact wpAny_pyHash_int h
    · exact wpAny_pyHash_str h
  eqBool := fun hu hv h => by
    rcases keyIs_shape hu with ⟨i, t, rfl, rfl⟩ | ⟨x, t, rfl, rfl⟩
    · rcases keyIs_shape hv with ⟨j, u, rfl, rfl⟩ | ⟨y, u, rfl, rfl⟩
      · rw [key_ll] at h; exact wpAny_eqBool_int h
      · rw [key_lr] at h; exact SeqAt.EqAt.int_str i t y u _ _ _ _ h
    · rcases keyIs_shape hv with ⟨j, u, rfl, rfl⟩ | ⟨y, u, rfl, rfl⟩
      · rw [key_rl] at h; exact SeqAt.EqAt.str_int x t j u _ _ _ _ h
      · rw [key_rr] at h; exact wpAny_eqBool_str h
  «strs» := fun k x t v h => by
    rcases keyIs_shape h with ⟨i, u, rfl, e⟩ | ⟨y, u, rfl, e⟩
    · exact nomatch e
    · injection e with e1 _
      subst e1
      cases v <;> rfl
theorem mixKind_int (prog : Program) (w : World) (i : Int) (t : Tok) : (mixKind prog w).is (.inl i) (.int i t) = true := keyIs_int i t
theorem mixKind_str (prog : Program) (w : World) (x : Str) (t : Tok) : (mixKind prog w).is (.inr x) (.str x t) = true := keyIs_str x t
end L2
namespace L2
open PySem PySem.Spec PyProof.Rows
inductive V where
  | non | bl (b : Bool) | int (i : Int) | str (x : Str) | byt (b : Array UInt8) | flt (b : UInt64) | ref (a : Addr) | ty (n : String)
  deriving DecidableEq
def RelV : V → Value → Prop
  | .non, u => u = Value.none
  | .bl b, u => u = Value.bool b
  | .int i, u => ∃ t, u = Value.int i t
  | .str x, u => ∃ t, u = Value.str x t
  | .byt b, u => ∃ t, u = Value.bytes b t
  | .flt b, u => ∃ t, u = Value.float b t
  | .ref a, u => u = Value.ref a
  | .ty n, u => u = Value.type n
abbrev Vals : List V → List Value → Prop := Paired RelV
theorem Vals.length {xs : List V} {us : List Value} (r : Vals xs us) : xs.length = us.length := Paired.length r
theorem Vals.get : ∀ {xs : List V} {us : List Value} {i : Nat} {x : V}, Vals xs us → xs[i]? = some x → ∃ u, us[i]? = some u ∧ RelV x u
  | _, _, _, _, .nil, e => by simp at e
  | _, _, 0, _, .cons r _, e => by simp at e; subst e; exact ⟨_, rfl, r⟩
  | _, _, i + 1, x, .cons _ t, e => by
    obtain ⟨u, h1, h2⟩ := Vals.get (i := i) (x := x) t (by simpa using e)
    exact ⟨u, by simpa using h1, h2⟩
theorem Vals.append : ∀ {xs ys : List V} {us ws : List Value}, Vals xs us → Vals ys ws → Vals (xs ++ ys) (us ++ ws)
  | _, _, _, _, .nil, s => s
  | _, _, _, _, .cons r t, s => .cons r (Vals.append t s)
theorem Vals.take : ∀ {xs : List V} {us : List Value} (n : Nat), Vals xs us → Vals (xs.take n) (us.take n)
  | _, _, 0, _ => .nil
  | _, _, _ + 1, .nil => .nil
  | _, _, n + 1, .cons r t => .cons r (Vals.take n t)
theorem Vals.drop : ∀ {xs : List V} {us : List Value} (n : Nat), Vals xs us → Vals (xs.drop n) (us.drop n)
  | _, _, 0, r => r
  | _, _, _ + 1, .nil => .nil
  | _, _, n + 1, .cons _ t => Vals.drop n t
def RelO : Option V → Option Value → Prop
  | some v, some u => RelV v u
  | none, none => True
  | _, _ => False
def KV {κ : Type} : List (κ × V) → List (κ × Value) → Prop := Paired fun (p : κ × V) (q : κ × Value) => p.1 = q.1 ∧ RelV p.2 q.2
def kV : Key → V
  | .inl i => .int i
  | .inr x => .str x
inductive HO where
  /-- a list -/
  | lst (xs : List V)
  /-- a tuple (never changes) -/
  | tup (xs : List V)
  /-- a dict whose keys are ints and texts; one whose keys are tuples of ints and texts (the empty one is both) -/
  | dK (kvs : List (Key × V)) | dT (kvs : List (List Key × V))
  /-- a set of ints: its members, its size -/
  | set (S : Int → Bool) (n : Nat)
  /-- an instance of the class at C, its dict at dx, its attributes -/
  | ins (C dx : Addr) (fs : List (Str × V))
  /-- the dict of the instance at x -/
  | own (x : Addr)
  /-- the dict of an exception -/
  | xd (fs : List (Str × V))
  /-- a bound method, f of x -/
  | met (f x : Addr)
  /-- a range object lo, lo + 1, .. below hi -/
  | rng (lo hi : Int)
  /-- a thing that is known to the object (the script; a dict while a loop walks it): read, never written while it is so -/
  | frz (o : Obj) (u : HO)
  /-- a code object's table -/
  | tbl (ps : Array Value)
  /-- any other thing, by what is true of its one object (a def of one's own: SetO a S n := HO.ext fun h => ..) -/
  | ext (φ : Heap → Prop)
abbrev Hp := Addr → Option HO
def upd (H : Hp) (a : Addr) (o : HO) : Hp := fun b => if b = a then some o else H b
theorem upd_same {H : Hp} {a : Addr} {o : HO} : upd H a o a = some o := by unfold upd; rw [if_pos rfl]
theorem upd_ne {H : Hp} {a b : Addr} {o : HO} (h : b ≠ a) : upd H a o b = H b := by unfold upd; rw [if_neg h]
theorem upd_upd {H : Hp} {a : Addr} {o u : HO} : upd (upd H a o) a u = upd H a u := by
  funext b; unfold upd; split <;> rfl
theorem ne_of {H : Hp} {a b : Addr} {o u : HO} (h : H a = some o) (h' : H b = some u) (d : o ≠ u) : a ≠ b := by
  intro e; subst e; rw [h] at h'; exact d (Option.some.inj h')
theorem ne_of_none {H : Hp} {a b : Addr} {o : HO} (h : H a = some o) (h' : H b = none) : a ≠ b := by
  intro e; subst e; rw [h] at h'; cases h'
section
variable (P : Program) (w : World)
def ObjOk (H : Hp) (h : Heap) (a : Addr) : HO → Prop
  | .lst xs => xs.length ≤ sizeLine ∧ ∃ (its : List Value) (n : Nat), Vals xs its ∧ h.get? a = some { cls := .type "list", data := .seq its.toArray n }
  | .tup xs => xs.length ≤ sizeLine ∧ ∃ its : List Value, Vals xs its ∧ IsTup h a its.toArray
  | .dK kvs => kvs.length ≤ sizeLine ∧ (a == sysModules) = false ∧ ∃ vs, KV kvs vs ∧ h.DictOf (mixKind P w) a vs
  | .dT kvs => kvs.length ≤ sizeLine ∧ (a == sysModules) = false ∧ ∃ xs : List (List Key × Addr × Value),
      Paired (fun (p : List Key × V) (q : List Key × Addr × Value) => p.1 = q.1 ∧ H q.2.1 = some (.tup (p.1.map kV)) ∧ RelV p.2 q.2.2) kvs xs ∧
      ∃ o es ep, h.get? a = some o ∧ o.ExactDict ∧ o.data = .dict es ep ∧ es.toList = xs.map (entryOfKey (tupleKind (mixKind P w))) ∧ (xs.map (·.1)).Nodup
  | .set S n => h.SetOf (intKind P w) a S n
  | .ins C dx fs => H dx = some (.own a) ∧ fs.length ≤ 1000 ∧ dx ≠ a ∧ h.get? a = some (PySem.W.instObj C dx) ∧
      ∃ mA, h.Ns1 dx mA ∧ (∀ f, RelO (fs.lookup f) (mA f)) ∧ PySem.Within mA (fs.map (·.1))
  | .own _ => ∃ o, h.get? a = some o
  | .xd fs => ∃ mA, h.Ns1 a mA ∧ ∀ f, RelO (fs.lookup f) (mA f)
  | .rng lo hi => ∃ t u v, h.get? a = some { cls := .type "range", data := .fields #[.int lo t, .int hi u, .int 1 v] }
  | .frz o u => h.get? a = some o ∧ ObjOk H h a u
  | .tbl ps => h.get? a = some { cls := .none, data := .fields ps }
  | .met f x => h.get? a = some (PySem.W.methodObj (.ref f) (.ref x))
  | .ext φ => φ h ∧ (∃ o, h.get? a = some o) ∧ ∀ h1 h2 : Heap, φ h1 → (∀ o, h1.get? a = some o → h2.get? a = some o) → φ h2
def HOk (H : Hp) (h : Heap) : Prop := ∀ a o, H a = some o → ObjOk P w H h a o
end
section
variable {P : Program} {w : World} {H H' : Hp} {h h' : Heap} {a : Addr} {o : HO}
theorem ObjOk.lt (x : ObjOk P w H h a o) : a < h.objs.size := by
  cases o with
  | lst xs => obtain ⟨_, _, _, _, e⟩ := x; exact Heap.lt_size e
  | tup xs => obtain ⟨_, _, _, p⟩ := x; exact p.lt
  | dK kvs => obtain ⟨_, _, _, _, o, _, _, e, _⟩ := x; exact Heap.lt_size e
  | dT kvs => obtain ⟨_, _, _, _, o, _, _, e, _⟩ := x; exact Heap.lt_size e
  | set S n => obtain ⟨o, _, _, _, e, _⟩ := x; exact Heap.lt_size e
  | ins C dx fs => obtain ⟨_, _, _, e, _⟩ := x; exact Heap.lt_size e
  | own y => obtain ⟨_, e⟩ := x; exact Heap.lt_size e
  | xd fs => obtain ⟨_, ⟨_, _, _, e, _⟩, _⟩ := x; exact Heap.lt_size e
  | rng lo hi => obtain ⟨_, _, _, e⟩ := x; exact Heap.lt_size e
  | frz ob u => obtain ⟨e, _⟩ := x; exact Heap.lt_size e
  | tbl ps => exact Heap.lt_size (show h.get? a = some _ from x)
  | met f y => exact Heap.lt_size (show h.get? a = some _ from x)
  | ext φ => obtain ⟨_, ⟨_, e⟩, _⟩ := x; exact Heap.lt_size e
theorem Paired.mapP {α β : Type} {F G : α → β → Prop} : ∀ {l₁ : List α} {l₂ : List β}, Paired F l₁ l₂ → (∀ a b, F a b → G a b) → Paired G l₁ l₂
  | _, _, .nil, _ => .nil
  | _, _, .cons r t, f => .cons (f _ _ r) (Paired.mapP t f)
theorem ObjOk.stay (x : ObjOk P w H h a o) (k : ∀ b u, (b = a ∨ H b = some (.own a)) → h.get? b = some u → h'.get? b = some u)
    (ho : ∀ b, H b = some (.own a) → H' b = some (.own a)) (ht : ∀ b xs, H b = some (.tup xs) → H' b = some (.tup xs)) : ObjOk P w H' h' a o := by
  induction o with
  | lst xs => obtain ⟨z, its, n, r, e⟩ := x; exact ⟨z, its, n, r, k _ _ (.inl rfl) e⟩
  | tup xs => obtain ⟨z, its, r, ob, e, c⟩ := x; exact ⟨z, its, r, ob, k _ _ (.inl rfl) e, c⟩
  | dK kvs => obtain ⟨z, y, vs, r, ob, es, ep, e, c⟩ := x; exact ⟨z, y, vs, r, ob, es, ep, k _ _ (.inl rfl) e, c⟩
  | dT kvs =>
    obtain ⟨z, y, xs, r, ob, es, ep, e, c⟩ := x
    exact ⟨z, y, xs, Paired.mapP r fun p q z => ⟨z.1, ht _ _ z.2.1, z.2.2⟩, ob, es, ep, k _ _ (.inl rfl) e, c⟩
  | set S n => obtain ⟨ob, es, ep, t, e, c⟩ := x; exact ⟨ob, es, ep, t, k _ _ (.inl rfl) e, c⟩
  | ins C dx fs =>
    obtain ⟨d, z, ne, e, mA, ⟨od, es, ep, e2, c⟩, r⟩ := x
    exact ⟨ho _ d, z, ne, k _ _ (.inl rfl) e, mA, ⟨od, es, ep, k _ _ (.inr d) e2, c⟩, r⟩
  | own y => obtain ⟨ob, e⟩ := x; exact ⟨ob, k _ _ (.inl rfl) e⟩
  | xd fs => obtain ⟨mA, ⟨od, es, ep, e, c⟩, r⟩ := x; exact ⟨mA, ⟨od, es, ep, k _ _ (.inl rfl) e, c⟩, r⟩
  | rng lo hi => obtain ⟨t, u, v, e⟩ := x; exact ⟨t, u, v, k _ _ (.inl rfl) e⟩
  | frz ob u ih => obtain ⟨e, q⟩ := x; exact ⟨k _ _ (.inl rfl) e, ih q⟩
  | tbl ps =>
    have e : h.get? a = some { cls := .none, data := .fields ps } := x
    show h'.get? a = some { cls := .none, data := .fields ps }
    exact k a _ (.inl rfl) e
  | met f y =>
    have e : h.get? a = some (PySem.W.methodObj (.ref f) (.ref y)) := x
    show h'.get? a = some (PySem.W.methodObj (.ref f) (.ref y))
    exact k a _ (.inl rfl) e
  | ext φ => obtain ⟨p, ⟨o, e⟩, st⟩ := x; exact ⟨st _ _ p fun o q => k _ _ (.inl rfl) q, ⟨o, k _ _ (.inl rfl) e⟩, st⟩
theorem HOk.lt (x : HOk P w H h) (e : H a = some o) : a < h.objs.size := (x a o e).lt
theorem HOk.fresh (x : HOk P w H h) (e : h.objs.size ≤ a) : H a = none := by
  cases q : H a with
  | none => rfl
  | some u => exact absurd (Nat.lt_of_lt_of_le (x.lt q) e) (Nat.lt_irrefl _)
theorem HOk.kept (x : HOk P w H h) (k : ∀ b u, h.get? b = some u → h'.get? b = some u) : HOk P w H h' := fun a o e =>
  (x a o e).stay (fun b u _ q => k b u q) (fun _ q => q) fun _ _ q => q
theorem HOk.laid (x : HOk P w H h) (k : ∀ b u, h.get? b = some u → h'.get? b = some u) (hp : h.objs.size ≤ a) (new : ObjOk P w (upd H a o) h' a o) : HOk P w (upd H a o) h' := fun b u e => by
  have hn := x.fresh hp
  by_cases hb : b = a
  · subst hb; rw [upd_same] at e; cases e; exact new
  · rw [upd_ne hb] at e
    exact (x b u e).stay (fun c v _ q => k c v q) (fun c q => by rw [upd_ne (ne_of_none q hn)]; exact q) fun c xs q => by rw [upd_ne (ne_of_none q hn)]; exact q
end
def Rd (H : Hp) (a : Addr) (u : HO) : Prop := H a = some u ∨ ∃ o, H a = some (.frz o u)
theorem Rd.ok {P : Program} {w : World} {H : Hp} {h : Heap} {a : Addr} {u : HO} (r : Rd H a u) (x : HOk P w H h) : ObjOk P w H h a u := by
  rcases r with r | ⟨o, r⟩
  · exact x a u r
  · obtain ⟨_, q⟩ := x a _ r
    exact q
def Mut : Option HO → Prop
  | some (.lst _) => True
  | some (.dK _) => True
  | some (.dT _) => True
  | some (.set _ _) => True
  | some (.ins _ _ _) => True
  | some (.ext _) => True
  | _ => False
section
variable {P : Program} {w : World} {H : Hp} {h h' : Heap} {x e : Addr} {o' : HO}
theorem HOk.write (ok : HOk P w H h) (mu : Mut (H x)) (he : e = x ∨ H e = some (.own x)) (k : ∀ b u, b ≠ e → h.get? b = some u → h'.get? b = some u) (heo : ∃ u, h'.get? e = some u)
    (new : ObjOk P w (upd H x o') h' x o') : HOk P w (upd H x o') h' := fun b u q => by
  have nown : ∀ c y, H c = some (.own y) → c ≠ x := fun c y r z => by subst z; rw [r] at mu; exact mu
  have ntup : ∀ c xs, H c = some (.tup xs) → c ≠ x := fun c xs r z => by subst z; rw [r] at mu; exact mu
  by_cases hb : b = x
  · subst hb; rw [upd_same] at q; cases q; exact new
  · rw [upd_ne hb] at q
    by_cases hbe : b = e
    · have q' : H b = some (.own x) := by
        rcases he with z | z
        · exact absurd (hbe.trans z) hb
        · rw [hbe]; exact z
      rw [q] at q'; cases q'
      obtain ⟨v, hv⟩ := heo
      exact ⟨v, by rw [hbe]; exact hv⟩
    · refine (ok b u q).stay (fun c v hc r => k c v ?_ r) (fun c r => by rw [upd_ne (nown c b r)]; exact r) fun c xs r => by rw [upd_ne (ntup c xs r)]; exact r
      rcases hc with rfl | hc
      · exact hbe
      · rintro rfl
        rcases he with z | z
        · exact nown c b hc z
        · rw [hc] at z; cases z; exact hb rfl
end
structure Un (fs ex : List Addr) (H H' : Hp) (h h' : Heap) : Prop where
  keep : ∀ b o, h.get? b = some o → H b = none → b ∉ fs → b ∉ ex → h'.get? b = some o
  slot : ∀ b o, h.get? b = some o → H b = none → b ∈ fs → b ∉ ex → ∃ sl, h'.get? b = some { o with slots := sl }
  free : ∀ b o, h.get? b = some o → H b = none → b ∉ ex → H' b = none
  there : ∀ b o, h.get? b = some o → b ∉ ex → ∃ o', h'.get? b = some o'
  tups : ∀ b xs, H b = some (.tup xs) → H' b = some (.tup xs)
  frzs : ∀ b o u, H b = some (.frz o u) → H' b = some (.frz o u)
  tbls : ∀ b ps, H b = some (.tbl ps) → ∃ more, H' b = some (.tbl (ps ++ more))
section
variable {fs fs' ex ex' : List Addr} {H H1 H2 : Hp} {h h1 h2 h' : Heap} {a x e : Addr} {o : HO}
theorem Un.any (u : Un fs ex H H1 h h1) {b : Addr} {ob : Obj} (q : h.get? b = some ob) (n : H b = none) (hx : b ∉ ex) : ∃ sl, h1.get? b = some { ob with slots := sl } := by
  by_cases hb : b ∈ fs
  · exact u.slot b ob q n hb hx
  · exact ⟨ob.slots, u.keep b ob q n hb hx⟩
theorem Un.kept (k : ∀ b u, h.get? b = some u → h'.get? b = some u) : Un fs ex H H h h' :=
  ⟨fun b ob q _ _ _ => k b ob q, fun b ob q _ _ _ => ⟨ob.slots, k b ob q⟩, fun _ _ _ n _ => n, fun b ob q _ => ⟨ob, k b ob q⟩, fun _ _ q => q, fun _ _ _ q => q, fun _ ps q => ⟨#[], by rw [q]; simp⟩⟩
theorem Un.refl : Un fs ex H H h h := Un.kept fun _ _ q => q
theorem Un.laid (k : ∀ b u, h.get? b = some u → h'.get? b = some u) (hp : h.objs.size ≤ a) (hn : H a = none) : Un fs ex H (upd H a o) h h' where
  keep := fun b u q _ _ _ => k b u q
  slot := fun b u q _ _ _ => ⟨u.slots, k b u q⟩
  free := fun b u q n _ => by rw [upd_ne (Nat.ne_of_lt (Nat.lt_of_lt_of_le (Heap.lt_size q) hp))]; exact n
  there := fun b u q _ => ⟨u, k b u q⟩
  tups := fun b xs q => by rw [upd_ne (ne_of_none q hn)]; exact q
  frzs := fun b u xs q => by rw [upd_ne (ne_of_none q hn)]; exact q
  tbls := fun b ps q => ⟨#[], by rw [upd_ne (ne_of_none q hn), q]; simp⟩
theorem Un.write (mu : Mut (H x)) (he : e = x ∨ H e = some (.own x)) (k : ∀ b u, b ≠ e → h.get? b = some u → h'.get? b = some u) (heo : ∃ u, h'.get? e = some u) : Un fs ex H (upd H x o) h h' := by
  have hx : ∀ b, H b = none → b ≠ x := fun b n z => by subst z; rw [n] at mu; exact mu
  have hb : ∀ b, H b = none → b ≠ e := fun b n z => by
    subst z
    rcases he with r | r
    · exact hx b n r
    · rw [n] at r; cases r
  have hm : ∀ b u, H b = some u → ¬ Mut (some u) → b ≠ x := fun b u q nm z => by subst z; rw [q] at mu; exact nm mu
  refine ⟨fun b u q n _ _ => k b u (hb b n) q, fun b u q n _ _ => ⟨u.slots, k b u (hb b n) q⟩, fun b u q n _ => by rw [upd_ne (hx b n)]; exact n, fun b u q _ => ?_,
    fun b xs q => by rw [upd_ne (hm b _ q fun z => z)]; exact q, fun b u xs q => by rw [upd_ne (hm b _ q fun z => z)]; exact q, fun b ps q => ⟨#[], by rw [upd_ne (hm b _ q fun z => z), q]; simp⟩⟩
  by_cases hbe : b = e
  · subst hbe; exact heo
  · exact ⟨u, k b u hbe q⟩
end
def trk (h : Heap) (H : Hp) : List Addr := (List.range h.objs.size).filter fun a => (H a).isSome
def hidT (h : Heap) (H : Hp) : Heap := PySem.W.hideAll h (trk h H)
theorem hidT_size (h : Heap) (H : Hp) : (hidT h H).objs.size = h.objs.size := PySem.W.hideAll_size _ _
theorem hidT_get {h : Heap} {H : Hp} {b : Addr} {o : Obj} (e : h.get? b = some o) (n : H b = none) : (hidT h H).get? b = some o :=
  PySem.W.hideAll_get _ e fun hm => by
    have q : (H b).isSome = true := (List.mem_filter.mp hm).2
    rw [n] at q; simp at q
theorem of_hidT {h : Heap} {H : Hp} {b : Addr} {o : Obj} (e : (hidT h H).get? b = some o) : h.get? b = some o ∧ H b = none := by
  have e' : h.get? b = some o := PySem.W.of_hideAll (trk h H) e
  refine ⟨e', ?_⟩
  cases q : H b with
  | none => rfl
  | some x =>
    have hm : b ∈ trk h H := List.mem_filter.mpr ⟨List.mem_range.mpr (Heap.lt_size e'), by simp [q]⟩
    have z : (hidT h H).get? b = none := PySem.W.hideAll_none (trk h H) hm
    rw [z] at e; cases e
def allNews (g h : Heap) (L : Addr) : List (Addr × Obj) := (List.range h.objs.size).filterMap fun a => if a = L ∨ (g.get? a).isSome = true then none else (h.get? a).map fun o => (a, o)
def rest (g h : Heap) (L d : Addr) : List (Addr × Obj) := (allNews g h L).filter fun p => decide (p.1 ≠ d)
end L2
namespace L2
open PySem PySem.Spec PyProof.Rows
structure Mod (K : PySem.W.Frag) (mg : Str → Option Value) (base : Heap) : Prop where
  kin : K.In base
  glob : base.Ns mainGlobals mg
  blt : ∃ mb, base.Ns builtinsNs mb ∧ ∀ x : Str, x ≠ "__name__" → mb x = bootBuiltins x
  nolimit : base.NoLimit
structure Cx where
  prog : Program
  w : World
  K : PySem.W.Frag
  mg : Str → Option Value
  base : Heap
  A : Around
  N : List Str
  s₀ : Shared
  H₀ : Hp
  env : Env
  outer : List Env
  stack : List Env
  ex : List Addr
  fn : Str → Bool
  calm : Bool
  pn : List (Addr × Obj)
  xe : Value → Shared → Prop
def frs (l : List Env) : List Addr := l.filterMap (·.frame)
abbrev Cx.fs (X : Cx) : List Addr := frs X.outer
def Vis (sc : Scope) (x : Str) : Prop := sc.names.lookup x = some .local ∨ sc.names.lookup x = some .cell ∨ sc.names.lookup x = some .free
def Loc (sc : Scope) (x : Str) : Prop := sc.names.lookup x = some .local ∨ sc.names.lookup x = some .cell
def Look (env : Env) (h : Heap) (m : Str → Option Value) (x : Str) (u : Value) : Prop :=
  (env.kindOf x = some .local ∧ m x = some u) ∨ ((env.kindOf x = some .cell ∨ env.kindOf x = some .free) ∧ ∃ c, env.cells.lookup x = some c ∧ h.IsCell c (some u))
structure Cx.Ok (X : Cx) : Prop where
  mod : Mod X.K X.mg X.base
  kind : X.env.scope.kind = .function
  glob : X.env.globals = mainGlobals
  blt : X.env.builtins = builtinsNs
  above : X.s₀.heap.objs.size ≤ X.env.locals
  inj : ∀ x y c, X.env.cells.lookup x = some c → X.env.cells.lookup y = some c → x = y
  has : ∀ x, (X.env.kindOf x = some .cell ∨ X.env.kindOf x = some .free) → ∃ c, X.env.cells.lookup x = some c
  cab : ∀ x c, X.fn x = true → X.env.cells.lookup x = some c → X.s₀.heap.objs.size ≤ c
  hd : X.calm = true → X.A.handled = none
  frames : X.A.frames = some X.stack
  stk : X.stack = X.outer ∨ (X.stack = X.env :: X.outer ∧ X.env.frame = some X.env.locals)
  exf : ∀ b ∈ X.ex, b ≠ X.env.locals ∧ ∀ x c, X.env.cells.lookup x = some c → c ≠ b
  bs : ∀ b o, X.base.get? b = some o → X.s₀.heap.get? b = some o ∧ X.H₀ b = none
  bsz : X.base.objs.size ≤ X.s₀.heap.objs.size
  noex : ∀ b o, X.base.get? b = some o → b ∉ X.ex
  exfs : ∀ b ∈ X.ex, b ∉ X.fs
  funs : X.s₀.heap.FunFrames X.base X.outer
  frf : ∀ b ∈ X.fs, X.H₀ b = none
structure Inv (X : Cx) (pins : List (Addr × Obj)) (σ : List (Option V)) (H : Hp) (s : Shared) : Prop where
  ok : X.Ok
  os : s.os = X.s₀.os
  bare : AllBare s.gens
  base : Un X.fs X.ex X.H₀ H X.s₀.heap s.heap
  loc : ∃ m, s.heap.Ns X.env.locals m ∧ ∀ (i : Nat) (x : Str) (v : V), X.N[i]? = some x → σ[i]? = some (some v) → Vis X.env.scope x → ∃ u, RelV v u ∧ Look X.env s.heap m x u
  cell : ∀ x c, X.env.cells.lookup x = some c → ∃ v, s.heap.IsCell c v
  free : H X.env.locals = none
  freeC : ∀ x c, X.env.cells.lookup x = some c → H c = none
  pin : ∀ p ∈ X.pn ++ pins, s.heap.get? p.1 = some p.2 ∧ H p.1 = none ∧ p.1 ≠ X.env.locals ∧ p.1 ∉ X.fs ∧ ∀ v, p.2.data ≠ .cell v
  hok : HOk X.prog X.w H s.heap
  len : σ.length = X.N.length
section
variable {X : Cx} {pins : List (Addr × Obj)} {σ : List (Option V)} {H H' : Hp} {s : Shared} {h' : Heap}
theorem Cx.Ok.nofr (ok : X.Ok) {b : Addr} {o : Obj} (e : X.base.get? b = some o) : b ∉ X.fs := fun hb => by
  have := (ok.funs.mem hb).1
  rw [e] at this; cases this
theorem Inv.bs (I : Inv X pins σ H s) : ∀ b o, X.base.get? b = some o → s.heap.get? b = some o ∧ H b = none := fun b o e =>
  ⟨I.base.keep b o (I.ok.bs b o e).1 (I.ok.bs b o e).2 (I.ok.nofr e) (I.ok.noex b o e), I.base.free b o (I.ok.bs b o e).1 (I.ok.bs b o e).2 (I.ok.noex b o e)⟩
theorem Inv.bk (I : Inv X pins σ H s) : ∀ b o, X.base.get? b = some o → s.heap.get? b = some o := fun b o e => (I.bs b o e).1
theorem Inv.mod (I : Inv X pins σ H s) : Mod X.K X.mg X.base := I.ok.mod
theorem Inv.kIn (I : Inv X pins σ H s) : X.K.In s.heap := I.ok.mod.kin.keeps I.bk
theorem Inv.lt (I : Inv X pins σ H s) : X.env.locals < s.heap.objs.size := let ⟨_, hn, _⟩ := I.loc; hn.lt
theorem Inv.sz (I : Inv X pins σ H s) : X.s₀.heap.objs.size ≤ s.heap.objs.size := Nat.le_trans I.ok.above (Nat.le_of_lt I.lt)
theorem Inv.nofs (I : Inv X pins σ H s) {a : Addr} (h : s.heap.objs.size ≤ a) : a ∉ X.fs := fun hb => by
  obtain ⟨_, o, ho, _⟩ := I.ok.funs.mem hb
  exact absurd (Nat.lt_of_lt_of_le (Heap.lt_size ho) (Nat.le_trans I.sz h)) (Nat.lt_irrefl _)
theorem Inv.cne (I : Inv X pins σ H s) : ∀ x c, X.env.cells.lookup x = some c → c ≠ X.env.locals := fun x c e z => by
  obtain ⟨v, o, ho, hd⟩ := I.cell x c e
  obtain ⟨m, ⟨o', es, ep, ho', hd', _⟩, _⟩ := I.loc
  rw [z, ho'] at ho; cases ho; rw [hd'] at hd; cases hd
theorem Inv.funs (I : Inv X pins σ H s) : s.heap.FunFrames X.base X.outer := by
  have all : ∀ (l : List Env), (∀ b ∈ frs l, b ∈ X.fs) → X.s₀.heap.FunFrames X.base l → s.heap.FunFrames X.base l := by
    intro l
    induction l with
    | nil => intro _ _; trivial
    | cons env r ih =>
      intro hs hl
      obtain ⟨hk, ⟨L, o, hf, hn, ho, hd⟩, hr⟩ := hl
      have hL : L ∈ X.fs := hs L (by unfold frs; rw [List.filterMap_cons, hf]; exact List.mem_cons_self)
      obtain ⟨sl, e⟩ := I.base.slot L o ho (I.ok.frf L hL) hL fun z => I.ok.exfs L z hL
      exact ⟨hk, ⟨L, _, hf, hn, e, hd⟩, ih (fun b hb => hs b (by unfold frs; rw [List.filterMap_cons, hf]; exact List.mem_cons_of_mem _ hb)) hr⟩
  exact all X.outer (fun _ hb => hb) I.ok.funs
theorem Inv.stack (I : Inv X pins σ H s) : s.heap.FunFrames X.base X.stack := by
  rcases I.ok.stk with e | ⟨e, hf⟩
  · rw [e]; exact I.funs
  · rw [e]
    obtain ⟨m, hn, _⟩ := I.loc
    refine .cons (by rw [I.ok.kind]; decide) hf hn ?_ I.funs
    exact Heap.get?_none_of_le (Nat.le_trans I.ok.bsz I.ok.above)
theorem Inv.stkSub (I : Inv X pins σ H s) : ∀ b ∈ frs X.stack, b ∈ X.env.locals :: X.fs := fun b hb => by
  rcases I.ok.stk with e | ⟨e, hf⟩
  · rw [e] at hb; exact List.mem_cons_of_mem _ hb
  · rw [e] at hb
    unfold frs at hb
    rw [List.filterMap_cons, hf] at hb
    exact hb
theorem Inv.stkFree (I : Inv X pins σ H s) : ∀ b ∈ frs X.stack, H b = none := fun b hb => by
  rcases List.mem_cons.mp (I.stkSub b hb) with e | hb
  · rw [e]; exact I.free
  · obtain ⟨_, o, ho, _⟩ := I.ok.funs.mem hb
    exact I.base.free b o ho (I.ok.frf b hb) fun z => I.ok.exfs b z hb
theorem Inv.step {g' : Array GenState} {t' : Nat} {d' : Drawn} {ch : List Addr} (I : Inv X pins σ H s)
    (hch : ∀ b ∈ ch, (b ∈ X.ex ∨ X.s₀.heap.objs.size ≤ b) ∧ b ≠ X.env.locals ∧ (∀ x c, X.env.cells.lookup x = some c → c ≠ b) ∧ ∀ p ∈ X.pn ++ pins, p.1 ≠ b)
    (keep : ∀ b o, b ≠ X.env.locals → b ∉ X.fs → b ∉ ch → s.heap.get? b = some o → H b = none → h'.get? b = some o)
    (slot : ∀ b o, b ≠ X.env.locals → b ∈ X.fs → b ∉ ch → s.heap.get? b = some o → H b = none → ∃ sl, h'.get? b = some { o with slots := sl }) (free : ∀ b o, b ∉ ch → s.heap.get? b = some o → H b = none → H' b = none)
    (there : ∀ b o, b ∉ ch → s.heap.get? b = some o → ∃ o', h'.get? b = some o')
    (tups : ∀ b xs, H b = some (.tup xs) → H' b = some (.tup xs)) (frzs : ∀ b o u, H b = some (.frz o u) → H' b = some (.frz o u)) (tbls : ∀ b ps, H b = some (.tbl ps) → ∃ more, H' b = some (.tbl (ps ++ more)))
    (ns : ∀ m, s.heap.Ns X.env.locals m → h'.Ns X.env.locals m) (hok : HOk X.prog X.w H' h') (hg : AllBare g') :
    Inv X pins σ H' { s with heap := h', gens := g', drawn := d', toks := t' } := by
  have neL : ∀ b o, X.s₀.heap.get? b = some o → b ≠ X.env.locals := fun b o e => Nat.ne_of_lt (Nat.lt_of_lt_of_le (Heap.lt_size e) I.ok.above)
  have neC : ∀ b o, X.s₀.heap.get? b = some o → b ∉ X.ex → b ∉ ch := fun b o e hx hb => by
    rcases (hch b hb).1 with z | z
    · exact hx z
    · exact absurd (Nat.lt_of_lt_of_le (Heap.lt_size e) z) (Nat.lt_irrefl _)
  have cellK : ∀ x c, X.env.cells.lookup x = some c → ∀ v, s.heap.IsCell c v → h'.IsCell c v := fun x c e v ⟨o, ho, hd⟩ => by
    have nch : c ∉ ch := fun z => (hch c z).2.2.1 x c e rfl
    by_cases hc : c ∈ X.fs
    · obtain ⟨sl, q⟩ := slot c o (I.cne x c e) hc nch ho (I.freeC x c e)
      exact ⟨_, q, hd⟩
    · exact ⟨o, keep c o (I.cne x c e) hc nch ho (I.freeC x c e), hd⟩
  refine ⟨I.ok, I.os, hg, ⟨fun b o e n hb hx => ?_, fun b o e n hb hx => ?_, fun b o e n hx => ?_, fun b o e hx => ?_, fun b xs e => tups b xs (I.base.tups b xs e), fun b o xs e => frzs b o xs (I.base.frzs b o xs e), fun b ps e => ?_⟩, ?_, fun x c e => ?_, ?_, fun x c e => ?_, fun p hp => ?_, hok, I.len⟩
  · exact keep b o (neL b o e) hb (neC b o e hx) (I.base.keep b o e n hb hx) (I.base.free b o e n hx)
  · obtain ⟨sl, e1⟩ := I.base.slot b o e n hb hx
    obtain ⟨sl', e2⟩ := slot b _ (neL b o e) hb (neC b o e hx) e1 (I.base.free b o e n hx)
    exact ⟨sl', e2⟩
  · obtain ⟨o', e1⟩ := I.base.there b o e hx
    exact free b o' (neC b o e hx) e1 (I.base.free b o e n hx)
  · obtain ⟨o', e1⟩ := I.base.there b o e hx
    exact there b o' (neC b o e hx) e1
  · obtain ⟨m1, e1⟩ := I.base.tbls b ps e
    obtain ⟨m2, e2⟩ := tbls b _ e1
    exact ⟨m1 ++ m2, by rw [e2, Array.append_assoc]⟩
  · obtain ⟨m, hn, hl⟩ := I.loc
    refine ⟨m, ns m hn, fun i x v e1 e2 e3 => ?_⟩
    obtain ⟨u, r, l⟩ := hl i x v e1 e2 e3
    refine ⟨u, r, ?_⟩
    rcases l with l | ⟨k, c, e, z⟩
    · exact .inl l
    · exact .inr ⟨k, c, e, cellK x c e _ z⟩
  · obtain ⟨v, z⟩ := I.cell x c e
    exact ⟨v, cellK x c e v z⟩
  · obtain ⟨m, ⟨o, _, _, ho, _⟩, _⟩ := I.loc
    exact free _ o (fun z => (hch _ z).2.1 rfl) ho I.free
  · obtain ⟨v, o, ho, hd⟩ := I.cell x c e
    exact free c o (fun z => (hch c z).2.2.1 x c e rfl) ho (I.freeC x c e)
  · obtain ⟨e, n, ne, nf, d⟩ := I.pin p hp
    have nch : p.1 ∉ ch := fun z => (hch p.1 z).2.2.2 p hp rfl
    exact ⟨keep p.1 p.2 ne nf nch e n, free p.1 p.2 nch e n, ne, nf, d⟩
theorem Inv.un {t' : Nat} (I : Inv X pins σ H s) (u : Un X.fs [] H H' s.heap h') (hok : HOk X.prog X.w H' h') : Inv X pins σ H' { s with heap := h', toks := t' } := by
  obtain ⟨m, ⟨o, es, ep, ho, r⟩, _⟩ := id I.loc
  obtain ⟨sl, hL⟩ := u.any ho I.free (by simp)
  exact I.step (g' := s.gens) (d' := s.drawn) (ch := []) (fun _ z => nomatch z) (fun b o _ hb _ e n => u.keep b o e n hb (by simp)) (fun b o _ hb _ e n => u.slot b o e n hb (by simp)) (fun b o _ e n => u.free b o e n (by simp)) (fun b o _ e => u.there b o e (by simp)) u.tups u.frzs u.tbls (fun m' hm => by
    obtain ⟨o', es', ep', ho', r'⟩ := hm
    rw [ho] at ho'; cases ho'
    exact ⟨_, es', ep', hL, r'⟩) hok I.bare
theorem Inv.call {g' : Array GenState} {t' : Nat} {d' : Drawn} {ch : List Addr} (I : Inv X pins σ H s) (u : Un (frs X.stack) ch H H' s.heap h') (hok : HOk X.prog X.w H' h') (hg : AllBare g')
    (hch : ∀ b ∈ ch, (b ∈ X.ex ∨ X.s₀.heap.objs.size ≤ b) ∧ b ≠ X.env.locals ∧ (∀ x c, X.env.cells.lookup x = some c → c ≠ b) ∧ ∀ p ∈ X.pn ++ pins, p.1 ≠ b) :
    Inv X pins σ H' { s with heap := h', gens := g', drawn := d', toks := t' } := by
  obtain ⟨m, ⟨o, es, ep, ho, r⟩, _⟩ := id I.loc
  obtain ⟨sl, hL⟩ := u.any ho I.free fun z => (hch _ z).2.1 rfl
  exact I.step (ch := ch) hch (fun b o hL hb hc e n => u.keep b o e n (fun z => (List.mem_cons.mp (I.stkSub b z)).elim hL hb) hc) (fun b o _ _ hc e n => u.any e n hc) (fun b o hc e n => u.free b o e n hc) (fun b o hc e => u.there b o e hc) u.tups u.frzs u.tbls (fun m' hm => by
    obtain ⟨o', es', ep', ho', r'⟩ := hm
    rw [ho] at ho'; cases ho'
    exact ⟨_, es', ep', hL, r'⟩) hok hg
theorem Inv.turned {t' : Nat} {it : Addr} (I : Inv X pins σ H s) (k : ∀ b o, b ≠ it → s.heap.get? b = some o → h'.get? b = some o) (hn : H it = none) (hL : it ≠ X.env.locals)
    (h1 : it ∈ X.ex ∨ X.s₀.heap.objs.size ≤ it) (h2 : ∀ x c, X.env.cells.lookup x = some c → c ≠ it) (h3 : ∀ p ∈ X.pn ++ pins, p.1 ≠ it) : Inv X pins σ H { s with heap := h', toks := t' } := by
  have nit : ∀ b u, H b = some u → b ≠ it := fun b u e z => by rw [z, hn] at e; cases e
  refine I.step (g' := s.gens) (d' := s.drawn) (ch := [it]) (fun b hb => ?_) (fun b o _ _ hc e _ => k b o (fun z => hc (by simp [z])) e) (fun b o _ _ hc e _ => ⟨o.slots, k b o (fun z => hc (by simp [z])) e⟩) (fun _ _ _ _ n => n)
    (fun b o hc e => ⟨o, k b o (fun z => hc (by simp [z])) e⟩) (fun _ _ e => e) (fun _ _ _ e => e) (fun b ps e => ⟨#[], by rw [e]; simp⟩) (fun m hm => ?_) (fun b u e => ?_) I.bare
  · have e : b = it := by simpa using hb
    subst e
    exact ⟨h1, hL, h2, h3⟩
  · obtain ⟨o, es, ep, ho, r⟩ := hm
    exact ⟨o, es, ep, k _ o (Ne.symm hL) ho, r⟩
  · refine (I.hok b u e).stay (fun c v hc q => k c v ?_ q) (fun _ q => q) fun _ _ q => q
    rcases hc with z | z
    · rw [z]; exact nit b u e
    · exact nit c _ z
theorem Inv.tok (I : Inv X pins σ H s) (t : Nat) : Inv X pins σ H { s with toks := t } := I.un (h' := s.heap) (t' := t) Un.refl I.hok
theorem Inv.kept {t' : Nat} (I : Inv X pins σ H s) (k : ∀ b u, s.heap.get? b = some u → h'.get? b = some u) : Inv X pins σ H { s with heap := h', toks := t' } := I.un (Un.kept k) (I.hok.kept k)
theorem Inv.laid {a : Addr} {o : HO} {t' : Nat} (I : Inv X pins σ H s) (k : ∀ b u, s.heap.get? b = some u → h'.get? b = some u) (hp : s.heap.objs.size ≤ a) (new : ObjOk X.prog X.w (upd H a o) h' a o) :
    Inv X pins σ (upd H a o) { s with heap := h', toks := t' } := I.un (Un.laid k hp (I.hok.fresh hp)) (I.hok.laid k hp new)
theorem Inv.write {x e : Addr} {o : HO} {t' : Nat} (I : Inv X pins σ H s) (mu : Mut (H x)) (he : e = x ∨ H e = some (.own x)) (k : ∀ b u, b ≠ e → s.heap.get? b = some u → h'.get? b = some u) (heo : ∃ u, h'.get? e = some u)
    (new : ObjOk X.prog X.w (upd H x o) h' x o) : Inv X pins σ (upd H x o) { s with heap := h', toks := t' } := I.un (Un.write mu he k heo) (I.hok.write mu he k heo new)
theorem Inv.pins_of {pins' : List (Addr × Obj)} (I : Inv X pins σ H s) (h : ∀ p ∈ pins', s.heap.get? p.1 = some p.2 ∧ H p.1 = none ∧ p.1 ≠ X.env.locals ∧ p.1 ∉ X.fs ∧ ∀ v, p.2.data ≠ .cell v) : Inv X pins' σ H s :=
  ⟨I.ok, I.os, I.bare, I.base, I.loc, I.cell, I.free, I.freeC, fun p hp => (List.mem_append.mp hp).elim (fun z => I.pin p (List.mem_append_left _ z)) (h p), I.hok, I.len⟩
theorem nodup_ix {N : List Str} (hN : N.Nodup) {i j : Nat} {x : Str} (a : N[i]? = some x) (b : N[j]? = some x) : i = j := by
  obtain ⟨h1, e1⟩ := List.getElem?_eq_some_iff.mp a
  obtain ⟨h2, e2⟩ := List.getElem?_eq_some_iff.mp b
  exact (List.getElem_inj hN).mp (e1.trans e2.symm)
theorem store_ok2 {M : Model} {A : Around} {E : Value → Shared → Prop} {i : Nat} {x : Str} {v : V} {u : Value} {Q : Unit → Shared → Prop} (I : Inv X pins σ H s) (hN : X.N.Nodup) (hi : X.N[i]? = some x) (hx : Loc X.env.scope x) (r : RelV v u)
    (h : ∀ s', Inv X pins (σ.set i (some v)) H s' → (∃ a, Heap.SameBut a s.heap s'.heap ∧ (a = X.env.locals ∨ X.env.cells.lookup x = some a)) → Q () s') (hf : X.fn x = true ∨ X.env.scope.names.lookup x = some .local := by first | exact .inl rfl | exact .inr rfl | assumption) : wpAny M A (storeName X.env x u) Q E s := by
  obtain ⟨m, hn, hl⟩ := id I.loc
  have hcls : (X.env.scope.kind == .class || (X.env.scope.kind == .module && X.env.locals != X.env.globals)) = false := by rw [I.ok.kind]; rfl
  have hiσ : i < σ.length := by rw [I.len]; exact (List.getElem?_eq_some_iff.mp hi).1
  have cne := I.cne
  have tracked : ∀ {a : Addr} {h' : Heap}, (∃ o, s.heap.get? a = some o ∧ H a = none) → Heap.SameBut a s.heap h' → HOk X.prog X.w H h' := fun {a h'} ha hs b ob e => by
    obtain ⟨_, _, hfree⟩ := ha
    refine (I.hok b ob e).stay (fun c w' hc q => (hs.2 c ?_).trans q) (fun _ q => q) fun _ _ q => q
    rintro rfl
    rcases hc with rfl | hc
    · rw [hfree] at e; cases e
    · rw [hfree] at hc; cases hc
  rcases hx with hk | hk
  · refine wpAny_storeName_local hk hn (fun h' hn' hs => ?_) hcls
    obtain ⟨oL, _, _, hoL, _⟩ := id hn
    refine h _ ⟨I.ok, I.os, I.bare, ⟨fun b o e n hb hx => ?_, fun b o e n hb hx => ?_, I.base.free, fun b o e hx => ?_, I.base.tups, I.base.frzs, I.base.tbls⟩, ⟨_, hn', fun j y v' e1 e2 e3 => ?_⟩, fun y c e => ?_, I.free, I.freeC, fun p hp => ?_, tracked ⟨oL, hoL, I.free⟩ hs, by simpa using I.len⟩ ⟨_, hs, .inl rfl⟩
    · exact (hs.2 b (Nat.ne_of_lt (Nat.lt_of_lt_of_le (Heap.lt_size e) I.ok.above))).trans (I.base.keep b o e n hb hx)
    · obtain ⟨sl, e1⟩ := I.base.slot b o e n hb hx
      exact ⟨sl, (hs.2 b (Nat.ne_of_lt (Nat.lt_of_lt_of_le (Heap.lt_size e) I.ok.above))).trans e1⟩
    · obtain ⟨o', e1⟩ := I.base.there b o e hx
      exact ⟨o', (hs.2 b (Nat.ne_of_lt (Nat.lt_of_lt_of_le (Heap.lt_size e) I.ok.above))).trans e1⟩
    · by_cases hj : j = i
      · subst hj
        rw [hi] at e1; cases e1
        rw [List.getElem?_set_self hiσ] at e2
        cases e2
        exact ⟨u, r, .inl ⟨hk, by simp⟩⟩
      · rw [List.getElem?_set_ne (Ne.symm hj)] at e2
        obtain ⟨u', r', q⟩ := hl j y v' e1 e2 e3
        refine ⟨u', r', ?_⟩
        rcases q with ⟨k, e⟩ | ⟨k, c, e, z⟩
        · refine .inl ⟨k, ?_⟩
          have : y ≠ x := fun e => hj (nodup_ix hN e1 (e ▸ hi))
          simp [this, e]
        · exact .inr ⟨k, c, e, z.sameBut hs (cne y c e)⟩
    · obtain ⟨w', z⟩ := I.cell y c e
      exact ⟨w', z.sameBut hs (cne y c e)⟩
    · obtain ⟨e, n, ne, nf, d⟩ := I.pin p hp
      exact ⟨(hs.2 p.1 ne).trans e, n, ne, nf, d⟩
  · have hfn : X.fn x = true := by
      rcases hf with z | z
      · exact z
      · rw [z] at hk; cases hk
    obtain ⟨c, hc⟩ := I.ok.has x (.inl hk)
    obtain ⟨w', z⟩ := I.cell x c hc
    refine wpAny_storeName_cell I.ok.kind hk hc z (fun h' hc' hs => ?_)
    obtain ⟨oc, hoc, hocd⟩ := id z
    refine h { s with heap := h' } ⟨I.ok, I.os, I.bare, ⟨fun b o e n hb hx => ?_, fun b o e n hb hx => ?_, I.base.free, fun b o e hx => ?_, I.base.tups, I.base.frzs, I.base.tbls⟩, ⟨m, hn.sameBut hs (Ne.symm (cne x c hc)), fun j y v' e1 e2 e3 => ?_⟩, fun y c' e => ?_, I.free, I.freeC, fun p hp => ?_, tracked ⟨oc, hoc, I.freeC x c hc⟩ hs, by simpa using I.len⟩ ⟨c, hs, .inr hc⟩
    · exact (hs.2 b (Nat.ne_of_lt (Nat.lt_of_lt_of_le (Heap.lt_size e) (I.ok.cab x c hfn hc)))).trans (I.base.keep b o e n hb hx)
    · obtain ⟨sl, e1⟩ := I.base.slot b o e n hb hx
      exact ⟨sl, (hs.2 b (Nat.ne_of_lt (Nat.lt_of_lt_of_le (Heap.lt_size e) (I.ok.cab x c hfn hc)))).trans e1⟩
    · obtain ⟨o', e1⟩ := I.base.there b o e hx
      exact ⟨o', (hs.2 b (Nat.ne_of_lt (Nat.lt_of_lt_of_le (Heap.lt_size e) (I.ok.cab x c hfn hc)))).trans e1⟩
    · by_cases hj : j = i
      · subst hj
        rw [hi] at e1; cases e1
        rw [List.getElem?_set_self hiσ] at e2
        cases e2
        exact ⟨u, r, .inr ⟨.inl hk, c, hc, hc'⟩⟩
      · rw [List.getElem?_set_ne (Ne.symm hj)] at e2
        obtain ⟨u', r', q⟩ := hl j y v' e1 e2 e3
        refine ⟨u', r', ?_⟩
        rcases q with q | ⟨k, c', e, z'⟩
        · exact .inl q
        · refine .inr ⟨k, c', e, z'.sameBut hs ?_⟩
          rintro rfl
          exact hj (nodup_ix hN e1 (I.ok.inj _ _ _ e hc ▸ hi))
    · by_cases hcc : c' = c
      · subst hcc; exact ⟨_, hc'⟩
      · obtain ⟨w2, z2⟩ := I.cell y c' e
        exact ⟨w2, z2.sameBut hs hcc⟩
    · obtain ⟨e, n, ne, nf, d⟩ := I.pin p hp
      refine ⟨(hs.2 p.1 ?_).trans e, n, ne, nf, d⟩
      intro q
      rw [q, hoc] at e
      have q' : oc = p.2 := Option.some.inj e
      exact d w' (by rw [← q']; exact hocd)
theorem store_ok {M : Model} {A : Around} {E : Value → Shared → Prop} {i : Nat} {x : Str} {v : V} {u : Value} {Q : Unit → Shared → Prop} (I : Inv X pins σ H s) (hN : X.N.Nodup) (hi : X.N[i]? = some x) (hx : Loc X.env.scope x) (r : RelV v u)
    (h : ∀ s', Inv X pins (σ.set i (some v)) H s' → Q () s') (hf : X.fn x = true ∨ X.env.scope.names.lookup x = some .local := by first | exact .inl rfl | exact .inr rfl | assumption) : wpAny M A (storeName X.env x u) Q E s :=
  store_ok2 I hN hi hx r (fun s' I' _ => h s' I') hf
theorem Inv.call' {s' : Shared} {ch : List Addr} (I : Inv X pins σ H s) (ho : s'.os = s.os) (u : Un (frs X.stack) ch H H' s.heap s'.heap) (hok : HOk X.prog X.w H' s'.heap) (hg : AllBare s'.gens)
    (hch : ∀ b ∈ ch, (b ∈ X.ex ∨ X.s₀.heap.objs.size ≤ b) ∧ b ≠ X.env.locals ∧ (∀ x c, X.env.cells.lookup x = some c → c ≠ b) ∧ ∀ p ∈ X.pn ++ pins, p.1 ≠ b) : Inv X pins σ H' s' := by
  obtain ⟨h', g', d', t', o'⟩ := s'
  have e : o' = s.os := ho
  subst e
  exact I.call (g' := g') (t' := t') (d' := d') u hok hg hch
end
abbrev XK := Value → Option Addr → Hp → Prop
abbrev St := List (Option V)
abbrev VK := V → Hp → Prop
abbrev TE := St → Hp → VK → Prop
abbrev TT := St → Hp → (Bool → Hp → Prop) → Prop
abbrev TA := St → Hp → (List V → Hp → Prop) → Prop
structure Ends where
  nx : St → Hp → Prop
  rt : VK
  bk : St → Hp → Prop := fun _ _ => False
  ct : St → Hp → Prop := fun _ _ => False
abbrev TS := Ends → St → Hp → Prop
def EP (X : Cx) (pins : List (Addr × Obj)) (σ : St) (Q : VK) (u : Value) (s' : Shared) : Prop := ∃ v H', Inv X pins σ H' s' ∧ RelV v u ∧ Q v H'
def TP (X : Cx) (pins : List (Addr × Obj)) (σ : St) (Q : Bool → Hp → Prop) (b : Bool) (s' : Shared) : Prop := ∃ H', Inv X pins σ H' s' ∧ Q b H'
def AP (X : Cx) (pins : List (Addr × Obj)) (σ : St) (Q : List V → Hp → Prop) (us : List Value) (s' : Shared) : Prop := ∃ vs H', Inv X pins σ H' s' ∧ Vals vs us ∧ Q vs H'
def SP (X : Cx) (pins : List (Addr × Obj)) (D : Ends) (f : Flow) (s' : Shared) : Prop :=
  match f with
  | .next => ∃ σ' H', Inv X pins σ' H' s' ∧ D.nx σ' H'
  | .brk => ∃ σ' H', Inv X pins σ' H' s' ∧ D.bk σ' H'
  | .cont => ∃ σ' H', Inv X pins σ' H' s' ∧ D.ct σ' H'
  | .ret u => ∃ v σ' H', Inv X pins σ' H' s' ∧ RelV v u ∧ D.rt v H'
def PE (X : Cx) (e : Expr) (t : TE) : Prop :=
  ∀ (pins : List (Addr × Obj)) (s : Shared) (σ : St) (H : Hp) (Q : VK), Inv X pins σ H s → t σ H Q → wpAny (model X.prog X.w) X.A (eval e X.env) (EP X pins σ Q) X.xe s
def PT (X : Cx) (e : Expr) (t : TT) : Prop :=
  ∀ (pins : List (Addr × Obj)) (s : Shared) (σ : St) (H : Hp) (Q : Bool → Hp → Prop), Inv X pins σ H s → t σ H Q → wpAny (model X.prog X.w) X.A (isTrue e X.env (eval e X.env)) (TP X pins σ Q) X.xe s
def PW (X : Cx) (e : Expr) (t : TT) : Prop :=
  ∀ (whole : Sem Value) (pins : List (Addr × Obj)) (s : Shared) (σ : St) (H : Hp) (Q : Bool → Hp → Prop), Inv X pins σ H s → t σ H Q → wpAny (model X.prog X.w) X.A (isTrue e X.env whole) (TP X pins σ Q) X.xe s
theorem PW.pt {X : Cx} {e : Expr} {t : TT} (h : PW X e t) : PT X e t := h _
def PA (X : Cx) (es : List Expr) (t : TA) : Prop :=
  ∀ (pos : Pos) (pins : List (Addr × Obj)) (s : Shared) (σ : St) (H : Hp) (Q : List V → Hp → Prop), Inv X pins σ H s → t σ H Q → wpAny (model X.prog X.w) X.A (spliced (backTo pos (starEach es X.env))) (AP X pins σ Q) X.xe s
def PS (X : Cx) (st : Stmt) (t : TS) : Prop :=
  ∀ (pins : List (Addr × Obj)) (s : Shared) (σ : St) (H : Hp) (D : Ends), Inv X pins σ H s → t D σ H → wpAny (model X.prog X.w) X.A (exec st X.env) (SP X pins D) X.xe s
def PSs (X : Cx) (st : List Stmt) (t : TS) : Prop :=
  ∀ (pins : List (Addr × Obj)) (s : Shared) (σ : St) (H : Hp) (D : Ends), Inv X pins σ H s → t D σ H → wpAny (model X.prog X.w) X.A (execs st X.env) (SP X pins D) X.xe s
theorem thn {α : Type} {t : Sem α} {Q Q' : α → Shared → Prop} {M : Model} {A : Around} {E : Value → Shared → Prop} {s : Shared} (h : wpAny M A t Q E s) (hQ : ∀ a s, Q a s → Q' a s) : wpAny M A t Q' E s := wpAny_mono h hQ fun _ _ x => x
end L2
namespace L2
open PySem PySem.Spec PyProof.Rows
section
variable {X : Cx}
theorem bin {a b : Expr} {ta tb : TE} (ha : PE X a ta) (hb : PE X b tb) {pins : List (Addr × Obj)} {s : Shared} {σ : St} {H : Hp} {R : V → V → Hp → Prop} (I : Inv X pins σ H s) (h : ta σ H fun x H1 => tb σ H1 fun y H2 => R x y H2)
    {α : Type} {Q : α → Shared → Prop} {f : Value → Value → Sem α}
    (hf : ∀ v u s2 x y H2, Inv X pins σ H2 s2 → RelV x v → RelV y u → R x y H2 → wpAny (model X.prog X.w) X.A (f v u) Q X.xe s2) :
    wpAny (model X.prog X.w) X.A (eval a X.env) (fun v s₁ => wpAny (model X.prog X.w) X.A (eval b X.env) (fun u s₂ => wpAny (model X.prog X.w) X.A (f v u) Q X.xe s₂) X.xe s₁) X.xe s := by
  refine thn (ha pins s σ H _ I h) fun v s1 ⟨x, H1, I1, r1, q1⟩ => ?_
  refine thn (hb pins s1 σ H1 _ I1 q1) fun u s2 ⟨y, H2, I2, r2, q2⟩ => ?_
  exact hf v u s2 x y H2 I2 r1 r2 q2
def tVar (i : Nat) : TE := fun σ H Q => ∃ v, σ[i]? = some (some v) ∧ Q v H
def tC (v : V) : TE := fun _ H Q => Q v H
theorem pe_var {i : Nat} {x : Str} {pos : Pos} (hN : X.N[i]? = some x) (hv : Vis X.env.scope x) (hd : (x == ("__debug__" : Str)) = false := by decide) (hcd : (x == ("__classdict__" : Str)) = false := by decide) : PE X (.Name x pos) (tVar i) := by
  intro pins s σ H Q I h
  obtain ⟨v, e, h⟩ := h
  obtain ⟨m, hn, hl⟩ := I.loc
  obtain ⟨u, r, l⟩ := hl i x v hN e hv
  have fin : EP X pins σ Q u s := ⟨v, H, I, r, h⟩
  rcases l with ⟨hk, hm⟩ | ⟨hk, c, hc, hcell⟩
  · exact wpAny_Name (wpAny_loadName_local I.ok.kind hk hn hm fin) hd
  · rcases hk with hk | hk
    · exact wpAny_Name (wpAny_loadName_cell I.ok.kind hk hc hcell fin) hd
    · exact wpAny_Name (wpAny_loadName_free I.ok.kind hk hc hcell fin hcd) hd
theorem pe_int {i j pos} : PE X (.Constant (.int i) j pos) (tC (.int i)) := fun _ _ _ H _ I h => wpAny_Constant_int ⟨.int i, H, I.tok _, ⟨_, rfl⟩, h⟩
theorem pe_bl {b j pos} : PE X (.Constant (.bool b) j pos) (tC (.bl b)) := fun _ _ _ H _ I h => Constant_bool ⟨.bl b, H, I, rfl, h⟩
theorem pe_non {j pos} : PE X (.Constant .none j pos) (tC .non) := fun _ _ _ H _ I h => Constant_none ⟨.non, H, I, rfl, h⟩
theorem pe_str {x j pos} : PE X (.Constant (.str x) j pos) (tC (.str x)) := fun _ _ _ H _ I h => Calls.Constant_str ⟨.str x, H, I.tok _, ⟨_, rfl⟩, h⟩
def Gl (X : Cx) (x : Str) : Prop := X.env.kindOf x = some .globalImplicit
theorem ld_glob {E : Value → Shared → Prop} {pins : List (Addr × Obj)} {s : Shared} {σ : St} {H : Hp} {x : Str} {u : Value} {pos : Pos} {Q : Value → Shared → Prop} (I : Inv X pins σ H s) (hg : Gl X x) (hm : X.mg x = some u) (h : Q u s)
    (hd : (x == ("__debug__" : Str)) = false := by decide) : wpAny (model X.prog X.w) X.A (eval (.Name x pos) X.env) Q E s :=
  Calls.Name_function_global I.ok.kind hg (Calls.loadGlobal_global (by rw [I.ok.glob]; exact I.mod.glob.keeps I.bk) hm h) hd
theorem ld_blt {E : Value → Shared → Prop} {pins : List (Addr × Obj)} {s : Shared} {σ : St} {H : Hp} {x : Str} {u : Value} {pos : Pos} {Q : Value → Shared → Prop} (I : Inv X pins σ H s) (hg : Gl X x) (hm : X.mg x = none) (hv : bootBuiltins x = some u) (h : Q u s)
    (hn : x ≠ "__name__" := by decide) (hd : (x == ("__debug__" : Str)) = false := by decide) : wpAny (model X.prog X.w) X.A (eval (.Name x pos) X.env) Q E s := by
  obtain ⟨mb, h1, h2⟩ := I.mod.blt
  exact Calls.Name_function_global I.ok.kind hg (Calls.loadGlobal_builtin (by rw [I.ok.glob]; exact I.mod.glob.keeps I.bk) hm (by rw [I.ok.blt]; exact h1.keeps I.bk) ((h2 x hn).trans hv) h) hd
theorem pe_bltn {x : Str} {v : V} {u : Value} {pos : Pos} (hg : Gl X x) (hm : X.mg x = none) (hv : bootBuiltins x = some u) (r : RelV v u) (hn : x ≠ "__name__" := by decide) (hd : (x == ("__debug__" : Str)) = false := by decide) : PE X (.Name x pos) (tC v) :=
  fun _ _ _ H _ I h => ld_blt I hg hm hv ⟨v, H, I, r, h⟩ hn hd
variable {a b : Expr} {ta tb : TE} {pos : Pos}
def PC (X : Cx) (op : CmpOp) (a b : Expr) (t : TE) : Prop :=
  ∀ (pins : List (Addr × Obj)) (s : Shared) (σ : St) (H : Hp) (Q : VK), Inv X pins σ H s → t σ H Q →
    wpAny (model X.prog X.w) X.A (eval a X.env) (fun v s₁ => wpAny (model X.prog X.w) X.A (eval b X.env) (fun u s₂ => wpAny (model X.prog X.w) X.A (compareOp op v u) (EP X pins σ Q) X.xe s₂) X.xe s₁) X.xe s
def tB (t : TE) : TT := fun σ H Q => t σ H fun x H1 => ∃ c, x = .bl c ∧ Q c H1
theorem pt_cmp {op : CmpOp} {t : TE} (h : PC X op a b t) (h1 : behindInMarks op b = false := by first | exact nobehind _ (by decide) (by decide) | rfl) : PT X (.Compare a [op] [b] pos) (tB t) := by
  intro pins s σ H Q I hw
  refine wpAny_isTrue_Compare1 (thn (h pins s σ H _ I hw) fun v s1 h1 => thn h1 fun u s2 h2 => thn h2 fun c s3 ⟨x, H1, I1, r1, q1⟩ => ?_) h1
  obtain ⟨d, rfl, q⟩ := q1
  cases r1
  exact wpAny_truthy_bool ⟨H1, I1, q⟩
theorem pt_val {e : Expr} {t : TE} (h : PE X e t) (he : ∀ whole, isTrue e X.env whole = (do let v ← whole; standAt e.pos; holding [v] (truthy v)) := by intro _; rfl) : PT X e (tB t) := by
  intro pins s σ H Q I hw
  refine isTrue_plain (thn (h pins s σ H _ I hw) fun v s1 ⟨x, H1, I1, r1, q1⟩ => ?_) (he _)
  obtain ⟨d, rfl, q⟩ := q1
  cases r1
  exact wpAny_truthy_bool ⟨H1, I1, q⟩
variable {tA tB' : TT} {rest : List Expr}
def tOr (t u : TT) : TT := fun σ H Q => t σ H fun c H1 => if c = true then Q true H1 else u σ H1 Q
def tNot (t : TT) : TT := fun σ H Q => t σ H fun c H1 => Q (!c) H1
theorem pw_or1 (ha : PT X a tA) : PW X (.BoolOp .Or [a] pos) tA := by
  intro wh pins s σ H Q I h
  refine isTrue_or (thn (ha pins s σ H Q I h) fun c s1 e => ?_)
  cases c with
  | false => exact isTrue_or_nil e
  | true => exact e
theorem pw_or (ha : PT X a tA) (hb : PW X (.BoolOp .Or (b :: rest) pos) tB') : PW X (.BoolOp .Or (a :: b :: rest) pos) (tOr tA tB') := by
  intro wh pins s σ H Q I h
  refine isTrue_or (thn (ha pins s σ H _ I h) fun c s1 ⟨H1, I1, q1⟩ => ?_)
  cases c with
  | true => exact ⟨H1, I1, q1⟩
  | false => exact hb wh pins s1 σ H1 Q I1 q1
theorem pt_not (ha : PT X a tA) : PT X (.UnaryOp .Not a pos) (tNot tA) := by
  intro pins s σ H Q I h
  exact isTrue_not (ha pins s σ H (fun c H1 => Q (!c) H1) I h)
def tAndV (ta tb : TE) : TE := fun σ H Q => ta σ H fun x H1 => ∃ c, x = .bl c ∧ if c = true then tb σ H1 Q else Q (.bl false) H1
def tOrV (ta tb : TE) : TE := fun σ H Q => ta σ H fun x H1 => ∃ c, x = .bl c ∧ if c = true then Q (.bl true) H1 else tb σ H1 Q
def tNotV (ta : TE) : TE := fun σ H Q => ta σ H fun x H1 => ∃ c, x = .bl c ∧ Q (.bl (!c)) H1
theorem pe_one {op} {t : TE} (h : PE X a t) : PE X (.BoolOp op [a] pos) t := fun pins s σ H Q I hw => BoolOp_one (h pins s σ H Q I hw)
theorem pe_and (ha : PE X a ta) (hb : PE X (.BoolOp .And (b :: rest) pos) tb) : PE X (.BoolOp .And (a :: b :: rest) pos) (tAndV ta tb) := by
  intro pins s σ H Q I h
  refine BoolOp_and (thn (ha pins s σ H _ I h) fun v s1 ⟨x, H1, I1, r1, q1⟩ => ?_)
  obtain ⟨c, rfl, q1⟩ := q1
  cases r1
  refine wpAny_truthy_bool ?_
  cases c with
  | true => exact hb pins s1 σ H1 Q I1 q1
  | false => exact ⟨.bl false, H1, I1, rfl, q1⟩
theorem pe_or (ha : PE X a ta) (hb : PE X (.BoolOp .Or (b :: rest) pos) tb) : PE X (.BoolOp .Or (a :: b :: rest) pos) (tOrV ta tb) := by
  intro pins s σ H Q I h
  refine BoolOp_or (thn (ha pins s σ H _ I h) fun v s1 ⟨x, H1, I1, r1, q1⟩ => ?_)
  obtain ⟨c, rfl, q1⟩ := q1
  cases r1
  refine wpAny_truthy_bool ?_
  cases c with
  | false => exact hb pins s1 σ H1 Q I1 q1
  | true => exact ⟨.bl true, H1, I1, rfl, q1⟩
theorem pe_not (ha : PE X a ta) : PE X (.UnaryOp .Not a pos) (tNotV ta) := by
  intro pins s σ H Q I h
  refine UnaryOp_ (thn (ha pins s σ H _ I h) fun v s1 ⟨x, H1, I1, r1, q1⟩ => ?_)
  obtain ⟨c, rfl, q1⟩ := q1
  cases r1
  exact not_of (wpAny_truthy_bool ⟨.bl (!c), H1, I1, rfl, q1⟩)
end
end L2
namespace L2
open PySem PySem.Spec PyProof.Rows
def SqL (K : PySem.W.Frag) (H : Hp) (a : Addr) (xs : List V) : Prop :=
  Rd H a (.lst xs) ∨
    ∃ (o : Obj) (its : Array Value) (n : Nat), K.lookup a = some o ∧ o.cls = .type "list" ∧ o.dict = none ∧ o.data = .seq its n ∧ its.size ≤ sizeLine ∧ Vals xs its.toList
def SqT (K : PySem.W.Frag) (H : Hp) (a : Addr) (xs : List V) : Prop :=
  Rd H a (.tup xs) ∨
    ∃ (o : Obj) (its : Array Value) (n : Nat), K.lookup a = some o ∧ o.cls = .type "tuple" ∧ o.data = .seq its n ∧ its.size ≤ sizeLine ∧ Vals xs its.toList
def absV : Value → Option V
  | .none => some .non
  | .bool b => some (.bl b)
  | .int i _ => some (.int i)
  | .str x _ => some (.str x)
  | .bytes b _ => some (.byt b)
  | .float b _ => some (.flt b)
  | .ref a => some (.ref a)
  | .type n => some (.ty n)
  | _ => none
theorem RelV.abs {x : V} {u : Value} (r : RelV x u) : absV u = some x := by
  cases x with
  | non => cases r; rfl
  | bl _ => cases r; rfl
  | int _ => obtain ⟨t, rfl⟩ := r; rfl
  | str _ => obtain ⟨t, rfl⟩ := r; rfl
  | byt _ => obtain ⟨t, rfl⟩ := r; rfl
  | flt _ => obtain ⟨t, rfl⟩ := r; rfl
  | ref _ => cases r; rfl
  | ty _ => cases r; rfl
theorem RelV.inj {x y : V} {u : Value} (r : RelV x u) (q : RelV y u) : x = y := Option.some.inj (r.abs.symm.trans q.abs)
theorem Vals.inj : ∀ {xs ys : List V} {us : List Value}, Vals xs us → Vals ys us → xs = ys
  | _, _, _, .nil, .nil => rfl
  | _, _, _, .cons r t, .cons r' t' => by rw [r.inj r', Vals.inj t t']
section
variable {X : Cx} {pins : List (Addr × Obj)} {σ : St} {H : Hp} {s : Shared} {a : Addr} {xs ys : List V}
theorem SqL.of {K : PySem.W.Frag} (h : H a = some (.lst xs)) : SqL K H a xs := .inl (.inl h)
theorem SqT.of {K : PySem.W.Frag} (h : H a = some (.tup xs)) : SqT K H a xs := .inl (.inl h)
theorem Inv.list (I : Inv X pins σ H s) (h : SqL X.K H a xs) : ∃ its : List Value, Vals xs its ∧ PlainL s.heap a its.toArray ∧ xs.length ≤ sizeLine := by
  rcases h with h | ⟨o, its, n, hk, hc, hd, hs, hz, r⟩
  · obtain ⟨z, its, n, r, e⟩ := h.ok I.hok
    exact ⟨its, r, ⟨_, n, e, rfl, rfl, rfl⟩, z⟩
  · refine ⟨its.toList, r, ⟨o, n, I.kIn a o hk, hc, hd, by simpa using hs⟩, ?_⟩
    have e := r.length
    simp only [Array.length_toList] at e
    omega
theorem Inv.tuple (I : Inv X pins σ H s) (h : SqT X.K H a xs) : ∃ its : List Value, Vals xs its ∧ IsTup s.heap a its.toArray ∧ xs.length ≤ sizeLine := by
  rcases h with h | ⟨o, its, n, hk, hc, hs, hz, r⟩
  · obtain ⟨z, its, r, p⟩ := h.ok I.hok
    exact ⟨its, r, p, z⟩
  · refine ⟨its.toList, r, ⟨o, I.kIn a o hk, hc, n, by simpa using hs⟩, ?_⟩
    have e := r.length
    simp only [Array.length_toList] at e
    omega
theorem Inv.list_inj (I : Inv X pins σ H s) (h : SqL X.K H a xs) (h' : SqL X.K H a ys) : xs = ys := by
  obtain ⟨its, r, ⟨o, n, e, _, _, d⟩, _⟩ := I.list h
  obtain ⟨its', r', ⟨o', n', e', _, _, d'⟩, _⟩ := I.list h'
  rw [e] at e'; cases e'
  rw [d] at d'
  injection d' with d1 _
  have : its = its' := by simpa using congrArg Array.toList d1
  subst this
  exact r.inj r'
end
abbrev Cx.wish (X : Cx) (E : Value → Shared → Prop) : Cx := { X with xe := E }
abbrev Cx.nox (X : Cx) : Cx := X.wish fun _ _ => False
theorem Cx.Ok.wish {X : Cx} (ok : X.Ok) (E : Value → Shared → Prop) : (X.wish E).Ok :=
  ⟨ok.mod, ok.kind, ok.glob, ok.blt, ok.above, ok.inj, ok.has, ok.cab, ok.hd, ok.frames, ok.stk, ok.exf, ok.bs, ok.bsz, ok.noex, ok.exfs, ok.funs, ok.frf⟩
theorem Cx.Ok.unwish {X : Cx} {E : Value → Shared → Prop} (ok : (X.wish E).Ok) : X.Ok :=
  ⟨ok.mod, ok.kind, ok.glob, ok.blt, ok.above, ok.inj, ok.has, ok.cab, ok.hd, ok.frames, ok.stk, ok.exf, ok.bs, ok.bsz, ok.noex, ok.exfs, ok.funs, ok.frf⟩
section
variable {X : Cx} {pins : List (Addr × Obj)} {σ : St} {H : Hp} {s : Shared} {E : Value → Shared → Prop}
theorem Inv.wish (I : Inv X pins σ H s) (E : Value → Shared → Prop) : Inv (X.wish E) pins σ H s := ⟨I.ok.wish E, I.os, I.bare, I.base, I.loc, I.cell, I.free, I.freeC, I.pin, I.hok, I.len⟩
theorem Inv.unwish (I : Inv (X.wish E) pins σ H s) : Inv X pins σ H s := ⟨I.ok.unwish, I.os, I.bare, I.base, I.loc, I.cell, I.free, I.freeC, I.pin, I.hok, I.len⟩
theorem SP.unwish {D : Ends} {f : Flow} {s' : Shared} (h : SP (X.wish E) pins D f s') : SP X pins D f s' := by
  cases f with
  | next => obtain ⟨σ', H', I, q⟩ := h; exact ⟨σ', H', I.unwish, q⟩
  | brk => obtain ⟨σ', H', I, q⟩ := h; exact ⟨σ', H', I.unwish, q⟩
  | cont => obtain ⟨σ', H', I, q⟩ := h; exact ⟨σ', H', I.unwish, q⟩
  | ret u => obtain ⟨v, σ', H', I, r, q⟩ := h; exact ⟨v, σ', H', I.unwish, r, q⟩
theorem PSs.nox {st : List Stmt} {t : TS} (h : PSs X.nox st t) : PSs X st t := fun pins s σ H D I hw =>
  wpAny_mono (h pins s σ H D (I.wish _) hw) (fun _ _ q => q.unwish) fun _ _ z => False.elim z
end
section
variable {X : Cx} {st : Stmt} {rest : List Stmt} {t u : TS} {e : Expr} {te : TE} {pos : Pos}
def tNext : TS := fun D σ H => D.nx σ H
def tSeq (t u : TS) : TS := fun D σ H => t { D with nx := u D } σ H
theorem pss_nil : PSs X [] tNext := fun _ _ σ H _ I h => wpAny_execs_nil ⟨σ, H, I, h⟩
theorem pss_cons (h1 : PS X st t) (h2 : PSs X rest u) : PSs X (st :: rest) (tSeq t u) := by
  intro pins s σ H D I h
  refine wpAny_execs_cons (thn (h1 pins s σ H { D with nx := u D } I h) fun f s1 q => ?_)
  cases f with
  | next =>
    obtain ⟨σ', H', I', q⟩ := q
    exact h2 pins s1 σ' H' D I' q
  | ret v => exact q
  | brk => exact q
  | cont => exact q
theorem pss_one (h1 : PS X st t) : PSs X [st] t := by
  intro pins s σ H D I h
  refine wpAny_execs_cons (thn (h1 pins s σ H D I h) fun f s1 q => ?_)
  cases f with
  | next => exact wpAny_execs_nil q
  | ret v => exact q
  | brk => exact q
  | cont => exact q
theorem Inv.quiet {pins : List (Addr × Obj)} {σ : St} {H : Hp} {s : Shared} (I : Inv X pins σ H s) : interactive X.env = false := by simp [interactive, I.ok.kind]
def tDrop (te : TE) : TS := fun D σ H => te σ H fun _ H1 => D.nx σ H1
theorem ps_expr (he : PE X e te) (hs : swapsWith e none pos.line X.env = pure false := by rfl) : PS X (.Expr e pos) (tDrop te) := by
  intro pins s σ H D I h
  exact wpAny_Expr_any (thn (he pins s σ H _ I h) fun v s1 ⟨x, H1, I1, r1, q1⟩ => ⟨σ, H1, I1, q1⟩) I.quiet hs
def tRet (te : TE) : TS := fun D σ H => te σ H D.rt
theorem ps_ret (he : PE X e te) : PS X (.Return (some e) pos) (tRet te) := by
  intro pins s σ H D I h
  exact wpAny_Return_some (thn (he pins s σ H _ I h) fun v s1 ⟨x, H1, I1, r1, q1⟩ => ⟨x, σ, H1, I1, r1, q1⟩)
def tIfS (c : TT) (t u : TS) : TS := fun D σ H => c σ H fun b H1 => if b = true then t D σ H1 else u D σ H1
theorem ps_if {c : Expr} {a b : List Stmt} {tc : TT} (hc : PT X c tc) (ha : PSs X a t) (hb : PSs X b u) : PS X (.If c a b pos) (tIfS tc t u) := by
  intro pins s σ H D I h
  refine wpAny_If (thn (hc pins s σ H _ I h) fun d s1 ⟨H1, I1, q1⟩ => ?_)
  cases d with
  | true => exact ha pins s1 σ H1 D I1 q1
  | false => exact hb pins s1 σ H1 D I1 q1
end
abbrev TG := V → St → Hp → (St → Hp → Prop) → Prop
abbrev TGs := List V → St → Hp → (St → Hp → Prop) → Prop
def PG (X : Cx) (target : Expr) (t : TG) : Prop :=
  ∀ (pins : List (Addr × Obj)) (s : Shared) (σ : St) (H : Hp) (v : V) (u : Value) (Q : St → Hp → Prop), Inv X pins σ H s → RelV v u → t v σ H Q →
    wpAny (model X.prog X.w) X.A (assign target X.env u) (fun _ s' => ∃ σ' H', Inv X pins σ' H' s' ∧ Q σ' H') X.xe s
def PGs (X : Cx) (ts : List Expr) (t : TGs) : Prop :=
  ∀ (pins : List (Addr × Obj)) (s : Shared) (σ : St) (H : Hp) (vs : List V) (us : List Value) (Q : St → Hp → Prop), Inv X pins σ H s → Vals vs us → t vs σ H Q →
    wpAny (model X.prog X.w) X.A (assignInOrder ((assignEach ts X.env).map (·.2)) us) (fun _ s' => ∃ σ' H', Inv X pins σ' H' s' ∧ Q σ' H') X.xe s
section
variable {X : Cx} {pos : Pos}
def gName (i : Nat) : TG := fun v σ H Q => Q (σ.set i (some v)) H
theorem pg_name {i : Nat} {x : Str} (hN : X.N.Nodup) (hi : X.N[i]? = some x) (hx : Loc X.env.scope x) (hf : X.fn x = true ∨ X.env.scope.names.lookup x = some .local := by first | exact .inl rfl | exact .inr rfl | assumption) : PG X (.Name x pos) (gName i) := by
  intro pins s σ H v u Q I r h
  exact wpAny_assign_Name (store_ok I hN hi hx r (fun s' I' => ⟨_, H, I', h⟩) hf)
def gNil : TGs := fun vs σ H Q => vs = [] ∧ Q σ H
def gCons (t : TG) (u : TGs) : TGs := fun vs σ H Q => ∃ v r, vs = v :: r ∧ t v σ H fun σ' H' => u r σ' H' Q
theorem pgs_nil : PGs X [] gNil := by
  intro pins s σ H vs us Q I r h
  obtain ⟨e, h⟩ := h
  subst e
  cases r
  exact assignInOrder_nil ⟨σ, H, I, h⟩
theorem pgs_cons {e : Expr} {es : List Expr} {t : TG} {u : TGs} (h1 : PG X e t) (h2 : PGs X es u)
    (hs : (assignEach (e :: es) X.env).map (·.2) = assign e X.env :: (assignEach es X.env).map (·.2) := by rfl) : PGs X (e :: es) (gCons t u) := by
  intro pins s σ H vs us Q I r h
  obtain ⟨v, vr, e1, h⟩ := h
  subst e1
  cases r with
  | cons r rr =>
    rw [hs]
    refine assignInOrder_cons (thn (h1 pins s σ H _ _ _ I r h) fun _ s1 ⟨σ1, H1, I1, q1⟩ => ?_)
    exact h2 pins s1 σ1 H1 _ _ Q I1 rr q1
def gTup (K : PySem.W.Frag) (n : Nat) (t : TGs) : TG := fun v σ H Q => ∃ a xs, v = .ref a ∧ SqT K H a xs ∧ xs.length = n ∧ t xs σ H Q
theorem pg_tup {es : List Expr} {k : Nat} {t : TGs} {n : Nat} (hc : X.calm = true) (h : PGs X es t)
    (hn : (assignEach es X.env).length = n := by rfl) (hst : (assignEach es X.env).findIdx? (·.1) = none := by rfl) : PG X (.Tuple es k pos) (gTup X.K n t) := by
  intro pins s σ H v u Q I r hw
  obtain ⟨a, xs, e1, hq, hl, hw⟩ := hw
  subst e1
  cases r
  obtain ⟨its, rv, ht, hz⟩ := I.tuple hq
  refine assign_Tuple_tuple (I.ok.hd hc) ht (by simp [hn, ← hl, rv.length]) hst fun h' hx => ?_
  have I1 : Inv X pins σ H { s with heap := h' } := I.kept (t' := s.toks) fun b o e => hx b o (Nat.ne_of_lt (Heap.lt_size e)) e
  exact h pins _ σ H xs _ Q I1 (by simpa using rv) hw
def tAsg (te : TE) (g : TG) : TS := fun D σ H => te σ H fun x H1 => g x σ H1 D.nx
theorem ps_asg {tg e : Expr} {te : TE} {g : TG} (he : PE X e te) (hg : PG X tg g) (hs : swapsWithSole [tg] e pos.line X.env = pure false := by rfl) (hw : swappedStores [tg] e X.env = pure none := by rfl)
    (h1 : (assignEach [tg] X.env).map (·.2) = [assign tg X.env] := by rfl) : PS X (.Assign [tg] e pos) (tAsg te g) := by
  intro pins s σ H D I h
  refine wpAny_Assign_stores (thn (he pins s σ H _ I h) fun v s1 ⟨x, H1, I1, r1, q1⟩ => ?_) hs hw
  rw [h1]
  exact thn (hg pins s1 σ H1 x v _ I1 r1 q1) fun _ s2 q => q
theorem ps_set {i : Nat} {x : Str} {e : Expr} {te : TE} {pos' : Pos} (hN : X.N.Nodup) (hi : X.N[i]? = some x) (hx : Loc X.env.scope x) (he : PE X e te) (hs : swapsWith e (some (.Name x pos')) pos.line X.env = pure false := by rfl) (hf : X.fn x = true ∨ X.env.scope.names.lookup x = some .local := by first | exact .inl rfl | exact .inr rfl | assumption) :
    PS X (.Assign [.Name x pos'] e pos) (tAsg te (gName i)) := by
  intro pins s σ H D I h
  refine wpAny_Assign_Name (thn (he pins s σ H _ I h) fun v s1 ⟨y, H1, I1, r1, q1⟩ => ?_) hs
  exact store_ok I1 hN hi hx r1 (fun s2 I2 => ⟨_, H1, I2, q1⟩) hf
end
section
variable {X : Cx} {pos : Pos}
end
structure It where
  go : Nat → Hp → Prop
  yld : Nat → Hp → V → Hp → Prop
  stop : Nat → Hp → Prop
def FpOk (X : Cx) (pins : List (Addr × Obj)) (H : Hp) (b : Addr) : Prop :=
  H b = none ∧ b ≠ X.env.locals ∧ b ∉ X.fs ∧ (b ∈ X.ex ∨ X.s₀.heap.objs.size ≤ b) ∧ (∀ x c, X.env.cells.lookup x = some c → c ≠ b) ∧ ∀ p ∈ X.pn ++ pins, p.1 ≠ b
theorem Inv.fpOk {X : Cx} {pins : List (Addr × Obj)} {σ : St} {H H' : Hp} {s : Shared} {b : Addr} (I : Inv X pins σ H s) (hb : s.heap.objs.size ≤ b) (hn : H' b = none) : FpOk X pins H' b := by
  refine ⟨hn, Nat.ne_of_gt (Nat.lt_of_lt_of_le I.lt hb), I.nofs hb, .inr (Nat.le_trans I.sz hb), fun x c e z => ?_, fun p hp z => ?_⟩
  · obtain ⟨v, q⟩ := I.cell x c e
    exact absurd (Nat.lt_of_lt_of_le q.lt (by rw [z]; exact hb)) (Nat.lt_irrefl _)
  · exact absurd (Nat.lt_of_lt_of_le (Heap.lt_size (I.pin p hp).1) (by rw [z]; exact hb)) (Nat.lt_irrefl _)
structure Turn (P : Program) (w : World) (K : PySem.W.Frag) (tg : Expr) (J : It) (fp : List Addr) (it : Addr) (tn : Nat → Heap → Prop) : Prop where
  mem : it ∈ fp
  obj : ∀ i h, tn i h → ∀ b ∈ fp, ∃ o, h.get? b = some o ∧ ∀ v, o.data ≠ .cell v
  keep : ∀ i h h', tn i h → (∀ b ∈ fp, ∀ o, h.get? b = some o → h'.get? b = some o) → tn i h'
  item : ∀ (X : Cx), X.prog = P → X.w = w → X.K = K → X.calm = true → ∀ (i : Nat) (pins : List (Addr × Obj)) (s : Shared) (σ : St) (H : Hp) (E : Value → Shared → Prop), Inv X pins σ H s → (∀ b ∈ fp, FpOk X pins H b) → tn i s.heap → J.go i H →
    wpAny (model P w) X.A (pyNext (.ref it)) (fun r s1 => ∃ u, r = some u ∧
      wpAny (model P w) X.A (letOwnedTupleGo tg (.ref it) u) (fun _ s2 => ∃ x H', Inv X pins σ H' s2 ∧ RelV x u ∧ J.yld i H x H' ∧ tn (i + 1) s2.heap ∧ ∀ b ∈ fp, H' b = none) E s1) E s
  done : ∀ (X : Cx), X.prog = P → X.w = w → X.K = K → X.calm = true → ∀ (i : Nat) (pins : List (Addr × Obj)) (s : Shared) (σ : St) (H : Hp) (E : Value → Shared → Prop), Inv X pins σ H s → (∀ b ∈ fp, FpOk X pins H b) → tn i s.heap → J.stop i H →
    wpAny (model P w) X.A (pyNext (.ref it)) (fun r s1 => r = none ∧ Inv X pins σ H s1) E s
  self : ∀ (A : Around) (i : Nat) (s : Shared) (Q : Value → Shared → Prop) (E : Value → Shared → Prop), tn i s.heap → Q (.ref it) s → wpAny (model P w) A (pyIter (.ref it)) Q E s
abbrev TI := St → Hp → (It → Hp → Prop) → Prop
def PIE (X : Cx) (pins : List (Addr × Obj)) (σ : St) (tg : Expr) (R : It → Hp → Prop) (itv : Value) (s2 : Shared) : Prop :=
  ∃ (it : Addr) (fp : List Addr) (tn : Nat → Heap → Prop) (J : It) (H' : Hp), itv = .ref it ∧ Inv X pins σ H' s2 ∧ Turn X.prog X.w X.K tg J fp it tn ∧ tn 0 s2.heap ∧ (∀ b ∈ fp, FpOk X pins H' b) ∧ R J H'
def PI (X : Cx) (tg iter : Expr) (wi : TI) : Prop :=
  ∀ (pins : List (Addr × Obj)) (s : Shared) (σ : St) (H : Hp) (R : It → Hp → Prop), Inv X pins σ H s → wi σ H R →
    wpAny (model X.prog X.w) X.A (eval iter X.env) (fun v s1 => wpAny (model X.prog X.w) X.A (pyIter v) (PIE X pins σ tg R) X.xe s1) X.xe s
theorem go_of {M : Model} {A : Around} {E : Value → Shared → Prop} {s : Shared} {tg : Expr} {it : Addr} {u : Value} {o : Obj} {n : String} {vs : Array Value} {Q : Unit → Shared → Prop} (ho : s.heap.get? it = some o) (hc : o.cls = .type n) (hd : o.data = .fields vs)
    (hn : ["enumerate", "zip", "dict_itemiterator", "dict_reverseitemiterator", "odict_iterator", "itertools.zip_longest", "itertools.pairwise"].contains n = false) (hQ : Q () s) : wpAny M A (letOwnedTupleGo tg (.ref it) u) Q E s := by
  unfold letOwnedTupleGo
  cases tg <;> first
    | exact wpAny_pure hQ
    | (cases u <;> first
        | exact wpAny_pure hQ
        | (refine wpAny_bind (wpAny_load ho ?_)
           rw [hc, hd]
           show wpAny M A (if (["enumerate", "zip", "dict_itemiterator", "dict_reverseitemiterator", "odict_iterator", "itertools.zip_longest", "itertools.pairwise"].contains n && vs[0]? == some (rawInt _)) = true then _ else _) Q E s
           rw [if_neg (by intro h; rw [hn, Bool.false_and] at h; cases h)]
           exact wpAny_pure hQ))
def Itl (K : PySem.W.Frag) (a : Addr) : It :=
  ⟨fun i H => ∃ xs x, SqL K H a xs ∧ xs[i]? = some x, fun i H x H' => H' = H ∧ ∀ xs, SqL K H a xs → xs[i]? = some x, fun i H => ∃ xs, SqL K H a xs ∧ xs.length ≤ i⟩
def Itr (lo : Int) (n : Nat) : It := ⟨fun i _ => i < n, fun i H x H' => H' = H ∧ x = .int (lo + i), fun i _ => n ≤ i⟩
theorem turn_list {P : Program} {w : World} {K : PySem.W.Frag} {tg : Expr} (a it : Addr) : Turn P w K tg (Itl K a) [it] it (fun i h => h.IsListIter it a i) where
  mem := by simp
  obj := fun i h st b hb => by
    have e : b = it := by simpa using hb
    subst e
    obtain ⟨o, e, c, d⟩ := st
    exact ⟨o, e, fun v z => by rw [d] at z; cases z⟩
  keep := fun i h h' st k => st.at fun o e => k it (by simp) o e
  item := by
    intro X hP hw hK hc i pins s σ H E I hf st hg
    subst hP hw hK
    obtain ⟨xs, x, hq, hx⟩ := hg
    obtain ⟨its, rv, p, hz⟩ := I.list hq
    obtain ⟨u, hu, ru⟩ := rv.get hx
    obtain ⟨f0, f1, f2, f3, f4, f5⟩ := hf it (by simp)
    refine wpAny_pyNext_list_item st p.isList (x := u) (by simpa using hu) fun h' st' sb => ?_
    have I1 : Inv X pins σ H { s with heap := h' } := I.turned (t' := s.toks) (fun b o hb e => (sb.2 b hb).trans e) f0 f1 f3 f4 f5
    obtain ⟨o, e, c, d⟩ := id st'
    exact ⟨u, rfl, go_of (s := { s with heap := h' }) e c d (by decide) ⟨x, H, I1, ru, ⟨rfl, fun ys hy => by rw [I.list_inj hy hq]; exact hx⟩, st', fun b hb => (hf b hb).1⟩⟩
  done := by
    intro X hP hw hK hc i pins s σ H E I hf st hg
    subst hP hw hK
    obtain ⟨xs, hq, hx⟩ := hg
    obtain ⟨its, rv, p, hz⟩ := I.list hq
    obtain ⟨f0, f1, f2, f3, f4, f5⟩ := hf it (by simp)
    have hl := rv.length
    exact wpAny_pyNext_list_end (I.ok.hd hc) st p.isList (by simp; omega) fun h' eb => ⟨rfl, I.turned (t' := s.toks) (fun b o hb e => eb b o hb e) f0 f1 f3 f4 f5⟩
  self := fun _ _ _ _ _ st h => wpAny_pyIter_listiter st h
theorem turn_range {P : Program} {w : World} {K : PySem.W.Frag} {tg : Expr} (it : Addr) (lo : Int) (n : Nat) : Turn P w K tg (Itr lo n) [it] it (fun i h => IsRangeIter h it (lo + (i : Nat) * 1) ((n : Int) - (i : Nat)) 1) where
  mem := by simp
  obj := fun i h st b hb => by
    have e : b = it := by simpa using hb
    subst e
    exact ⟨_, st, fun v z => by
      have z' : Data.fields _ = Data.cell v := z
      cases z'⟩
  keep := fun i h h' st k => k it (by simp) _ st
  item := by
    intro X hP hw hK hc i pins s σ H E I hf st hg
    subst hP hw hK
    obtain ⟨f0, f1, f2, f3, f4, f5⟩ := hf it (by simp)
    have W := Walks.range (prog := X.prog) (w := X.w) (I.ok.hd hc) it lo 1 n
    refine W.item i s _ _ hg st fun v h' tk hv st' kk => ?_
    obtain ⟨t, rfl⟩ := hv
    have I1 : Inv X pins σ H { s with heap := h', toks := tk } := I.turned (fun b o hb e => kk b o (by simpa using hb) e) f0 f1 f3 f4 f5
    refine ⟨_, rfl, go_of (s := { s with heap := h', toks := tk }) (n := "range_iterator") st' rfl rfl (by decide) ⟨.int (lo + i), H, I1, ⟨t, ?_⟩, ⟨rfl, rfl⟩, st', fun b hb => (hf b hb).1⟩⟩
    rw [Int.mul_one]
  done := by
    intro X hP hw hK hc i pins s σ H E I hf st hg
    subst hP hw hK
    obtain ⟨f0, f1, f2, f3, f4, f5⟩ := hf it (by simp)
    exact wpAny_pyNext_range_end (I.ok.hd hc) st (by have : n ≤ i := hg; omega) fun h' eb => ⟨rfl, I.turned (t' := s.toks) (fun b o hb e => eb b o hb e) f0 f1 f3 f4 f5⟩
  self := fun _ _ _ _ _ st h => wpAny_pyIter_rangeiter st h
end L2
namespace L2
open PySem PySem.Spec PyProof.Rows
section
variable {X : Cx} {tg : Expr}
def iList (K : PySem.W.Frag) (tl : TE) : TI := fun σ H R => tl σ H fun x H1 => ∃ a, x = .ref a ∧ (∃ xs, SqL K H1 a xs) ∧ R (Itl K a) H1
theorem pi_list {l : Expr} {tl : TE} (hl : PE X l tl) : PI X tg l (iList X.K tl) := by
  intro pins s σ H R I h
  refine thn (hl pins s σ H _ I h) fun v s1 ⟨x, H1, I1, r1, q1⟩ => ?_
  obtain ⟨a, e, ⟨xs, hq⟩, q⟩ := q1
  subst e
  cases r1
  obtain ⟨its, rv, p, hz⟩ := I1.list hq
  refine wpAny_pyIter_list p.isList ?_
  refine ⟨s1.heap.objs.size, [s1.heap.objs.size], _, _, H1, rfl, I1.kept (t' := s1.toks) fun b o e => Heap.get?_push_of_some _ e, turn_list a _, ⟨_, Heap.get?_push_size _ rfl, rfl, rfl⟩, fun b hb => ?_, q⟩
  have e : b = s1.heap.objs.size := by simpa using hb
  subst e
  exact I1.fpOk (Nat.le_refl _) (I1.hok.fresh (Nat.le_refl _))
theorem range_it {pins : List (Addr × Obj)} {σ : St} {H : Hp} {s : Shared} {R : It → Hp → Prop} {E : Value → Shared → Prop} {lo hi : Int} {t u v : Tok} {tk : Nat} (I : Inv X pins σ H s) (h1 : -(2 ^ 62) ≤ lo) (h2 : lo < 2 ^ 62) (h3 : -(2 ^ 62) ≤ hi) (h4 : hi < 2 ^ 62)
    (q : R (Itr lo (hi - lo).toNat) H) : wpAny (model X.prog X.w) X.A (pyIter (.ref s.heap.objs.size)) (PIE X pins σ tg R) E { s with heap := s.heap.push { cls := .type "range", data := .fields #[.int lo t, .int hi u, .int 1 v] }, toks := tk } := by
  refine wpAny_pyIter_range (IsRange.new ..) (small_one h1 h2 h3 h4) ?_
  have I1 : Inv X pins σ H { s with heap := s.heap.push { cls := .type "range", data := .fields #[.int lo t, .int hi u, .int 1 v] }, toks := tk } := I.kept fun b o e => Heap.get?_push_of_some _ e
  refine ⟨(s.heap.push { cls := .type "range", data := .fields #[.int lo t, .int hi u, .int 1 v] }).objs.size, [(s.heap.push { cls := .type "range", data := .fields #[.int lo t, .int hi u, .int 1 v] }).objs.size], _, _, H, rfl,
    I1.kept (t' := tk) fun b o e => Heap.get?_push_of_some _ e, turn_range _ lo (hi - lo).toNat, ?_, fun b hb => ?_, q⟩
  · have e1 : lo + ((0 : Nat) : Int) * 1 = lo := by simp
    have e2 : (((hi - lo).toNat : Nat) : Int) - ((0 : Nat) : Int) = Builtin.Range.rangeSize lo hi 1 := by rw [rangeSize_one]; split <;> omega
    show IsRangeIter _ _ (lo + ((0 : Nat) : Int) * 1) ((((hi - lo).toNat : Nat) : Int) - ((0 : Nat) : Int)) 1
    rw [e1, e2]
    exact Heap.get?_push_size _ rfl
  · have e : b = (s.heap.push { cls := .type "range", data := .fields #[.int lo t, .int hi u, .int 1 v] }).objs.size := by simpa using hb
    subst e
    exact I1.fpOk (Nat.le_refl _) (I1.hok.fresh (Nat.le_refl _))
def iRng1 (ta : TA) : TI := fun σ H R => ta σ H fun vs H1 => ∃ j : Int, vs = [.int j] ∧ -(2 ^ 62) ≤ j ∧ j < 2 ^ 62 ∧ R (Itr 0 j.toNat) H1
theorem pi_range1 {a : Expr} {ta : TA} {p pos : Pos} (hg : Gl X "range") (hm : X.mg "range" = none) (ha : PA X [a] ta) (hs : starEach [a] X.env = [(false, eval a X.env)] := by rfl) : PI X tg (.Call (.Name "range" p) [a] [] pos) (iRng1 ta) := by
  intro pins s σ H R I h
  refine Call_ (ld_blt I hg hm boot_range (PyProof.Rows.callWith_type1 (thn (ha pos pins s σ H _ I h) fun us s1 ⟨vs, H1, I1, r1, q1⟩ => ?_) hs rfl))
  obtain ⟨j, e, q1, q2, q⟩ := q1
  subst e
  cases r1 with
  | cons r rr =>
    cases rr
    obtain ⟨t, rfl⟩ := r
    exact call_range_1 (range_it I1 (by omega) (by omega) q1 q2 (by simpa using q))
def tFor (wi : TI) (g : TG) (tb : TS) : TS := fun D σ H => wi σ H fun J H1 => ∃ W : Nat → Nat → St → Hp → Prop, (∃ m, W 0 m σ H1) ∧ ∀ i m σ H, W i m σ H →
  (J.stop i H ∧ D.nx σ H) ∨ (J.go i H ∧ ∃ N : St → Hp → Prop, (∀ σ' H', N σ' H' → ∃ m', m' < m ∧ W (i + 1) m' σ' H') ∧ ∀ x H', J.yld i H x H' → g x σ H' fun σ2 H2 => tb { D with nx := N, ct := N, bk := D.nx } σ2 H2)
def pinsAt (fp : List Addr) (h : Heap) : List (Addr × Obj) := fp.filterMap fun b => (h.get? b).map fun o => (b, o)
theorem mem_pinsAt {fp : List Addr} {h : Heap} {b : Addr} {o : Obj} (hb : b ∈ fp) (e : h.get? b = some o) : (b, o) ∈ pinsAt fp h := List.mem_filterMap.mpr ⟨b, hb, by rw [e]; rfl⟩
theorem of_pinsAt {fp : List Addr} {h : Heap} {p : Addr × Obj} (hp : p ∈ pinsAt fp h) : p.1 ∈ fp ∧ h.get? p.1 = some p.2 := by
  obtain ⟨b, hb, e⟩ := List.mem_filterMap.mp hp
  cases q : h.get? b with
  | none => rw [q] at e; cases e
  | some o =>
    rw [q] at e
    have e' : (b, o) = p := Option.some.inj e
    subst e'
    exact ⟨hb, q⟩
theorem Inv.pinned {pins : List (Addr × Obj)} {σ : St} {H : Hp} {s : Shared} {fp : List Addr} (I : Inv X pins σ H s) (hf : ∀ b ∈ fp, FpOk X pins H b) (ho : ∀ b ∈ fp, ∃ o, s.heap.get? b = some o ∧ ∀ v, o.data ≠ .cell v) : Inv X (pins ++ pinsAt fp s.heap) σ H s :=
  I.pins_of fun p hp => (List.mem_append.mp hp).elim (fun z => I.pin p (List.mem_append_right _ z)) fun z => by
    obtain ⟨hb, e⟩ := of_pinsAt z
    obtain ⟨f0, f1, f2, _⟩ := hf p.1 hb
    obtain ⟨o, e', d⟩ := ho p.1 hb
    rw [e] at e'; cases e'
    exact ⟨e, f0, f1, f2, d⟩
theorem Inv.unpinned {pins pl : List (Addr × Obj)} {σ : St} {H : Hp} {s : Shared} (I : Inv X (pins ++ pl) σ H s) : Inv X pins σ H s := I.pins_of fun p hp => I.pin p (List.mem_append_right _ (List.mem_append_left _ hp))
theorem ps_for {iter : Expr} {body : List Stmt} {wi : TI} {g : TG} {tb : TS} {pos : Pos} (hp : PassesOwn (model X.prog X.w) X.A X.env X.xe) (hc : X.calm = true) (hi : PI X tg iter wi) (hg : PG X tg g) (hb : PSs X body tb)
    (hs : ∀ x, foldedSetIterable iter X.env x = pure x := by intro _; rfl) : PS X (.For tg iter body [] pos) (tFor wi g tb) := by
  intro pins s σ H D I h
  refine wpAny_For (thn (hi pins s σ H _ I h) fun v s1 h1 => thn h1 fun itv s2 h2 => ?_) hs
  obtain ⟨it, fp, tn, J, H2, e, I2, T, st2, f2, W, ⟨m0, w0⟩, turn⟩ := h2
  subst e
  -- what stays true of the iterator's objects through the loop
  have stat : ∀ {H' : Hp}, (∀ b ∈ fp, H' b = none) → ∀ b ∈ fp, FpOk X pins H' b := fun hn b hb => ⟨hn b hb, (f2 b hb).2⟩
  refine codeAny_forLoop_any (fun n s' => ∃ i σ' H', Inv X pins σ' H' s' ∧ tn i s'.heap ∧ (∀ b ∈ fp, H' b = none) ∧ W i n σ' H') ?_ m0 ⟨0, σ, H2, I2, st2, fun b hb => (f2 b hb).1, w0⟩
  rintro n s3 ⟨i, σ3, H3, I3, st3, fr3, w3⟩
  rcases turn i n σ3 H3 w3 with ⟨stop, qn⟩ | ⟨go, N, hN, step⟩
  · refine wpAny_passesOwn hp (thn (T.done X rfl rfl rfl hc i pins s3 σ3 H3 X.xe I3 (stat fr3) st3 stop) fun r s4 ⟨hr, I4⟩ => ?_)
    subst hr
    exact wpAny_execs_nil ⟨σ3, H3, I4, qn⟩
  · refine wpAny_passesOwn hp (thn (T.item X rfl rfl rfl hc i pins s3 σ3 H3 X.xe I3 (stat fr3) st3 go) fun r s4 ⟨u, hr, h4⟩ => ?_)
    subst hr
    refine wpAny_passesOwn hp (thn h4 fun _ s5 ⟨x, H5, I5, r5, y5, st5, fr5⟩ => ?_)
    have I5' := I5.pinned (stat fr5) (T.obj _ _ st5)
    refine wpAny_passesOwn hp (thn (hg _ s5 σ3 H5 x u _ I5' r5 (step x H5 y5)) fun _ s6 ⟨σ6, H6, I6, q6⟩ => ?_)
    refine wpAny_passesOwn hp (thn (hb _ s6 σ6 H6 _ I6 q6) fun f s7 q7 => ?_)
    have again : ∀ {σ7 : St} {H7 : Hp}, Inv X (pins ++ pinsAt fp s5.heap) σ7 H7 s7 → N σ7 H7 → ∃ m, m < n ∧ ∃ i σ' H', Inv X pins σ' H' s7 ∧ tn i s7.heap ∧ (∀ b ∈ fp, H' b = none) ∧ W i m σ' H' := fun {σ7 H7} I7 n7 => by
      obtain ⟨m', hm, w7⟩ := hN σ7 H7 n7
      refine ⟨m', hm, i + 1, σ7, H7, I7.unpinned, T.keep _ _ _ st5 fun b hb o e => (I7.pin (b, o) (List.mem_append_right _ (List.mem_append_right _ (mem_pinsAt hb e)))).1, fun b hb => ?_, w7⟩
      obtain ⟨o, e, d⟩ := T.obj _ _ st5 b hb
      exact (I7.pin (b, o) (List.mem_append_right _ (List.mem_append_right _ (mem_pinsAt hb e)))).2.1
    cases f with
    | next => obtain ⟨σ7, H7, I7, n7⟩ := q7; exact again I7 n7
    | cont => obtain ⟨σ7, H7, I7, n7⟩ := q7; exact again I7 n7
    | brk => obtain ⟨σ7, H7, I7, q7⟩ := q7; exact ⟨σ7, H7, I7.unpinned, q7⟩
    | ret v => obtain ⟨x7, σ7, H7, I7, r7, q7⟩ := q7; exact ⟨x7, σ7, H7, I7.unpinned, r7, q7⟩
end
theorem for_range {lo : Int} {n : Nat} {g : TG} {tb : TS} {D : Ends} {σ : St} {H : Hp} (Pv : Nat → St → Hp → Prop) (h0 : Pv 0 σ H)
    (hs : ∀ i σ H, i < n → Pv i σ H → g (.int (lo + i)) σ H fun σ2 H2 => tb { D with nx := Pv (i + 1), ct := Pv (i + 1), bk := D.nx } σ2 H2) (hd : ∀ σ H, Pv n σ H → D.nx σ H) :
    ∃ W : Nat → Nat → St → Hp → Prop, (∃ m, W 0 m σ H) ∧ ∀ i m σ H, W i m σ H →
      ((Itr lo n).stop i H ∧ D.nx σ H) ∨ ((Itr lo n).go i H ∧ ∃ N : St → Hp → Prop, (∀ σ' H', N σ' H' → ∃ m', m' < m ∧ W (i + 1) m' σ' H') ∧ ∀ x H', (Itr lo n).yld i H x H' → g x σ H' fun σ2 H2 => tb { D with nx := N, ct := N, bk := D.nx } σ2 H2) := by
  refine ⟨fun i m σ H => m = n - i ∧ i ≤ n ∧ Pv i σ H, ⟨n, by simp, Nat.zero_le _, h0⟩, ?_⟩
  rintro i m σ H ⟨rfl, hi, p⟩
  by_cases hlt : i < n
  · refine .inr ⟨hlt, Pv (i + 1), fun σ' H' p' => ⟨n - (i + 1), by omega, rfl, hlt, p'⟩, fun x H' y => ?_⟩
    obtain ⟨e, y⟩ := y
    subst e y
    exact hs i σ _ hlt p
  · have e : i = n := by omega
    subst e
    exact .inl ⟨Nat.le_refl _, hd σ H p⟩
end L2
namespace L2
open PySem PySem.Spec PyProof.Rows
abbrev R2 := V → V → Hp → VK → Prop
def OpR (X : Cx) (f : Value → Value → Sem Value) (r : R2) : Prop :=
  ∀ (pins : List (Addr × Obj)) (s : Shared) (σ : St) (H : Hp) (x y : V) (v u : Value) (Q : VK), Inv X pins σ H s → RelV x v → RelV y u → r x y H Q →
    wpAny (model X.prog X.w) X.A (f v u) (EP X pins σ Q) X.xe s
def UnR (X : Cx) (f : Value → Sem Value) (r : V → Hp → VK → Prop) : Prop :=
  ∀ (pins : List (Addr × Obj)) (s : Shared) (σ : St) (H : Hp) (x : V) (v : Value) (Q : VK), Inv X pins σ H s → RelV x v → r x H Q →
    wpAny (model X.prog X.w) X.A (f v) (EP X pins σ Q) X.xe s
def CallR (X : Cx) (f : Value) (r : List V → Hp → VK → Prop) : Prop :=
  ∀ (pins : List (Addr × Obj)) (s : Shared) (σ : St) (H : Hp) (xs : List V) (us : List Value) (Q : VK), Inv X pins σ H s → Vals xs us → r xs H Q →
    wpAny (model X.prog X.w) X.A (call f us) (EP X pins σ Q) X.xe s
def tOp (r : R2) (ta tb : TE) : TE := fun σ H Q => ta σ H fun x H1 => tb σ H1 fun y H2 => r x y H2 Q
def tUn (r : V → Hp → VK → Prop) (ta : TE) : TE := fun σ H Q => ta σ H fun x H1 => r x H1 Q
def rI (C : Int → Int → Prop) (g : Int → Int → V) : R2 := fun x y H Q => ∃ i j, x = .int i ∧ y = .int j ∧ C i j ∧ Q (g i j) H
def rI0 (g : Int → Int → V) : R2 := fun x y H Q => ∃ i j, x = .int i ∧ y = .int j ∧ Q (g i j) H
def rU (g : Int → V) : V → Hp → VK → Prop := fun x H Q => ∃ i, x = .int i ∧ Q (g i) H
section
variable {X : Cx} {a b c : Expr} {ta tb tc : TE} {pos : Pos}
theorem binT (ha : PE X a ta) (hb : PE X b tb) {pins : List (Addr × Obj)} {s : Shared} {σ : St} {H : Hp} {R : V → V → Hp → Prop} (I : Inv X pins σ H s)
    (h : ta σ H fun x H1 => tb σ H1 fun y H2 => R x y H2) {Q : Value → Shared → Prop} {f : Value → Value → Sem Value}
    (hf : ∀ v u s2 x y H2, Inv X pins σ H2 s2 → RelV x v → RelV y u → R x y H2 → wpAny (model X.prog X.w) X.A (f v u) Q X.xe s2) :
    wpAny (model X.prog X.w) X.A (eval a X.env) (fun v s₁ => wpAny (model X.prog X.w) X.A (eval b X.env) (fun u s₂ => wpAny (model X.prog X.w) X.A (f v u) Q X.xe s₂) X.xe s₁) X.xe s := by
  refine thn (ha pins s σ H _ I h) fun v s1 ⟨x, H1, I1, r1, q1⟩ => ?_
  refine thn (hb pins s1 σ H1 _ I1 q1) fun u s2 ⟨y, H2, I2, r2, q2⟩ => ?_
  exact hf v u s2 x y H2 I2 r1 r2 q2
theorem pe_op {op : Operator} {r : R2} (ho : OpR X (binaryOp op) r) (ha : PE X a ta) (hb : PE X b tb) : PE X (.BinOp a op b pos) (tOp r ta tb) := by
  intro pins s σ H Q I h
  exact wpAny_BinOp (binT ha hb I h fun v u s2 x y H2 I2 rx ry q => ho pins s2 σ H2 x y v u Q I2 rx ry q)
theorem pe_un {op : UnaryOp} {r : V → Hp → VK → Prop} (ho : UnR X (unaryOp op) r) (ha : PE X a ta) : PE X (.UnaryOp op a pos) (tUn r ta) := by
  intro pins s σ H Q I h
  exact UnaryOp_ (thn (ha pins s σ H _ I h) fun v s1 ⟨x, H1, I1, r1, q1⟩ => ho pins s1 σ H1 x v Q I1 r1 q1)
theorem opI {f : Value → Value → Sem Value} {C : Int → Int → Prop} {g : Int → Int → Int}
    (rule : ∀ (i j : Int) (t u : Tok) (s : Shared) (Q : Value → Shared → Prop) (E : Value → Shared → Prop), C i j → Q (.int (g i j) s.toks) { s with toks := s.toks + 1 } → wpAny (model X.prog X.w) X.A (f (.int i t) (.int j u)) Q E s) :
    OpR X f (rI C fun i j => .int (g i j)) := by
  intro pins s σ H x y v u Q I rx ry h
  obtain ⟨i, j, rfl, rfl, hc, q⟩ := h
  obtain ⟨t, rfl⟩ := rx
  obtain ⟨t', rfl⟩ := ry
  exact rule i j t t' s _ _ hc ⟨.int (g i j), H, I.tok _, ⟨_, rfl⟩, q⟩
theorem opI0 {f : Value → Value → Sem Value} {g : Int → Int → Int}
    (rule : ∀ (i j : Int) (t u : Tok) (s : Shared) (Q : Value → Shared → Prop) (E : Value → Shared → Prop), Q (.int (g i j) s.toks) { s with toks := s.toks + 1 } → wpAny (model X.prog X.w) X.A (f (.int i t) (.int j u)) Q E s) :
    OpR X f (rI0 fun i j => .int (g i j)) := by
  intro pins s σ H x y v u Q I rx ry h
  obtain ⟨i, j, rfl, rfl, q⟩ := h
  obtain ⟨t, rfl⟩ := rx
  obtain ⟨t', rfl⟩ := ry
  exact rule i j t t' s _ _ ⟨.int (g i j), H, I.tok _, ⟨_, rfl⟩, q⟩
theorem opB0 {f : Value → Value → Sem Value} {g : Int → Int → Bool}
    (rule : ∀ (i j : Int) (t u : Tok) (s : Shared) (Q : Value → Shared → Prop) (E : Value → Shared → Prop), Q (.bool (g i j)) s → wpAny (model X.prog X.w) X.A (f (.int i t) (.int j u)) Q E s) :
    OpR X f (rI0 fun i j => .bl (g i j)) := by
  intro pins s σ H x y v u Q I rx ry h
  obtain ⟨i, j, rfl, rfl, q⟩ := h
  obtain ⟨t, rfl⟩ := rx
  obtain ⟨t', rfl⟩ := ry
  exact rule i j t t' s _ _ ⟨.bl (g i j), H, I, rfl, q⟩
def CPow (i j : Int) : Prop := 0 ≤ j ∧ j ≤ 1000000 ∧ i.natAbs < 2 ^ 64
theorem op_add : OpR X (binaryOp .Add) (rI0 fun i j => .int (i + j)) := opI0 fun _ _ _ _ _ _ _ q => add_int q
theorem op_sub : OpR X (binaryOp .Sub) (rI0 fun i j => .int (i - j)) := opI0 fun _ _ _ _ _ _ _ q => sub_int q
theorem op_mod : OpR X (binaryOp .Mod) (rI (fun _ j => 0 < j) fun i j => .int (i % j)) := opI fun i j _ _ _ _ _ hc q => by
  have h1 : (0 : Int) < j := hc
  exact mod_int' (by omega) (by rw [Int.fmod_eq_emod_of_nonneg i (by omega)]; exact q)
theorem op_pow : OpR X (binaryOp .Pow) (rI CPow fun i j => .int (i ^ j.toNat)) := opI fun _ _ _ _ _ _ _ hc q => pow_int_small hc.1 hc.2.1 hc.2.2 q
theorem unI {f : Value → Sem Value} {g : Int → Int}
    (rule : ∀ (i : Int) (t : Tok) (s : Shared) (Q : Value → Shared → Prop) (E : Value → Shared → Prop), Q (.int (g i) s.toks) { s with toks := s.toks + 1 } → wpAny (model X.prog X.w) X.A (f (.int i t)) Q E s) :
    UnR X f (rU fun i => .int (g i)) := by
  intro pins s σ H x v Q I rx h
  obtain ⟨i, rfl, q⟩ := h
  obtain ⟨t, rfl⟩ := rx
  exact rule i t s _ _ ⟨.int (g i), H, I.tok _, ⟨_, rfl⟩, q⟩
theorem un_neg : UnR X (unaryOp .USub) (rU fun i => .int (-i)) := unI fun _ _ _ _ _ q => neg_int q
end
def scal : V → V → Bool
  | .non, .non => true | .non, .int _ => true | .int _, .non => true | .non, .bl _ => true | .bl _, .non => true | .non, .str _ => true | .str _, .non => true
  | .int _, .int _ => true | .bl _, .bl _ => true | .str _, .str _ => true | .byt _, .byt _ => true
  | .int _, .str _ => true | .str _, .int _ => true | .bl _, .str _ => true | .str _, .bl _ => true
  | _, _ => false
def rEq : R2 := fun x y H Q => scal x y = true ∧ Q (.bl (decide (x = y))) H
def rNe : R2 := fun x y H Q => scal x y = true ∧ Q (.bl (!decide (x = y))) H
theorem dec_int {i j : Int} : decide (V.int i = V.int j) = (i == j) := by
  rw [Bool.eq_iff_iff]
  simp
theorem dec_bl {i j : Bool} : decide (V.bl i = V.bl j) = (i == j) := by
  rw [Bool.eq_iff_iff]
  simp
theorem dec_str {i j : Str} : decide (V.str i = V.str j) = (i == j) := by
  rw [Bool.eq_iff_iff]
  simp
theorem dec_byt {i j : Array UInt8} : decide (V.byt i = V.byt j) = (i.toList == j.toList) := by
  rw [Bool.eq_iff_iff]
  cases i
  cases j
  simp
section
variable {X : Cx} {a b c : Expr} {ta tb tc : TE} {pos : Pos}
theorem fin_bl {pins : List (Addr × Obj)} {σ : St} {H : Hp} {s : Shared} {Q : VK} {k k' : Bool} (I : Inv X pins σ H s) (q : Q (.bl k) H) (e : k = k') : EP X pins σ Q (.bool k') s := by
  subst e
  exact ⟨.bl k, H, I, rfl, q⟩
theorem op_eq : OpR X (compareOp .Eq) rEq := by
  intro pins s σ H x y v u Q I rx ry h
  obtain ⟨hs, q⟩ := h
  cases x with
  | non =>
    cases rx
    cases y with
    | non => cases ry; exact PySem.EqNone.eq_none_none (fin_bl I q (by simp))
    | bl j => cases ry; exact PySem.EqNone.eq_none_bool (fin_bl I q (by simp))
    | int j => obtain ⟨t', rfl⟩ := ry; exact PySem.EqNone.eq_none_int (fin_bl I q (by simp))
    | str j => obtain ⟨t', rfl⟩ := ry; exact PySem.EqNone.eq_none_str (fin_bl I q (by simp))
    | _ => exact absurd (show false = true from hs) Bool.false_ne_true
  | bl i =>
    cases rx
    cases y with
    | non => cases ry; exact PySem.EqNone.eq_bool_none (fin_bl I q (by simp))
    | bl j => cases ry; exact eq_bool (fin_bl I q dec_bl)
    | str j => obtain ⟨t', rfl⟩ := ry; exact PySem.EqMixed.eq_bool_str (fin_bl I q (by simp))
    | _ => exact absurd (show false = true from hs) Bool.false_ne_true
  | int i =>
    obtain ⟨t, rfl⟩ := rx
    cases y with
    | non => cases ry; exact PySem.EqNone.eq_int_none (fin_bl I q (by simp))
    | int j => obtain ⟨t', rfl⟩ := ry; exact eq_int (fin_bl I q dec_int)
    | str j => obtain ⟨t', rfl⟩ := ry; exact PySem.EqMixed.eq_int_str (fin_bl I q (by simp))
    | _ => exact absurd (show false = true from hs) Bool.false_ne_true
  | str i =>
    obtain ⟨t, rfl⟩ := rx
    cases y with
    | non => cases ry; exact PySem.EqNone.eq_str_none (fin_bl I q (by simp))
    | bl j => cases ry; exact PySem.EqMixed.eq_str_bool (fin_bl I q (by simp))
    | int j => obtain ⟨t', rfl⟩ := ry; exact PySem.EqMixed.eq_str_int (fin_bl I q (by simp))
    | str j => obtain ⟨t', rfl⟩ := ry; exact eq_str (fin_bl I q dec_str)
    | _ => exact absurd (show false = true from hs) Bool.false_ne_true
  | byt i =>
    obtain ⟨t, rfl⟩ := rx
    cases y with
    | byt j => obtain ⟨t', rfl⟩ := ry; exact PySem.W.eq_bytes (fin_bl I q dec_byt)
    | _ => exact absurd (show false = true from hs) Bool.false_ne_true
  | _ => cases y <;> exact absurd (show false = true from hs) Bool.false_ne_true
theorem op_ne : OpR X (compareOp .NotEq) rNe := by
  intro pins s σ H x y v u Q I rx ry h
  obtain ⟨hs, q⟩ := h
  cases x with
  | non =>
    cases rx
    cases y with
    | non => cases ry; exact PySem.EqNone.ne_none_none (fin_bl I q (by simp))
    | bl j => cases ry; exact PySem.EqNone.ne_none_bool (fin_bl I q (by simp))
    | int j => obtain ⟨t', rfl⟩ := ry; exact PySem.EqNone.ne_none_int (fin_bl I q (by simp))
    | str j => obtain ⟨t', rfl⟩ := ry; exact PySem.EqNone.ne_none_str (fin_bl I q (by simp))
    | _ => exact absurd (show false = true from hs) Bool.false_ne_true
  | bl i =>
    cases rx
    cases y with
    | non => cases ry; exact PySem.EqNone.ne_bool_none (fin_bl I q (by simp))
    | bl j => cases ry; exact ne_bool (fin_bl I q (congrArg not dec_bl))
    | str j => obtain ⟨t', rfl⟩ := ry; exact PySem.EqMixed.ne_bool_str (fin_bl I q (by simp))
    | _ => exact absurd (show false = true from hs) Bool.false_ne_true
  | int i =>
    obtain ⟨t, rfl⟩ := rx
    cases y with
    | non => cases ry; exact PySem.EqNone.ne_int_none (fin_bl I q (by simp))
    | int j => obtain ⟨t', rfl⟩ := ry; exact ne_int (fin_bl I q (congrArg not dec_int))
    | str j => obtain ⟨t', rfl⟩ := ry; exact PySem.EqMixed.ne_int_str (fin_bl I q (by simp))
    | _ => exact absurd (show false = true from hs) Bool.false_ne_true
  | str i =>
    obtain ⟨t, rfl⟩ := rx
    cases y with
    | non => cases ry; exact PySem.EqNone.ne_str_none (fin_bl I q (by simp))
    | bl j => cases ry; exact PySem.EqMixed.ne_str_bool (fin_bl I q (by simp))
    | int j => obtain ⟨t', rfl⟩ := ry; exact PySem.EqMixed.ne_str_int (fin_bl I q (by simp))
    | str j => obtain ⟨t', rfl⟩ := ry; exact ne_str (fin_bl I q (congrArg not dec_str))
    | _ => exact absurd (show false = true from hs) Bool.false_ne_true
  | byt i =>
    obtain ⟨t, rfl⟩ := rx
    cases y with
    | byt j => obtain ⟨t', rfl⟩ := ry; exact PySem.W.ne_bytes (fin_bl I q (congrArg not dec_byt))
    | _ => exact absurd (show false = true from hs) Bool.false_ne_true
  | _ => cases y <;> exact absurd (show false = true from hs) Bool.false_ne_true
theorem op_lt : OpR X (compareOp .Lt) (rI0 fun i j => .bl (decide (i < j))) := opB0 fun _ _ _ _ _ _ _ q => lt_int q
theorem op_le : OpR X (compareOp .LtE) (rI0 fun i j => .bl (decide (i ≤ j))) := opB0 fun _ _ _ _ _ _ _ q => le_int q
theorem op_gt : OpR X (compareOp .Gt) (rI0 fun i j => .bl (decide (j < i))) := opB0 fun _ _ _ _ _ _ _ q => gt_int q
theorem nomark (b : Expr) {op : CmpOp} (h : op ≠ .In := by decide) (h2 : op ≠ .NotIn := by decide) : behindInMarks op b = false := by
  have e1 : (op == CmpOp.In) = false := by cases op <;> first | rfl | exact absurd rfl h
  have e2 : (op == CmpOp.NotIn) = false := by cases op <;> first | rfl | exact absurd rfl h2
  cases b <;> simp [behindInMarks, e1, e2]
theorem pe_cmpR {op : CmpOp} {r : R2} (ho : OpR X (compareOp op) r) (ha : PE X a ta) (hb : PE X b tb) (hm : behindInMarks op b = false) : PE X (.Compare a [op] [b] pos) (tOp r ta tb) := by
  intro pins s σ H Q I h
  exact wpAny_Compare1 (binT ha hb I h fun v u s2 x y H2 I2 rx ry q => ho pins s2 σ H2 x y v u Q I2 rx ry q) hm
def tTest (t : TE) : TT := fun σ H Q => t σ H fun x H' => ∃ k, x = .bl k ∧ Q k H'
theorem pt_cmpR {op : CmpOp} {r : R2} (ho : OpR X (compareOp op) r) (ha : PE X a ta) (hb : PE X b tb) (hm : behindInMarks op b = false) : PT X (.Compare a [op] [b] pos) (tTest (tOp r ta tb)) := by
  intro pins s σ H Q I h
  refine wpAny_isTrue_Compare1 (thn (ha pins s σ H _ I h) fun v s1 ⟨x, H1, I1, r1, q1⟩ => thn (hb pins s1 σ H1 _ I1 q1) fun u s2 ⟨y, H2, I2, r2, q2⟩ =>
    thn (ho pins s2 σ H2 x y v u _ I2 r1 r2 q2) fun c s3 ⟨z, H3, I3, r3, k, e, q3⟩ => ?_) hm
  subst e
  cases r3
  exact wpAny_truthy_bool ⟨H3, I3, q3⟩
def tChain (r r' : R2) (ta tb tc : TE) : TE := fun σ H Q => ta σ H fun x H1 => tb σ H1 fun y H2 => r x y H2 fun z H3 => ∃ k, z = .bl k ∧
  (if k = true then tc σ H3 fun w' H4 => r' y w' H4 Q else Q (.bl false) H3)
theorem pe_chain {op op' : CmpOp} {r r' : R2} (ho : OpR X (compareOp op) r) (ho' : OpR X (compareOp op') r') (ha : PE X a ta) (hb : PE X b tb) (hc : PE X c tc)
    (hm : lastMarks [op, op'] [b, c] = false := by with_unfolding_all rfl) : PE X (.Compare a [op, op'] [b, c] pos) (tChain r r' ta tb tc) := by
  intro pins s σ H Q I h
  refine Compare_chain (thn (ha pins s σ H _ I h) fun v s1 ⟨x, H1, I1, r1, q1⟩ => chain_link (thn (hb pins s1 σ H1 _ I1 q1) fun u s2 ⟨y, H2, I2, r2, q2⟩ =>
    thn (ho pins s2 σ H2 x y v u _ I2 r1 r2 q2) fun d s3 ⟨z, H3, I3, r3, k, e, q3⟩ => ?_)) hm
  subst e
  cases r3
  refine wpAny_truthy_bool ?_
  cases k with
  | false => exact ite_ff ⟨.bl false, H3, I3, rfl, q3⟩
  | true => exact ite_tt (chain_last (thn (hc pins s3 σ H3 _ I3 q3) fun w' s4 ⟨z', H4, I4, r4, q4⟩ => ho' pins s4 σ H4 y z' u w' Q I4 r2 r4 q4))
theorem line63 : (sizeLine : Nat) < 2 ^ 63 := by rw [sizeLine_eq]; decide
theorem op_add_str : OpR X (binaryOp .Add) (fun x y H Q => ∃ i j, x = .str i ∧ y = .str j ∧ i.length + j.length ≤ sizeLine ∧ Q (.str (i ++ j)) H) := by
  intro pins s σ H x y v u Q I rx ry h
  obtain ⟨i, j, rfl, rfl, hz, q⟩ := h
  obtain ⟨t, rfl⟩ := rx
  obtain ⟨t', rfl⟩ := ry
  exact add_str (fun t' tk => ⟨.str (i ++ j), H, I.tok _, ⟨_, rfl⟩, q⟩) hz
theorem vals1 {x : V} {us : List Value} (r : Vals [x] us) : ∃ u, us = [u] ∧ RelV x u := by
  cases r with
  | cons r1 r2 => cases r2; exact ⟨_, rfl, r1⟩
end
end L2
namespace L2
open PySem PySem.Spec PyProof.Rows
structure ObjM (h : Heap) (x dx C : Addr) (mA : Str → Option Value) : Prop where
  obj : h.get? x = some (PySem.W.instObj C dx)
  ns : h.Ns1 dx mA
  ne : dx ≠ x
theorem lookIn_ns {h : Heap} {dx : Addr} {mA : Str → Option Value} (n : h.Ns1 dx mA) : ∃ od, h.get? dx = some od ∧ ∀ name, PySem.W.lookIn name od = some (mA name) := by
  obtain ⟨o, es, ep, ho, hd, hk, _, hm⟩ := n
  refine ⟨o, ho, fun name => ?_⟩
  have e := hm name
  unfold nsFind findBy at e
  rw [← Array.find?_toList] at e
  unfold PySem.W.lookIn
  rw [hd]
  dsimp only
  split
  · rename_i y q
    rw [q] at e
    exact congrArg some e
  · rename_i q
    rw [q] at e
    have a : es.toList.any (·.refKey) = false := by
      rw [List.any_eq_false]
      intro y hy
      obtain ⟨z, t, hkey⟩ := hk y (Array.mem_toList_iff.mp hy)
      simp [DictEntry.refKey, hkey]
    have a' : ¬ es.toList.any (·.refKey) = true := by rw [a]; exact Bool.false_ne_true
    rw [if_neg a']
    exact congrArg some e
theorem ObjM.look {h : Heap} {x dx C : Addr} {mA : Str → Option Value} (I : ObjM h x dx C mA) : ∃ od, PySem.W.InstAt h x (PySem.W.instObj C dx) C (some od) ∧ ∀ name, PySem.W.lookIn name od = some (mA name) :=
  let ⟨od, ho, hl⟩ := lookIn_ns I.ns
  ⟨od, ⟨I.obj, rfl, rfl, ho⟩, hl⟩
section
variable {prog : Program} {w : World} {A : Around} {E : Value → Shared → Prop} {s : Shared} {K : PySem.W.Frag} {x dx C f : Addr} {mA : Str → Option Value} {name : Str} {v : Value}
end
theorem RelO.some_of {v : V} {o : Option Value} (r : RelO (some v) o) : ∃ u, o = some u ∧ RelV v u := by
  cases o with
  | none => exact (show False from r).elim
  | some u => exact ⟨u, rfl, r⟩
theorem RelO.none_of {o : Option Value} (r : RelO none o) : o = none := by
  cases o with
  | none => rfl
  | some u => exact (show False from r).elim
section
variable {P : Program} {w : World} {H H' : Hp} {h h' : Heap} {a C dx : Addr} {fs fs' : List (Str × V)}
theorem ins_get (hok : HOk P w H h) (e : H a = some (.ins C dx fs)) : ∃ mA, ObjM h a dx C mA ∧ (∀ f, RelO (fs.lookup f) (mA f)) ∧ PySem.Within mA (fs.map (·.1)) ∧ fs.length ≤ 1000 ∧ H dx = some (.own a) := by
  obtain ⟨d, z, ne, ob, mA, n, r, q⟩ := (show ObjOk P w H h a (.ins C dx fs) from hok a _ e)
  exact ⟨mA, ⟨ob, n, ne⟩, r, q, z, d⟩
end
structure Cls (K : PySem.W.Frag) (C : Addr) : Prop where
  pg : PySem.W.plainGet K C Str.empty = true
  hd : PySem.W.hasDictIn K C = true
  po : PySem.W.plainOver K C = true
  sa : PySem.W.findIn K (.ref C) "__setattr__" = some (some (.builtin "object.__setattr__"))
theorem Cls.get {K : PySem.W.Frag} {C : Addr} (c : Cls K C) (f : Str) : PySem.W.plainGet K C f = true := c.pg
structure Con (K : PySem.W.Frag) (C : Addr) (f : Str) (v : V) (u : Value) : Prop where
  at_ : PySem.W.findIn K (.ref C) f = some (some u)
  rel : RelV v u
  get : PySem.W.specialIn K u "__get__" = some none
  cp : PySem.W.copiedNames.contains f = false
structure Meth (K : PySem.W.Frag) (C : Addr) (m : Str) (f : Addr) : Prop where
  at_ : PySem.W.findIn K (.ref C) m = some (some (.ref f))
  fn : PySem.W.isFn K (.ref f) = true
  kp : PySem.W.keepIn K (.ref f) = true
section
variable {X : Cx} {pins : List (Addr × Obj)} {σ : St} {H : Hp} {s : Shared} {a C dx : Addr} {fs : List (Str × V)} {f : Str} {v : V} {A : Around} {E : Value → Shared → Prop}
end
section
variable {X : Cx} {o e value : Expr} {f : Str} {pos pos' tpos : Pos} {ta tv : TE}
end
section
variable {X : Cx} {pins : List (Addr × Obj)} {σ : St} {H : Hp} {s : Shared} {A : Around} {E : Value → Shared → Prop} {Q : Value → Shared → Prop} {c : Value} {b : Bool}
inductive TyOf (K : PySem.W.Frag) (H : Hp) : V → Value → Prop where
  | non : TyOf K H .non (.type "NoneType")
  | bl (x : Bool) : TyOf K H (.bl x) (.type "bool")
  | int (i : Int) : TyOf K H (.int i) (.type "int")
  | str (x : Str) : TyOf K H (.str x) (.type "str")
  | flt (x : UInt64) : TyOf K H (.flt x) (.type "float")
  | lst {a : Addr} {xs : List V} (e : H a = some (.lst xs)) : TyOf K H (.ref a) (.type "list")
  | frz {a : Addr} {o : Obj} {xs : List V} (e : H a = some (.frz o (.lst xs))) : TyOf K H (.ref a) (.type "list")
  | tup {a : Addr} {xs : List V} (e : H a = some (.tup xs)) : TyOf K H (.ref a) (.type "tuple")
  | dK {a : Addr} {kvs : List (Key × V)} (e : H a = some (.dK kvs)) : TyOf K H (.ref a) (.type "dict")
  | dT {a : Addr} {kvs : List (List Key × V)} (e : H a = some (.dT kvs)) : TyOf K H (.ref a) (.type "dict")
  | ins {a C dx : Addr} {fs : List (Str × V)} (e : H a = some (.ins C dx fs)) (cl : Cls K C) (ha : PySem.W.findIn K (.ref C) "__class__" = some (some (.builtin "object.__class__")))
      (hn : PySem.W.specialIn K (.builtin "object.__class__") "__get__" = some (some (.builtin "getset_descriptor.__get__"))) (htk : PySem.W.takesIn K (.builtin "object.__class__") = some true)
      (hm : PySem.W.mroIn K C (.type "object") = some true) : TyOf K H (.ref a) (.ref C)
theorem isinst_ok {x : V} {u t : Value} (I : Inv X pins σ H s) (rx : RelV x u) (ty : TyOf X.K H x t) (e : PySem.W.kitOne X.K t c = some b) (h : ∀ tk, Q (.bool b) { s with toks := tk }) :
    wpAny (model X.prog X.w) A (call (.builtin "isinstance") [u, c]) Q E s := by
  cases ty with
  | non => cases (show u = Value.none from rx); exact PySem.W.kia_one PySem.W.kitx_none I.kIn True.intro e (fun z => nomatch z) h
  | bl y => cases (show u = Value.bool y from rx); exact PySem.W.kia_one PySem.W.kitx_bool I.kIn True.intro e (fun z => nomatch z) h
  | int i => obtain ⟨t, q⟩ := (show ∃ t, u = Value.int i t from rx); cases q; exact PySem.W.kia_one PySem.W.kitx_int I.kIn True.intro e (fun z => nomatch z) h
  | str y => obtain ⟨t, q⟩ := (show ∃ t, u = Value.str y t from rx); cases q; exact PySem.W.kia_one PySem.W.kitx_str I.kIn True.intro e (fun z => nomatch z) h
  | flt y => obtain ⟨t, q⟩ := (show ∃ t, u = Value.float y t from rx); cases q; exact PySem.W.kia_one PySem.W.kitx_float I.kIn True.intro e (fun z => nomatch z) h
  | @lst a xs ea =>
    cases (show u = Value.ref a from rx)
    obtain ⟨_, _, n, _, h1⟩ := (show ObjOk X.prog X.w H s.heap a (.lst xs) from I.hok a _ ea)
    exact PySem.W.kia_one PySem.W.kitx_list I.kIn ⟨_, h1, rfl⟩ e (fun z => nomatch z) h
  | @frz a ob xs ea =>
    cases (show u = Value.ref a from rx)
    obtain ⟨_, _, _, n, _, h1⟩ := (show ObjOk X.prog X.w H s.heap a (.frz ob (.lst xs)) from I.hok a _ ea)
    exact PySem.W.kia_one PySem.W.kitx_list I.kIn ⟨_, h1, rfl⟩ e (fun z => nomatch z) h
  | @tup a xs ea =>
    cases (show u = Value.ref a from rx)
    obtain ⟨_, _, _, p⟩ := (show ObjOk X.prog X.w H s.heap a (.tup xs) from I.hok a _ ea)
    obtain ⟨o, h1, h2, _⟩ := p
    exact PySem.W.kia_one PySem.W.kitx_tuple I.kIn ⟨o, h1, h2⟩ e (fun z => nomatch z) h
  | @dK a kvs ea =>
    cases (show u = Value.ref a from rx)
    obtain ⟨_, _, vs, _, p⟩ := (show ObjOk X.prog X.w H s.heap a (.dK kvs) from I.hok a _ ea)
    obtain ⟨o, es, ep, h1, h2, _⟩ := p
    exact PySem.W.kia_one PySem.W.kitx_dict I.kIn ⟨o, h1, h2.1⟩ e (fun z => nomatch z) h
  | @dT a kvs ea =>
    cases (show u = Value.ref a from rx)
    obtain ⟨_, _, xs, _, o, es, ep, h1, h2, _⟩ := (show ObjOk X.prog X.w H s.heap a (.dT kvs) from I.hok a _ ea)
    exact PySem.W.kia_one PySem.W.kitx_dict I.kIn ⟨o, h1, h2.1⟩ e (fun z => nomatch z) h
  | @ins a C dx fs ea cl ha hn htk hm =>
    cases (show u = Value.ref a from rx)
    obtain ⟨mA, O, _⟩ := ins_get I.hok ea
    obtain ⟨od, J, _⟩ := O.look
    exact PySem.W.kia_one (PySem.W.kitx_own (cl.get _) cl.hd ha hn htk hm) I.kIn J e (fun z => nomatch z) h
end
end L2
namespace L2
open PySem PySem.Spec PyProof.Rows
structure Room (k : Nat) (A : Around) : Prop where
  hd : A.handled = none
  dp : A.depth + 3 * k + 5 < recursionLimit
  un : A.units + 16 * k + 200 < cLine
theorem Room.mono {j k : Nat} {A : Around} (r : Room k A) (h : j ≤ k) : Room j A := ⟨r.hd, by have := r.dp; omega, by have := r.un; omega⟩
theorem Room.deeper {k : Nat} {A : Around} (r : Room (k + 1) A) (env : Env) : Room k (A.deeper env) :=
  ⟨r.hd, by have := r.dp; show A.depth + 1 + 3 * k + 5 < _; omega, by have := r.un; show A.units + 3 + 16 * k + 200 < _; omega⟩
theorem Room.depth {k : Nat} {A : Around} (r : Room k A) : A.depth < recursionLimit := by have := r.dp; omega
theorem Room.units {k : Nat} {A : Around} (r : Room k A) : A.units + 64 < cLine := by have := r.un; omega
def tNil : TA := fun _ H Q => Q [] H
def tCons (ta : TE) (tr : TA) : TA := fun σ H Q => ta σ H fun x H1 => tr σ H1 fun xs H2 => Q (x :: xs) H2
section
variable {X : Cx} {e : Expr} {es : List Expr} {te : TE} {t : TA} {pos : Pos}
theorem pa_nil : PA X [] tNil := fun _ _ _ _ H Q I h => Calls.spliced_nil ⟨[], H, I, .nil, h⟩
theorem pa_cons (ha : PE X e te) (hr : PA X es t) (hs : starEach (e :: es) X.env = (false, eval e X.env) :: starEach es X.env := by rfl) : PA X (e :: es) (tCons te t) := by
  intro pos pins s σ H Q I h
  rw [hs]
  show wpAny _ _ (spliced ((false, eval e X.env) :: backTo pos (starEach es X.env))) _ _ s
  refine Calls.spliced_cons (thn (ha pins s σ H _ I h) fun u s1 ⟨x, H1, I1, r1, q1⟩ => ?_)
  exact thn (hr pos pins s1 σ H1 _ I1 q1) fun us s2 ⟨xs, H2, I2, r2, q2⟩ => ⟨x :: xs, H2, I2, .cons r1 r2, q2⟩
def tTup (t : TA) : TE := fun σ H Q => t σ H fun xs H1 => xs.length ≤ sizeLine ∧ ∀ p, H1 p = none → Q (.ref p) (upd H1 p (.tup xs))
def tLst (t : TA) : TE := fun σ H Q => t σ H fun xs H1 => xs.length ≤ sizeLine ∧ ∀ p, H1 p = none → Q (.ref p) (upd H1 p (.lst xs))
theorem pe_tup {x1} (h : PA X es t) : PE X (.Tuple es x1 pos) (tTup t) := by
  intro pins s σ H Q I hq
  refine wpAny_Tuple_spliced (thn (h pos pins s σ H _ I hq) fun us s1 ⟨xs, H1, I1, r, z, q⟩ => ⟨by rw [← r.length]; exact z, ?_⟩)
  have hf : H1 s1.heap.objs.size = none := I1.hok.fresh (Nat.le_refl _)
  refine ⟨.ref s1.heap.objs.size, upd H1 s1.heap.objs.size (.tup xs), I1.laid (t' := s1.toks) (fun b u e => Heap.get?_push_of_some _ e) (Nat.le_refl _) ?_, rfl, q _ hf⟩
  exact ⟨z, us, r, ⟨_, Heap.get?_push_size _ rfl, rfl, _, rfl⟩⟩
theorem pe_lst (h : PA X es t) : PE X (.List es pos) (tLst t) := by
  intro pins s σ H Q I hq
  refine wpAny_List_spliced (thn (h pos pins s σ H _ I hq) fun us s1 ⟨xs, H1, I1, r, z, q⟩ => ⟨by rw [← r.length]; exact z, ?_⟩)
  have hf : H1 s1.heap.objs.size = none := I1.hok.fresh (Nat.le_refl _)
  refine ⟨.ref s1.heap.objs.size, upd H1 s1.heap.objs.size (.lst xs), I1.laid (t' := s1.toks) (fun b u e => Heap.get?_push_of_some _ e) (Nat.le_refl _) ?_, rfl, q _ hf⟩
  exact ⟨z, us, 0, r, Heap.get?_push_size _ rfl⟩
end
abbrev Sp := List V → Hp → VK → XK → Prop
abbrev CXT := List Env → Hp → Shared → XK → Value → Shared → Prop
structure Env0 (P : Program) (w : World) (K : PySem.W.Frag) (mg : Str → Option Value) (base : Heap) (A : Around) (outer : List Env) (s : Shared) (H : Hp) : Prop where
  frames : A.frames = some outer
  mod : Mod K mg base
  bs : ∀ b o, base.get? b = some o → s.heap.get? b = some o ∧ H b = none
  bsz : base.objs.size ≤ s.heap.objs.size
  funs : s.heap.FunFrames base outer
  frf : ∀ b ∈ frs outer, H b = none
  hok : HOk P w H s.heap
  bare : AllBare s.gens
def CE (outer : List Env) (P : Program) (w : World) (H : Hp) (s : Shared) (Q : VK) (u : Value) (s' : Shared) : Prop :=
  ∃ v H', s'.os = s.os ∧ AllBare s'.gens ∧ Un (frs outer) [] H H' s.heap s'.heap ∧ HOk P w H' s'.heap ∧ RelV v u ∧ Q v H'
def CR (CX : CXT) (outer : List Env) (P : Program) (w : World) (H : Hp) (s : Shared) (Q : VK) (E : XK) (r : Result) (s' : Shared) : Prop :=
  match r with
  | .ok (.ret u) => CE outer P w H s Q u s'
  | .ok _ => False
  | .error e => CX outer H s E e s'
structure FnOk (P : Program) (w : World) (K : PySem.W.Frag) (mg : Str → Option Value) (base : Heap) (CX : CXT) (k : Nat) (f : Addr) (fd : FuncData) (ps : List Str) (sp : Sp) : Prop where
  len : ∀ vs H Q E, sp vs H Q E → vs.length = ps.length
  run : ∀ (A : Around) (outer : List Env) (s : Shared) (H : Hp) (args : Args) (us : List Value) (vs : List V) (Q : VK) (E : XK), Room k A → Env0 P w K mg base A outer s H → BindsTo s fd args (ps.zip us) → Vals vs us → sp vs H Q E →
    codeAny (model P w) A (.call (.ref f) args) (CR CX outer P w H s Q E) s
theorem FnOk.mono {P : Program} {w : World} {K : PySem.W.Frag} {mg : Str → Option Value} {base : Heap} {CX : CXT} {j k : Nat} {f : Addr} {fd : FuncData} {ps : List Str} {sp : Sp} (F : FnOk P w K mg base CX j f fd ps sp) (h : j ≤ k) :
    FnOk P w K mg base CX k f fd ps sp := ⟨F.len, fun A outer s H args us vs Q E hr => F.run A outer s H args us vs Q E (hr.mono h)⟩
theorem FnOk.imp {P : Program} {w : World} {K : PySem.W.Frag} {mg : Str → Option Value} {base : Heap} {CX : CXT} {k : Nat} {f : Addr} {fd : FuncData} {ps : List Str} {sp sp' : Sp} (F : FnOk P w K mg base CX k f fd ps sp)
    (h : ∀ vs H Q E, sp' vs H Q E → sp vs H Q E) : FnOk P w K mg base CX k f fd ps sp' :=
  ⟨fun vs H Q E q => F.len vs H Q E (h _ _ _ _ q), fun A outer s H args us vs Q E hr he hb hv hs => F.run A outer s H args us vs Q E hr he hb hv (h _ _ _ _ hs)⟩
section
variable {X : Cx} {pins : List (Addr × Obj)} {σ : St} {H : Hp} {s s' : Shared}
theorem Inv.env0 (I : Inv X pins σ H s) : Env0 X.prog X.w X.K X.mg X.base X.A X.stack s H :=
  ⟨I.ok.frames, I.ok.mod, I.bs, Nat.le_trans I.ok.bsz I.sz, I.stack, I.stkFree, I.hok, I.bare⟩
theorem Inv.after {Q : VK} {u : Value} (I : Inv X pins σ H s) (h : CE X.stack X.prog X.w H s Q u s') : EP X pins σ Q u s' := by
  obtain ⟨v, H', os, bare, un, hok, r, q⟩ := h
  obtain ⟨hh, g, d, t, os'⟩ := s'
  obtain rfl : os' = s.os := os
  exact ⟨v, H', I.call (h' := hh) (g' := g) (d' := d) (t' := t) (ch := []) un hok bare (fun b z => absurd z (by simp)), r, q⟩
end
def tCall (sp : Sp) (dvs : List V) (E : XK) (t : TA) : TE := fun σ H Q => t σ H fun vs H1 => sp (vs ++ dvs) H1 Q E
def Binds (K : PySem.W.Frag) (fd : FuncData) (ps : List Str) (ds : List Value) : Prop :=
  ∀ (s : Shared) (us : List Value), K.In s.heap → (us ++ ds).length = ps.length → BindsTo s fd ⟨us, []⟩ (ps.zip (us ++ ds))
theorem Binds.all {K : PySem.W.Frag} {fd : FuncData} {ps : List Str} (h : ∀ us : List Value, us.length = ps.length → bindArgs fd ⟨us, []⟩ = pure (ps.zip us)) : Binds K fd ps [] := fun s us _ hl => by
  rw [List.append_nil] at hl ⊢
  exact .of_eq (h us hl)
def Passes (CX : CXT) (X : Cx) (E : XK) : Prop := ∀ (pins : List (Addr × Obj)) (σ : St) (H : Hp) (s : Shared) (e : Value) (s' : Shared), Inv X pins σ H s → CX X.stack H s E e s' → X.xe e s'
section
variable {X : Cx} {CX : CXT} {k : Nat} {f C : Addr} {fd : FuncData} {ps : List Str} {sp : Sp} {dvs : List V} {ds : List Value} {E : XK} {x m : Str} {p pos apos : Pos} {e o : Expr} {es : List Expr} {ta : TE} {t : TA}
theorem run_fn {pins : List (Addr × Obj)} {σ : St} {H : Hp} {s : Shared} {Q : VK} {us : List Value} {vs : List V} (F : FnOk X.prog X.w X.K X.mg X.base CX k f fd ps sp) (hr : Room k X.A) (hb : Binds X.K fd ps ds) (hd : Vals dvs ds) (hx : Passes CX X E)
    (I : Inv X pins σ H s) (r : Vals vs us) (h : sp (vs ++ dvs) H Q E) : wpAny (model X.prog X.w) X.A (call (.ref f) us) (EP X pins σ Q) X.xe s := by
  have r2 : Vals (vs ++ dvs) (us ++ ds) := r.append hd
  have hl : (us ++ ds).length = ps.length := by rw [← r2.length]; exact F.len _ _ _ _ h
  refine wpAny_call (codeAny_mono (F.run X.A X.stack s H ⟨us, []⟩ (us ++ ds) (vs ++ dvs) Q E hr I.env0 (hb s us I.kIn hl) r2 h) fun r s' hq => ?_)
  cases r with
  | error e => exact hx pins σ H s e s' I hq
  | ok fl =>
    cases fl with
    | ret u => exact I.after hq
    | next => exact False.elim hq
    | brk => exact False.elim hq
    | cont => exact False.elim hq
theorem pe_call (F : FnOk X.prog X.w X.K X.mg X.base CX k f fd ps sp) (hr : Room k X.A) (hg : Gl X x) (hm : X.mg x = some (.ref f)) (hk : PySem.W.keepIn X.K (.ref f) = true) (hb : Binds X.K fd ps ds) (hd : Vals dvs ds) (hx : Passes CX X E)
    (ha : PA X (e :: es) t) (hdb : (x == ("__debug__" : Str)) = false := by decide) (he : starEach (e :: es) X.env = (false, eval e X.env) :: starEach es X.env := by rfl) (hpl : (backTo pos (starEach es X.env)).any (·.1) = false := by rfl) :
    PE X (.Call (.Name x p) (e :: es) [] pos) (tCall sp dvs E t) := by
  intro pins s σ H Q I h
  refine wpAny_Call_Name_kw (ld_glob I hg hm ?_ hdb)
  refine PySem.W.callWith_K (h₀ := X.base) I.ok.mod.kin hk (thn (ha pos pins s σ H _ I h) fun us s1 ⟨vs, H1, I1, r, q⟩ => ⟨I1.kIn, ?_⟩) he hpl
  exact run_fn F hr hb hd hx I1 r q
structure Mk (K : PySem.W.Frag) (C f : Addr) : Prop where
  makes : PySem.W.makesIn K C = true
  init : PySem.W.findIn K (.ref C) "__init__" = some (some (.ref f))
  fn : PySem.W.isFn K (.ref f) = true
  kp : PySem.W.keepIn K (.ref C) = true
end
section
variable {X : Cx} {CX : CXT} {k : Nat} {f C : Addr} {fd : FuncData} {ps ks : List Str} {sp : Sp} {E : XK} {x m : Str} {p pos apos kpos : Pos} {e o : Expr} {es : List Expr} {kws : List Keyword} {te ta : TE} {t tk : TA} {nm : Option Str}
structure KBinds (K : PySem.W.Frag) (fd : FuncData) (ps ks : List Str) (g : List Value → List Value → List Value) (gV : List V → List V → List V) : Prop where
  to : ∀ (s : Shared) (us ws : List Value), K.In s.heap → (g us ws).length = ps.length → BindsTo s fd ⟨us, ks.zip ws⟩ (ps.zip (g us ws))
  rel : ∀ {vs : List V} {us : List Value} {zs : List V} {ws : List Value}, Vals vs us → Vals zs ws → Vals (gV vs zs) (g us ws)
variable {g : List Value → List Value → List Value} {gV : List V → List V → List V}
end
structure FnScope (N P : List Str) (sc : Scope) : Prop where
  kind : sc.kind = .function
  co : sc.isCoroutine = false
  gen : sc.isGenerator = false
  nd : N.Nodup
  pre : N.take P.length = P
  par : ∀ x ∈ P, sc.names.lookup x = some .local ∨ sc.names.lookup x = some .cell
  nofree : ∀ y ∈ sc.names, y.2 ≠ .free
theorem bindL_out {kindOf : Str → Option NameKind} {x : Str} : ∀ {binds : List (Str × Value)} {m : Str → Option Value}, (∀ v, (x, v) ∉ binds) → bindL kindOf binds m x = m x
  | [], _, _ => rfl
  | (n, v) :: r, m, h => by
    unfold bindL
    rw [bindL_out fun w hw => h w (List.mem_cons_of_mem _ hw)]
    split
    · have : x ≠ n := by rintro rfl; exact h v List.mem_cons_self
      simp [this]
    · rfl
theorem bindC_out {kindOf : Str → Option NameKind} {x : Str} : ∀ {binds : List (Str × Value)} {m : Str → Option Value}, (∀ v, (x, v) ∉ binds) → bindC kindOf binds m x = m x
  | [], _, _ => rfl
  | (n, v) :: r, m, h => by
    unfold bindC
    rw [bindC_out fun w hw => h w (List.mem_cons_of_mem _ hw)]
    split
    · rfl
    · have : x ≠ n := by rintro rfl; exact h v List.mem_cons_self
      simp [this]
theorem bindL_get {kindOf : Str → Option NameKind} {x : Str} {v : Value} : ∀ {P : List Str} {vs : List Value} {i : Nat} {m : Str → Option Value}, P.Nodup → P[i]? = some x → vs[i]? = some v → kindOf x = some .local →
    bindL kindOf (P.zip vs) m x = some v
  | [], _, _, _, _, h, _, _ => by simp at h
  | _ :: _, [], _, _, _, _, h, _ => by simp at h
  | p :: P, w :: vs, 0, m, nd, h1, h2, hk => by
    simp at h1 h2; subst h1; subst h2
    show bindL kindOf ((p, w) :: P.zip vs) m p = _
    unfold bindL
    rw [bindL_out fun v hv => (List.nodup_cons.mp nd).1 (List.of_mem_zip hv).1, if_pos hk]
    simp
  | p :: P, w :: vs, i + 1, m, nd, h1, h2, hk => by
    show bindL kindOf ((p, w) :: P.zip vs) m x = _
    unfold bindL
    exact bindL_get (i := i) (List.nodup_cons.mp nd).2 (by simpa using h1) (by simpa using h2) hk
theorem bindC_get {kindOf : Str → Option NameKind} {x : Str} {v : Value} : ∀ {P : List Str} {vs : List Value} {i : Nat} {m : Str → Option Value}, P.Nodup → P[i]? = some x → vs[i]? = some v → kindOf x ≠ some .local →
    bindC kindOf (P.zip vs) m x = some v
  | [], _, _, _, _, h, _, _ => by simp at h
  | _ :: _, [], _, _, _, _, h, _ => by simp at h
  | p :: P, w :: vs, 0, m, nd, h1, h2, hk => by
    simp at h1 h2; subst h1; subst h2
    show bindC kindOf ((p, w) :: P.zip vs) m p = _
    unfold bindC
    rw [bindC_out fun v hv => (List.nodup_cons.mp nd).1 (List.of_mem_zip hv).1, if_neg hk]
    simp
  | p :: P, w :: vs, i + 1, m, nd, h1, h2, hk => by
    show bindC kindOf ((p, w) :: P.zip vs) m x = _
    unfold bindC
    exact bindC_get (i := i) (List.nodup_cons.mp nd).2 (by simpa using h1) (by simpa using h2) hk
def start (N : List Str) (vs : List V) : St := vs.map some ++ List.replicate (N.length - vs.length) none
def cxOf (CX : CXT) (P : Program) (w : World) (K : PySem.W.Frag) (mg : Str → Option Value) (base : Heap) (N : List Str) (qual : Str) (scope : Scope) (f : Addr) (cd : Value) (A : Around) (outer : List Env) (s : Shared) (H : Hp) (E : XK) : Cx where
  prog := P
  w := w
  K := K
  mg := mg
  base := base
  A := A.deeper (envOfC qual scope s.heap.objs.size f cd)
  N := N
  s₀ := s
  H₀ := H
  env := envOfC qual scope s.heap.objs.size f cd
  outer := outer
  stack := envOfC qual scope s.heap.objs.size f cd :: outer
  ex := []
  calm := true
  fn := fun _ => true
  pn := []
  xe := fun e s' => wpAny (model P w) (A.deeper (envOfC qual scope s.heap.objs.size f cd)) (leaving (envOfC qual scope s.heap.objs.size f cd) e) (fun _ s'' => CX outer H s E e s'') (fun e' s'' => CX outer H s E e' s'') s'
theorem cell_has {sc : Scope} {n : Nat} {x : Str} (h : sc.names.lookup x = some .cell) : ∃ c, (cellsFrom n sc.names []).lookup x = some c := by
  have q := PySem.W.cellsFrom_some sc.names n [] (.inl h)
  exact Option.isSome_iff_exists.mp q
theorem inv_start {CX : CXT} {P : Program} {w : World} {K : PySem.W.Frag} {mg : Str → Option Value} {base : Heap} {N ps : List Str} {qual : Str} {scope : Scope} {f : Addr} {cd : Value} {A : Around} {outer : List Env} {s s1 : Shared} {H : Hp} {E : XK} {us : List Value} {vs : List V}
    (S : FnScope N ps scope) (hd : A.handled = none) (e0 : Env0 P w K mg base A outer s H) (hl : vs.length = ps.length) (r : Vals vs us)
    (x : InCallC s s.heap.objs.size (bindL (envOfC qual scope s.heap.objs.size f cd).kindOf (ps.zip us) fun _ => none) (cellsFrom (s.heap.objs.size + 1) scope.names []) (bindC (envOfC qual scope s.heap.objs.size f cd).kindOf (ps.zip us) fun _ => none) s1) :
    Inv (cxOf CX P w K mg base N qual scope f cd A outer s H E) [] (start N vs) H s1 := by
  have hpl : ps.length ≤ N.length := by have := congrArg List.length S.pre; rw [List.length_take] at this; omega
  obtain ⟨h1, tk, rfl, hk⟩ := x.done
  have noA : ∀ b : Addr, b ∉ (cxOf CX P w K mg base N qual scope f cd A outer s H E).ex := fun b z => absurd (show b ∈ ([] : List Addr) from z) (by simp)
  refine ⟨⟨e0.mod, S.kind, rfl, rfl, Nat.le_refl _, fun y z c h1 h2 => ?_, fun y hy => ?_, fun y c _ h => ?_, fun _ => hd, Around.frames_deeper e0.frames, .inr ⟨rfl, rfl⟩, fun b z => absurd z (noA b), e0.bs, e0.bsz, fun b _ _ => noA b, fun b z => absurd z (noA b), e0.funs, e0.frf⟩,
    rfl, e0.bare, Un.kept hk, ⟨_, x.toInCall.ns, fun i y v h1 h2 h3 => ?_⟩, fun y c h => ⟨_, x.cell y c h⟩, e0.hok.fresh (Nat.le_refl _), fun y c h => ?_, fun p hp => absurd (show p ∈ ([] : List (Addr × Obj)) from hp) (by simp), e0.hok.kept hk, ?_⟩
  · exact name_of_addr x.apart (PySem.mem_of_lookup h1) (PySem.mem_of_lookup h2)
  · have hy : scope.names.lookup y = some .cell ∨ scope.names.lookup y = some .free := hy
    rcases hy with hy | hy
    · exact cell_has hy
    · exact absurd rfl (S.nofree _ (PySem.mem_of_lookup hy))
  · exact Nat.le_of_lt (x.above y c (PySem.mem_of_lookup h))
  · have hi : i < vs.length := by
      unfold start at h2
      by_cases hi : i < vs.length
      · exact hi
      · rw [List.getElem?_append_right (by simpa using hi)] at h2
        rw [List.getElem?_replicate] at h2
        split at h2 <;> cases h2
    have ha : vs[i]? = some v := by
      unfold start at h2
      rw [List.getElem?_append_left (by simpa using hi), List.getElem?_map] at h2
      cases e : vs[i]? with
      | none => rw [e] at h2; cases h2
      | some a => rw [e] at h2; cases h2; rfl
    obtain ⟨u, hu, rv⟩ := r.get ha
    have hp : ps[i]? = some y := by
      rw [← S.pre, List.getElem?_take_of_lt (by omega)]; exact h1
    have ndP : ps.Nodup := by rw [← S.pre]; exact S.nd.sublist (List.take_sublist _ _)
    refine ⟨u, rv, ?_⟩
    rcases S.par y (List.mem_of_getElem? hp) with k | k
    · exact .inl ⟨k, bindL_get ndP hp hu k⟩
    · obtain ⟨c, e⟩ := cell_has (n := s.heap.objs.size + 1) k
      refine .inr ⟨.inl k, c, e, ?_⟩
      have q := x.cell y c e
      rw [bindC_get ndP hp hu (by show scope.names.lookup y ≠ _; rw [k]; decide)] at q
      exact q
  · exact e0.hok.fresh (Nat.le_of_lt (x.above y c (PySem.mem_of_lookup h)))
  · unfold start
    show _ = N.length
    rw [List.length_append, List.length_map, List.length_replicate]
    omega
theorem fn_of {CX : CXT} {P : Program} {w : World} {K : PySem.W.Frag} {mg : Str → Option Value} {base : Heap} {k : Nat} {f : Addr} {name qual : Str} {params : Arguments} {body : List Stmt} {scope : Scope} {dV kV doc pm cdv ct oc : Value} {an od : Option Addr}
    {osl : Array (Option Value)} {N ps : List Str} {sp : Sp} (lk : K.lookup f = some ⟨oc, od, .func (PySem.W.fnOf name qual params body scope dV kV doc pm an cdv ct), osl⟩) (hcd : PySem.W.codeIn K cdv qual = true) (S : FnScope N ps scope)
    (len : ∀ vs H Q E, sp vs H Q E → vs.length = ps.length)
    (hbody : ∀ (A : Around) (outer : List Env) (s : Shared) (H : Hp) (vs : List V) (Q : VK) (E : XK), Room k (A.deeper (envOfC qual scope s.heap.objs.size f cdv)) → sp vs H Q E →
      ∃ t, PSs (cxOf CX P w K mg base N qual scope f cdv A outer s H E) body t ∧ t { nx := fun _ H' => Q .non H', rt := Q } (start N vs) H) :
    FnOk P w K mg base CX (k + 1) f (PySem.W.fnOf name qual params body scope dV kV doc pm an cdv ct) ps sp := by
  refine ⟨len, fun A outer s H args us vs Q E hr e0 hb r hsp => ?_⟩
  have hl := len _ _ _ _ hsp
  have KX : K.In s.heap := e0.mod.kin.keeps fun b o e => (e0.bs b o e).1
  have lim : s.heap.NoLimit := e0.mod.nolimit.keeps fun b o e => (e0.bs b o e).1
  have hkind : ∀ y ∈ ps.zip us, scope.names.lookup y.1 = some .local ∨ (scope.names.lookup y.1 = some .cell ∧ ((cellsFrom (s.heap.objs.size + 1) scope.names []).lookup y.1).isSome = true) := fun ⟨n, v⟩ hy => by
    rcases S.par n (List.of_mem_zip hy).1 with q | q
    · exact .inl q
    · exact .inr ⟨q, PySem.W.cellsFrom_some _ _ _ (.inl q)⟩
  refine codeAny_call_function hr.depth (KX _ _ lk) rfl S.co S.gen rfl (PySem.W.codeRec_of KX hcd) (hb _ _ _ _ ?_)
  refine wpAny_newFunctionEnv_cells S.kind hkind fun env he s1 x => ?_
  subst he
  refine ⟨lim.keeps x.toInCall.keep, codeAny_func ?_⟩
  obtain ⟨t, ht, hq⟩ := hbody A outer s H vs Q E (hr.deeper _) hsp
  have I : Inv (cxOf CX P w K mg base N qual scope f cdv A outer s H E) [] (start N vs) H s1 := inv_start S hr.hd e0 hl r x
  refine wpAny_mono (ht [] s1 (start N vs) H _ I hq) (fun fl s' hs => ?_) fun e s' hs => hs
  have fin : ∀ {σ' : St} {H' : Hp} {v : V} {u : Value}, Inv (cxOf CX P w K mg base N qual scope f cdv A outer s H E) [] σ' H' s' → RelV v u → Q v H' → CE outer P w H s Q u s' :=
    fun {σ' H' v u} J rv q => ⟨v, H', J.os, J.bare, J.base, J.hok, rv, q⟩
  cases fl with
  | ret u =>
    obtain ⟨v, σ', H', J, rv, q⟩ := hs
    exact fin J rv q
  | next =>
    obtain ⟨σ', H', J, q⟩ := hs
    exact fin (v := V.non) (u := Value.none) J rfl q
  | brk =>
    obtain ⟨_, _, _, q⟩ := hs
    exact False.elim q
  | cont =>
    obtain ⟨_, _, _, q⟩ := hs
    exact False.elim q
end L2
namespace L2
open PySem PySem.Spec PyProof.Rows
section
variable {X : Cx} {x : Str} {p pos : Pos} {e : Expr} {es : List Expr} {t : TA} {id T : String} {r : List V → Hp → VK → Prop}
def tCB (r : List V → Hp → VK → Prop) (t : TA) : TE := fun σ H Q => t σ H fun vs H1 => r vs H1 Q
theorem pe_callB (hc : CallR X (.builtin id) r) (hg : Gl X x) (hm : X.mg x = none) (hv : bootBuiltins x = some (.builtin id)) (ha : PA X (e :: es) t) (hn : x ≠ "__name__" := by decide) (hdb : (x == ("__debug__" : Str)) = false := by decide)
    (he : starEach (e :: es) X.env = (false, eval e X.env) :: starEach es X.env := by rfl) (hpl : (backTo pos (starEach es X.env)).any (·.1) = false := by rfl) : PE X (.Call (.Name x p) (e :: es) [] pos) (tCB r t) := by
  intro pins s σ H Q I h
  refine wpAny_Call_Name_kw (ld_blt I hg hm hv ?_ hn hdb)
  exact PyProof.Rows.callWith_builtin1 (thn (ha pos pins s σ H _ I h) fun us s1 ⟨vs, H1, I1, r1, q1⟩ => hc pins s1 σ H1 vs us Q I1 r1 q1) he hpl
theorem pe_callTy (hc : CallR X (.type T) r) (hg : Gl X x) (hm : X.mg x = none) (hv : bootBuiltins x = some (.type T)) (ha : PA X (e :: es) t) (hn : x ≠ "__name__" := by decide) (hdb : (x == ("__debug__" : Str)) = false := by decide)
    (he : starEach (e :: es) X.env = (false, eval e X.env) :: starEach es X.env := by rfl) (hpl : (backTo pos (starEach es X.env)).any (·.1) = false := by rfl) : PE X (.Call (.Name x p) (e :: es) [] pos) (tCB r t) := by
  intro pins s σ H Q I h
  refine wpAny_Call_Name_kw (ld_blt I hg hm hv ?_ hn hdb)
  exact PyProof.Rows.callWith_type1 (thn (ha pos pins s σ H _ I h) fun us s1 ⟨vs, H1, I1, r1, q1⟩ => hc pins s1 σ H1 vs us Q I1 r1 q1) he hpl
end
end L2
namespace HT
open PySem PyProof.Rows
section
open PySem.SeqAt
open PySem.AutoSeq1 (wpAny_loadPart')
open PySem.MeetsSeq PySem.MeetsSeq2 PySem.MeetsSeq3
end
section
variable {prog : Program} {w : World} {A : Around} {E : Value → Shared → Prop} {s : Shared}
def sIx (n d : Nat) : Option Int → Nat
  | none => d
  | some v => if v < 0 then (v + (n : Int)).toNat else min v.toNat n
theorem sIx_none (n d : Nat) : sIx n d none = d := rfl
theorem sIx_nat (n d k : Nat) : sIx n d (some (k : Int)) = min k n := by
  show (if (k : Int) < 0 then ((k : Int) + (n : Int)).toNat else min (k : Int).toNat n) = min k n
  rw [if_neg (by omega), Int.toNat_natCast]
end
end HT
namespace L2
open PySem PySem.Spec PyProof.Rows
abbrev TO := St → Hp → (Option Int → Hp → Prop) → Prop
def PO (X : Cx) (e : Option Expr) (t : TO) : Prop :=
  ∀ (pins : List (Addr × Obj)) (s : Shared) (σ : St) (H : Hp) (Q : Option Int → Hp → Prop), Inv X pins σ H s → t σ H Q →
    wpAny (model X.prog X.w) X.A (evalPart e X.env) (fun u s' => ∃ o H', Inv X pins σ H' s' ∧ IsPart u o ∧ Q o H') X.xe s
def tNoPart : TO := fun _ H Q => Q none H
def tPart (t : TE) : TO := fun σ H Q => t σ H fun x H1 => ∃ i, x = .int i ∧ Q (some i) H1
section
variable {X : Cx} {e : Expr} {te : TE} {lo hi : Option Expr} {tl th : TO} {pos p2 : Pos}
theorem po_none : PO X none tNoPart := by
  intro pins s σ H Q I h
  rw [evalPart_none]
  exact wpAny_pure ⟨none, H, I, .none, h⟩
theorem po_some (h : PE X e te) : PO X (some e) (tPart te) := by
  intro pins s σ H Q I hw
  rw [evalPart_some]
  refine thn (h pins s σ H _ I hw) fun u s1 ⟨x, H1, I1, r1, q1⟩ => ?_
  obtain ⟨i, rfl, q⟩ := q1
  obtain ⟨t, rfl⟩ := r1
  exact ⟨some i, H1, I1, .int i t, q⟩
def SlR (X : Cx) (r : V → Option Int → Option Int → Hp → VK → Prop) : Prop :=
  ∀ (pins : List (Addr × Obj)) (s : Shared) (σ : St) (H : Hp) (x : V) (v vl vu : Value) (lo hi : Option Int) (sl : Addr) (Q : VK), Inv X pins σ H s → RelV x v → s.heap.IsSliceOf sl vl vu .none → IsPart vl lo → IsPart vu hi → r x lo hi H Q →
    ∃ T id, typeLookup (.type T) "__getitem__" = pure (some (.builtin id)) ∧ s.TypeIs v T ∧ wpAny (model X.prog X.w) X.A (getItem v (.ref sl)) (EP X pins σ Q) X.xe s
def tSl (r : V → Option Int → Option Int → Hp → VK → Prop) (te : TE) (tl th : TO) : TE := fun σ H Q => te σ H fun x H1 => tl σ H1 fun l H2 => th σ H2 fun u H3 => r x l u H3 Q
theorem pe_slice {r : V → Option Int → Option Int → Hp → VK → Prop} (hr : SlR X r) (he : PE X e te) (hl : PO X lo tl) (hu : PO X hi th) : PE X (.Subscript e (.Slice lo hi none p2) pos) (tSl r te tl th) := by
  intro pins s σ H Q I h
  refine Subscript_ (thn (he pins s σ H _ I h) fun v s1 ⟨x, H1, I1, r1, q1⟩ => ?_)
  refine wpAny_Slice (thn (hl pins s1 σ H1 _ I1 q1) fun vl s2 ⟨l, H2, I2, pl, q2⟩ => thn (hu pins s2 σ H2 _ I2 q2) fun vu s3 ⟨u, H3, I3, pu, q3⟩ => ?_)
  rw [evalPart_none]
  refine wpAny_pure ?_
  have I4 : Inv X pins σ H3 { s3 with heap := s3.heap.push { cls := .type "slice", data := .fields #[vl, vu, .none] } } := I3.kept (t' := s3.toks) fun b ob q => Heap.get?_push_of_some _ q
  obtain ⟨T, id, hT, ht, hg⟩ := hr pins { s3 with heap := s3.heap.push { cls := .type "slice", data := .fields #[vl, vu, .none] } } σ H3 x v vl vu l u s3.heap.objs.size Q I4 r1 (Heap.IsSliceOf.new ..) pl pu q3
  show wpAny (model X.prog X.w) X.A (subscriptTail e (.Slice lo hi none p2) v (.ref s3.heap.objs.size)) (EP X pins σ Q) X.xe { s3 with heap := s3.heap.push { cls := .type "slice", data := .fields #[vl, vu, .none] } }
  exact tail_any (ops := [.ref s3.heap.objs.size, v]) ht hT hg (by with_unfolding_all rfl)
def cutV (xs : List V) (lo hi : Option Int) : List V := (xs.drop (HT.sIx xs.length 0 lo)).take (HT.sIx xs.length xs.length hi - HT.sIx xs.length 0 lo)
theorem cutV_length (xs : List V) (lo hi : Option Int) : (cutV xs lo hi).length ≤ xs.length := by
  unfold cutV
  rw [List.length_take, List.length_drop]
  omega
end
end L2
namespace L2
open PySem PySem.Spec PyProof.Rows
def ixN (n : Nat) (i : Int) : Option Nat := if 0 ≤ i then (if i < n then some i.toNat else none) else if -(n : Int) ≤ i then some (i + n).toNat else none
def atI {α : Type} (xs : List α) (i : Int) : Option α := (ixN xs.length i).bind fun j => xs[j]?
theorem ixN_seq {n : Nat} {i : Int} {j : Nat} (h : ixN n i = some j) : seqIndex? i n = some j ∧ j < n ∧ -(n : Int) ≤ i ∧ i < n := by
  unfold ixN at h
  by_cases h0 : 0 ≤ i
  · rw [if_pos h0] at h
    by_cases h1 : i < n
    · rw [if_pos h1] at h
      have e : i.toNat = j := Option.some.inj h
      exact ⟨by rw [seqIndex_of h0 h1, e], by omega, by omega, h1⟩
    · rw [if_neg h1] at h; cases h
  · rw [if_neg h0] at h
    by_cases h1 : -(n : Int) ≤ i
    · rw [if_pos h1] at h
      have e : (i + n).toNat = j := Option.some.inj h
      exact ⟨by rw [seqIndex_neg (by omega) h1, e], by omega, h1, by omega⟩
    · rw [if_neg h1] at h; cases h
theorem atI_get {α : Type} {xs : List α} {i : Int} {v : α} (h : atI xs i = some v) : ∃ j, seqIndex? i xs.length = some j ∧ xs[j]? = some v ∧ j < xs.length ∧ -(xs.length : Int) ≤ i ∧ i < xs.length := by
  unfold atI at h
  cases e : ixN xs.length i with
  | none => rw [e] at h; cases h
  | some j =>
    rw [e] at h
    obtain ⟨h1, h2, h3, h4⟩ := ixN_seq e
    exact ⟨j, h1, h, h2, h3, h4⟩
theorem atI_nat {α : Type} {xs : List α} {j : Nat} {v : α} (h : xs[j]? = some v) : atI xs (j : Int) = some v := by
  have hj : j < xs.length := (List.getElem?_eq_some_iff.mp h).1
  have e : ixN xs.length (j : Int) = some j := by
    unfold ixN
    rw [if_pos (by omega), if_pos (by omega)]; simp
  unfold atI; rw [e]; exact h
def PlainIx (b : Expr) : Prop := ∀ o i, subscripted b false o i = operate [o, i] (getItem o i)
def IxR (X : Cx) (r : R2) : Prop :=
  ∀ (value slice : Expr) (pins : List (Addr × Obj)) (s : Shared) (σ : St) (H : Hp) (x y : V) (v u : Value) (Q : VK), Inv X pins σ H s → RelV x v → RelV y u → r x y H Q →
    subscripted slice false v u = operate [v, u] (getItem v u) → wpAny (model X.prog X.w) X.A (subscriptTail value slice v u) (EP X pins σ Q) X.xe s
def MtR (X : Cx) (id : String) (r : V → List V → Hp → VK → Prop) : Prop :=
  ∀ (pins : List (Addr × Obj)) (s : Shared) (σ : St) (H : Hp) (x : V) (xs : List V) (v : Value) (us : List Value) (Q : VK), Inv X pins σ H s → RelV x v → Vals xs us → r x xs H Q →
    wpAny (model X.prog X.w) X.A (call (.builtin id) (v :: us)) (EP X pins σ Q) X.xe s
section
variable {X : Cx} {a b : Expr} {ta tb : TE} {pos : Pos}
theorem pe_ix {r : R2} (hr : IxR X r) (ha : PE X a ta) (hb : PE X b tb) (hs : PlainIx b) : PE X (.Subscript a b pos) (tOp r ta tb) := by
  intro pins s σ H Q I h
  exact Subscript_ (binT ha hb I h fun v u s2 x y H2 I2 rx ry q => hr a b pins s2 σ H2 x y v u Q I2 rx ry q (hs _ _))
def rIxL (K : PySem.W.Frag) : R2 := fun x y H Q => ∃ p xs i v, x = .ref p ∧ y = .int i ∧ SqL K H p xs ∧ atI xs i = some v ∧ Q v H
def rIxT (K : PySem.W.Frag) : R2 := fun x y H Q => ∃ p xs i v, x = .ref p ∧ y = .int i ∧ SqT K H p xs ∧ atI xs i = some v ∧ Q v H
def rIxS : R2 := fun x y H Q => ∃ z i c, x = .str z ∧ y = .int i ∧ z.length ≤ sizeLine ∧ atI z.cps.toList i = some c ∧ Q (.str ⟨#[c]⟩) H
theorem ix_list : IxR X (rIxL X.K) := by
  intro value slice pins s σ H x y v u Q I rx ry h hs
  obtain ⟨p, xs, i, z, rfl, rfl, hq, he, q⟩ := h
  cases rx
  obtain ⟨t, rfl⟩ := ry
  obtain ⟨its, r, pl, hz⟩ := I.list hq
  obtain ⟨j, h1, h2, h3, h4, h5⟩ := atI_get he
  obtain ⟨w, ew, rw'⟩ := r.get h2
  have hl := r.length
  have hn := line63
  have fin : EP X pins σ Q w s := ⟨z, H, I, rw', q⟩
  by_cases h0 : 0 ≤ i
  · have hj : i.toNat = j := by
      rw [seqIndex_of h0 h5] at h1
      exact Option.some.inj h1
    exact item_listR pl.isList h0 (by omega) (by rw [hj]; simpa using ew) fin hs
  · have hj : (i + (its.toArray.size : Int)).toNat = j := by
      rw [seqIndex_neg (by omega) h4] at h1
      rw [List.size_toArray, ← hl]
      exact Option.some.inj h1
    exact subscriptTail_builtinR (x := w) pl.isList.typeIs slot_list_getitem.lookup
      (wpAny_getItem_list_neg (Q := fun r s' => r = w ∧ EP X pins σ Q r s') pl.isList (by omega) (by rw [List.size_toArray] <;> omega) (by omega) (by rw [hj]; simpa using ew) ⟨rfl, fin⟩) hs
theorem ix_tup : IxR X (rIxT X.K) := by
  intro value slice pins s σ H x y v u Q I rx ry h hs
  obtain ⟨p, xs, i, z, rfl, rfl, hq, he, q⟩ := h
  cases rx
  obtain ⟨t, rfl⟩ := ry
  obtain ⟨its, r, pl, hz⟩ := I.tuple hq
  obtain ⟨j, h1, h2, h3, h4, h5⟩ := atI_get he
  obtain ⟨w, ew, rw'⟩ := r.get h2
  have hl := r.length
  have hn := line63
  have fin : EP X pins σ Q w s := ⟨z, H, I, rw', q⟩
  exact subscriptTail_builtinR (x := w) pl.typeIs slot_tuple_getitem.lookup
    (getItem_tuple (j := j) (Q := fun r s' => r = w ∧ EP X pins σ Q r s') pl (by omega) (by omega) (by rw [List.size_toArray, ← hl]; exact h1) (by simpa using ew) ⟨rfl, fin⟩) hs
theorem ix_str : IxR X rIxS := by
  intro value slice pins s σ H x y v u Q I rx ry h hs
  obtain ⟨z, i, c, rfl, rfl, hz, he, q⟩ := h
  obtain ⟨t, rfl⟩ := rx
  obtain ⟨t', rfl⟩ := ry
  obtain ⟨j, h1, h2, h3, h4, h5⟩ := atI_get he
  have hl : z.cps.toList.length = z.length := by simp [Str.length]
  rw [hl] at h1 h4 h5
  have hn := line63
  exact tail_any (typeIs_str s z t) slot_str_getitem.lookup (getItem_str (c := c) (by
    have e1 : decide (i < -(2 ^ 63 : Int)) = false := decide_eq_false (by omega)
    have e2 : decide (i ≥ 2 ^ 63) = false := decide_eq_false (by omega)
    rw [e1, e2, Bool.or_false]) (by rw [h1]; simpa using h2) ⟨.str ⟨#[c]⟩, H, I.tok _, ⟨_, rfl⟩, q⟩) hs
theorem slice_bounds (lo hi : Option Int) (n : Nat) : (sliceBounds lo hi none n).1 = ((HT.sIx n 0 lo : Nat) : Int) ∧ (sliceBounds lo hi none n).2.1 = ((HT.sIx n n hi : Nat) : Int) ∧ (sliceBounds lo hi none n).2.2 = 1 := by
  refine ⟨?_, ?_, rfl⟩
  · cases lo with
    | none => simp [sliceBounds, HT.sIx]
    | some i =>
      simp only [sliceBounds, HT.sIx, Option.getD_none, show (1 : Int) > 0 by decide, if_true]
      by_cases h : i < 0
      · simp only [h, if_true] <;> omega
      · simp only [h, if_false] <;> omega
  · cases hi with
    | none => simp [sliceBounds, HT.sIx]
    | some i =>
      simp only [sliceBounds, HT.sIx, Option.getD_none, show (1 : Int) > 0 by decide, if_true]
      by_cases h : i < 0
      · simp only [h, if_true] <;> omega
      · simp only [h, if_false] <;> omega
theorem slicePick_cut (its : List Value) (lo hi : Option Int) : slicePick its.toArray lo hi none = ((its.drop (HT.sIx its.length 0 lo)).take (HT.sIx its.length its.length hi - HT.sIx its.length 0 lo)).toArray := by
  obtain ⟨h1, h2, h3⟩ := slice_bounds lo hi its.toArray.size
  unfold slicePick
  rw [h1, h2, h3]
  simp only [sliceRange_one, pick_run, List.size_toArray] <;> rfl
def rSlL (K : PySem.W.Frag) : V → Option Int → Option Int → Hp → VK → Prop := fun x lo hi H Q => ∃ a xs, x = .ref a ∧ SqL K H a xs ∧ ∀ p, H p = none → Q (.ref p) (upd H p (.lst (cutV xs lo hi)))
theorem sl_list : SlR X (rSlL X.K) := by
  intro pins s σ H x v vl vu lo hi sl Q I rx hs pl pu h
  obtain ⟨a, xs, rfl, hx, q⟩ := h
  cases rx
  obtain ⟨its, r, ht, hz⟩ := I.list hx
  have hlen := r.length
  refine ⟨"list", _, slot_list_getitem.lookup, ht.isList.typeIs, ?_⟩
  refine wpAny_getItem_list_slice ht.isList hs pl pu .none (by simp) ?_ (by rw [List.size_toArray] <;> omega)
  rw [slicePick_cut, ← hlen]
  refine ⟨.ref s.heap.objs.size, _, I.laid (t' := s.toks) (o := .lst (cutV xs lo hi)) (fun b ob q => Heap.get?_push_of_some _ q) (Nat.le_refl _) ?_, rfl, q _ (I.hok.fresh (Nat.le_refl _))⟩
  exact ⟨Nat.le_trans (cutV_length xs lo hi) hz, _, 0, (r.drop (HT.sIx xs.length 0 lo)).take (HT.sIx xs.length xs.length hi - HT.sIx xs.length 0 lo), Heap.get?_push_size _ rfl⟩
def flatV : V → Bool
  | .non => true
  | .bl _ => true
  | .int _ => true
  | .str _ => true
  | _ => false
def eqV : V → V → Bool
  | .non, .non => true
  | .bl a, .bl b => a == b
  | .bl a, .int b => (if a then 1 else 0) == b
  | .int a, .bl b => a == (if b then 1 else 0)
  | .int a, .int b => a == b
  | .str a, .str b => a == b
  | _, _ => false
theorem eqAt_V {A : Around} {s : Shared} {y x : V} {u v : Value} (ry : RelV y u) (rx : RelV x v) (fy : flatV y = true) (fx : flatV x = true) : SeqAt.EqAt A s u v (eqV y x) := by
  cases y with
  | non =>
    cases ry
    cases x with
    | non => cases rx; exact SeqAt.EqAt.same _
    | bl b => cases rx; exact SeqAt.EqAt.none_bool b
    | int b => obtain ⟨t, rfl⟩ := rx; exact SeqAt.EqAt.none_int b t
    | str b => obtain ⟨t, rfl⟩ := rx; exact SeqAt.EqAt.none_str b t
    | _ => exact absurd (show false = true from fx) Bool.false_ne_true
  | bl a =>
    cases ry
    cases x with
    | non => cases rx; exact SeqAt.EqAt.bool_none a
    | bl b => cases rx; exact SeqAt.EqAt.bool_bool a b
    | int b => obtain ⟨t, rfl⟩ := rx; exact SeqAt.EqAt.bool_int a b t
    | str b => obtain ⟨t, rfl⟩ := rx; exact SeqAt.EqAt.bool_str a b t
    | _ => exact absurd (show false = true from fx) Bool.false_ne_true
  | int a =>
    obtain ⟨t', rfl⟩ := ry
    cases x with
    | non => cases rx; exact SeqAt.EqAt.int_none a t'
    | bl b => cases rx; exact SeqAt.EqAt.int_bool a t' b
    | int b => obtain ⟨t, rfl⟩ := rx; exact SeqAt.EqAt.int_int a t' b t
    | str b => obtain ⟨t, rfl⟩ := rx; exact SeqAt.EqAt.int_str a t' b t
    | _ => exact absurd (show false = true from fx) Bool.false_ne_true
  | str a =>
    obtain ⟨t', rfl⟩ := ry
    cases x with
    | non => cases rx; exact SeqAt.EqAt.str_none a t'
    | bl b => cases rx; exact SeqAt.EqAt.str_bool a t' b
    | int b => obtain ⟨t, rfl⟩ := rx; exact SeqAt.EqAt.str_int a t' b t
    | str b => obtain ⟨t, rfl⟩ := rx; exact SeqAt.EqAt.str_str a t' b t
    | _ => exact absurd (show false = true from fx) Bool.false_ne_true
  | _ => exact absurd (show false = true from fy) Bool.false_ne_true
def eqU (x : V) (u : Value) : Bool := match u with
  | .none => eqV .non x
  | .bool b => eqV (.bl b) x
  | .int i _ => eqV (.int i) x
  | .str z _ => eqV (.str z) x
  | _ => false
theorem eqU_of {x y : V} {u : Value} (r : RelV y u) (f : flatV y = true) : eqU x u = eqV y x := by
  cases y with
  | non => cases r; rfl
  | bl b => cases r; rfl
  | int i => obtain ⟨t, rfl⟩ := r; rfl
  | str z => obtain ⟨t, rfl⟩ := r; rfl
  | _ => exact absurd (show false = true from f) Bool.false_ne_true
theorem any_eqU {x : V} : ∀ {xs : List V} {us : List Value}, Vals xs us → xs.all flatV = true → us.any (eqU x) = xs.any fun y => eqV y x
  | _, _, .nil, _ => rfl
  | y :: xs, u :: us, .cons r t, f => by
    rw [List.all_cons, Bool.and_eq_true] at f
    rw [List.any_cons, List.any_cons, eqU_of r f.1, any_eqU t f.2]
theorem mem_eqAt {A : Around} {s : Shared} {x : V} {v : Value} (rx : RelV x v) (fx : flatV x = true) : ∀ {xs : List V} {us : List Value}, Vals xs us → xs.all flatV = true → ∀ u ∈ us, SeqAt.EqAt A s u v (eqU x u)
  | _, _, .nil, _ => fun u hu => by cases hu
  | y :: xs, u :: us, .cons r t, f => fun u' hu => by
    rw [List.all_cons, Bool.and_eq_true] at f
    rcases List.mem_cons.mp hu with rfl | hu
    · rw [eqU_of r f.1]; exact eqAt_V r rx f.1 fx
    · exact mem_eqAt rx fx t f.2 u' hu
def inV (x : V) (xs : List V) : Bool := xs.any fun y => eqV y x
def rIn (K : PySem.W.Frag) (neg : Bool) : R2 := fun x y H Q => ∃ p xs, y = .ref p ∧ (SqL K H p xs ∨ SqT K H p xs) ∧ flatV x = true ∧ xs.all flatV = true ∧ Q (.bl (if neg then !inV x xs else inV x xs)) H
theorem op_in_seq : OpR X (compareOp .In) (rIn X.K false) := by
  intro pins s σ H x y v u Q I rx ry h
  obtain ⟨p, xs, rfl, hq, fx, fs, q⟩ := h
  cases ry
  rcases hq with hq | hq
  · obtain ⟨its, r, pl, hz⟩ := I.list hq
    refine SeqAt.in_listAt (eqU x) pl.isList (fun w hw => mem_eqAt rx fx r fs w (by simpa using hw)) ⟨.bl _, H, I, rfl, ?_⟩
    rw [show its.toArray.any (eqU x) = its.any (eqU x) by simp, any_eqU r fs]
    exact q
  · obtain ⟨its, r, pl, hz⟩ := I.tuple hq
    refine SeqAt.in_tupleAt (eqU x) pl (fun w hw => mem_eqAt rx fx r fs w (by simpa using hw)) ⟨.bl _, H, I, rfl, ?_⟩
    rw [show its.toArray.any (eqU x) = its.any (eqU x) by simp, any_eqU r fs]
    exact q
theorem op_notIn_seq : OpR X (compareOp .NotIn) (rIn X.K true) := by
  intro pins s σ H x y v u Q I rx ry h
  obtain ⟨p, xs, rfl, hq, fx, fs, q⟩ := h
  cases ry
  rcases hq with hq | hq
  · obtain ⟨its, r, pl, hz⟩ := I.list hq
    refine SeqAt.notIn_listAt (eqU x) pl.isList (fun w hw => mem_eqAt rx fx r fs w (by simpa using hw)) ⟨.bl _, H, I, rfl, ?_⟩
    rw [show its.toArray.any (eqU x) = its.any (eqU x) by simp, any_eqU r fs]
    exact q
  · obtain ⟨its, r, pl, hz⟩ := I.tuple hq
    refine SeqAt.notIn_tupleAt (eqU x) pl (fun w hw => mem_eqAt rx fx r fs w (by simpa using hw)) ⟨.bl _, H, I, rfl, ?_⟩
    rw [show its.toArray.any (eqU x) = its.any (eqU x) by simp, any_eqU r fs]
    exact q
theorem call_len_seq : CallR X (.builtin "len") (fun xs H Q => ∃ p ys, xs = [.ref p] ∧ (SqL X.K H p ys ∨ SqT X.K H p ys) ∧ Q (.int ys.length) H) := by
  intro pins s σ H xs us Q I r h
  obtain ⟨p, ys, rfl, hq, q⟩ := h
  obtain ⟨u, rfl, rx⟩ := vals1 r
  cases rx
  have hn := line63
  rcases hq with hq | hq
  · obtain ⟨its, r', pl, hz⟩ := I.list hq
    have hlen := r'.length
    exact Calls.call_len_list pl.isList (by simp only [List.size_toArray] <;> omega) ⟨.int ys.length, H, I.tok _, ⟨s.toks + 1, by rw [List.size_toArray, hlen]⟩, q⟩
  · obtain ⟨its, r', pl, hz⟩ := I.tuple hq
    have hlen := r'.length
    exact len_tuple pl (by simp only [List.size_toArray] <;> omega) ⟨.int ys.length, H, I.tok _, ⟨s.toks + 1, by rw [List.size_toArray, hlen]⟩, q⟩
theorem call_list_of : CallR X (.type "list") (fun xs H Q => ∃ p ys, xs = [.ref p] ∧ (SqL X.K H p ys ∨ SqT X.K H p ys) ∧ ∀ l, H l = none → Q (.ref l) (upd H l (.lst ys))) := by
  intro pins s σ H xs us Q I r h
  obtain ⟨p, ys, rfl, hq, q⟩ := h
  obtain ⟨u, rfl, rx⟩ := vals1 r
  cases rx
  have fin : ∀ (its : List Value), Vals ys its → ys.length ≤ sizeLine → ∀ (h' : Heap) (c' : Nat), (∀ b o', s.heap.get? b = some o' → h'.get? b = some o') →
      h'.get? s.heap.objs.size = some { cls := .type "list", dict := none, data := .seq its.toArray c', slots := #[] } → EP X pins σ Q (.ref s.heap.objs.size) { s with heap := h' } := fun its r' hz h' c' kp e =>
    ⟨.ref s.heap.objs.size, _, I.laid (t' := s.toks) kp (Nat.le_refl _) (show ObjOk X.prog X.w _ h' _ (.lst ys) from ⟨hz, its, c', r', e⟩), rfl, q _ (I.hok.fresh (Nat.le_refl _))⟩
  rcases hq with hq | hq
  · obtain ⟨its, r', pl, hz⟩ := I.list hq
    have hlen := r'.length
    obtain ⟨o, ho, hc, n, hd⟩ := pl.isList
    exact call_list_seq p (.inl rfl) ho hc hd (fun h' c' kp e => fin its r' hz h' c' kp e) (by simp only [List.size_toArray] <;> omega)
  · obtain ⟨its, r', pl, hz⟩ := I.tuple hq
    have hlen := r'.length
    obtain ⟨o, ho, hc, n, hd⟩ := pl
    exact call_list_seq p (.inr rfl) ho hc hd (fun h' c' kp e => fin its r' hz h' c' kp e) (by simp only [List.size_toArray] <;> omega)
def tyV (K : PySem.W.Frag) (T : String) (x : V) (H : Hp) : Prop := match x with
  | .str _ => T = "str"
  | .int _ => T = "int"
  | .ref p => (T = "list" ∧ ∃ xs, SqL K H p xs) ∨ (T = "tuple" ∧ ∃ o, K.lookup p = some o ∧ o.cls = .type "tuple" ∧ o.dict = none) ∨
      (T = "dict" ∧ ((∃ kvs, H p = some (.dK kvs)) ∨ ∃ kvs, H p = some (.dT kvs))) ∨ (T = "set" ∧ ∃ S n, H p = some (.set S n))
  | _ => False
theorem tyV_is {pins : List (Addr × Obj)} {σ : St} {H : Hp} {s : Shared} {T : String} {x : V} {v : Value} (I : Inv X pins σ H s) (r : RelV x v) (ty : tyV X.K T x H) :
    s.TypeIs v T ∧ ∀ a, v = .ref a → ∃ ob, s.heap.get? a = some ob ∧ ob.dict = none := by
  cases x with
  | str z =>
    obtain ⟨t, rfl⟩ := r
    cases (show T = "str" from ty)
    exact ⟨typeIs_str s z t, fun _ e => nomatch e⟩
  | int i =>
    obtain ⟨t, rfl⟩ := r
    cases (show T = "int" from ty)
    exact ⟨typeIs_int s i t, fun _ e => nomatch e⟩
  | ref p =>
    cases r
    rcases ty with ⟨rfl, xs, hq⟩ | ⟨rfl, o, hk, hc, hd⟩ | ⟨rfl, hk⟩ | ⟨rfl, S, n, hk⟩
    · obtain ⟨its, _, pl, _⟩ := I.list hq
      refine ⟨pl.isList.typeIs, fun a e => ?_⟩
      cases e
      obtain ⟨o, n, e, c, hd, _⟩ := pl
      exact ⟨o, e, hd⟩
    · refine ⟨⟨o, I.kIn p o hk, hc⟩, fun a e => ?_⟩
      cases e
      exact ⟨o, I.kIn _ o hk, hd⟩
    · have z : ∃ o, s.heap.get? p = some o ∧ o.ExactDict := by
        rcases hk with ⟨kvs, hk⟩ | ⟨kvs, hk⟩
        · obtain ⟨_, _, _, _, o, _, _, e, ex, _⟩ := I.hok p _ hk
          exact ⟨o, e, ex⟩
        · obtain ⟨_, _, _, _, o, _, _, e, ex, _⟩ := I.hok p _ hk
          exact ⟨o, e, ex⟩
      obtain ⟨o, e, ex⟩ := z
      refine ⟨⟨o, e, ex.1⟩, fun a e2 => ?_⟩
      cases e2
      exact ⟨o, e, ex.2.1⟩
    · obtain ⟨o, _, _, _, e, ex, _⟩ := I.hok p _ hk
      refine ⟨⟨o, e, ex.1⟩, fun a e2 => ?_⟩
      cases e2
      exact ⟨o, e, ex.2.1⟩
  | _ => exact False.elim ty
def tBM0 (K : PySem.W.Frag) (T : String) (r : V → List V → Hp → VK → Prop) (to : TE) : TE := fun σ H Q => to σ H fun x H1 => tyV K T x H1 ∧ r x [] H1 Q
def tBM (K : PySem.W.Frag) (T : String) (r : V → List V → Hp → VK → Prop) (to : TE) (t : TA) : TE := fun σ H Q => to σ H fun x H1 => tyV K T x H1 ∧ t σ H1 fun xs H2 => r x xs H2 Q
variable {o e : Expr} {es : List Expr} {to : TE} {t : TA} {name : Str} {apos cpos : Pos} {T id : String} {r : V → List V → Hp → VK → Prop}
theorem pe_bm0 (pa : PlainAttrs T) (slot : Slot T name id) (hty : typeOf (.builtin id) = pure (.type "method_descriptor")) (hm : MtR X id r) (ho : PE X o to)
    (hbase : attributeBase o name X.env (eval o X.env) = eval o X.env := by rfl) (hline : (apos.endLine == cpos.line) = true := by rfl) : PE X (.Call (.Attribute o name apos) [] [] cpos) (tBM0 X.K T r to) := by
  intro pins s σ H Q I h
  refine wpAny_Call_method0_late hbase hline (thn (ho pins s σ H _ I h) fun v s1 ⟨x, H1, I1, r1, ty, q1⟩ => ?_)
  obtain ⟨h1, h2⟩ := tyV_is I1 r1 ty
  exact ⟨T, id, pa, slot, hty, h1, h2, Calls.callWith_builtin rfl (PySem.evalArgs_none (hm pins s1 σ H1 x [] v [] Q I1 r1 .nil q1))⟩
theorem pe_bm (pa : PlainAttrs T) (slot : Slot T name id) (hty : typeOf (.builtin id) = pure (.type "method_descriptor")) (hm : MtR X id r) (ho : PE X o to) (ha : PA X (e :: es) t)
    (hbase : attributeBase o name X.env (eval o X.env) = eval o X.env := by rfl)
    (hfew : ((backTo cpos (starEach (e :: es) X.env)).all (fun x => !x.1) && (backToKw cpos (keywordEach [] X.env)).all (fun x => x.1.isSome)
      && decide ((e :: es).length + ([] : List Keyword).length + (if ([] : List Keyword).isEmpty then 0 else 1) < 30)) = true := by rfl)
    (hline : (apos.endLine == cpos.line) = true := by rfl) (hs : starEach (e :: es) X.env = (false, eval e X.env) :: starEach es X.env := by rfl) (hplain : (backTo cpos (starEach es X.env)).any (·.1) = false := by rfl) :
    PE X (.Call (.Attribute o name apos) (e :: es) [] cpos) (tBM X.K T r to t) := by
  intro pins s σ H Q I h
  refine wpAny_Call_method_late hbase hfew hline rfl (thn (ho pins s σ H _ I h) fun v s1 ⟨x, H1, I1, r1, ty, q1⟩ => ?_)
  obtain ⟨h1, h2⟩ := tyV_is I1 r1 ty
  refine ⟨T, id, pa, slot, hty, h1, h2, ?_⟩
  have hA := ha cpos pins s1 σ H1 _ I1 q1
  rw [hs] at hA ⊢
  refine Calls.callWith_builtin (by show (false || (backTo cpos (starEach es X.env)).any (·.1)) = false; rw [hplain] <;> rfl) (Calls.evalArgs_plain ?_)
  exact thn hA fun us s2 ⟨vs, H2, I2, r2, q2⟩ => hm pins s2 σ H2 x vs v us Q I2 r1 r2 q2
end
end L2
namespace L2
open PySem PySem.Spec PyProof.Rows
def MtM (X : Cx) (id : String) (r : V → List V → Hp → VK → Prop) : Prop :=
  ∀ (pins : List (Addr × Obj)) (s : Shared) (σ : St) (H : Hp) (x : V) (xs : List V) (v : Value) (us : List Value) (Q : VK), Inv X pins σ H s → RelV x v → Vals xs us → r x xs H Q →
    wpAny (model X.prog X.w) X.A (call (.builtin id) (v :: us)) (EP X pins σ Q) X.xe s
theorem Vals.one : ∀ {x : V} {us : List Value}, Vals [x] us → ∃ u, us = [u] ∧ RelV x u
  | _, _, .cons r .nil => ⟨_, rfl, r⟩
theorem Vals.zero : ∀ {us : List Value}, Vals [] us → us = []
  | _, .nil => rfl
section
variable {X : Cx} {pins : List (Addr × Obj)} {σ : St} {H : Hp} {s : Shared} {l b : Addr} {xs ys zs : List V}
theorem Inv.lset {its its' : List Value} {n : Nat} {f : Array Value → Array Value} {t' : Nat} (I : Inv X pins σ H s) (hH : H l = some (.lst xs))
    (e : s.heap.get? l = some { cls := .type "list", data := .seq its.toArray n }) (hf : f its.toArray = its'.toArray) (hv : Vals ys its') (hz : ys.length ≤ sizeLine) :
    Inv X pins σ (upd H l (.lst ys)) { s with heap := s.heap.update l (Obj.mapSeq f), toks := t' } := by
  have q := PySem.IsL.update e f
  rw [hf] at q
  refine I.write (x := l) (e := l) (by rw [hH]; exact trivial) (.inl rfl) (fun b' u hb hu => (Heap.get?_update_other s.heap (Obj.mapSeq f) (Ne.symm hb)).trans hu) ⟨_, q⟩ ?_
  exact ⟨hz, its', _, hv, q⟩
theorem Inv.lnew {its : List Value} {t' : Nat} (I : Inv X pins σ H s) (hv : Vals ys its) (hz : ys.length ≤ sizeLine) :
    Inv X pins σ (upd H s.heap.objs.size (.lst ys)) { s with heap := s.heap.push { cls := .type "list", data := .seq its.toArray }, toks := t' } :=
  I.laid (fun _ _ q => Heap.get?_push_of_some _ q) (Nat.le_refl _) ⟨hz, its, 0, hv, Heap.get?_push_size _ rfl⟩
theorem Inv.fresh (I : Inv X pins σ H s) : H s.heap.objs.size = none := I.hok.fresh (Nat.le_refl _)
theorem Inv.lstM (I : Inv X pins σ H s) (hH : H l = some (.lst xs)) : xs.length ≤ sizeLine ∧ ∃ (its : List Value) (n : Nat), Vals xs its ∧ xs.length = its.length ∧ s.heap.get? l = some { cls := .type "list", data := .seq its.toArray n } := by
  obtain ⟨z, its, n, r, e⟩ := I.hok l _ hH
  exact ⟨z, its, n, r, r.length, e⟩
end
section
variable {X : Cx}
def rAppend : V → List V → Hp → VK → Prop := fun x vs H Q => ∃ l xs y, x = .ref l ∧ vs = [y] ∧ H l = some (.lst xs) ∧ xs.length < sizeLine ∧ Q .non (upd H l (.lst (xs ++ [y])))
theorem mt_append : MtM X "list.append" rAppend := by
  intro pins s σ H x vs v us Q I rx rv h
  obtain ⟨l, xs, y, rfl, rfl, hH, hz, q⟩ := h
  cases rx
  obtain ⟨u, rfl, ru⟩ := rv.one
  obtain ⟨z, its, n, r, hl, e⟩ := I.lstM hH
  refine call_meets F.slot_list_append ⟨_, e, rfl⟩ F.entry_list_append (F.args_list_append_2 _ _) (PySem.list_append l its.toArray n u (by rw [List.size_toArray]; omega)) ⟨e, ?_⟩
  refine ⟨.non, _, I.lset (its' := its ++ [u]) hH e (by simp) (r.append (.cons ru .nil)) ?_, rfl, q⟩
  rw [List.length_append, List.length_singleton]
  omega
def rClear : V → List V → Hp → VK → Prop := fun x vs H Q => ∃ l xs, x = .ref l ∧ vs = [] ∧ H l = some (.lst xs) ∧ Q .non (upd H l (.lst []))
theorem mt_clear : MtM X "list.clear" rClear := by
  intro pins s σ H x vs v us Q I rx rv h
  obtain ⟨l, xs, rfl, rfl, hH, q⟩ := h
  cases rx
  have hus := rv.zero
  subst hus
  obtain ⟨z, its, n, r, hl, e⟩ := I.lstM hH
  refine call_meets F.slot_list_clear ⟨_, e, rfl⟩ F.entry_list_clear (F.args_list_clear_1 _) (AutoSeq1.list_clear_list_0 l its.toArray n (by rw [List.size_toArray]; omega)) ⟨e, ?_⟩
  exact ⟨.non, _, I.lset (its' := []) (ys := []) hH e rfl .nil (Nat.zero_le _), rfl, q⟩
def rCat : R2 := fun x y H Q => ∃ l b xs zs, x = .ref l ∧ y = .ref b ∧ H l = some (.lst xs) ∧ H b = some (.lst zs) ∧ xs.length + zs.length ≤ sizeLine ∧ ∀ p, H p = none → Q (.ref p) (upd H p (.lst (xs ++ zs)))
theorem op_cat : OpR X (binaryOp .Add) rCat := by
  intro pins s σ H x y v u Q I rx ry h
  obtain ⟨l, b, xs, zs, rfl, rfl, hH, hB, hz, q⟩ := h
  cases rx
  cases ry
  obtain ⟨z, its, n, r, hl, e⟩ := I.lstM hH
  obtain ⟨z2, its2, n2, r2, hl2, e2⟩ := I.lstM hB
  refine PySem.P.add_list e e2 ?_ (by rw [List.size_toArray, List.size_toArray]; omega)
  have ea : its.toArray ++ its2.toArray = (its ++ its2).toArray := by simp
  rw [ea]
  exact ⟨.ref _, _, I.lnew (t' := s.toks) (r.append r2) (by rw [List.length_append]; omega), rfl, q _ I.fresh⟩
def rRep : R2 := fun x y H Q => ∃ l k xs, x = .ref l ∧ y = .int k ∧ H l = some (.lst xs) ∧ -(2 ^ 63) ≤ k ∧ k < 2 ^ 63 ∧ xs.length * k.toNat ≤ sizeLine ∧
  ∀ p, H p = none → Q (.ref p) (upd H p (.lst (List.replicate k.toNat xs).flatten))
end
section
variable {prog : Program} {w : World} {A : Around} {E : Value → Shared → Prop} {s : Shared}
set_option maxRecDepth 100000 in
end
section
variable {X : Cx}
end
end L2
namespace Att
open PySem PySem.W PySem.Calls PyProof.Rows
theorem ints_of_wellAll {P : Params} {h : Heap} : ∀ (ns : List Int) (vs : List Value), WellAll P h vs (ns.map WData.int) → IntsAre vs ns := by
  intro ns
  induction ns with
  | nil =>
    intro vs w
    rw [List.map_nil] at w
    cases w
    exact .nil
  | cons n ns ih =>
    intro vs w
    rw [List.map_cons] at w
    cases w with
    | cons a b =>
      cases a
      exact .cons _ _ (ih _ b)
theorem script_of {l : OpenLaw} {n : Nat} (hn : l.most = some n) {P : Params} {h : Heap} {args : List WData} {vals : List Value}
    (hpre : l.row.toRowW.claim.pre args = true) (hwl : WellAll P h vals args) :
    ∃ a vs ns, vals = [Value.ref a] ∧ args = [WData.list (ns.map WData.int)] ∧ h.get? a = some { cls := .type "list", data := .seq vs.toArray } ∧ IntsAre vs ns ∧ ns.length ≤ n := by
  have hsh : WShape.hasAll [] args [.list .int] = true := (pre_splitW hpre).1
  have hc : l.pre.holds [] { args := args } = true := (pre_splitW hpre).2
  obtain ⟨d, r, rfl, h1, h2⟩ := hasAllW_cons hsh
  obtain rfl := hasAllW_nil h2
  obtain ⟨xs, rfl, h3⟩ := hasW_list h1
  obtain ⟨ns, rfl⟩ := items_int h3
  have hlen : ns.length ≤ n := by
    unfold OpenLaw.pre at hc
    have h4 : (WTm.not (.lt (.lit (.int (n : Int))) (.len (.arg 0)))).holds [] { args := [.list (ns.map .int)] } = true := by
      have h4 := (holds_andW hc).1
      rw [hn] at h4
      exact h4
    have h5 := condW_of h4 (w_not (w_lt w_lit (w_len_list (w_arg rfl))))
    rw [List.length_map] at h5
    refine Nat.le_of_not_lt fun q => ?_
    have q' : (n : Int) < ((ns.length : Nat) : Int) := by omega
    first
      | (rw [decide_eq_true q'] at h5; exact absurd h5 (by decide))
      | (simp at h5; omega)
  cases hwl with
  | cons w1 w2 =>
    cases w2
    cases w1 with
    | list ho hall => exact ⟨_, _, ns, rfl, rfl, ho, ints_of_wellAll ns _ hall, hlen⟩
theorem post_true (l : OpenLaw) (args : List WData) : l.row.toRowW.claim.post args (.bool true) args = true :=
  postW_of (r := l.row.toRowW) (X := (true == true))
    (show WShape.has [] (.bool true) .bool = true by first | rfl | decide | simp [WShape.has, WShape.arms, WShape.armsAll])
    (show (WTm.eq .res (.lit (.bool true))).value [] { args := args, res := some (.bool true), after := args } = some (.bool (true == true)) from w_eq_bool (w_res rfl) w_lit) rfl
theorem attach_call {l : OpenLaw} {n : Nat} {q : Program} {loose : List Str} {XP : (Str → Option Value) → Heap → Prop} {YP : World → Heap → Prop} {d : DefRec}
    (hn : l.most = some n) (hdf : d.params.defaults = [])
    (call : ∀ (w : World) (s₀ s₁ : Shared) (mg mb : Str → Option Value) (fa : Addr) (o : Obj) (pm cd doc : Value) (a : Addr) (vs : List Value) (ns : List Int),
      Ground q loose [] XP w s₀ mg mb s₁.heap → YP w s₁.heap →
      s₁.heap.get? fa = some o → o.data = .func (docDef d.name d.params d.body d.scope pm cd doc) → s₁.heap.CodeRec cd d.name → mg d.name = some (.ref fa) →
      s₁.heap.get? a = some { cls := .type "list", data := .seq vs.toArray } → IntsAre vs ns → ns.length ≤ n → s₁.gens = #[] →
      codeAny (model l.prog w) callerA (.call (.ref fa) ⟨[.ref a], []⟩) (fun r s' => r = .ok (.ret (.bool true)) ∧ OldK s₁.heap s'.heap ∧ s'.os = s₁.os ∧ AllBare s'.gens) s₁) :
    WalkO q loose XP YP l.row.toRowW d [] (fun f vs => PySem.call f vs) := by
  intro w s₀ s₁ mg mb G Y fa o pm cd doc dV kV ho hd hcd hD hmg hg args vals as hpre hlay hrd hwl hlo
  obtain rfl : dV = .none := Dflts.none hD hdf
  obtain rfl : kV = .none := Dflts.noKw hD
  obtain ⟨a, vs, ns, rfl, rfl, hobj, hints, hlen⟩ := script_of hn hpre hwl
  refine enter_call (codeAny_mono (call w s₀ s₁ mg mb fa o pm cd doc a vs ns G Y ho (fd_plain hd) hcd hmg hobj hints hlen hg) fun r s' hq => ?_)
  obtain ⟨rfl, h2, h3, h4⟩ := hq
  exact ⟨.inl ⟨.bool true, .bool true, [], rfl, fun _ => rfl, .bool true, post_true l _, fun _ => ⟨List.Pairwise.nil, fun _ hm => (nomatch hm)⟩⟩, h2, h3, h4⟩
section
variable {prog : Program} {w : World} {A : Around} {E : Value → Shared → Prop} {s : Shared} {K : Frag}
end
end Att
namespace L2
open PySem PySem.Spec PyProof.Rows
theorem vals_ints : ∀ {vs : List Value} {ns : List Int}, IntsAre vs ns → Vals (ns.map V.int) vs
  | _, _, .nil => .nil
  | _, _, .cons n t h => .cons ⟨t, rfl⟩ (vals_ints h)
def Only (H : Hp) : Prop := ∀ b, H b = none ∨ ∃ o xs, H b = some (.frz o (.lst xs))
theorem law_call {P : Program} {w : World} {K : PySem.W.Frag} {mg mb : Str → Option Value} {CX : CXT} {k : Nat} {fa a : Addr} {fd : FuncData} {x : Str} {sp : Sp} {s₁ : Shared} {vs : List Value} {ns : List Int}
    (KX : K.In s₁.heap) (hns : s₁.heap.Ns mainGlobals mg) (hb : s₁.heap.Ns builtinsNs mb) (hbb : ∀ x : Str, x ≠ "__name__" → mb x = bootBuiltins x) (hlim : s₁.heap.NoLimit) (hg : s₁.gens = #[])
    (ha : s₁.heap.get? a = some { cls := .type "list", data := .seq vs.toArray }) (hi : IntsAre vs ns) (hl : ns.length ≤ sizeLine) (hr : Room k callerA)
    (F : ∀ base : Heap, K.In base → base.Ns mainGlobals mg → FnOk P w K mg base CX k fa fd [x] sp) (hbind : ∀ (s : Shared) (u : Value), BindsTo s fd ⟨[u], []⟩ [(x, u)])
    (hsp : ∀ H : Hp, Only H → SqL K H a (ns.map V.int) → sp [.ref a] H (fun v _ => v = .bl true) fun _ _ _ => False)
    (hCX : ∀ H e s', CX [] H s₁ (fun _ _ _ => False) e s' → False) :
    codeAny (model P w) callerA (.call (.ref fa) ⟨[.ref a], []⟩) (fun r s' => r = .ok (.ret (.bool true)) ∧ OldK s₁.heap s'.heap ∧ s'.os = s₁.os ∧ AllBare s'.gens) s₁ := by
  have rv := vals_ints hi
  have lenV := hi.length
  -- from an abstract heap in which nothing but the script may be tracked
  have core : ∀ H : Hp, Only H → SqL K H a (ns.map V.int) → HOk P w H s₁.heap → (∀ b, H b ≠ none → b = a) → (H a ≠ none → K.lookup a = none) →
      codeAny (model P w) callerA (.call (.ref fa) ⟨[.ref a], []⟩) (fun r s' => r = .ok (.ret (.bool true)) ∧ OldK s₁.heap s'.heap ∧ s'.os = s₁.os ∧ AllBare s'.gens) s₁ := by
    intro H hO hS hok hA hK
    have base_of : ∀ {b : Addr} {o : Obj}, s₁.heap.get? b = some o → H b = none → (hidT s₁.heap H).get? b = some o := fun e n => hidT_get e n
    have noA : ∀ {b : Addr} {o : Obj} {es : Array DictEntry} {ep : Nat}, s₁.heap.get? b = some o → o.data = .dict es ep → H b = none := fun {b o es ep} e d => by
      cases q : H b with
      | none => rfl
      | some u =>
        have e' : b = a := hA b (by rw [q]; simp)
        subst e'
        rw [ha] at e; cases e
        have d' : Data.seq vs.toArray _ = Data.dict es ep := d
        cases d'
    have nsK : ∀ {b : Addr} {m : Str → Option Value}, s₁.heap.Ns b m → (hidT s₁.heap H).Ns b m := fun {b m} ⟨o, es, ep, e, d, r⟩ => ⟨o, es, ep, base_of e (noA e d), d, r⟩
    have hKb : K.In (hidT s₁.heap H) := fun b o e => base_of (KX b o e) (by
      cases q : H b with
      | none => rfl
      | some u =>
        have e' : b = a := hA b (by rw [q]; simp)
        subst e'
        rw [hK (by rw [q]; simp)] at e; cases e)
    have hM : Mod K mg (hidT s₁.heap H) := ⟨hKb, nsK hns, ⟨mb, nsK hb, hbb⟩, let ⟨mc, h1, h2⟩ := hlim; ⟨mc, nsK h1, h2⟩⟩
    have e0 : Env0 P w K mg (hidT s₁.heap H) callerA [] s₁ H := ⟨rfl, hM, fun b o e => of_hidT e, Nat.le_of_eq (hidT_size _ _), trivial, fun b hb => absurd (show b ∈ ([] : List Addr) from hb) (by simp), hok, .of_eq hg⟩
    refine codeAny_mono ((F _ hKb (nsK hns)).run callerA [] s₁ H ⟨[.ref a], []⟩ [.ref a] [.ref a] _ _ hr e0 (hbind s₁ (.ref a)) (.cons rfl .nil) (hsp H hO hS)) fun r s' h => ?_
    cases r with
    | error e => exact (hCX H e s' h).elim
    | ok fl =>
      cases fl with
      | next => exact False.elim h
      | brk => exact False.elim h
      | cont => exact False.elim h
      | ret u =>
        obtain ⟨v, H', os, bare, un, hok', r', q⟩ := h
        have q' : v = .bl true := q
        subst q'
        obtain rfl : u = Value.bool true := r'
        refine ⟨rfl, OldK.of_keep fun b o e => ?_, os, bare⟩
        cases q : H b with
        | none => exact un.keep b o e q (by intro z; exact absurd (show b ∈ ([] : List Addr) from z) (by simp)) (by simp)
        | some u =>
          rcases hO b with z | ⟨ob, xs, z⟩
          · rw [q] at z; cases z
          · have z2 := un.frzs b ob _ z
            obtain ⟨e1, _⟩ := hok b _ z
            obtain ⟨e2, _⟩ := hok' b _ z2
            rw [e] at e1; cases e1
            exact e2
  cases hk : K.lookup a with
  | some o =>
    -- the script is one of the module's own objects
    have e := KX a o hk
    rw [ha] at e
    cases e
    refine core (fun _ => none) (fun _ => .inl rfl) (.inr ⟨_, vs.toArray, _, hk, rfl, rfl, rfl, by rw [List.size_toArray, lenV]; exact hl, by simpa using rv⟩) (fun b u z => by have z' : (none : Option HO) = some u := z; cases z') (fun b z => absurd rfl z) fun z => absurd rfl z
  | none =>
    refine core (fun b => if b = a then some (.frz { cls := .type "list", data := .seq vs.toArray } (.lst (ns.map V.int))) else none) (fun b => ?_) (.inl (.inr ⟨{ cls := .type "list", data := .seq vs.toArray }, if_pos rfl⟩)) (fun b u z => ?_) (fun b z => ?_) fun _ => hk
    · by_cases hb : b = a
      · exact .inr ⟨_, _, if_pos hb⟩
      · exact .inl (if_neg hb)
    · by_cases hb : b = a
      · have z' := (if_pos hb).symm.trans z
        cases z'
        subst hb
        exact ⟨ha, by rw [List.length_map]; exact hl, vs, _, rv, ha⟩
      · have z' := (if_neg hb).symm.trans z
        cases z'
    · by_cases hb : b = a
      · exact hb
      · exact absurd (if_neg hb) z
end L2
namespace L2
open PySem PySem.Spec PyProof.Rows
theorem walk_of {l : PySem.W.OpenLaw} {n k : Nat} {q : Program} {loose : List Str} {XP : (Str → Option Value) → Heap → Prop} {YP : World → Heap → Prop} {d : DefRec} {K : Params → PySem.W.Frag} {CX : World → CXT} {sp : World → Sp} {x : Str}
    (hn : l.most = some n) (hn2 : n ≤ sizeLine) (hdf : d.params.defaults = []) (hr : Room k callerA)
    (hY : ∀ (w : World) (h : Heap), YP w h → (K w.params).In h)
    (F : ∀ (w : World) (mg : Str → Option Value) (fa : Addr) (h : Heap), (K w.params).In h → h.Ns mainGlobals mg → mg d.name = some (.ref fa) →
      ∃ fd : FuncData, (∀ (s : Shared) (u : Value), BindsTo s fd ⟨[u], []⟩ [(x, u)]) ∧
        ∀ base : Heap, (K w.params).In base → base.Ns mainGlobals mg → FnOk l.prog w (K w.params) mg base (CX w) k fa fd [x] (sp w))
    (hsp : ∀ (w : World) (H : Hp) (a : Addr) (ns : List Int), ns.length ≤ n → Only H → SqL (K w.params) H a (ns.map V.int) → sp w [.ref a] H (fun v _ => v = .bl true) fun _ _ _ => False)
    (hCX : ∀ (w : World) (H : Hp) (s : Shared) (e : Value) (s' : Shared), CX w [] H s (fun _ _ _ => False) e s' → False) :
    PySem.W.WalkO q loose XP YP l.row.toRowW d [] (fun f vs => PySem.call f vs) := by
  refine Att.attach_call hn hdf fun w s₀ s₁ mg mb fa o pm cd doc a vs ns G Y ho hd hcd hmg hobj hints hlen hg => ?_
  have KX := hY w _ Y
  obtain ⟨fd, hb, hF⟩ := F w mg fa _ KX G.T.g hmg
  exact law_call KX G.T.g G.T.b G.T.builtins G.T.nolimit hg hobj hints (Nat.le_trans hlen hn2) hr hF hb (fun H hO hS => hsp w H a ns hlen hO hS) fun H e s' => hCX w H s₁ e s'
end L2
namespace L2
open PySem PySem.Spec PyProof.Rows
def defArgs (s : Stmt) : Arguments := match s with
  | .FunctionDef _ a _ _ _ _ _ _ _ _ => a
  | _ => { posonlyargs := [], args := [], vararg := none, kwonlyargs := [], kw_defaults := [], kwarg := none, defaults := [] }
def defBody (s : Stmt) : List Stmt := match s with
  | .FunctionDef _ _ b _ _ _ _ _ _ _ => b
  | _ => []
def defScope (s : Stmt) : Scope := match s with
  | .FunctionDef _ _ _ _ _ _ sc _ _ _ => sc
  | _ => { kind := .function, names := [], isGenerator := false, isCoroutine := false }
abbrev CX0 : CXT := fun _ _ _ _ _ _ => False
abbrev E0 : XK := fun _ _ _ => False
theorem pass0 {X : Cx} : Passes CX0 X E0 := fun _ _ _ _ _ _ _ h => h.elim
structure Fun (K : PySem.W.Frag) (x qual : Str) (st : Stmt) (f : Addr) (fd : FuncData) : Prop where
  ex : ∃ (oc : Value) (od : Option Addr) (kV doc pm : Value) (an : Option Addr) (cdv ct : Value) (osl : Array (Option Value)),
    fd = PySem.W.fnOf x qual (defArgs st) (defBody st) (defScope st) .none kV doc pm an cdv ct ∧ K.lookup f = some ⟨oc, od, .func fd, osl⟩ ∧ PySem.W.codeIn K cdv qual = true
  kp : PySem.W.keepIn K (.ref f) = true
section
variable {P : Program} {w : World} {K : PySem.W.Frag} {mg : Str → Option Value} {base : Heap}
theorem Fun.ok {x qual : Str} {st : Stmt} {f : Addr} {fd : FuncData} {N ps : List Str} {k : Nat} {sp : Sp} (F : Fun K x qual st f fd) (S : FnScope N ps (defScope st)) (len : ∀ vs H Q E, sp vs H Q E → vs.length = ps.length)
    (hbody : ∀ (cdv : Value) (A : Around) (outer : List Env) (s : Shared) (H : Hp) (vs : List V) (Q : VK) (E : XK), Room k (A.deeper (envOfC qual (defScope st) s.heap.objs.size f cdv)) → sp vs H Q E →
      ∃ t, PSs (cxOf CX0 P w K mg base N qual (defScope st) f cdv A outer s H E).nox (defBody st) t ∧ t { nx := fun _ H' => Q .non H', rt := Q } (start N vs) H) : FnOk P w K mg base CX0 (k + 1) f fd ps sp := by
  obtain ⟨oc, od, kV, doc, pm, an, cdv, ct, osl, rfl, lk, hcd⟩ := F.ex
  refine fn_of lk hcd S len fun A outer s H vs Q E hr hsp => ?_
  obtain ⟨t, h, q⟩ := hbody cdv A outer s H vs Q E hr hsp
  exact ⟨t, h.nox, q⟩
theorem Fun.binds {x qual : Str} {st : Stmt} {f : Addr} {fd : FuncData} {ps : List Str} (F : Fun K x qual st f fd)
    (h : ∀ (kV doc pm : Value) (an : Option Addr) (cdv ct : Value) (us : List Value), us.length = ps.length → bindArgs (PySem.W.fnOf x qual (defArgs st) (defBody st) (defScope st) .none kV doc pm an cdv ct) ⟨us, []⟩ = pure (ps.zip us)) : Binds K fd ps [] := by
  obtain ⟨oc, od, kV, doc, pm, an, cdv, ct, osl, rfl, lk, hcd⟩ := F.ex
  exact .all (h kV doc pm an cdv ct)
theorem fun_mk {x qual : Str} {st : Stmt} {f : Addr} {oc : Value} {od an : Option Addr} {osl : Array (Option Value)} {kV doc pm cdv ct : Value} (l : K.lookup f = some ⟨oc, od, .func (PySem.W.fnOf x qual (defArgs st) (defBody st) (defScope st) .none kV doc pm an cdv ct), osl⟩)
    (c : PySem.W.codeIn K cdv qual = true) (k : PySem.W.keepIn K (.ref f) = true) : Fun K x qual st f (PySem.W.fnOf x qual (defArgs st) (defBody st) (defScope st) .none kV doc pm an cdv ct) := ⟨⟨oc, od, kV, doc, pm, an, cdv, ct, osl, rfl, l, c⟩, k⟩
end
theorem hu_of {A : Around} {k : Nat} (hr : Room k A) : A.units + 1 < cLine := Nat.lt_of_le_of_lt (Nat.add_le_add_left (by decide : 1 ≤ 64) _) hr.units
section
variable {X : Cx}
theorem pv (i : Nat) {x : Str} {pos : Pos} (hN : X.N[i]? = some x := by rfl) (hv : Vis X.env.scope x := by first | exact Or.inl rfl | exact Or.inr (Or.inl rfl) | exact Or.inr (Or.inr rfl)) (hd : (x == ("__debug__" : Str)) = false := by decide)
    (hcd : (x == ("__classdict__" : Str)) = false := by decide) : PE X (.Name x pos) (tVar i) := pe_var hN hv hd hcd
end
theorem iteF {A B : Prop} (h : B) : if false = true then A else B := by
  rw [if_neg Bool.false_ne_true]
  exact h
theorem iteT {A B : Prop} (h : A) : if true = true then A else B := by
  rw [if_pos rfl]
  exact h
def Same (H H' : Hp) : Prop := ∀ b o, H b = some o → H' b = some o
theorem Same.refl (H : Hp) : Same H H := fun _ _ h => h
theorem Same.trans {H H1 H2 : Hp} (a : Same H H1) (b : Same H1 H2) : Same H H2 := fun c o h => b c o (a c o h)
theorem Same.free {H H' : Hp} (e : Same H H') {l : Addr} (h : H' l = Option.none) : H l = Option.none := by
  cases q : H l with
  | none => rfl
  | some o =>
    rw [e l o q] at h
    cases h
theorem Same.seq {K : PySem.W.Frag} {H H' : Hp} {a : Addr} {xs : List V} (e : Same H H') (h : SqL K H a xs) : SqL K H' a xs := by
  rcases h with (h | ⟨o, h⟩) | h
  · exact .inl (.inl (e _ _ h))
  · exact .inl (.inr ⟨o, e _ _ h⟩)
  · exact .inr h
end L2
set_option Elab.async false
set_option linter.all false
set_option maxRecDepth 100000
namespace My
open PySem PySem.Spec PyProof.Rows L2
section
variable {X : Cx}
theorem bits600 {k : Int} (h : k.natAbs < 2 ^ 600) : Builtin.Int.intBits k ≤ 2 ^ 20 :=
  Nat.le_trans (PyProof.Rows.intBits_le (k := 600) h) (by decide)
def CBig (i j : Int) : Prop := i.natAbs < 2 ^ 600 ∧ j.natAbs < 2 ^ 600
theorem op_mulB : OpR X (binaryOp .Mult) (rI CBig fun i j => .int (i * j)) := opI fun _ _ _ _ _ _ _ hc q => mul_int q (IntMulOk.of_bits (bits600 hc.1) (bits600 hc.2))
def CDivB (i j : Int) : Prop := j ≠ 0 ∧ j.natAbs < 2 ^ 600
theorem noPy {x y : Int} (h : y.natAbs < 2 ^ 600) : Builtin.divisionGoesByPylong x y = false := by
  refine PyProof.noPylong_of_log2 ?_
  by_cases h0 : y.natAbs = 0
  · rw [h0]; decide +kernel
  · have h30 : y.natAbs.log2 < 600 := (Nat.log2_lt h0).mpr h
    omega
theorem op_fdivB : OpR X (binaryOp .FloorDiv) (rI CDivB fun i j => .int (i.fdiv j)) := opI fun _ _ _ _ _ _ _ hc q => floordiv_int hc.1 q (.inl (noPy hc.2))
end
theorem same_new {H : Hp} {p : Addr} (h : H p = none) (o : HO) : Same H (upd H p o) := fun b u q => by rw [upd_ne (ne_of_none q h)]; exact q
theorem same_tup {K : PySem.W.Frag} {H H' : Hp} {a : Addr} {xs : List V} (e : Same H H') (h : SqT K H a xs) : SqT K H' a xs := by
  rcases h with (h | ⟨o, h⟩) | h
  · exact .inl (.inl (e _ _ h))
  · exact .inl (.inr ⟨o, e _ _ h⟩)
  · exact .inr h
def cell (ns : List Int) (k : Int) : Int := (ns[k.toNat]?).getD 0
theorem cell_at {ns : List Int} {k : Int} (h0 : 0 ≤ k) (h : k < (ns.length : Int)) : atI (ns.map V.int) k = some (.int (cell ns k)) := by
  have hk : k.toNat < ns.length := by omega
  have ek : k = ((k.toNat : Nat) : Int) := by omega
  have q : atI (ns.map V.int) ((k.toNat : Nat) : Int) = some (.int ns[k.toNat]) := atI_nat (by rw [List.getElem?_map, List.getElem?_eq_getElem hk] <;> rfl)
  rw [← ek] at q
  rw [q]
  unfold cell
  rw [List.getElem?_eq_getElem hk]
  rfl
theorem cell_out {ns : List Int} {k : Int} (h : ¬ k < (ns.length : Int)) (h0 : 0 ≤ k) : cell ns k = 0 := by
  unfold cell
  rw [List.getElem?_eq_none (by omega)]
  rfl
end My
set_option Elab.async false
set_option linter.all false
set_option maxRecDepth 100000
namespace My
open PySem PySem.Spec PyProof.Rows L2
section
variable {X : Cx}
end
end My
set_option Elab.async false
set_option linter.all false
set_option maxRecDepth 100000
set_option maxHeartbeats 1000000
namespace My
open PySem PySem.Spec PyProof.Rows L2
section
variable {X : Cx} {pins : List (Addr × Obj)} {σ : L2.St} {H : Hp} {s : Shared} {h' : Heap}
structure Rec (X : Cx) (pins : List (Addr × Obj)) (H : Hp) (h : Heap) (b : Addr) : Prop where
  nw : X.s₀.heap.get? b = none
  un : H b = none
  pin : ∀ p ∈ X.pn ++ pins, p.1 ≠ b
  ob : ∃ o vs, h.get? b = some o ∧ o.data = .fields vs
theorem Rec.loc (I : Inv X pins σ H s) {b : Addr} (r : Rec X pins H s.heap b) : b ≠ X.env.locals := fun z => by
  obtain ⟨o, vs, e, d⟩ := r.ob
  obtain ⟨m, ⟨o', es, ep, e', d', _⟩, _⟩ := I.loc
  rw [z, e'] at e; cases e; rw [d'] at d; cases d
theorem Rec.cel (I : Inv X pins σ H s) {b : Addr} (r : Rec X pins H s.heap b) : ∀ x c, X.env.cells.lookup x = some c → c ≠ b := fun x c hc z => by
  obtain ⟨o, vs, e, d⟩ := r.ob
  obtain ⟨v, o', e', d'⟩ := I.cell x c hc
  rw [z, e] at e'; cases e'; rw [d] at d'; cases d'
theorem Rec.frs (I : Inv X pins σ H s) {b : Addr} (r : Rec X pins H s.heap b) : b ∉ frs X.stack := fun z => by
  obtain ⟨o, vs, e, d⟩ := r.ob
  obtain ⟨_, o', e', d'⟩ := I.stack.mem z
  rw [e] at e'; cases e'; exact d' vs d
theorem Inv.marks {ch : List Addr} {t' : Nat} (I : Inv X pins σ H s) (hch : ∀ b ∈ ch, Rec X pins H s.heap b)
    (k1 : ∀ b o, b ∉ frs X.stack → b ∉ ch → s.heap.get? b = some o → h'.get? b = some o)
    (k2 : ∀ b o, b ∉ ch → s.heap.get? b = some o → ∃ sl, h'.get? b = some { o with slots := sl }) : Inv X pins σ H { s with heap := h', toks := t' } := by
  have sub : ∀ b, b ≠ X.env.locals → b ∉ X.fs → b ∉ frs X.stack := fun b h1 h2 z => (List.mem_cons.mp (I.stkSub b z)).elim h1 h2
  have neL : ∀ b o, X.s₀.heap.get? b = some o → b ≠ X.env.locals := fun b o e => Nat.ne_of_lt (Nat.lt_of_lt_of_le (Heap.lt_size e) I.ok.above)
  have neC : ∀ b o, X.s₀.heap.get? b = some o → b ∉ ch := fun b o e z => by rw [(hch b z).nw] at e; cases e
  have cel : ∀ x c, X.env.cells.lookup x = some c → ∀ v, s.heap.IsCell c v → h'.IsCell c v := fun x c e v ⟨o, ho, hd⟩ => by
    obtain ⟨sl, q⟩ := k2 c o (fun z => (hch c z).cel I x c e rfl) ho
    exact ⟨_, q, hd⟩
  refine ⟨I.ok, I.os, I.bare, ⟨fun b o e n hb hx => k1 b o (sub b (neL b o e) hb) (neC b o e) (I.base.keep b o e n hb hx), fun b o e n hb hx => ?_, I.base.free, fun b o e hx => ?_, I.base.tups, I.base.frzs, I.base.tbls⟩,
    ?_, fun x c e => ?_, I.free, I.freeC, fun p hp => ?_, fun a o e => ?_, I.len⟩
  · obtain ⟨sl, e1⟩ := I.base.slot b o e n hb hx
    obtain ⟨sl', e2⟩ := k2 b _ (neC b o e) e1
    exact ⟨sl', e2⟩
  · obtain ⟨o', e1⟩ := I.base.there b o e hx
    obtain ⟨sl', e2⟩ := k2 b _ (neC b o e) e1
    exact ⟨_, e2⟩
  · obtain ⟨m, hm, hl⟩ := I.loc
    have hm' : h'.Ns X.env.locals m := by
      obtain ⟨o, es, ep, e, r⟩ := hm
      obtain ⟨sl, q⟩ := k2 _ o (fun z => (hch _ z).loc I rfl) e
      exact ⟨_, es, ep, q, r⟩
    refine ⟨m, hm', fun i x v e1 e2 e3 => ?_⟩
    obtain ⟨u, r, l⟩ := hl i x v e1 e2 e3
    refine ⟨u, r, ?_⟩
    rcases l with l | ⟨k, c, e, z⟩
    · exact .inl l
    · exact .inr ⟨k, c, e, cel x c e _ z⟩
  · obtain ⟨v, z⟩ := I.cell x c e
    exact ⟨v, cel x c e v z⟩
  · obtain ⟨e, n, ne, nf, d⟩ := I.pin p hp
    exact ⟨k1 p.1 p.2 (sub p.1 ne nf) (fun z => (hch p.1 z).pin p hp rfl) e, n, ne, nf, d⟩
  · refine (I.hok a o e).stay (fun b u hb q => k1 b u ?_ ?_ q) (fun _ q => q) fun _ _ q => q
    · intro z
      have n := I.stkFree b z
      rcases hb with rfl | hb
      · rw [n] at e; cases e
      · rw [n] at hb; cases hb
    · intro z
      have n := (hch b z).un
      rcases hb with rfl | hb
      · rw [n] at e; cases e
      · rw [n] at hb; cases hb
theorem obj_there {P : Program} {w : World} {H : Hp} {h : Heap} {a : Addr} {o : HO} (x : ObjOk P w H h a o) : ∃ ob, h.get? a = some ob := by
  cases o with
  | lst xs => obtain ⟨_, _, _, _, e⟩ := x; exact ⟨_, e⟩
  | tup xs => obtain ⟨_, _, _, ob, e, _⟩ := x; exact ⟨_, e⟩
  | dK kvs => obtain ⟨_, _, _, _, o, _, _, e, _⟩ := x; exact ⟨_, e⟩
  | dT kvs => obtain ⟨_, _, _, _, o, _, _, e, _⟩ := x; exact ⟨_, e⟩
  | set S n => obtain ⟨o, _, _, _, e, _⟩ := x; exact ⟨_, e⟩
  | ins C dx fs => obtain ⟨_, _, _, e, _⟩ := x; exact ⟨_, e⟩
  | own y => exact x
  | xd fs => obtain ⟨_, ⟨_, _, _, e, _⟩, _⟩ := x; exact ⟨_, e⟩
  | rng lo hi => obtain ⟨_, _, _, e⟩ := x; exact ⟨_, e⟩
  | frz ob u => obtain ⟨e, _⟩ := x; exact ⟨_, e⟩
  | tbl ps => exact ⟨_, (show h.get? a = some _ from x)⟩
  | met f y => exact ⟨_, (show h.get? a = some _ from x)⟩
  | ext φ => obtain ⟨_, e, _⟩ := x; exact e
theorem un_of {P : Program} {w : World} {H : Hp} {h : Heap} {a : Addr} (x : HOk P w H h) (e : h.get? a = none) : H a = none := by
  cases q : H a with
  | none => rfl
  | some o => obtain ⟨ob, z⟩ := obj_there (x a o q); rw [e] at z; cases z
theorem new_of (I : Inv X pins σ H s) (hex : X.ex = []) {b : Addr} (e : s.heap.get? b = none) : X.s₀.heap.get? b = none := by
  cases q : X.s₀.heap.get? b with
  | none => rfl
  | some o => obtain ⟨o', z⟩ := I.base.there b o q (by rw [hex]; simp); rw [e] at z; cases z
def XNew (h : Heap) (e : Addr) (C : Value) (d : Option Addr) : Prop :=
  ∃ oe vs, h.get? e = some oe ∧ oe.cls = C ∧ oe.dict = d ∧ oe.data = .fields vs ∧ vs[1]? = some .none
def XTr (h : Heap) (e : Addr) (C : Value) (d : Option Addr) (fl : Value) (T : Addr) : Prop :=
  ∃ oe vs oT ts, h.get? e = some oe ∧ oe.cls = C ∧ oe.dict = d ∧ oe.data = .fields vs ∧ vs[1]? = some (.ref T) ∧ T ≠ e ∧ h.get? T = some oT ∧ oT.data = .fields ts ∧ ts[3]? = some fl
def XIn (X : Cx) (pins : List (Addr × Obj)) (H : Hp) (h : Heap) (e : Addr) (C : Value) (d : Option Addr) : Prop :=
  Rec X pins H h e ∧ (XNew h e C d ∨ ∃ T, Rec X pins H h T ∧ ∃ fl, XTr h e C d fl T)
def XHeld (X : Cx) (pins : List (Addr × Obj)) (H : Hp) (h : Heap) (e : Addr) (C : Value) (d : Option Addr) (fl : Value) : Prop :=
  Rec X pins H h e ∧ ∃ T, Rec X pins H h T ∧ XTr h e C d fl T
theorem dict_mapF (f : Array Value → Array Value) (o : Obj) : (o.mapFields f).dict = o.dict := by
  obtain ⟨c, d, dt, sl⟩ := o
  cases dt <;> rfl
theorem entry_x {M : Model} {A : Around} {E : Value → Shared → Prop} {e : Addr} {C : Value} {d : Option Addr} {head : Value} {hadNext : Bool} {Q : Unit → Shared → Prop}
    (I : Inv X pins σ H s) (hA : A.frames = some X.stack) (hst : X.stack = X.env :: X.outer) (hf : X.env.frame = some X.env.locals) (r : Rec X pins H s.heap e)
    (ho : ∃ oe vs, s.heap.get? e = some oe ∧ oe.cls = C ∧ oe.dict = d ∧ oe.data = .fields vs ∧ 1 < vs.size)
    (h : ∀ s', Inv X pins σ H s' → XHeld X pins H s'.heap e C d (rawInt X.env.locals) → Q () s') :
    wpAny M A (do let a ← frameOf X.env; let pl ← entryPlaceOf X.env.locals hadNext; let b ← EntryCells.newEntry head a .none (rawInt X.env.locals) .none pl; setField (.ref e) 1 b) Q E s := by
  obtain ⟨oe, vs, he, hc, hdd, hd, hsz⟩ := ho
  have hl := I.stack
  rw [hst] at hl hA
  have ne : e ∉ L2.frs X.stack := r.frs I
  refine wpAny_bind (wpAny_frameOf_fun hA hl hf fun h₁ hs₁ => wpAny_bind (wpAny_entryPlaceOf fun pl hpl => ?_))
  unfold EntryCells.newEntry newFields
  refine wpAny_bind (wpAny_newObj_type ?_ (hpl.sizeOk5 _ _ _ _ _))
  rw [← hst] at hs₁
  have he1 : h₁.get? e = some oe := (hs₁.2.1 e ne).trans he
  generalize hN : ({ cls := .type "traceback", dict := none, data := .fields ([head, .ref X.env.locals, .none, rawInt X.env.locals, .none] ++ (if pl.isEmpty then List.replicate 6 Value.none else pl)).toArray } : Obj) = N
  have he2 : (h₁.push N).get? e = some oe := Heap.get?_push_of_some _ he1
  refine wpAny_setField he2 hd hsz (h _ ?_ ?_)
  · refine Inv.marks (s := s) (ch := [e]) (t' := s.toks) I (fun b hb => by rw [List.mem_singleton.mp hb]; exact r) (fun b o h1 h2 q => ?_) fun b o h2 q => ?_
    · have hb : b ≠ e := fun z => h2 (by simp [z])
      rw [Heap.get?_update_other _ _ (Ne.symm hb)]
      exact Heap.get?_push_of_some _ ((hs₁.2.1 b h1).trans q)
    · have hb : b ≠ e := fun z => h2 (by simp [z])
      obtain ⟨sl, q1⟩ := hs₁.2.2 b o q
      exact ⟨sl, by rw [Heap.get?_update_other _ _ (Ne.symm hb)]; exact Heap.get?_push_of_some _ q1⟩
  · have sz1 : h₁.objs.size = s.heap.objs.size := hs₁.1
    have hTe : h₁.objs.size ≠ e := Nat.ne_of_gt (Heap.lt_size he1)
    have d3 := Obj.data_mapFields hd (·.setIfInBounds 1 (Value.ref h₁.objs.size))
    have e3 := Heap.get?_update_self (Obj.mapFields (·.setIfInBounds 1 (Value.ref h₁.objs.size))) he2 (Obj.isFreed_of_fields d3)
    have nf : N.isFreed = false := by rw [← hN]; rfl
    have t3 := (Heap.get?_update_other (h₁.push N) (Obj.mapFields (·.setIfInBounds 1 (Value.ref h₁.objs.size))) (Ne.symm hTe)).trans (Heap.get?_push_size h₁ nf)
    have rT : Rec X pins H ((h₁.push N).update e (Obj.mapFields (·.setIfInBounds 1 (Value.ref h₁.objs.size)))) h₁.objs.size := by
      refine ⟨Heap.get?_none_of_le (by rw [sz1]; exact I.sz), I.hok.fresh (by rw [sz1]; exact Nat.le_refl _), fun p hp z => ?_, ⟨N, _, t3, by rw [← hN]⟩⟩
      obtain ⟨q, _⟩ := I.pin p hp
      have w := Heap.lt_size q
      rw [z, sz1] at w
      exact absurd w (Nat.lt_irrefl _)
    refine ⟨⟨r.nw, r.un, r.pin, ⟨_, _, e3, d3⟩⟩, h₁.objs.size, rT, _, _, N, _, e3, (Obj.cls_mapFields _ _).trans hc, ?_, d3, by simp [hsz], hTe, t3, by rw [← hN], ?_⟩
    · rw [← hdd]; exact dict_mapF _ _
    · first | (simp; done) | (rcases hpl with rfl | ⟨_, _, _, _, _, _, _, rfl⟩ <;> simp)
theorem note_x {M : Model} {A : Around} {E : Value → Shared → Prop} {e : Addr} {C : Value} {d : Option Addr} {Q : Unit → Shared → Prop}
    (I : Inv X pins σ H s) (hA : A.frames = some X.stack) (hst : X.stack = X.env :: X.outer) (hf : X.env.frame = some X.env.locals) (x : XIn X pins H s.heap e C d)
    (h : ∀ s', Inv X pins σ H s' → XHeld X pins H s'.heap e C d (rawInt X.env.locals) → Q () s') : wpAny M A (noteFrame (.ref e) X.env) Q E s := by
  obtain ⟨r, x⟩ := x
  unfold noteFrame
  simp only [hf]
  rcases x with ⟨oe, vs, he, hc, hdd, hd, h1⟩ | ⟨T, rT, fl, oe, vs, oT, ts, he, hc, hdd, hd, h1, hTe, hT, hdT, h3⟩
  · refine wpAny_bind (wpAny_field he hd h1 ?_)
    rw [if_neg (by decide)]
    exact entry_x I hA hst hf r ⟨oe, vs, he, hc, hdd, hd, (Array.getElem?_eq_some_iff.mp h1).1⟩ h
  · refine wpAny_bind (wpAny_field he hd h1 ?_)
    rw [if_pos (show (Value.ref T != Value.none) = true from by simp)]
    refine wpAny_bind (wpAny_field hT hdT h3 ?_)
    by_cases qf : (fl == rawInt X.env.locals) = true
    · rw [if_pos qf]
      have ef : fl = rawInt X.env.locals := eq_of_beq qf
      rw [ef] at h3
      exact wpAny_pure (h s I ⟨r, T, rT, oe, vs, oT, ts, he, hc, hdd, hd, h1, hTe, hT, hdT, h3⟩)
    · rw [if_neg qf]
      refine wpAny_bind (wpAny_setField hT hdT (Array.getElem?_eq_some_iff.mp h3).1 ?_)
      have oth : ∀ b, b ≠ T → (s.heap.update T (Obj.mapFields (·.setIfInBounds 3 Value.none))).get? b = s.heap.get? b := fun b hb => Heap.get?_update_other _ _ (Ne.symm hb)
      have J : Inv X pins σ H { s with heap := s.heap.update T (Obj.mapFields (·.setIfInBounds 3 Value.none)) } :=
        Inv.marks (s := s) (ch := [T]) (t' := s.toks) I (fun b hb => by rw [List.mem_singleton.mp hb]; exact rT) (fun b o _ h2 q => (oth b fun z => h2 (by simp [z])).trans q) fun b o h2 q => ⟨o.slots, (oth b fun z => h2 (by simp [z])).trans q⟩
      have he' := (oth e (Ne.symm hTe)).trans he
      exact entry_x J hA hst hf ⟨r.nw, r.un, r.pin, ⟨oe, vs, he', hd⟩⟩ ⟨oe, vs, he', hc, hdd, hd, (Array.getElem?_eq_some_iff.mp h1).1⟩ h
theorem flight_g (fr : Option Addr) {M : Model} {A : Around} {E : Value → Shared → Prop} {e : Addr} {C fl : Value} {d : Option Addr} {Q : Unit → Shared → Prop}
    (I : Inv X pins σ H s) (x : XHeld X pins H s.heap e C d fl)
    (h : ∀ s', Inv X pins σ H s' → XHeld X pins H s'.heap e C d (fr.elim Value.none fun f => rawInt f) → Q () s') : wpAny M A (setFlight (.ref e) fr) Q E s := by
  obtain ⟨r, T, rT, oe, vs, oT, ts, he, hc, hdd, hd, h1, hTe, hT, hdT, h3⟩ := x
  have hsz := (Array.getElem?_eq_some_iff.mp h3).1
  unfold setFlight
  refine wpAny_bind (wpAny_field he hd h1 ?_)
  rw [if_pos (show (Value.ref T != Value.none) = true from by simp)]
  refine wpAny_setField hT hdT hsz (h _ ?_ ?_)
  all_goals have oth : ∀ b, b ≠ T → (s.heap.update T (Obj.mapFields (·.setIfInBounds 3 (fr.elim Value.none fun f => rawInt f)))).get? b = s.heap.get? b := fun b hb => Heap.get?_update_other _ _ (Ne.symm hb)
  · exact Inv.marks (s := s) (ch := [T]) (t' := s.toks) I (fun b hb => by rw [List.mem_singleton.mp hb]; exact rT) (fun b o _ h2 q => (oth b fun z => h2 (by simp [z])).trans q) fun b o h2 q => ⟨o.slots, (oth b fun z => h2 (by simp [z])).trans q⟩
  · have he' := (oth e (Ne.symm hTe)).trans he
    have d3 := Obj.data_mapFields hdT (·.setIfInBounds 3 (fr.elim Value.none fun f => rawInt f))
    have hT' := Heap.get?_update_self (Obj.mapFields (·.setIfInBounds 3 (fr.elim Value.none fun f => rawInt f))) hT (Obj.isFreed_of_fields d3)
    exact ⟨⟨r.nw, r.un, r.pin, ⟨oe, vs, he', hd⟩⟩, T, ⟨rT.nw, rT.un, rT.pin, ⟨_, _, hT', d3⟩⟩, oe, vs, _, _, he', hc, hdd, hd, h1, hTe, hT', d3, by simp [hsz]⟩
theorem flight_x {M : Model} {A : Around} {E : Value → Shared → Prop} {e : Addr} {C fl : Value} {d : Option Addr} {Q : Unit → Shared → Prop}
    (I : Inv X pins σ H s) (x : XHeld X pins H s.heap e C d fl)
    (h : ∀ s', Inv X pins σ H s' → XHeld X pins H s'.heap e C d .none → Q () s') : wpAny M A (setFlight (.ref e) none) Q E s := flight_g none I x h
theorem XHeld.xin {h : Heap} {e : Addr} {C fl : Value} {d : Option Addr} (x : XHeld X pins H h e C d fl) : XIn X pins H h e C d :=
  let ⟨r, T, rT, q⟩ := x
  ⟨r, .inr ⟨T, rT, _, q⟩⟩
theorem XHeld.xinL {h : Heap} {e : Addr} {C : Value} {d : Option Addr} (x : XHeld X pins H h e C d (rawInt X.env.locals)) : XIn X pins H h e C d := x.xin
def CX1 (P : Program) (w : World) : CXT := fun outer H s E e s' => ∃ (a : Addr) (C : Value) (d : Option Addr) (H' : Hp), e = .ref a ∧ s'.os = s.os ∧ AllBare s'.gens ∧ Un (L2.frs outer) [] H H' s.heap s'.heap ∧ HOk P w H' s'.heap ∧
  s.heap.get? a = none ∧ H' a = none ∧ (∃ T, s.heap.get? T = none ∧ H' T = none ∧ XTr s'.heap a C d .none T) ∧ E C d H'
def Xes (X : Cx) (W : L2.St → XK) : Prop := ∀ (pins : List (Addr × Obj)) (σ : L2.St) (H : Hp) (s : Shared) (a : Addr) (C : Value) (d : Option Addr), Inv X pins σ H s → XIn X pins H s.heap a C d → W σ C d H → X.xe (.ref a) s
theorem xes_call {W : L2.St → XK} (h : Xes X W) (hex : X.ex = []) {e : Value} {s' : Shared} (I : Inv X pins σ H s) (q : CX1 X.prog X.w X.stack H s (W σ) e s') : X.xe e s' := by
  obtain ⟨a, C, d, H', rfl, os, bare, un, hok, la, na, ⟨T, lT, nT, x⟩, w⟩ := q
  have J : Inv X pins σ H' s' := I.call' (ch := []) os un hok bare (fun b z => absurd z (by simp))
  have pn : ∀ b, s.heap.get? b = none → ∀ p ∈ X.pn ++ pins, p.1 ≠ b := fun b lb p hp z => by
    have w := (I.pin p hp).1
    rw [z, lb] at w
    cases w
  obtain ⟨oe, vs, oT, ts, he, hc, hdd, hd, h1, hTe, hT, hdT, h3⟩ := id x
  exact h pins σ H' s' a C d J ⟨⟨new_of I hex la, na, pn a la, ⟨oe, vs, he, hd⟩⟩, .inr ⟨T, ⟨new_of I hex lT, nT, pn T lT, ⟨oT, ts, hT, hdT⟩⟩, _, x⟩⟩ w
end
end My
set_option Elab.async false
set_option linter.all false
set_option maxRecDepth 100000
set_option maxHeartbeats 1000000
namespace My
open PySem PySem.Spec PyProof.Rows L2
section
variable {X : Cx} {pins : List (Addr × Obj)} {σ : L2.St} {H : Hp} {s : Shared} {W : L2.St → XK}
def XSt (X : Cx) (W : L2.St → XK) (e : Value) (s : Shared) : Prop := ∃ (a : Addr) (C : Value) (d : Option Addr) (σ : L2.St) (H : Hp), e = .ref a ∧ Inv X [] σ H s ∧ XIn X [] H s.heap a C d ∧ W σ C d H
abbrev xw (X : Cx) (W : L2.St → XK) : Cx := X.wish (XSt X W)
theorem Rec.less {h : Heap} {b : Addr} (r : Rec X pins H h b) : Rec X [] H h b := ⟨r.nw, r.un, fun p hp => r.pin p (by rw [List.append_nil] at hp; exact List.mem_append_left _ hp), r.ob⟩
theorem XIn.less {h : Heap} {a : Addr} {C : Value} {d : Option Addr} (x : XIn X pins H h a C d) : XIn X [] H h a C d := by
  obtain ⟨r, x⟩ := x
  rcases x with x | ⟨T, rT, x⟩
  · exact ⟨r.less, .inl x⟩
  · exact ⟨r.less, .inr ⟨T, rT.less, x⟩⟩
theorem Rec.unwish {E : Value → Shared → Prop} {h : Heap} {b : Addr} (r : Rec (X.wish E) pins H h b) : Rec X pins H h b := ⟨r.nw, r.un, r.pin, r.ob⟩
theorem XIn.unwish {E : Value → Shared → Prop} {h : Heap} {a : Addr} {C : Value} {d : Option Addr} (x : XIn (X.wish E) pins H h a C d) : XIn X pins H h a C d := by
  obtain ⟨r, x⟩ := x
  rcases x with x | ⟨T, rT, x⟩
  · exact ⟨r.unwish, .inl x⟩
  · exact ⟨r.unwish, .inr ⟨T, rT.unwish, x⟩⟩
theorem xes_xw : Xes (xw X W) W := fun pins σ H s a C d I x w => ⟨a, C, d, σ, H, rfl, I.unwish.pins_of (fun _ z => nomatch z), x.unwish.less, w⟩
theorem pass_xw (hst : X.stack = X.env :: X.outer) (hf : X.env.frame = some X.env.locals) : PassesOwn (model X.prog X.w) X.A X.env (XSt X W) := by
  rintro e s' ⟨a, C, d, σ, H, rfl, I, x, w⟩
  show wpAny _ _ (noteFrame (.ref a) X.env) _ _ s'
  refine note_x I I.ok.frames hst hf x fun s2 I2 x2 => ?_
  obtain ⟨r, T, rT, oe, vs, oT, ts, he, hc, hdd, hd, h1, r2⟩ := id x2
  unfold cameBackBy
  refine wpAny_bind (wpAny_field he hd h1 ?_)
  have fin : wpAny (model X.prog X.w) X.A (setFlight (.ref a) X.env.frame) (fun _ s'' => XSt X W (.ref a) s'') (XSt X W) s2 := by
    rw [hf]
    exact flight_g (some X.env.locals) I2 x2 fun s3 I3 x3 => ⟨a, C, d, σ, H, rfl, I3, XHeld.xinL x3, w⟩
  first
    | (rw [if_neg (show ¬ ((Value.ref T == Value.none) = true) from by simp)]; exact fin)
    | (rw [if_neg (show ¬ ((Value.ref T == Value.none) = true) from by simp)]; exact wpAny_bind (wpAny_pure fin))
    | (refine wpAny_bind ?_; rw [if_neg (show ¬ ((Value.ref T == Value.none) = true) from by simp)]; exact wpAny_pure fin)
theorem PSs.xes {st : List Stmt} {t : TS} (hx : Xes X W) (h : PSs (xw X W) st t) : PSs X st t := fun pins s σ H D I hw =>
  wpAny_mono (h pins s σ H D (I.wish _) hw) (fun _ _ q => q.unwish) fun _ _ ⟨a, C, d, σ', H', e, I', x, w⟩ => by subst e; exact hx [] σ' H' _ a C d I' x w
end
section
variable {P : Program} {w : World} {K : PySem.W.Frag} {mg : Str → Option Value} {base : Heap}
theorem xes_fn {N : List Str} {qual : Str} {scope : Scope} {f : Addr} {cd : Value} {A : Around} {outer : List Env} {s : Shared} {H : Hp} {E : XK} :
    Xes (cxOf (CX1 P w) P w K mg base N qual scope f cd A outer s H E) (fun _ => E) := by
  intro pins σ H1 s1 a C d I x wE
  show wpAny _ _ (leaving _ _) _ _ s1
  unfold leaving
  refine wpAny_bind (note_x I I.ok.frames rfl rfl x fun s2 I2 x2 => flight_x I2 x2 fun s3 I3 x3 => ?_)
  obtain ⟨r, T, rT, xt⟩ := x3
  exact ⟨a, C, d, H1, rfl, I3.os, I3.bare, I3.base, I3.hok, r.nw, r.un, ⟨T, rT.nw, rT.un, xt⟩, wE⟩
theorem okX {x qual : Str} {st : Stmt} {f : Addr} {fd : FuncData} {N ps : List Str} {k : Nat} {sp : Sp} (F : Fun K x qual st f fd) (S : FnScope N ps (defScope st)) (len : ∀ vs H Q E, sp vs H Q E → vs.length = ps.length)
    (hbody : ∀ (cdv : Value) (A : Around) (outer : List Env) (s : Shared) (H : Hp) (vs : List V) (Q : VK) (E : XK), Room k (A.deeper (envOfC qual (defScope st) s.heap.objs.size f cdv)) → sp vs H Q E →
      ∃ t, PSs (xw (cxOf (CX1 P w) P w K mg base N qual (defScope st) f cdv A outer s H E) (fun _ => E)) (defBody st) t ∧ t { nx := fun _ H' => Q .non H', rt := Q } (start N vs) H) : FnOk P w K mg base (CX1 P w) (k + 1) f fd ps sp := by
  obtain ⟨oc, od, kV, doc, pm, an, cdv, ct, osl, rfl, lk, hcd⟩ := F.ex
  refine fn_of lk hcd S len fun A outer s H vs Q E hr hsp => ?_
  obtain ⟨t, ht, q⟩ := hbody cdv A outer s H vs Q E hr hsp
  exact ⟨t, PSs.xes xes_fn ht, q⟩
end
section
variable {X : Cx} {k : Nat} {f : Addr} {fd : FuncData} {ps : List Str} {sp : Sp} {dvs : List V} {ds : List Value} {W : L2.St → XK} {x : Str} {p pos : Pos} {e : Expr} {es : List Expr} {t : TA}
def tCallX (sp : Sp) (dvs : List V) (W : L2.St → XK) (t : TA) : TE := fun σ H Q => t σ H fun vs H1 => sp (vs ++ dvs) H1 Q (W σ)
theorem run_fnX {pins : List (Addr × Obj)} {σ : L2.St} {H : Hp} {s : Shared} {Q : VK} {us : List Value} {vs : List V} (F : FnOk X.prog X.w X.K X.mg X.base (CX1 X.prog X.w) k f fd ps sp) (hr : Room k X.A) (hb : Binds X.K fd ps ds) (hd : Vals dvs ds) (hx : Xes X W) (hex : X.ex = [])
    (I : Inv X pins σ H s) (r : Vals vs us) (h : sp (vs ++ dvs) H Q (W σ)) : wpAny (model X.prog X.w) X.A (call (.ref f) us) (EP X pins σ Q) X.xe s := by
  have r2 : Vals (vs ++ dvs) (us ++ ds) := r.append hd
  have hl : (us ++ ds).length = ps.length := by rw [← r2.length]; exact F.len _ _ _ _ h
  refine wpAny_call (codeAny_mono (F.run X.A X.stack s H ⟨us, []⟩ (us ++ ds) (vs ++ dvs) Q (W σ) hr I.env0 (hb s us I.kIn hl) r2 h) fun r s' hq => ?_)
  match r, hq with
  | .error e, hq => exact xes_call hx hex I hq
  | .ok (.ret u), hq => exact I.after hq
  | .ok .next, hq => exact False.elim hq
  | .ok .brk, hq => exact False.elim hq
  | .ok .cont, hq => exact False.elim hq
theorem pe_callX (F : FnOk X.prog X.w X.K X.mg X.base (CX1 X.prog X.w) k f fd ps sp) (hr : Room k X.A) (hg : Gl X x) (hm : X.mg x = some (.ref f)) (hk : PySem.W.keepIn X.K (.ref f) = true) (hb : Binds X.K fd ps ds) (hd : Vals dvs ds) (hx : Xes X W)
    (ha : PA X (e :: es) t) (hex : X.ex = [] := by rfl) (hdb : (x == ("__debug__" : Str)) = false := by decide) (he : starEach (e :: es) X.env = (false, eval e X.env) :: starEach es X.env := by rfl) (hpl : (backTo pos (starEach es X.env)).any (·.1) = false := by rfl) :
    PE X (.Call (.Name x p) (e :: es) [] pos) (tCallX sp dvs W t) := by
  intro pins s σ H Q I h
  refine wpAny_Call_Name_kw (ld_glob I hg hm ?_ hdb)
  refine PySem.W.callWith_K (h₀ := X.base) I.ok.mod.kin hk (thn (ha pos pins s σ H _ I h) fun us s1 ⟨vs, H1, I1, r, q⟩ => ⟨I1.kIn, ?_⟩) he hpl
  exact run_fnX F hr hb hd hx hex I1 r q
end
structure XCls (K : PySem.W.Frag) (C : Addr) : Prop where
  ob : ∃ (nm q : Str) (N : Addr) (bs bm : List Value) (hdct : Bool) (sn : List Str) (sub : List Value) (ab : Bool) (col : Option Bool) (dd : Option Addr) (k0 k1 k2 k3 k5 : Option Value) (mN : Str → Option Value),
    K.lookup C = some (excClassObj nm q C N bs bm hdct sn sub ab col dd k0 k1 k2 k3 k5 "ValueError.__new__") ∧ (∀ h : Heap, K.In h → h.Ns N mN) ∧ mN "__init__" = none ∧
    ∀ h : Heap, K.In h → OwnTail h [.type "ValueError", .type "Exception", .type "BaseException", .type "object"] bm
section
variable {X : Cx} {x : Str} {C : Addr} {W : L2.St → XK} {np cpos pos : Pos} {e : Expr} {es : List Expr} {t : TA}
def tRaise (t : TA) (C : Addr) (W : L2.St → XK) : TS := fun _ σ H => t σ H fun xs H1 => xs.length ≤ sizeLine ∧ W σ (.ref C) none H1
theorem ps_raise (hc : X.calm = true) (M : XCls X.K C) (hg : Gl X x) (hm : X.mg x = some (.ref C)) (hx : Xes X W) (ha : PA X (e :: es) t) (hex : X.ex = [] := by rfl) (hdb : (x == ("__debug__" : Str)) = false := by decide)
    (he : starEach (e :: es) X.env = (false, eval e X.env) :: starEach es X.env := by rfl) (hpl : (backTo cpos (starEach es X.env)).any (·.1) = false := by rfl) :
    PS X (.Raise (some (.Call (.Name x np) (e :: es) [] cpos)) none pos) (tRaise t C W) := by
  intro pins s σ H D I h
  obtain ⟨nm, q, N, bs, bm, hdct, sn, sub, ab, col, dd, k0, k1, k2, k3, k5, mN, hC, hN, hni, T⟩ := M.ob
  refine wpAny_Raise_call_subU (C := C) (nm := nm) (q := q) (N := N) (bs := bs) (bm := bm) (hdct := hdct) (sn := sn) (sub := sub) (ab := ab) (col := col) (dd := dd) (k0 := k0) (k1 := k1) (k2 := k2) (k3 := k3) (k5 := k5)
    PySem.F.excBase_ValueError (by decide) PySem.F.excBase_ValueError (mN := mN) ((T _ I.kIn).hasType PySem.F.excBase_ValueError.hasBase) (I.ok.hd hc) ?_ hni ?_
  · rw [he]; show (false || (backTo cpos (starEach es X.env)).any (·.1)) = false; rw [hpl]; rfl
  · refine ld_glob I hg hm ⟨rfl, ?_⟩ hdb
    have z := ha cpos pins s σ H _ I h
    rw [he] at z ⊢
    refine Calls.evalArgs_plain (wpAny_mono z (fun us s2 ⟨vs, H2, I2, r, hl, q⟩ => ⟨rfl, by rw [← r.length]; exact hl, I2.kIn _ _ hC, hN _ I2.kIn, T _ I2.kIn, fun h' a m => ?_⟩) fun _ _ y => y)
    obtain ⟨tp, ea, _, _⟩ := m.there
    have J : Inv X pins σ H2 { s2 with heap := h' } := I2.kept (t' := s2.toks) m.keeps
    refine hx pins σ H2 _ a (.ref C) none J ⟨⟨new_of I2 hex m.new, un_of I2.hok m.new, fun p hp y => ?_, ⟨_, _, ea, rfl⟩⟩, .inl ⟨_, _, ea, rfl, rfl, rfl, rfl⟩⟩ q
    have w := (I2.pin p hp).1
    rw [y, m.new] at w
    cases w
end
end My
set_option Elab.async false
set_option linter.all false
set_option maxRecDepth 100000
set_option maxHeartbeats 1000000
namespace My
open PySem PySem.Spec PyProof.Rows L2
section
variable {X : Cx} {pins : List (Addr × Obj)} {σ : L2.St} {H : Hp} {s : Shared}
abbrev pnd (X : Cx) (pins : List (Addr × Obj)) : Cx := { X with pn := X.pn ++ pins }
theorem Inv.pnd (I : Inv X pins σ H s) : Inv (pnd X pins) [] σ H s :=
  ⟨⟨I.ok.mod, I.ok.kind, I.ok.glob, I.ok.blt, I.ok.above, I.ok.inj, I.ok.has, I.ok.cab, I.ok.hd, I.ok.frames, I.ok.stk, I.ok.exf, I.ok.bs, I.ok.bsz, I.ok.noex, I.ok.exfs, I.ok.funs, I.ok.frf⟩, I.os, I.bare, I.base, I.loc, I.cell, I.free, I.freeC, fun p hp => I.pin p (by rw [List.append_nil] at hp; exact hp), I.hok, I.len⟩
theorem Inv.unpnd {pins' : List (Addr × Obj)} (I : Inv (My.pnd X pins) pins' σ H s) : Inv X pins σ H s :=
  ⟨⟨I.ok.mod, I.ok.kind, I.ok.glob, I.ok.blt, I.ok.above, I.ok.inj, I.ok.has, I.ok.cab, I.ok.hd, I.ok.frames, I.ok.stk, I.ok.exf, I.ok.bs, I.ok.bsz, I.ok.noex, I.ok.exfs, I.ok.funs, I.ok.frf⟩, I.os, I.bare, I.base, I.loc, I.cell, I.free, I.freeC, fun p hp => I.pin p (List.mem_append_left _ hp), I.hok, I.len⟩
theorem Rec.unpnd {h : Heap} {b : Addr} (r : Rec (My.pnd X pins) [] H h b) : Rec X pins H h b := ⟨r.nw, r.un, fun p hp => r.pin p (by rw [List.append_nil]; exact hp), r.ob⟩
theorem XIn.unpnd {h : Heap} {a : Addr} {C : Value} {d : Option Addr} (x : XIn (My.pnd X pins) [] H h a C d) : XIn X pins H h a C d := by
  obtain ⟨r, x⟩ := x
  rcases x with x | ⟨T, rT, x⟩
  · exact ⟨r.unpnd, .inl x⟩
  · exact ⟨r.unpnd, .inr ⟨T, rT.unpnd, x⟩⟩
abbrev suite (X : Cx) (a : Addr) : Cx := { X with A := X.A.mark (some (.ref a)), calm := false, xe := fun _ _ => False }
theorem Inv.suite (I : Inv X pins σ H s) (a : Addr) : Inv (suite X a) pins σ H s :=
  ⟨⟨I.ok.mod, I.ok.kind, I.ok.glob, I.ok.blt, I.ok.above, I.ok.inj, I.ok.has, I.ok.cab, fun z => (Bool.false_ne_true z).elim, I.ok.frames, I.ok.stk, I.ok.exf, I.ok.bs, I.ok.bsz, I.ok.noex, I.ok.exfs, I.ok.funs, I.ok.frf⟩, I.os, I.bare, I.base, I.loc, I.cell, I.free, I.freeC, I.pin, I.hok, I.len⟩
theorem Inv.unsuite {a : Addr} (I : Inv (My.suite X a) pins σ H s) (ok : X.Ok) : Inv X pins σ H s :=
  ⟨ok, I.os, I.bare, I.base, I.loc, I.cell, I.free, I.freeC, I.pin, I.hok, I.len⟩
theorem SP.unsuite {a : Addr} {D : Ends} {f : Flow} {s' : Shared} (ok : X.Ok) (h : SP (My.suite X a) pins D f s') : SP X pins D f s' := by
  cases f with
  | next => obtain ⟨σ', H', I, q⟩ := h; exact ⟨σ', H', Inv.unsuite I ok, q⟩
  | brk => obtain ⟨σ', H', I, q⟩ := h; exact ⟨σ', H', Inv.unsuite I ok, q⟩
  | cont => obtain ⟨σ', H', I, q⟩ := h; exact ⟨σ', H', Inv.unsuite I ok, q⟩
  | ret u => obtain ⟨v, σ', H', I, r, q⟩ := h; exact ⟨v, σ', H', Inv.unsuite I ok, r, q⟩
def XO (a : Addr) (C : Value) (d : Option Addr) : HO := .ext fun h => ∃ (oe : Obj) (vs : Array Value), h.get? a = some oe ∧ oe.cls = C ∧ oe.dict = d ∧ oe.data = .fields vs
end
section
variable {X : Cx}
def tCut (t : TS) : TS := fun D σ H => ∃ J : L2.St → Hp → Prop, t { D with nx := J } σ H ∧ ∀ σ' H', J σ' H' → D.nx σ' H'
theorem ps_cut {st : Stmt} {t : TS} (h : PS X st t) : PS X st (tCut t) := by
  intro pins s σ H D I ⟨J, hw, k⟩
  refine wpAny_mono (h pins s σ H _ I hw) (fun f s' q => ?_) fun _ _ z => z
  cases f with
  | next => obtain ⟨σ', H', I', z⟩ := q; exact ⟨σ', H', I', k _ _ z⟩
  | brk => exact q
  | cont => exact q
  | ret u => exact q
end
section
variable {X : Cx}
def PH (X : Cx) (hs : List ExceptHandler) (th : Ends → L2.St → XK) : Prop :=
  ∀ (pins : List (Addr × Obj)) (s : Shared) (σ : L2.St) (H : Hp) (D : Ends) (a : Addr) (C : Value) (d : Option Addr), Inv X pins σ H s → XHeld X pins H s.heap a C d .none → th D σ C d H →
    wpAny (model X.prog X.w) X.A (handleBy (.ref a) X.env hs) (SP X pins D) X.xe s
def tTry (tb : List (Addr × Obj) → Ends → TS) (to : TS) : TS := fun D σ H => ∀ pins, tb pins D { D with nx := to D } σ H
theorem ps_try {body orelse : List Stmt} {h₀ : ExceptHandler} {hs : List ExceptHandler} {pos : Pos} {tb : List (Addr × Obj) → Ends → TS} {th : Ends → L2.St → XK} {to : TS} (hst : X.stack = X.env :: X.outer) (hf : X.env.frame = some X.env.locals)
    (hb : ∀ (pins : List (Addr × Obj)) (D : Ends), PSs (xw (pnd X pins) (th D)) body (tb pins D)) (hh : PH X (h₀ :: hs) th) (ho : PSs X orelse to) : PS X (.Try body (h₀ :: hs) orelse [] pos) (tTry tb to) := by
  intro pins s σ H D I h
  refine wpAny_Try_except (wpAny_mono (hb pins D [] s σ H { D with nx := to D } ((Inv.pnd I).wish _) (h pins)) (fun f s1 q => ?_) fun e s1 q => ?_)
  · cases f with
    | next => obtain ⟨σ', H', J, z⟩ := q; exact ho pins s1 σ' H' D (Inv.unpnd J.unwish) z
    | brk => obtain ⟨σ', H', J, z⟩ := q; exact ⟨σ', H', Inv.unpnd J.unwish, z⟩
    | cont => obtain ⟨σ', H', J, z⟩ := q; exact ⟨σ', H', Inv.unpnd J.unwish, z⟩
    | ret u => obtain ⟨v, σ', H', J, r, z⟩ := q; exact ⟨v, σ', H', Inv.unpnd J.unwish, r, z⟩
  · obtain ⟨a, C, d, σ', H', rfl, J, x, w⟩ := q
    have J' : Inv X pins σ' H' s1 := Inv.unpnd J
    exact note_x J' J'.ok.frames hst hf (XIn.unpnd x) fun s2 I2 x2 => flight_x I2 x2 fun s3 I3 x3 => hh pins s3 σ' H' D a C d I3 x3 w
theorem ph_none : PH X [] (fun _ _ _ _ _ => False) := fun _ _ _ _ _ _ _ _ _ _ w => False.elim w
theorem matches_own {M : Model} {A : Around} {E : Value → Shared → Prop} {K : PySem.W.Frag} {s : Shared} {e : Addr} {oe : Obj} {C c : Addr} {b : Bool} {Q : Bool → Shared → Prop} (KX : K.In s.heap) (he : s.heap.get? e = some oe) (hcls : oe.cls = .ref C)
    (hC : PySem.W.kitCls K (.ref C) (.ref c) = some b) (hc : PySem.W.kitCls K (.ref c) (.type "BaseException") = some true) (hq : Q b s) : wpAny M A (excMatches (.ref e) (.ref c)) Q E s := by
  obtain ⟨h, g, d, t, os⟩ := s
  obtain ⟨L1, L2', L3⟩ := PySem.W.kit_cls (M := M) KX hC
  obtain ⟨_, _, L4⟩ := PySem.W.kit_cls (M := M) KX hc
  have f := tc_notTuple
  have LT : PySem.W.Looks M h (typeOf (.ref e)) (.ref C) := hcls ▸ (PySem.W.Looks.ld he).andThen .now
  have LI : PySem.W.Looks M h (isInstance (.ref c) (.type "tuple")) false := L1.andThen (PySem.W.Looks.of_pure f)
  have LE : PySem.W.Looks M h (isExcClass (.ref c)) true := L2'.andThen L4
  unfold excMatches
  refine wpAny_bind (LI.at ?_)
  simp only [Bool.false_eq_true, if_false]
  refine wpAny_bind (wpAny_pure ?_)
  refine wpAny_bind ?_
  rw [List.forIn_cons]
  refine wpAny_bind (wpAny_bind (LE.at ?_))
  simp only [Bool.not_true, Bool.false_eq_true, if_false]
  refine wpAny_pure ?_
  dsimp only
  rw [List.forIn_nil]
  refine wpAny_pure (wpAny_bind (LT.at (wpAny_bind ?_)))
  rw [List.forIn_cons]
  refine wpAny_bind (wpAny_bind (L3.at ?_))
  cases b with
  | true => exact wpAny_pure (wpAny_pure (wpAny_pure hq))
  | false => exact wpAny_pure (wpAny_pure (wpAny_pure hq))
def tCl (K : PySem.W.Frag) (c : Addr) (hit miss : Ends → L2.St → XK) : Ends → L2.St → XK := fun D σ C d H => ∃ (C' : Addr) (b : Bool), C = .ref C' ∧ PySem.W.kitCls K (.ref C') (.ref c) = some b ∧ if b = true then hit D σ C d H else miss D σ C d H
theorem ph_own {x : Str} {c : Addr} {np hpos : Pos} {b₀ : Stmt} {body : List Stmt} {rest : List ExceptHandler} {ts : Addr → TS} {tr : Ends → L2.St → XK} (hc : PySem.W.kitCls X.K (.ref c) (.type "BaseException") = some true) (hg : Gl X x) (hm : X.mg x = some (.ref c))
    (hs : ∀ a, PSs (suite X a) (b₀ :: body) (ts a)) (hr : PH X rest tr) (hdb : (x == ("__debug__" : Str)) = false := by decide) :
    PH X (.ExceptHandler (some (.Name x np)) none (b₀ :: body) hpos :: rest) (tCl X.K c (fun D σ _ _ H => ∀ a, H a = none → ts a D σ H) tr) := by
  intro pins s σ H D a C d I x h
  obtain ⟨C', b, rfl, hb, h⟩ := h
  obtain ⟨r, T, rT, oe, vs, oT, ts', he, hcl, r2⟩ := id x
  refine wpAny_handleBy_cons (codeAny_handlers_test ?_) (by intro q; cases q)
  refine ld_glob (X := suite X a) (Inv.suite I a) hg hm ?_ hdb
  refine matches_own I.kIn he hcl hb hc ?_
  cases b with
  | false => exact hr pins s σ H D a _ d I x h
  | true =>
    refine codeAny_handlers_suite (flight_x I x fun s2 I2 x2 => ?_)
    exact wpAny_mono (hs a pins s2 σ H D (Inv.suite I2 a) (h a r.un)) (fun f s3 q => SP.unsuite I.ok q) (fun _ _ z => z.elim)
end
theorem xcls_of {K : PySem.W.Frag} {C : Addr} (q : PySem.W.excIn K C [.type "ValueError", .type "Exception", .type "BaseException", .type "object"] "ValueError.__new__" = true) : XCls K C := by
  unfold PySem.W.excIn at q
  split at q
  · rename_i dd cd sl ho
    split at q
    · rename_i C' bm k0 k1 k2 k3 n k5 hm hs
      simp only [Bool.and_eq_true, beq_iff_eq, Bool.not_eq_true'] at q
      obtain ⟨⟨⟨⟨⟨rfl, rfl⟩, hdel⟩, ht⟩, hok⟩, hni⟩ := q
      obtain ⟨nm, bs, mro, ns, qn, hd, sn, sub, ab, col, del⟩ := cd
      dsimp only at hm hdel hok hni
      subst hm hdel
      have hsl : sl = #[k0, k1, k2, k3, some (.builtin "ValueError.__new__"), k5] := by
        obtain ⟨l⟩ := sl
        simp only at hs
        rw [hs]
      subst hsl
      unfold PySem.W.nsOkIn at hok
      split at hok
      · rename_i c1 d1 es ep sl1 hN
        have hSK : StrKeys es := fun e he => by
          have z := Array.all_eq_true_iff_forall_mem.mp hok e he
          split at z
          · rename_i n t q; exact ⟨n, t, q⟩
          · cases z
        have hNs : ∀ h : Heap, K.In h → h.Ns ns (fun x => nsFind es x) := fun h X => ⟨_, es, ep, X _ _ hN, rfl, hSK, fun _ => rfl⟩
        refine ⟨nm, qn, ns, bs, bm, hd, sn, sub, ab, col, dd, k0, k1, k2, k3, k5, fun x => nsFind es x, ho, hNs, ?_, fun h X => PySem.W.tail_of_in X ht⟩
        unfold PySem.W.nsIn at hni
        rw [hN] at hni
        dsimp only at hni
        split at hni
        · cases hni
        · rename_i hf
          show nsFind es "__init__" = none
          unfold nsFind findBy
          rw [← Array.find?_toList, hf]
          rfl
      · cases hok
    · cases q
  · cases q
def TyX (K : PySem.W.Frag) (H : Hp) (x : V) (t : Value) (b : Bool) : Prop := TyOf K H x t ∨ ∃ (a : Addr) (d : Option Addr), x = .ref a ∧ H a = some (XO a t d) ∧ b = true
def rIsi (K : PySem.W.Frag) : List V → Hp → VK → Prop := fun xs H Q => ∃ (x c : V) (u t : Value) (b : Bool), xs = [x, c] ∧ RelV c u ∧ (∀ u', RelV c u' → u' = u) ∧ TyX K H x t b ∧ PySem.W.kitOne K t u = some b ∧ Q (.bl b) H
end My
set_option Elab.async false
set_option linter.all false
set_option maxRecDepth 100000
set_option maxHeartbeats 1000000
namespace My
open PySem PySem.Spec PyProof.Rows L2
theorem isi_yes {prog : Program} {w : World} {A : Around} {E : Value → Shared → Prop} {s : Shared} {Q : Value → Shared → Prop} {K : PySem.W.Frag} {a : Addr} {t c : Value} (KX : K.In s.heap) (hp : ∃ o, s.heap.get? a = some o ∧ o.cls = t) (e : PySem.W.kitOne K t c = some true)
    (h : Q (.bool true) s) : wpAny (model prog w) A (call (.builtin "isinstance") [.ref a, c]) Q E s := by
  refine call_isinstance_of ?_ (by intro q; cases q)
  obtain ⟨h0, g, d, tt, os⟩ := s
  obtain ⟨o, ho, hc⟩ := hp
  have LT : PySem.W.Looks (model prog w) h0 (typeOf (.ref a)) t := hc ▸ (PySem.W.Looks.ld ho).andThen .now
  unfold PySem.W.kitOne at e
  unfold Builtin.«isinstance.nested»
  refine wpAny_bind (LT.at ?_)
  by_cases q : (t == c) = true
  · rw [if_pos q]
    first
      | exact wpAny_bind (wpAny_rule (wpAny_pure h))
      | exact wpAny_bind (wpAny_rule h)
  · rw [if_neg q] at e
    rw [if_neg q]
    obtain ⟨hty, his, hsub⟩ := PySem.W.kit_cls (M := model prog w) KX e
    have LI : PySem.W.Looks (model prog w) h0 (isInstance (.ref a) c) true := LT.andThen hsub
    refine wpAny_bind (hty.at ?_)
    rw [if_pos (by decide)]
    k_delta "plainIsInstance"
    refine wpAny_bind (wpAny_bind (his.at ?_))
    simp only [Bool.not_true, Bool.false_eq_true, if_false]
    refine wpAny_bind (LI.at ?_)
    first
      | exact wpAny_pure (wpAny_pure h)
      | (simp only [if_true]; first | exact wpAny_pure (wpAny_pure h) | exact wpAny_pure h | exact wpAny_bind (wpAny_pure (wpAny_pure h)))
section
variable {X : Cx}
theorem call_isi2 : CallR X (.builtin "isinstance") (rIsi X.K) := by
  intro pins s σ H xs us Q I hv h
  obtain ⟨x, c, u, t, b, rfl, hu, hu', ty, e, q⟩ := h
  cases hv with
  | cons r1 hv =>
    cases hv with
    | cons r2 hv =>
      cases hv
      rename_i v1 v2
      rw [hu' v2 r2]
      rcases ty with ty | ⟨a, d, rfl, ea, rfl⟩
      · exact isinst_ok I r1 ty e fun tk => ⟨.bl b, H, I.tok tk, rfl, q⟩
      · cases r1
        obtain ⟨⟨oe, vs, h1, h2, _⟩, _⟩ := (show ObjOk X.prog X.w H s.heap a (XO a t d) from I.hok a _ ea)
        exact isi_yes I.kIn ⟨oe, h1, h2⟩ e ⟨.bl true, H, I, rfl, q⟩
def rLen (K : PySem.W.Frag) : List V → Hp → VK → Prop := fun xs H Q => ∃ p ys, xs = [.ref p] ∧ (SqL K H p ys ∨ SqT K H p ys) ∧ Q (.int ys.length) H
theorem call_lenN : CallR X (.builtin "len") (rLen X.K) := call_len_seq
end
section
variable {K : PySem.W.Frag} {H : Hp} {Q : VK}
theorem r_isi {x : V} {T : String} {t : Value} {b : Bool} (ty : TyOf K H x t) (e : PySem.W.kitOne K t (.type T) = some b) (h : Q (.bl b) H) : rIsi K [x, .ty T] H Q := ⟨x, _, _, t, b, rfl, rfl, fun _ z => z, .inl ty, e, h⟩
end
section
variable {K : PySem.W.Frag}
theorem kit_int_int : PySem.W.kitOne K (.type "int") (.type "int") = some true := by rfl
theorem kit_int_bool : PySem.W.kitOne K (.type "int") (.type "bool") = some false := by rfl
theorem kit_bool_int : PySem.W.kitOne K (.type "bool") (.type "int") = some true := by rfl
theorem kit_bool_bool : PySem.W.kitOne K (.type "bool") (.type "bool") = some true := by rfl
theorem kit_str_str : PySem.W.kitOne K (.type "str") (.type "str") = some true := by rfl
theorem kit_dct_dct : PySem.W.kitOne K (.type "dict") (.type "dict") = some true := by rfl
end
end My
set_option Elab.async false
set_option linter.all false
set_option maxRecDepth 100000
namespace My
open PySem PySem.Spec PyProof.Rows L2
section
variable {K : PySem.W.Frag} {σ σ' : L2.St} {H H1 : Hp} {Q : VK} {D : Ends} {ta tb te : TE} {t u : TS} {c c' : TT} {ar : TA} {v x y : V} {i j : Nat}
theorem r_start {N : List Str} {vs : List V} (e : start N vs = σ) (h : t D σ H) : t D (start N vs) H := e ▸ h
theorem r_var (e : σ[i]? = some (some v)) (h : Q v H) : tVar i σ H Q := ⟨v, e, h⟩
theorem r_c (h : Q v H) : tC v σ H Q := h
theorem r_op {r : R2} (h : ta σ H fun x H1 => tb σ H1 fun y H2 => r x y H2 Q) : tOp r ta tb σ H Q := h
theorem r_un {r : V → Hp → VK → Prop} (h : ta σ H fun x H1 => r x H1 Q) : tUn r ta σ H Q := h
theorem r_I0 {g : Int → Int → V} {i j : Int} (h : Q (g i j) H) : rI0 g (.int i) (.int j) H Q := ⟨i, j, rfl, rfl, h⟩
theorem r_I {C : Int → Int → Prop} {g : Int → Int → V} {i j : Int} (hc : C i j) (h : Q (g i j) H) : rI C g (.int i) (.int j) H Q := ⟨i, j, rfl, rfl, hc, h⟩
theorem r_U {g : Int → V} {i : Int} (h : Q (g i) H) : rU g (.int i) H Q := ⟨i, rfl, h⟩
theorem r_eqI {i j : Int} (h : Q (.bl (decide (i = j))) H) : rEq (.int i) (.int j) H Q := ⟨rfl, by
  have e : decide (V.int i = V.int j) = decide (i = j) := by by_cases z : i = j <;> simp [z]
  rw [e]; exact h⟩
theorem r_neS {i j : Str} (h : Q (.bl (!decide (i = j))) H) : rNe (.str i) (.str j) H Q := ⟨rfl, by
  have e : decide (V.str i = V.str j) = decide (i = j) := by by_cases z : i = j <;> simp [z]
  rw [e]; exact h⟩
theorem r_exb {b : Bool} {Q : Bool → Prop} (h : Q b) : ∃ k, V.bl b = .bl k ∧ Q k := ⟨b, rfl, h⟩
theorem r_test {Q : Bool → Hp → Prop} (h : te σ H fun x H' => ∃ k, x = .bl k ∧ Q k H') : tTest te σ H Q := h
theorem r_tB {Q : Bool → Hp → Prop} (h : te σ H fun x H' => ∃ k, x = .bl k ∧ Q k H') : tB te σ H Q := h
theorem r_or {Q : Bool → Hp → Prop} (h : c σ H fun b H1 => if b = true then Q true H1 else c' σ H1 Q) : tOr c c' σ H Q := h
theorem r_not {Q : Bool → Hp → Prop} (h : c σ H fun b H1 => Q (!b) H1) : tNot c σ H Q := h
theorem r_andV (h : ta σ H fun x H1 => ∃ k, x = .bl k ∧ if k = true then tb σ H1 Q else Q (.bl false) H1) : tAndV ta tb σ H Q := h
theorem r_orV (h : ta σ H fun x H1 => ∃ k, x = .bl k ∧ if k = true then Q (.bl true) H1 else tb σ H1 Q) : tOrV ta tb σ H Q := h
theorem r_notV (h : ta σ H fun x H1 => ∃ k, x = .bl k ∧ Q (.bl (!k)) H1) : tNotV ta σ H Q := h
theorem r_next (h : D.nx σ H) : tNext D σ H := h
theorem r_seq (h : t { nx := u D, rt := D.rt, bk := D.bk, ct := D.ct } σ H) : tSeq t u D σ H := h
theorem r_drop (h : te σ H fun _ H1 => D.nx σ H1) : tDrop te D σ H := h
theorem r_ret (h : te σ H D.rt) : tRet te D σ H := h
theorem r_if (h : c σ H fun b H1 => if b = true then t D σ H1 else u D σ H1) : tIfS c t u D σ H := h
theorem r_asg {g : TG} (h : te σ H fun x H1 => g x σ H1 D.nx) : tAsg te g D σ H := h
theorem r_name {Q : L2.St → Hp → Prop} (e : σ.set i (some v) = σ') (h : Q σ' H) : gName i v σ H Q := by subst e; exact h
theorem r_gnil {Q : L2.St → Hp → Prop} (h : Q σ H) : gNil [] σ H Q := ⟨rfl, h⟩
theorem r_gcons {g : TG} {gs : TGs} {vs : List V} {Q : L2.St → Hp → Prop} (h : g v σ H fun σ' H' => gs vs σ' H' Q) : gCons g gs (v :: vs) σ H Q := ⟨v, vs, rfl, h⟩
theorem r_gtup {n : Nat} {gs : TGs} {a : Addr} {xs : List V} {Q : L2.St → Hp → Prop} (hS : SqT K H a xs) (hn : xs.length = n) (h : gs xs σ H Q) : gTup K n gs (.ref a) σ H Q := ⟨a, xs, rfl, hS, hn, h⟩
theorem r_nx {f b c : L2.St → Hp → Prop} {r : VK} (h : f σ H) : Ends.nx { nx := f, rt := r, bk := b, ct := c } σ H := h
theorem r_rt {f b c : L2.St → Hp → Prop} {r : VK} (h : r v H) : Ends.rt { nx := f, rt := r, bk := b, ct := c } v H := h
theorem r_nil {Q : List V → Hp → Prop} (h : Q [] H) : tNil σ H Q := h
theorem r_cons {Q : List V → Hp → Prop} (h : te σ H fun x H1 => ar σ H1 fun xs H2 => Q (x :: xs) H2) : tCons te ar σ H Q := h
theorem r_tup (h : ar σ H fun xs H1 => xs.length ≤ sizeLine ∧ ∀ p, H1 p = none → Q (.ref p) (upd H1 p (.tup xs))) : tTup ar σ H Q := h
theorem r_lst (h : ar σ H fun xs H1 => xs.length ≤ sizeLine ∧ ∀ p, H1 p = none → Q (.ref p) (upd H1 p (.lst xs))) : tLst ar σ H Q := h
theorem r_new {xs : List V} {A : Prop} (hn : xs.length ≤ sizeLine) (h : A) : xs.length ≤ sizeLine ∧ A := ⟨hn, h⟩
theorem r_call {sp : Sp} {E : XK} (h : ar σ H fun vs H1 => sp vs H1 Q E) : tCall sp [] E ar σ H Q := by
  have e : (fun vs H1 => sp (vs ++ []) H1 Q E) = fun vs H1 => sp vs H1 Q E := by funext vs H1; rw [List.append_nil]
  show ar σ H fun vs H1 => sp (vs ++ []) H1 Q E
  rw [e]; exact h
theorem r_callX {sp : Sp} {W : L2.St → XK} (h : ar σ H fun vs H1 => sp vs H1 Q (W σ)) : tCallX sp [] W ar σ H Q := by
  have e : (fun vs H1 => sp (vs ++ []) H1 Q (W σ)) = fun vs H1 => sp vs H1 Q (W σ) := by funext vs H1; rw [List.append_nil]
  show ar σ H fun vs H1 => sp (vs ++ []) H1 Q (W σ)
  rw [e]; exact h
theorem r_cb {r : List V → Hp → VK → Prop} (h : ar σ H fun vs H1 => r vs H1 Q) : tCB r ar σ H Q := h
theorem r_try {tb : List (Addr × Obj) → Ends → TS} {to : TS} (h : ∀ pins, tb pins D { nx := to D, rt := D.rt, bk := D.bk, ct := D.ct } σ H) : tTry tb to D σ H := h
theorem r_raise {C : Addr} {W : L2.St → XK} (h : ar σ H fun xs H1 => xs.length ≤ sizeLine ∧ W σ (.ref C) none H1) : tRaise ar C W D σ H := h
theorem r_ixL {p : Addr} {xs : List V} {k : Int} (hS : SqL K H p xs) (e : atI xs k = some v) (h : Q v H) : rIxL K (.ref p) (.int k) H Q := ⟨p, xs, k, v, rfl, rfl, hS, e, h⟩
theorem r_ixT {p : Addr} {xs : List V} {k : Int} (hS : SqT K H p xs) (e : atI xs k = some v) (h : Q v H) : rIxT K (.ref p) (.int k) H Q := ⟨p, xs, k, v, rfl, rfl, hS, e, h⟩
theorem r_fresh {R : Addr → Prop} (h : ∀ p, H p = none → R p) : ∀ p, H p = none → R p := h
theorem r_cl {c C' : Addr} {b : Bool} {d : Option Addr} {hit miss : Ends → L2.St → XK} (k : PySem.W.kitCls K (.ref C') (.ref c) = some b) (h : if b = true then hit D σ (.ref C') d H else miss D σ (.ref C') d H) : tCl K c hit miss D σ (.ref C') d H := ⟨C', b, rfl, k, h⟩
theorem r_cut0 (h : t { nx := D.nx, rt := D.rt, bk := D.bk, ct := D.ct } σ H) : tCut t D σ H := ⟨D.nx, h, fun _ _ z => z⟩
theorem r_cut (J : L2.St → Hp → Prop) (h : t { nx := J, rt := D.rt, bk := D.bk, ct := D.ct } σ H) (k : ∀ σ' H', J σ' H' → D.nx σ' H') : tCut t D σ H := ⟨J, h, k⟩
theorem r_lenL {p : Addr} {ys : List V} (hS : SqL K H p ys) (h : Q (.int ys.length) H) : rLen K [.ref p] H Q := ⟨p, ys, rfl, .inl hS, h⟩
end
section
variable {K : PySem.W.Frag} {σ : L2.St} {H : Hp} {D : Ends} {wi : TI} {g : TG} {tb : TS} {tl : TE} {ta : TA}
def FOR (J : It) (g : TG) (tb : TS) (D : Ends) (σ : L2.St) (H : Hp) : Prop := ∃ W : Nat → Nat → L2.St → Hp → Prop, (∃ m, W 0 m σ H) ∧ ∀ i m σ H, W i m σ H →
  (J.stop i H ∧ D.nx σ H) ∨ (J.go i H ∧ ∃ N : L2.St → Hp → Prop, (∀ σ' H', N σ' H' → ∃ m', m' < m ∧ W (i + 1) m' σ' H') ∧ ∀ x H', J.yld i H x H' → g x σ H' fun σ2 H2 => tb { D with nx := N, ct := N, bk := D.nx } σ2 H2)
def rItL (K : PySem.W.Frag) (x : V) (H : Hp) (R : It → Hp → Prop) : Prop := ∃ a, x = .ref a ∧ (∃ xs, SqL K H a xs) ∧ R (Itl K a) H
def rItR (vs : List V) (H : Hp) (R : It → Hp → Prop) : Prop := ∃ j : Int, vs = [.int j] ∧ -(2 ^ 62) ≤ j ∧ j < 2 ^ 62 ∧ R (Itr 0 j.toNat) H
theorem r_for (h : wi σ H fun J H1 => FOR J g tb D σ H1) : tFor wi g tb D σ H := h
theorem r_iL {R : It → Hp → Prop} (h : tl σ H fun x H1 => rItL K x H1 R) : iList K tl σ H R := h
theorem r_iR {R : It → Hp → Prop} (h : ta σ H fun vs H1 => rItR vs H1 R) : iRng1 ta σ H R := h
theorem r_itL {a : Addr} {xs : List V} {R : It → Hp → Prop} (hS : SqL K H a xs) (h : R (Itl K a) H) : rItL K (.ref a) H R := ⟨a, rfl, ⟨xs, hS⟩, h⟩
theorem r_itR {j : Int} {R : It → Hp → Prop} (h0 : -(2 ^ 62) ≤ j) (h1 : j < 2 ^ 62) (h : R (Itr 0 j.toNat) H) : rItR [.int j] H R := ⟨j, rfl, h0, h1, h⟩
theorem f_range {lo : Int} {n : Nat} (Pv : Nat → L2.St → Hp → Prop) (h0 : Pv 0 σ H)
    (hs : ∀ (i : Nat) σ H, i < n → Pv i σ H → g (.int (lo + i)) σ H fun σ2 H2 => tb { nx := Pv (i + 1), rt := D.rt, bk := D.nx, ct := Pv (i + 1) } σ2 H2) (hd : ∀ σ H, Pv n σ H → D.nx σ H) : FOR (Itr lo n) g tb D σ H := for_range Pv h0 hs hd
end
theorem look_new {H : Hp} {a p : Addr} {o o' : HO} (h : H a = some o) (n : H p = none) : upd H p o' a = some o := by rw [upd_ne (ne_of_none h n)]; exact h
theorem sqL_new {K : PySem.W.Frag} {H : Hp} {a p : Addr} {o : HO} {xs : List V} (h : SqL K H a xs) (n : H p = none) : SqL K (upd H p o) a xs := (same_new n o).seq h
theorem sqT_new {K : PySem.W.Frag} {H : Hp} {a p : Addr} {o : HO} {xs : List V} (h : SqT K H a xs) (n : H p = none) : SqT K (upd H p o) a xs := same_tup (same_new n o) h
theorem i_t {c A B : Prop} [Decidable c] (h : c) (hA : A) : if decide c = true then A else B := by rw [decide_eq_true h]; exact iteT hA
theorem i_f {c A B : Prop} [Decidable c] (h : ¬ c) (hB : B) : if decide c = true then A else B := by rw [decide_eq_false h]; exact iteF hB
theorem i_2 {c A B : Prop} [Decidable c] (h1 : c → A) (h2 : ¬ c → B) : if decide c = true then A else B := by
  by_cases h : c
  · exact i_t h (h1 h)
  · exact i_f h (h2 h)
theorem i_nf {c A B : Prop} [Decidable c] (h : c) (hB : B) : if (!decide c) = true then A else B := by rw [decide_eq_true h]; exact iteF hB
theorem i_nT {A B : Prop} (h : B) : if (!true) = true then A else B := h
theorem i_nF {A B : Prop} (h : A) : if (!false) = true then A else B := iteT h
theorem i_b2 {b : Bool} {A B : Prop} (h1 : b = true → A) (h2 : b = false → B) : if b = true then A else B := by
  cases b
  · exact iteF (h2 rfl)
  · exact iteT (h1 rfl)
end My
set_option Elab.async false
set_option linter.all false
set_option maxRecDepth 100000
set_option maxHeartbeats 1000000
namespace My
open PySem PySem.Spec PyProof.Rows L2
def AllC {α : Type} (f : α → Prop) : List α → Prop
  | [] => True
  | a :: l => f a ∧ AllC f l
theorem AllC.mem {α : Type} {f : α → Prop} : ∀ {l : List α}, AllC f l → ∀ a ∈ l, f a
  | [], _, _, h => absurd h (by simp)
  | b :: l, h, a, m => by
    rcases List.mem_cons.mp m with rfl | m
    · exact h.1
    · exact AllC.mem h.2 a m
def capsOf (caps : List Nat) (σ : L2.St) : L2.St := caps.map fun j => (σ[j]?).getD none
def rApp (acc : Addr) (N : Hp → Prop) (y : V) (H : Hp) : Prop := ∃ ys, H acc = some (.lst ys) ∧ ys.length < sizeLine ∧ N (upd H acc (.lst (ys ++ [y])))
def COMP (J : It) (caps : List Nat) (tt : TT) (te : TE) (acc : Addr) (σ : L2.St) (H : Hp) (Q : VK) : Prop := ∃ W : Nat → Nat → Hp → Prop, (∃ m, W 0 m H) ∧ ∀ i m H, W i m H →
  (J.stop i H ∧ Q (.ref acc) H) ∨ (J.go i H ∧ ∃ N : Hp → Prop, (∀ H', N H' → ∃ m', m' < m ∧ W (i + 1) m' H') ∧ ∀ v H', J.yld i H v H' → tt (some v :: capsOf caps σ) H' fun b H2 =>
    if b = true then te (some v :: capsOf caps σ) H2 fun y H3 => rApp acc N y H3 else N H2)
abbrev CT (α : Type) := Addr → Shared → Hp → List Addr → α
def tComp (wi : TI) (caps : List Nat) (tt : CT TT) (te : CT TE) : TE := fun σ H Q => wi σ H fun J H1 => ∀ (C : Addr) (s : Shared) (H0 : Hp) (fp : List Addr) (acc : Addr), H1 acc = none → COMP J caps (tt C s H0 fp) (te C s H0 fp) acc σ (upd H1 acc (.lst [])) Q
def tTrue : TT := fun _ H Q => Q true H
def PIfs (X : Cx) (ifs : List Expr) (t : TT) : Prop :=
  ∀ (pins : List (Addr × Obj)) (s : Shared) (σ : L2.St) (H : Hp) (Q : Bool → Hp → Prop), Inv X pins σ H s → t σ H Q →
    wpAny (model X.prog X.w) X.A (forIn ifs true fun c r => if r = true then do let ok ← isTrue c X.env (eval c X.env); pure (ForInStep.yield ok) else pure (ForInStep.yield r)) (TP X pins σ Q) X.xe s
theorem pf_nil {X : Cx} : PIfs X [] tTrue := fun pins s σ H Q I h => wpAny_tests_nil ⟨H, I, h⟩
theorem pf_one {X : Cx} {c : Expr} {t : TT} (h : PT X c t) : PIfs X [c] t := fun pins s σ H Q I hw => wpAny_tests_one (h pins s σ H Q I hw)
def cxC (X : Cx) (N : List Str) (scope : Scope) (cl : List (Str × Addr)) (C : Addr) (s : Shared) (H : Hp) (fp : List Addr) : Cx where
  prog := X.prog
  w := X.w
  K := X.K
  mg := X.mg
  base := X.base
  A := X.A
  N := N
  s₀ := s
  H₀ := H
  env := compEnvC scope cl C X.env
  outer := X.stack
  stack := X.stack
  ex := fp
  fn := fun _ => false
  calm := X.calm
  pn := []
  xe := fun _ _ => False
structure Caps (X : Cx) (x : Str) (scope : Scope) (cl : List (Str × Addr)) (caps : List Nat) (cn : List Str) : Prop where
  clos : closureFor scope X.env = pure cl
  kind : scope.kind = .function
  cell : ∀ y ∈ scope.names, y.2 ≠ .cell
  names : ∀ y ∈ scope.names, y.2 = .local → scope.names.lookup y.1 = some .local
  tg : scope.names.lookup x = some .local
  sub : ∀ y c, cl.lookup y = some c → X.env.cells.lookup y = some c
  has : ∀ y, ((relabel scope X.env).names.lookup y = some .cell ∨ (relabel scope X.env).names.lookup y = some .free) → ∃ c, cl.lookup y = some c
  len : caps.length = cn.length
  cap : ∀ (k : Nat) (y : Str) (j : Nat), cn[k]? = some y → caps[k]? = some j → X.N[j]? = some y ∧ X.env.kindOf y = some .cell ∧ (relabel scope X.env).names.lookup y = some .cell ∧ X.env.scope.names.lookup y = some .cell ∧ ∃ c, cl.lookup y = some c
  nd : (x :: cn).Nodup
section
variable {X : Cx} {pins : List (Addr × Obj)} {σ : L2.St} {H : Hp} {s : Shared}
theorem Inv.comp {x : Str} {scope : Scope} {cl : List (Str × Addr)} {caps : List Nat} {cn : List Str} (Cp : Caps X x scope cl caps cn) (I : Inv X pins σ H s) {fp : List Addr} (hf : ∀ b ∈ fp, FpOk X pins H b) (hlt : ∀ b ∈ fp, b < s.heap.objs.size) {h₁ : Heap} {t' : Nat}
    (hns : h₁.Ns s.heap.objs.size (fun _ => none)) (k : ∀ b o, s.heap.get? b = some o → h₁.get? b = some o) :
    Inv (cxC X (x :: cn) scope cl s.heap.objs.size s H fp) [] (none :: capsOf caps σ) H { s with heap := h₁, toks := t' } := by
  have cne : ∀ y c, cl.lookup y = some c → ∃ v, s.heap.IsCell c v := fun y c e => I.cell y c (Cp.sub y c e)
  have ltC : ∀ y c, cl.lookup y = some c → c < s.heap.objs.size := fun y c e => let ⟨v, q⟩ := cne y c e; q.lt
  have isC : ∀ c v, s.heap.IsCell c v → h₁.IsCell c v := fun c v ⟨o, e, d⟩ => ⟨o, k c o e, d⟩
  refine ⟨⟨I.ok.mod, Cp.kind, I.ok.glob, I.ok.blt, Nat.le_refl _, fun y z c e1 e2 => I.ok.inj y z c (Cp.sub y c e1) (Cp.sub z c e2), fun y hy => Cp.has y hy, fun y c z => (Bool.false_ne_true z).elim, I.ok.hd, I.ok.frames, .inl rfl,
    fun b hb => ⟨Nat.ne_of_lt (hlt b hb), fun y c e z => ?_⟩, I.bs, Nat.le_trans I.ok.bsz I.sz, fun b o e hb => ?_, fun b hb z => ?_, I.stack, I.stkFree⟩,
    rfl, I.bare, Un.kept k, ⟨_, hns, fun i y v e1 e2 e3 => ?_⟩, fun y c e => ?_, I.hok.fresh (Nat.le_refl _), fun y c e => I.freeC y c (Cp.sub y c e), fun p hp => absurd (show p ∈ ([] : List (Addr × Obj)) from hp) (by simp), I.hok.kept k, ?_⟩
  · exact (hf b hb).2.2.2.2.1 y c (Cp.sub y c e) z
  · rcases (hf b hb).2.2.2.1 with z | z
    · exact I.ok.noex b o e z
    · exact absurd (Nat.lt_of_lt_of_le (Heap.lt_size e) (Nat.le_trans I.ok.bsz z)) (Nat.lt_irrefl _)
  · rcases List.mem_cons.mp (I.stkSub b z) with z | z
    · exact (hf b hb).2.1 z
    · exact (hf b hb).2.2.1 z
  · cases i with
    | zero => cases e2
    | succ i =>
      have e1' : cn[i]? = some y := by simpa [cxC] using e1
      have e2' : (capsOf caps σ)[i]? = some (some v) := by simpa using e2
      unfold capsOf at e2'
      rw [List.getElem?_map] at e2'
      obtain ⟨j, hj, ej⟩ := Option.map_eq_some_iff.mp e2'
      obtain ⟨c1, c2, c3, c5, c, c4⟩ := Cp.cap i y j e1' hj
      cases hs : σ[j]? with
      | none => rw [hs] at ej; cases ej
      | some w =>
        rw [hs] at ej
        have ej' : w = some v := ej
        subst ej'
        obtain ⟨m, hn, hl⟩ := I.loc
        obtain ⟨u, r, l⟩ := hl j y v c1 hs (.inr (.inl c5))
        refine ⟨u, r, .inr ⟨.inl c3, c, c4, ?_⟩⟩
        rcases l with ⟨l, _⟩ | ⟨_, c', e', q⟩
        · rw [c2] at l; cases l
        · rw [Cp.sub y c c4] at e'
          cases e'
          exact isC _ _ q
  · obtain ⟨v, q⟩ := cne y c e
    exact ⟨v, isC c v q⟩
  · show (none :: capsOf caps σ).length = (x :: cn).length
    rw [List.length_cons, List.length_cons]
    unfold capsOf
    rw [List.length_map, Cp.len]
theorem Inv.uncomp {N : List Str} {scope : Scope} {cl : List (Str × Addr)} {C : Addr} {σ' : L2.St} {H' : Hp} {s' : Shared} {fp : List Addr} (I : Inv X pins σ H s) (hf : ∀ b ∈ fp, FpOk X pins H b) (hC : C = s.heap.objs.size)
    (J : Inv (cxC X N scope cl C s H fp) [] σ' H' s') {h' : Heap} (sb : Heap.SameBut C s'.heap h') : Inv X pins σ H' { s' with heap := h' } := by
  have ne : ∀ b o, s.heap.get? b = some o → b ≠ C := fun b o e => by rw [hC]; exact Nat.ne_of_lt (Heap.lt_size e)
  have u : Un (frs X.stack) fp H H' s.heap s'.heap := J.base
  have hok : HOk X.prog X.w H' h' := fun b o e => by
    refine (J.hok b o e).stay (fun c u' hc q => (sb.2 c ?_).trans q) (fun _ q => q) fun _ _ q => q
    intro z
    have n : H' C = none := J.free
    rcases hc with hc | hc
    · rw [← hc, z, n] at e; cases e
    · rw [z, n] at hc; cases hc
  refine I.call' (s' := { s' with heap := h' }) (ch := fp) J.os ⟨fun b o e n hb hx => (sb.2 b (ne b o e)).trans (u.keep b o e n hb hx), fun b o e n hb hx => ?_, u.free, fun b o e hx => ?_, u.tups, u.frzs, u.tbls⟩ hok J.bare fun b hb => ?_
  · obtain ⟨sl, q⟩ := u.slot b o e n hb hx
    exact ⟨sl, (sb.2 b (ne b o e)).trans q⟩
  · obtain ⟨o', q⟩ := u.there b o e hx
    exact ⟨o', (sb.2 b (ne b o e)).trans q⟩
  · obtain ⟨f0, f1, f2, f3, f4, f5⟩ := hf b hb
    exact ⟨f3, f1, f4, f5⟩
end
section
variable {X : Cx}
theorem comp_gen {elt iter : Expr} {x : Str} {px : Pos} {ifs : List Expr} {scope : Scope} {cl : List (Str × Addr)} {pos : Pos} {caps : List Nat} {cn : List Str} {tt : CT TT} {te : CT TE} (Cp : Caps X x scope cl caps cn) (hc : X.calm = true)
    (ht : ∀ C s H fp, PIfs (cxC X (x :: cn) scope cl C s H fp) ifs (tt C s H fp)) {pins : List (Addr × Obj)} {σ : L2.St} {Q : VK} {itv : Value} {s2 : Shared} {us : Option (Value → Sem Unit)} {P : Value → Shared → Prop}
    (h2 : PIE X pins σ (.Name x px) (fun J H1 => ∀ (C : Addr) (s : Shared) (H0 : Hp) (fp : List Addr) (acc : Addr), H1 acc = none → COMP J caps (tt C s H0 fp) (te C s H0 fp) acc σ (upd H1 acc (.lst [])) Q) itv s2)
    (he : ∀ (acc : Addr) (s3 : Shared) (H3 : Hp) (fp : List Addr), Inv X pins σ H3 s3 → (∀ b ∈ fp, FpOk X pins H3 b) → ∀ (pn : List (Addr × Obj)) (s9 : Shared) (τ : L2.St) (H9 : Hp) (R : VK), Inv (cxC X (x :: cn) scope cl s3.heap.objs.size s3 H3 fp) pn τ H9 s9 → te s3.heap.objs.size s3 H3 fp τ H9 R →
      wpAny (model X.prog X.w) X.A (eval elt (compEnvC scope cl s3.heap.objs.size X.env)) (EP (cxC X (x :: cn) scope cl s3.heap.objs.size s3 H3 fp) pn τ R) (notedBy (model X.prog X.w) X.A (compEnvC scope cl s3.heap.objs.size X.env) fun e s' => compPost (model X.prog X.w) X.A X.xe us P (.ref acc) s3.heap.objs.size (.error e) s') s9)
    (hd : ∀ (acc : Addr) (s3 : Shared) (H3 : Hp) (fp : List Addr), Inv X pins σ H3 s3 → (∀ b ∈ fp, FpOk X pins H3 b) → ∀ (τ : L2.St) (H5 : Hp) (s6 : Shared) (v : Flow), Inv (cxC X (x :: cn) scope cl s3.heap.objs.size s3 H3 fp) [] τ H5 s6 → Q (.ref acc) H5 → compPost (model X.prog X.w) X.A X.xe us P (.ref acc) s3.heap.objs.size (.ok v) s6) :
    wpAny (model X.prog X.w) X.A (newList []) (fun acc s3 => wpAny (model X.prog X.w) X.A (newFunctionEnv scope X.env.globals cl [] X.env.qual none .none (some X.env)) (fun ce s4 =>
      codeAny (model X.prog X.w) X.A (.compStart (.ListComp elt [⟨.Name x px, iter, ifs, 0⟩] scope pos) 0 itv acc { ce with scope := relabel scope X.env }) (compPost (model X.prog X.w) X.A X.xe us P acc ce.locals) s4) X.xe s3) X.xe s2 := by
  obtain ⟨it, fp, tn, J, H2, e, I2, T, st2, f2, R⟩ := h2
  subst e
  have hacc : H2 s2.heap.objs.size = none := I2.hok.fresh (Nat.le_refl _)
  refine wpAny_newObj_type ?_
  have I3 : Inv X pins σ (upd H2 s2.heap.objs.size (.lst [])) { s2 with heap := s2.heap.push { cls := .type "list", dict := none, data := .seq ([] : List Value).toArray } } := Inv.lnew (its := []) (t' := s2.toks) I2 .nil (Nat.zero_le _)
  have lt2 : ∀ b ∈ fp, b < s2.heap.objs.size := fun b hb => let ⟨o, e, _⟩ := T.obj _ _ st2 b hb; Heap.lt_size e
  have f3 : ∀ b ∈ fp, FpOk X pins (upd H2 s2.heap.objs.size (.lst [])) b := fun b hb => ⟨by rw [upd_ne (Nat.ne_of_lt (lt2 b hb))]; exact (f2 b hb).1, (f2 b hb).2⟩
  have st3 : tn 0 (s2.heap.push { cls := .type "list", dict := none, data := .seq ([] : List Value).toArray }) := T.keep _ _ _ st2 fun b _ o e => Heap.get?_push_of_some _ e
  generalize hs3 : ({ s2 with heap := s2.heap.push { cls := .type "list", dict := none, data := .seq ([] : List Value).toArray } } : Shared) = s3 at I3 ⊢
  have st3' : tn 0 s3.heap := by rw [← hs3]; exact st3
  generalize s2.heap.objs.size = acc at hacc I3 f3 ⊢
  obtain ⟨W, ⟨m0, w0⟩, turn⟩ := R s3.heap.objs.size s3 (upd H2 acc (.lst [])) fp acc hacc
  have lt3 : ∀ b ∈ fp, b < s3.heap.objs.size := fun b hb => let ⟨o, e, _⟩ := T.obj _ _ st3' b hb; Heap.lt_size e
  clear st3 hs3
  refine wpAny_newFunctionEnv Cp.cell (by intro y hy; simp at hy) (fun h₁ hns hsb => ?_) Cp.kind
  have k1 : ∀ b o, s3.heap.get? b = some o → h₁.get? b = some o := fun b o e => hsb.extBut b o (Nat.ne_of_lt (Heap.lt_size e)) (Heap.get?_push_of_some _ e)
  have I4 : Inv (cxC X (x :: cn) scope cl s3.heap.objs.size s3 (upd H2 acc (.lst [])) fp) [] (none :: capsOf caps σ) (upd H2 acc (.lst [])) { s3 with heap := h₁, toks := s3.toks + ([] : List (Str × Value)).length } :=
    Inv.comp Cp I3 f3 lt3 hns k1
  have st4 : tn 0 h₁ := T.keep _ _ _ st3' fun b _ o e => k1 b o e
  generalize hX : cxC X (x :: cn) scope cl s3.heap.objs.size s3 (upd H2 acc (.lst [])) fp = X' at I4
  have stat : ∀ {H' : Hp}, (∀ b ∈ fp, H' b = none) → ∀ b ∈ fp, FpOk X' [] H' b := fun hn b hb => by
    subst hX
    obtain ⟨g0, g1, g2, g3, g4, g5⟩ := f3 b hb
    refine ⟨hn b hb, Nat.ne_of_lt (lt3 b hb), fun z => ?_, .inl hb, fun y c e => g4 y c (Cp.sub y c e), fun p hp => absurd (show p ∈ ([] : List (Addr × Obj)) from hp) (by simp)⟩
    rcases List.mem_cons.mp (I3.stkSub b z) with z | z
    · exact g1 z
    · exact g2 z
  have core : codeAny (model X.prog X.w) X.A (.compLoop (.ListComp elt [⟨.Name x px, iter, ifs, 0⟩] scope pos) 0 (.ref it) (.ref acc) (compEnvC scope cl s3.heap.objs.size X.env))
      (compPost (model X.prog X.w) X.A X.xe us P (.ref acc) s3.heap.objs.size) { s3 with heap := h₁, toks := s3.toks + ([] : List (Str × Value)).length } := by
    refine codeAny_loop rfl (fun n s' => ∃ i a H', Inv X' [] (a :: capsOf caps σ) H' s' ∧ tn i s'.heap ∧ (∀ b ∈ fp, H' b = none) ∧ W i n H') (fun n s5 hI => ?_) m0 ⟨0, none, _, I4, st4, fun b hb => (f3 b hb).1, w0⟩
    obtain ⟨i, a0, H5, I5, st5, fr5, w5⟩ := hI
    show wpAny _ _ ((compTurn _ 0 _ _ _).onRaise _) _ _ s5
    refine wpAny_noted ?_
    rw [compTurn_list]
    refine wpAny_bind (wpAny_standAt (wpAny_bind ?_))
    have aX : X'.A = X.A := by subst hX; rfl
    have pX : X'.prog = X.prog := by subst hX; rfl
    have wX : X'.w = X.w := by subst hX; rfl
    have kX : X'.K = X.K := by subst hX; rfl
    have cX : X'.calm = true := by subst hX; exact hc
    have eX : X'.env = compEnvC scope cl s3.heap.objs.size X.env := by subst hX; rfl
    rcases turn i n H5 w5 with ⟨stop, qn⟩ | ⟨go, N, hN, step⟩
    · have z := T.done X' pX wX kX cX i [] s5 _ H5 (fun _ _ => False) I5 (stat fr5) st5 stop
      rw [aX] at z
      refine wpAny_mono z (fun r s6 ⟨hr, I6⟩ => ?_) fun _ _ q => q.elim
      subst hr
      subst hX
      exact wpAny_pure (hd acc s3 _ fp I3 f3 _ H5 s6 _ I6 qn)
    · have z := T.item X' pX wX kX cX i [] s5 _ H5 (fun _ _ => False) I5 (stat fr5) st5 go
      rw [aX] at z
      refine wpAny_mono z (fun r s6 ⟨u, hr, h6⟩ => ?_) fun _ _ q => q.elim
      subst hr
      refine wpAny_bind (wpAny_mono h6 (fun _ s7 ⟨v, H7, I7, r7, y7, st7, fr7⟩ => ?_) fun _ _ q => q.elim)
      have I7' := I7.pinned (stat fr7) (T.obj _ _ st7)
      have asg : wpAny (model X.prog X.w) X.A (assign (.Name x px) (compEnvC scope cl s3.heap.objs.size X.env) u) (fun _ s8 => Inv X' ([] ++ pinsAt fp s7.heap) (some v :: capsOf caps σ) H7 s8) (fun _ _ => False) s7 := by
        subst hX
        exact wpAny_assign_Name (store_ok (X := cxC X (x :: cn) scope cl s3.heap.objs.size s3 (upd H2 acc (.lst [])) fp) (i := 0) I7' Cp.nd rfl (.inl (lookup_relabel_local Cp.tg)) r7 (fun s' I' => I') (.inr (lookup_relabel_local Cp.tg)))
      refine wpAny_bind (wpAny_mono asg (fun _ s8 I8 => ?_) fun _ _ q => q.elim)
      have tst : wpAny (model X.prog X.w) X.A (forIn ifs true fun c r => if r = true then do let ok ← isTrue c (compEnvC scope cl s3.heap.objs.size X.env) (eval c (compEnvC scope cl s3.heap.objs.size X.env)); pure (ForInStep.yield ok) else pure (ForInStep.yield r))
          (TP X' ([] ++ pinsAt fp s7.heap) (some v :: capsOf caps σ) (fun b H9 => if b = true then te s3.heap.objs.size s3 (upd H2 acc (.lst [])) fp (some v :: capsOf caps σ) H9 (fun y H3 => rApp acc N y H3) else N H9)) (fun _ _ => False) s8 := by
        subst hX
        exact ht _ _ _ _ _ s8 _ H7 _ I8 (step v H7 y7)
      refine wpAny_bind (wpAny_mono tst (fun b s9 ⟨H9, I9, q9⟩ => ?_) fun _ _ q => q.elim)
      have fin : ∀ {a : Option V} {H10 : Hp} {s10 : Shared}, Inv X' ([] ++ pinsAt fp s7.heap) (a :: capsOf caps σ) H10 s10 → N H10 → ∃ m', m' < n ∧ ∃ i a H', Inv X' [] (a :: capsOf caps σ) H' s10 ∧ tn i s10.heap ∧ (∀ b ∈ fp, H' b = none) ∧ W i m' H' := fun {a H10 s10} I10 n10 =>
        let ⟨m', hm, w10⟩ := hN _ n10
        ⟨m', hm, i + 1, a, H10, I10.unpinned, T.keep _ _ _ st7 fun b hb o e => (I10.pin (b, o) (List.mem_append_right _ (List.mem_append_right _ (mem_pinsAt hb e)))).1, fun b hb => by
          obtain ⟨o, e, d⟩ := T.obj _ _ st7 b hb
          exact (I10.pin (b, o) (List.mem_append_right _ (List.mem_append_right _ (mem_pinsAt hb e)))).2.1, w10⟩
      cases b with
      | false => exact wpAny_pure ⟨rfl, fin I9 q9⟩
      | true =>
        have elt' : wpAny (model X.prog X.w) X.A (eval elt (compEnvC scope cl s3.heap.objs.size X.env)) (EP X' ([] ++ pinsAt fp s7.heap) (some v :: capsOf caps σ) (fun y H3 => rApp acc N y H3)) (notedBy (model X.prog X.w) X.A (compEnvC scope cl s3.heap.objs.size X.env) fun e s' => compPost (model X.prog X.w) X.A X.xe us P (.ref acc) s3.heap.objs.size (.error e) s') s9 := by
          subst hX
          exact he acc s3 _ fp I3 f3 _ s9 _ H9 _ I9 q9
        refine wpAny_bind (wpAny_bind (wpAny_mono elt' (fun y s10 ⟨w, H10, I10, r10, ys, ha, hz, q10⟩ => ?_) fun _ _ q => q))
        have app : wpAny (model X.prog X.w) X.A (call (.builtin "list.append") [.ref acc, y]) (EP X' ([] ++ pinsAt fp s7.heap) (some v :: capsOf caps σ) fun _ H11 => H11 = upd H10 acc (.lst (ys ++ [w]))) (fun _ _ => False) s10 := by
          subst hX
          exact mt_append (X := cxC X (x :: cn) scope cl s3.heap.objs.size s3 (upd H2 acc (.lst [])) fp) _ s10 _ H10 (.ref acc) [w] (.ref acc) [y] _ I10 rfl (.cons r10 .nil) ⟨acc, ys, w, rfl, rfl, ha, hz, rfl⟩
        refine wpAny_bind (wpAny_mono app (fun _ s11 ⟨_, H11, I11, _, e11⟩ => ?_) fun _ _ q => q.elim)
        subst e11
        exact wpAny_pure (wpAny_pure ⟨rfl, fin I11 q10⟩)
  exact codeAny_compStart_list core (T.self _ 0 _ _ _ st4 core)
theorem pe_comp {elt iter : Expr} {x : Str} {px : Pos} {ifs : List Expr} {scope : Scope} {cl : List (Str × Addr)} {pos : Pos} {caps : List Nat} {cn : List Str} {wi : TI} {tt : CT TT} {te : CT TE} (Cp : Caps X x scope cl caps cn) (hc : X.calm = true)
    (hi : PI X (.Name x px) iter wi) (ht : ∀ C s H fp, PIfs (cxC X (x :: cn) scope cl C s H fp) ifs (tt C s H fp)) (he : ∀ C s H fp, PE (cxC X (x :: cn) scope cl C s H fp) elt (te C s H fp))
    (hs : ∀ x, foldedSetIterable iter X.env x = pure x := by intro _; rfl) :
    PE X (.ListComp elt [⟨.Name x px, iter, ifs, 0⟩] scope pos) (tComp wi caps tt te) := by
  intro pins s σ H Q I h
  rw [eval_ListComp]
  refine wpAny_comprehension_free (use := none) rfl hs Cp.clos Cp.kind Cp.names (thn (hi pins s σ H _ I h) fun v s1 h1 => thn h1 fun itv s2 h2 => comp_gen Cp hc ht h2 (fun acc s3 H3 fp I3 f3 pn s9 τ H9 R I9 q9 => wpAny_mono (he _ _ _ _ pn s9 τ H9 R I9 q9) (fun _ _ q => q) fun _ _ q => q.elim) fun acc s3 H3 fp I3 f3 τ H5 s6 v I6 q => ?_)
  obtain ⟨m, hm, _⟩ := id I6.loc
  exact ⟨m, hm, fun h' sb => ⟨.ref acc, H5, Inv.uncomp I3 f3 rfl I6 sb, rfl, q⟩⟩
end
end My
set_option Elab.async false
set_option linter.all false
set_option maxRecDepth 100000
namespace L2
open PySem PySem.Spec PyProof.Rows
section
variable {κ : Type} [DecidableEq κ]
def valV (kvs : List (κ × V)) (k : κ) : Option V := (kvs.find? fun kv => decide (kv.1 = k)).map (·.2)
def putK (kvs : List (κ × V)) (k : κ) (v : V) : List (κ × V) :=
  if (kvs.any fun kv => decide (kv.1 = k)) = true then kvs.map (fun kv => if kv.1 = k then (kv.1, v) else kv) else kvs ++ [(k, v)]
theorem valV_pos {p : κ × V} {r : List (κ × V)} {k : κ} (e : p.1 = k) : valV (p :: r) k = some p.2 := by simp [valV, List.find?_cons, e]
theorem valV_neg {p : κ × V} {r : List (κ × V)} {k : κ} (e : ¬ p.1 = k) : valV (p :: r) k = valV r k := by simp [valV, List.find?_cons, e]
theorem valV_any (k : κ) : ∀ kvs : List (κ × V), (kvs.any fun kv => decide (kv.1 = k)) = (valV kvs k).isSome
  | [] => rfl
  | p :: r => by
    rw [List.any_cons]
    by_cases e : p.1 = k
    · simp only [valV_pos e, decide_eq_true e, Bool.true_or, Option.isSome_some]
    · rw [valV_neg e, decide_eq_false e, Bool.false_or]; exact valV_any k r
theorem valV_map (k j : κ) (y : V) : ∀ kvs : List (κ × V), valV (kvs.map fun kv => if kv.1 = k then (kv.1, y) else kv) j = (valV kvs j).map fun x => if j = k then y else x
  | [] => rfl
  | p :: r => by
    have ih := valV_map k j y r
    rw [List.map_cons]
    by_cases h : p.1 = k
    · rw [if_pos h]
      by_cases e : p.1 = j
      · rw [valV_pos (p := (p.1, y)) e, valV_pos e, Option.map_some, if_pos (e.symm.trans h)]
      · rw [valV_neg (p := (p.1, y)) e, valV_neg e, ih]
    · rw [if_neg h]
      by_cases e : p.1 = j
      · rw [valV_pos (p := p) e, valV_pos e, Option.map_some, if_neg (fun z => h (e.trans z))]
      · rw [valV_neg (p := p) e, valV_neg e, ih]
theorem valV_snoc (k j : κ) (y : V) : ∀ kvs : List (κ × V), valV kvs k = none → valV (kvs ++ [(k, y)]) j = if j = k then some y else valV kvs j
  | [], _ => by
    by_cases e : k = j
    · rw [if_pos e.symm]; exact valV_pos (p := (k, y)) e
    · rw [if_neg (fun z => e z.symm)]; exact valV_neg (p := (k, y)) e
  | p :: r, hn => by
    rw [List.cons_append]
    have hk : ¬ p.1 = k := fun z => by rw [valV_pos z] at hn; cases hn
    rw [valV_neg hk] at hn
    have ih := valV_snoc k j y r hn
    by_cases e : p.1 = j
    · rw [valV_pos e, valV_pos e, if_neg (fun z => hk (e.trans z))]
    · rw [valV_neg e, valV_neg e, ih]
theorem valV_put (kvs : List (κ × V)) (k j : κ) (y : V) : valV (putK kvs k y) j = if j = k then some y else valV kvs j := by
  unfold putK
  by_cases a : (kvs.any fun kv => decide (kv.1 = k)) = true
  · rw [if_pos a, valV_map]
    rw [valV_any] at a
    by_cases e : j = k
    · obtain ⟨x, hx⟩ := Option.isSome_iff_exists.mp a
      rw [if_pos e, e, hx, Option.map_some, if_pos rfl]
    · rw [if_neg e]
      cases valV kvs j with
      | none => rfl
      | some x => rw [Option.map_some, if_neg e]
  · rw [if_neg a]
    refine valV_snoc k j y kvs ?_
    rw [valV_any] at a
    cases q : valV kvs k with
    | none => rfl
    | some x => rw [q] at a; exact (a rfl).elim
theorem length_putK (kvs : List (κ × V)) (k : κ) (v : V) : (putK kvs k v).length ≤ kvs.length + 1 := by
  unfold putK
  split
  · rw [List.length_map]; omega
  · rw [List.length_append, List.length_cons, List.length_nil]; omega
theorem putK_new {kvs : List (κ × V)} {k : κ} (v : V) (h : valV kvs k = none) : putK kvs k v = kvs ++ [(k, v)] := by
  unfold putK
  rw [valV_any, h]
  exact if_neg (by decide)
theorem RelO.isSome_eq {o : Option V} {u : Option Value} (r : RelO o u) : o.isSome = u.isSome := by
  cases o with
  | none => cases u with
    | none => rfl
    | some _ => exact (show False from r).elim
  | some _ => cases u with
    | none => exact (show False from r).elim
    | some _ => rfl
theorem KV.val {kvs : List (κ × V)} {vs : List (κ × Value)} (r : KV kvs vs) (k : κ) : RelO (valV kvs k) (valueAt vs k) := by
  unfold KV at r
  induction r with
  | nil => exact True.intro
  | @cons p q ps qs h t ih =>
    obtain ⟨h1, h2⟩ := h
    by_cases e : p.1 = k
    · have e' : q.1 = k := h1.symm.trans e
      have b : valueAt (q :: qs) k = some q.2 := by simp [valueAt, List.find?_cons, e']
      rw [valV_pos e, b]; exact h2
    · have e' : ¬ q.1 = k := fun z => e (h1.trans z)
      have b : valueAt (q :: qs) k = valueAt qs k := by simp [valueAt, List.find?_cons, e']
      rw [valV_neg e, b]; exact ih
theorem KV.any {kvs : List (κ × V)} {vs : List (κ × Value)} (r : KV kvs vs) (k : κ) : (kvs.any fun kv => decide (kv.1 = k)) = vs.any fun kv => decide (kv.1 = k) := by
  unfold KV at r
  induction r with
  | nil => rfl
  | cons h t ih => rw [List.any_cons, List.any_cons, ih, h.1]
theorem KV.repl {kvs : List (κ × V)} {vs : List (κ × Value)} (r : KV kvs vs) (k : κ) {y : V} {u : Value} (ry : RelV y u) :
    KV (kvs.map fun kv => if kv.1 = k then (kv.1, y) else kv) (vs.map fun kv => if kv.1 = k then (kv.1, u) else kv) := by
  unfold KV at r ⊢
  induction r with
  | nil => exact .nil
  | @cons p q ps qs h t ih =>
    rw [List.map_cons, List.map_cons]
    refine .cons ?_ ih
    obtain ⟨h1, h2⟩ := h
    by_cases e : p.1 = k
    · rw [if_pos e, if_pos (h1.symm.trans e)]; exact ⟨h1, ry⟩
    · rw [if_neg e, if_neg (fun z => e (h1.trans z))]; exact ⟨h1, h2⟩
theorem KV.put {kvs : List (κ × V)} {vs : List (κ × Value)} (r : KV kvs vs) (k : κ) {y : V} {u : Value} (ry : RelV y u) : KV (putK kvs k y) (stored vs k u) := by
  unfold putK stored
  rw [r.any k]
  by_cases e : (vs.any fun kv => decide (kv.1 = k)) = true
  · rw [if_pos e, if_pos e]; exact r.repl k ry
  · rw [if_neg e, if_neg e]; exact Paired.snoc r ⟨rfl, ry⟩
theorem KV.length {kvs : List (κ × V)} {vs : List (κ × Value)} (r : KV kvs vs) : kvs.length = vs.length := Paired.length r
end
theorem kV_is {P : Program} {w : World} {k : Key} {u : Value} (r : RelV (kV k) u) : (mixKind P w).is k u = true := by
  cases k with
  | inl i => obtain ⟨t, e⟩ := (show ∃ t, u = Value.int i t from r); subst e; exact mixKind_int P w i t
  | inr x => obtain ⟨t, e⟩ := (show ∃ t, u = Value.str x t from r); subst e; exact mixKind_str P w x t
theorem items_are {P : Program} {w : World} : ∀ {ks : List Key} {us : List Value}, Vals (ks.map kV) us → ItemsAre (mixKind P w) ks us
  | [], _, r => by rw [List.map_nil] at r; cases r; exact .nil
  | k :: ks, _, r => by
    rw [List.map_cons] at r
    cases r with
    | cons h t => exact .cons (kV_is h) (items_are t)
abbrev KT (H : Hp) : List (List Key × V) → List (List Key × Addr × Value) → Prop := Paired fun p q => p.1 = q.1 ∧ H q.2.1 = some (.tup (p.1.map kV)) ∧ RelV p.2 q.2.2
theorem KT.val {H : Hp} {kvs : List (List Key × V)} {xs : List (List Key × Addr × Value)} (r : KT H kvs xs) (k : List Key) : RelO (valV kvs k) ((atKey xs k).map (·.2)) := by
  induction r with
  | nil => exact True.intro
  | @cons p q ps qs h t ih =>
    obtain ⟨h1, _, h2⟩ := h
    by_cases e : p.1 = k
    · have e' : q.1 = k := h1.symm.trans e
      have b : atKey (q :: qs) k = some q.2 := by simp [atKey, List.find?_cons, e']
      rw [valV_pos e, b]; exact h2
    · have e' : ¬ q.1 = k := fun z => e (h1.trans z)
      have b : atKey (q :: qs) k = atKey qs k := by simp [atKey, List.find?_cons, e']
      rw [valV_neg e, b]; exact ih
theorem KT.repl {H : Hp} {kvs : List (List Key × V)} {xs : List (List Key × Addr × Value)} (r : KT H kvs xs) (k : List Key) {y : V} {u : Value} (ry : RelV y u) :
    KT H (kvs.map fun kv => if kv.1 = k then (kv.1, y) else kv) (xs.map (putAt k u)) := by
  induction r with
  | nil => exact .nil
  | @cons p q ps qs h t ih =>
    rw [List.map_cons, List.map_cons]
    refine .cons ?_ ih
    obtain ⟨h1, h2, h3⟩ := h
    unfold putAt
    by_cases e : p.1 = k
    · rw [if_pos e, if_pos (h1.symm.trans e)]; exact ⟨h1, h2, ry⟩
    · rw [if_neg e, if_neg (fun z => e (h1.trans z))]; exact ⟨h1, h2, h3⟩
theorem KT.put {H : Hp} {kvs : List (List Key × V)} {xs : List (List Key × Addr × Value)} (r : KT H kvs xs) (k : List Key) {b : Addr} {y : V} {u : Value} (hb : H b = some (.tup (k.map kV))) (ry : RelV y u) :
    KT H (putK kvs k y) (storedH xs k b u) := by
  have e : (kvs.any fun kv => decide (kv.1 = k)) = (atKey xs k).isSome := by
    rw [valV_any, (r.val k).isSome_eq, Option.isSome_map]
  unfold putK storedH
  rw [e]
  by_cases q : (atKey xs k).isSome = true
  · rw [if_pos q, if_pos q]; exact r.repl k ry
  · rw [if_neg q, if_neg q]; exact Paired.snoc r ⟨rfl, hb, ry⟩
theorem KT.keeps {H H' : Hp} {kvs : List (List Key × V)} {xs : List (List Key × Addr × Value)} (r : KT H kvs xs) (ht : ∀ b ys, H b = some (.tup ys) → H' b = some (.tup ys)) : KT H' kvs xs :=
  Paired.mapP r fun _ _ z => ⟨z.1, ht _ _ z.2.1, z.2.2⟩
section
variable {P : Program} {w : World} {H : Hp} {h : Heap} {a : Addr}
theorem rd_of {u : HO} (ok : HOk P w H h) (e : Rd H a u) : ObjOk P w H h a u := e.ok ok
theorem dk_rd {kvs : List (Key × V)} (ok : HOk P w H h) (e : Rd H a (.dK kvs)) : kvs.length ≤ sizeLine ∧ (a == sysModules) = false ∧ ∃ vs, KV kvs vs ∧ h.DictOf (mixKind P w) a vs :=
  show ObjOk P w H h a (.dK kvs) from rd_of ok e
theorem dk_of {kvs : List (Key × V)} (ok : HOk P w H h) (e : H a = some (.dK kvs)) : kvs.length ≤ sizeLine ∧ (a == sysModules) = false ∧ ∃ vs, KV kvs vs ∧ h.DictOf (mixKind P w) a vs := dk_rd ok (.inl e)
theorem key_of {ks : List Key} (ok : HOk P w H h) (e : H a = some (.tup (ks.map kV))) : (tupleKind (mixKind P w)).is h ks a := by
  obtain ⟨_, its, r, o, h1, h2, n, h3⟩ := (show ObjOk P w H h a (.tup (ks.map kV)) from ok a _ e)
  exact ⟨o, its.toArray, n, h1, h2, h3, by simpa using items_are r⟩
theorem dt_rd {kvs : List (List Key × V)} (ok : HOk P w H h) (e : Rd H a (.dT kvs)) : kvs.length ≤ sizeLine ∧ (a == sysModules) = false ∧
    ∃ xs, KT H kvs xs ∧ h.DictOfH (tupleKind (mixKind P w)) a xs := by
  obtain ⟨z, y, xs, r, o, es, ep, h1, h2, h3, h4, h5⟩ := (show ObjOk P w H h a (.dT kvs) from rd_of ok e)
  refine ⟨z, y, xs, r, o, es, ep, h1, h2, h3, h4, fun x hx => ?_, h5⟩
  have all : ∀ {l : List (List Key × V)} {m : List (List Key × Addr × Value)}, KT H l m → ∀ x ∈ m, (tupleKind (mixKind P w)).is h x.1 x.2.1 := by
    intro l m q
    induction q with
    | nil => intro x hx; exact nomatch hx
    | @cons p q ps qs hq t ih =>
      intro x hx
      rcases List.mem_cons.mp hx with e | hx
      · subst e
        exact key_of ok (by rw [← hq.1]; exact hq.2.1)
      · exact ih x hx
  exact all r x hx
theorem dt_of {kvs : List (List Key × V)} (ok : HOk P w H h) (e : H a = some (.dT kvs)) : kvs.length ≤ sizeLine ∧ (a == sysModules) = false ∧
    ∃ xs, KT H kvs xs ∧ h.DictOfH (tupleKind (mixKind P w)) a xs := dt_rd ok (.inl e)
end
def DGet (H : Hp) (a : Addr) (y : V) (r : Option V) : Prop :=
  (∃ kvs k, Rd H a (.dK kvs) ∧ y = kV k ∧ r = valV kvs k) ∨ ∃ kvs k b, Rd H a (.dT kvs) ∧ y = .ref b ∧ H b = some (.tup (k.map kV)) ∧ r = valV kvs k
def DPut (H : Hp) (a : Addr) (y v : V) (H' : Hp) : Prop :=
  (∃ kvs k, H a = some (.dK kvs) ∧ y = kV k ∧ kvs.length < sizeLine ∧ H' = upd H a (.dK (putK kvs k v))) ∨
  ∃ kvs k b, H a = some (.dT kvs) ∧ y = .ref b ∧ H b = some (.tup (k.map kV)) ∧ kvs.length < sizeLine ∧ H' = upd H a (.dT (putK kvs k v))
theorem DPut.k {H : Hp} {a : Addr} {kvs : List (Key × V)} {k : Key} {v : V} (e : H a = some (.dK kvs)) (hl : kvs.length < sizeLine) : DPut H a (kV k) v (upd H a (.dK (putK kvs k v))) := .inl ⟨kvs, k, e, rfl, hl, rfl⟩
section
variable {X : Cx} {pins : List (Addr × Obj)} {σ : St} {H : Hp} {s : Shared} {a : Addr} {y v : V} {u r : Value} {o : Option V} {A : Around} {E : Value → Shared → Prop}
theorem Inv.big (I : Inv X pins σ H s) : sysModules < s.heap.objs.size := by
  have h : mainGlobals < s.heap.objs.size := (I.mod.glob.keeps I.bk).lt
  exact Nat.lt_trans (by decide) h
theorem d_getItem {Q : Value → Shared → Prop} (hu : A.units + 1 < cLine) (I : Inv X pins σ H s) (g : DGet H a y (some v)) (ry : RelV y u) (h : ∀ w' s', Inv X pins σ H s' → RelV v w' → Q w' s') :
    wpAny (model X.prog X.w) A (getItem (.ref a) u) Q E s := by
  rcases g with ⟨kvs, k, e, ey, l⟩ | ⟨kvs, k, b, e, ey, eb, l⟩
  · subst ey
    obtain ⟨z, hd, vs, rel, dd⟩ := dk_rd I.hok e
    obtain ⟨w', hw, rw'⟩ := RelO.some_of (v := v) (o := valueAt vs k) (by rw [l]; exact rel.val k)
    exact wpAny_getItem_of (kV_is ry) dd.mapOf hw (h w' _ (I.tok _) rw')
  · subst ey
    cases (show u = Value.ref b from ry)
    obtain ⟨z, hd, xs, rel, dd⟩ := dt_rd I.hok e
    obtain ⟨w', hw, rw'⟩ := RelO.some_of (v := v) (o := (atKey xs k).map (·.2)) (by rw [l]; exact rel.val k)
    obtain ⟨p, hp, hp2⟩ := Option.map_eq_some_iff.mp hw
    refine wpAny_getItem_heap (tupleKind_room_in1 hu) (key_of I.hok eb) dd hp ?_
    rw [hp2]
    exact h w' _ (I.tok _) rw'
theorem d_write {h' : Heap} {t' : Nat} {ob : HO} (I : Inv X pins σ H s) (mu : Mut (H a)) (hs : Heap.SameBut a s.heap h') (he : ∃ q, h'.get? a = some q) (new : ObjOk X.prog X.w (upd H a ob) h' a ob) :
    Inv X pins σ (upd H a ob) { s with heap := h', toks := t' } :=
  I.write (x := a) (e := a) mu (.inl rfl) (fun b q hb z => (hs.2 b hb).trans z) he new
theorem dk_new {P : Program} {w : World} {H' : Hp} {h' : Heap} {kvs : List (Key × V)} {vs : List (Key × Value)} (z : kvs.length ≤ sizeLine) (hd : (a == sysModules) = false) (rel : KV kvs vs) (dd : h'.DictOf (mixKind P w) a vs) :
    ObjOk P w H' h' a (.dK kvs) := ⟨z, hd, vs, rel, dd⟩
theorem d_setItem {H' : Hp} {Q : Unit → Shared → Prop} (hu : A.units + 1 < cLine) (I : Inv X pins σ H s) (g : DPut H a y v H') (ry : RelV y u) (rv : RelV v r) (h : ∀ s', Inv X pins σ H' s' → Q () s') :
    wpAny (model X.prog X.w) A (setItem (.ref a) u r) Q E s := by
  rcases g with ⟨kvs, k, e, ey, l, eH⟩ | ⟨kvs, k, b, e, ey, eb, l, eH⟩
  · subst ey eH
    obtain ⟨z, hd, vs, rel, dd⟩ := dk_of I.hok e
    have hz : vs.length ≤ sizeLine := by rw [← rel.length]; exact z
    have hl : (putK kvs k v).length ≤ sizeLine := by have := length_putK kvs k v; omega
    refine wpAny_setItem_pairs (hsz := hz) (kV_is ry) dd fun h' dd' hs => h _ ?_
    have he : ∃ q, h'.get? a = some q := let ⟨q, _, _, hq, _⟩ := dd'; ⟨q, hq⟩
    exact d_write I (by rw [e]; exact True.intro) hs he (dk_new hl hd (rel.put k rv) dd')
  · subst ey eH
    cases (show u = Value.ref b from ry)
    obtain ⟨z, hd, xs, rel, dd⟩ := dt_of I.hok e
    have hz : xs.length ≤ sizeLine := by rw [← Paired.length rel]; exact z
    have hl : (putK kvs k v).length ≤ sizeLine := by have := length_putK kvs k v; omega
    refine wpAny_setItem_heap (hsz := hz) (tupleKind_room_in1 hu) (key_of I.hok eb) dd fun h' dd' hs => h _ ?_
    obtain ⟨q, es, ep, hq, h2, h3, h4, _, h5⟩ := dd'
    refine d_write I (by rw [e]; exact True.intro) hs ⟨q, hq⟩ ⟨hl, hd, _, (rel.put k eb rv).keeps fun c ys ec => ?_, q, es, ep, hq, h2, h3, h4, h5⟩
    rw [upd_ne (ne_of ec e (fun z => nomatch z))]
    exact ec
end
section
variable {X : Cx} {pins : List (Addr × Obj)} {σ : St} {H : Hp} {s : Shared} {a : Addr} {kvs : List (Key × V)} {k : Key} {u : Value} {A : Around} {E : Value → Shared → Prop}
theorem d_clear {Q : Value → Shared → Prop} (I : Inv X pins σ H s) (e : H a = some (.dK kvs)) (h : ∀ s', Inv X pins σ (upd H a (.dK [])) s' → Q .none s') : wpAny (model X.prog X.w) A (call (.builtin "dict.clear") [.ref a]) Q E s := by
  obtain ⟨z, hd, vs, rel, dd⟩ := dk_of I.hok e
  refine call_meetsIn PySem.F.slot_dict_clear dd.typeIs PySem.F.entry_dict_clear (PySem.F.args_dict_clear_1 _) (meets_dict_clear (mixKind X.prog X.w) a) ⟨vs, dd, by rw [← rel.length]; exact z, fun h' dd' hs => h _ ?_⟩
  have he : ∃ q, h'.get? a = some q := let ⟨q, _, _, hq, _⟩ := dd'; ⟨q, hq⟩
  exact d_write (t' := s.toks) I (by rw [e]; exact True.intro) hs he (dk_new (Nat.zero_le _) hd .nil dd')
end
def NoSl (i : Expr) : Prop := ∀ ov iv, subscripted i false ov iv = operate [ov, iv] (getItem ov iv)
theorem subD_of {prog : Program} {w : World} {A : Around} {E : Value → Shared → Prop} {s : Shared} {env : Env} {value slice : Expr} {pos : Pos} {T id : String} {Q : Value → Shared → Prop}
    (hl : typeLookup (.type T) "__getitem__" = pure (some (.builtin id))) (hs : NoSl slice)
    (h : wpAny (model prog w) A (eval value env) (fun o s₁ => wpAny (model prog w) A (eval slice env) (fun i s₂ => s₂.TypeIs o T ∧ wpAny (model prog w) A (getItem o i) Q E s₂) E s₁) E s) :
    wpAny (model prog w) A (eval (.Subscript value slice pos) env) Q E s := by
  refine Subscript_ (wpAny_mono h (fun o s₁ h₁ => wpAny_mono h₁ (fun i s₂ h₂ => ?_) fun _ _ x => x) fun _ _ x => x)
  obtain ⟨hT, h₂⟩ := h₂
  unfold subscriptTail
  refine wpAny_bind ?_
  rw [getitemInPython_of_ne hT.not_modules]
  refine wpAny_bind (wpAny_specialOf hT hl ?_)
  have fin : wpAny (model prog w) A (subscripted slice false o i) (fun r s₃ => wpAny (model prog w) A (letTemporaryGo value o r >>= fun _ => pure r) Q E s₃) E s₂ := by
    rw [hs o i]
    exact wpAny_operating (wpAny_mono h₂ (fun r s₃ h₃ => wpAny_bind (wpAny_letTemporaryGo (wpAny_pure h₃))) fun _ _ x => x)
  first
    | exact wpAny_pure (wpAny_bind fin)
    | exact wpAny_bind (wpAny_pure (wpAny_bind fin))
    | exact wpAny_bind fin
theorem dict_typeIs {X : Cx} {pins : List (Addr × Obj)} {σ : St} {H : Hp} {s : Shared} {a : Addr} {y : V} {o : Option V} (I : Inv X pins σ H s) (g : DGet H a y o) : s.TypeIs (.ref a) "dict" := by
  rcases g with ⟨kvs, k, e, _, _⟩ | ⟨kvs, k, b, e, _, _, _⟩
  · obtain ⟨_, _, vs, _, dd⟩ := dk_rd I.hok e
    exact dd.typeIs
  · obtain ⟨_, _, xs, _, dd⟩ := dt_rd I.hok e
    exact dd.typeIs
def tDGet (td ty : TE) : TE := fun σ H Q => td σ H fun x H1 => ty σ H1 fun y H2 => ∃ a v, x = .ref a ∧ DGet H2 a y (some v) ∧ Q v H2
def sDPut (td ty tv : TE) : TS := fun D σ H => tv σ H fun v H1 => td σ H1 fun x H2 => ty σ H2 fun y H3 => ∃ a H4, x = .ref a ∧ DPut H3 a y v H4 ∧ D.nx σ H4
section
variable {X : Cx} {o i e value : Expr} {pos pos' tpos : Pos} {td ty tv : TE}
theorem pe_dget (hu : X.A.units + 1 < cLine) (ho : PE X o td) (hi : PE X i ty) (hs : NoSl i) : PE X (.Subscript o i pos) (tDGet td ty) := by
  intro pins s σ H Q I h
  refine subD_of PySem.F.slot_dict_getitem.lookup hs (thn (ho pins s σ H _ I h) fun u s1 ⟨x, H1, I1, rx, q1⟩ => thn (hi pins s1 σ H1 _ I1 q1) fun iv s2 ⟨y, H2, I2, ry, a, v, ex, g, q2⟩ => ?_)
  subst ex
  obtain rfl : u = Value.ref a := rx
  exact ⟨dict_typeIs I2 g, d_getItem hu I2 g ry fun w' s3 I3 rw' => ⟨v, H2, I3, rw', q2⟩⟩
theorem ps_dput (hu : X.A.units + 1 < cLine) (ho : PE X o td) (hi : PE X i ty) (hv : PE X value tv) (hs : swapsWith value (some (.Subscript o i pos')) pos.line X.env = pure false) :
    PS X (.Assign [.Subscript o i pos'] value pos) (sDPut td ty tv) := by
  intro pins s σ H D I h
  refine wpAny_Assign_Subscript (thn (hv pins s σ H _ I h) fun r s1 ⟨v, H1, I1, rv, q1⟩ => thn (ho pins s1 σ H1 _ I1 q1) fun u s2 ⟨x, H2, I2, rx, q2⟩ => thn (hi pins s2 σ H2 _ I2 q2) fun iv s3 ⟨y, H3, I3, ry, a, H4, ex, g, q3⟩ => ?_) hs
  subst ex
  obtain rfl : u = Value.ref a := rx
  exact d_setItem hu I3 g ry rv fun s4 I4 => ⟨σ, H4, I4, q3⟩
end
theorem dk_empty {P : Program} {w : World} {H : Hp} (h : Heap) (hb : sysModules < h.objs.size) : ObjOk P w H (h.push { cls := .type "dict", data := .dict #[] }) h.objs.size (.dK []) :=
  ⟨Nat.zero_le _, beq_eq_false_iff_ne.mpr (Ne.symm (Nat.ne_of_lt hb)), [], .nil, Heap.DictOf.new h⟩
def tDNewK : TE := fun _ H Q => ∀ p, H p = none → Q (.ref p) (upd H p (.dK []))
section
variable {X : Cx} {pos : Pos}
theorem pe_dnewK : PE X (.Dict [] [] pos) tDNewK := fun pins s σ H Q I h =>
  wpAny_Dict_empty ⟨.ref s.heap.objs.size, _, I.laid (a := s.heap.objs.size) (o := .dK []) (t' := s.toks) (fun _ _ q => Heap.get?_push_of_some _ q) (Nat.le_refl _) (dk_empty s.heap I.big), rfl, h _ (I.hok.fresh (Nat.le_refl _))⟩
end
structure M1 (X : Cx) (o : Expr) (m : Str) (apos : Pos) (e : Expr) (cpos : Pos) : Prop where
  base : attributeBase o m X.env (eval o X.env) = eval o X.env
  few : ((backTo cpos (starEach [e] X.env)).all (fun x => !x.1) && (backToKw cpos (keywordEach [] X.env)).all (fun x => x.1.isSome)
    && decide (([e] : List Expr).length + ([] : List Keyword).length + (if ([] : List Keyword).isEmpty then 0 else 1) < 30)) = true
  line : (apos.endLine == cpos.line) = true
  trees : backTo cpos (starEach [e] X.env) = [(false, eval e X.env)]
structure M2 (X : Cx) (o : Expr) (m : Str) (apos : Pos) (e f : Expr) (cpos : Pos) : Prop where
  base : attributeBase o m X.env (eval o X.env) = eval o X.env
  few : ((backTo cpos (starEach [e, f] X.env)).all (fun x => !x.1) && (backToKw cpos (keywordEach [] X.env)).all (fun x => x.1.isSome)
    && decide (([e, f] : List Expr).length + ([] : List Keyword).length + (if ([] : List Keyword).isEmpty then 0 else 1) < 30)) = true
  line : (apos.endLine == cpos.line) = true
  trees : backTo cpos (starEach [e, f] X.env) = [(false, eval e X.env), (false, eval f X.env)]
section
variable {X : Cx} {pins : List (Addr × Obj)} {σ : St} {H : Hp} {s : Shared} {a : Addr} {y d : V} {u r : Value} {o : Option V} {A : Around} {E : Value → Shared → Prop}
end
section
variable {X : Cx} {o e f : Expr} {apos cpos : Pos} {td ty tx : TE}
end
section
variable {X : Cx} {pins : List (Addr × Obj)} {σ : St} {H : Hp} {s : Shared} {a : Addr} {kvs : List (Key × V)} {A : Around} {E : Value → Shared → Prop}
end
section
variable {X : Cx} {pins : List (Addr × Obj)} {σ : St} {H : Hp} {s : Shared} {a : Addr} {y : V} {u : Value} {A : Around} {E : Value → Shared → Prop}
end
section
variable {X : Cx}
end
section
variable {κ : Type} [DecidableEq κ]
theorem valV_not {kvs : List (κ × V)} {k : κ} (h : valV kvs k = none) : ¬ k ∈ kvs.map (·.1) := by
  intro m
  obtain ⟨p, hp, e⟩ := List.mem_map.mp m
  have q : (kvs.any fun kv => decide (kv.1 = k)) = true := List.any_eq_true.mpr ⟨p, hp, decide_eq_true e⟩
  rw [valV_any, h] at q
  exact absurd q (by simp)
theorem valV_in {kvs : List (κ × V)} {k : κ} {v : V} (h : valV kvs k = some v) : k ∈ kvs.map (·.1) := by
  have q : (kvs.any fun kv => decide (kv.1 = k)) = true := by
    rw [valV_any, h]
    all_goals rfl
  obtain ⟨p, hp, e⟩ := List.any_eq_true.mp q
  exact List.mem_map.mpr ⟨p, hp, of_decide_eq_true e⟩
theorem nd_snoc : ∀ {l : List κ} {k : κ}, l.Nodup → ¬ k ∈ l → (l ++ [k]).Nodup
  | [], k, _, _ => by simp
  | a :: r, k, h, hk => by
    obtain ⟨h1, h2⟩ := List.nodup_cons.mp h
    show (a :: (r ++ [k])).Nodup
    refine List.nodup_cons.mpr ⟨fun m => ?_, nd_snoc h2 fun m => hk (List.mem_cons.mpr (Or.inr m))⟩
    rcases List.mem_append.mp m with q | q
    · exact h1 q
    · exact hk (List.mem_cons.mpr (Or.inl (List.mem_singleton.mp q).symm))
theorem nd_putK {kvs : List (κ × V)} {k : κ} (v : V) (hn : (kvs.map (·.1)).Nodup) (h : valV kvs k = none) : ((putK kvs k v).map (·.1)).Nodup := by
  rw [putK_new v h, List.map_append]
  exact nd_snoc hn (valV_not h)
end
end L2
set_option Elab.async false
set_option linter.all false
set_option maxRecDepth 100000
set_option maxHeartbeats 1000000
namespace My
open PySem PySem.Spec PyProof.Rows L2
theorem lookup_mem {α : Type} {β : Type} [BEq α] [LawfulBEq α] : ∀ {l : List (α × β)} {x : α} {v : β}, l.lookup x = some v → (x, v) ∈ l
  | (a, b) :: l, x, v, h => by
    rw [List.lookup_cons] at h
    cases e : x == a with
    | true => rw [e] at h; have e' := eq_of_beq e; have h' : b = v := Option.some.inj h; subst e' h'; exact List.mem_cons_self
    | false => rw [e] at h; exact List.mem_cons_of_mem _ (lookup_mem h)
theorem caps_of {X : Cx} {x : Str} {scope : Scope} {cl : List (Str × Addr)} {caps : List Nat} {cn : List Str} (h1 : closureFor scope X.env = pure cl) (h2 : scope.kind = .function) (h3 : scope.names.all (fun p => p.2 != .cell) = true)
    (h4 : scope.names.all (fun p => p.2 != .local || scope.names.lookup p.1 == some .local) = true) (h5 : scope.names.lookup x = some .local) (h6 : AllC (fun p => X.env.cells.lookup p.1 = some p.2) cl)
    (h7 : (relabel scope X.env).names.all (fun p => !(p.2 == .cell || p.2 == .free) || (cl.lookup p.1).isSome) = true) (h8 : caps.length = cn.length)
    (h9 : AllC (fun p => X.N[p.1]? = some p.2 ∧ X.env.kindOf p.2 = some .cell ∧ (relabel scope X.env).names.lookup p.2 = some .cell ∧ X.env.scope.names.lookup p.2 = some .cell ∧ ∃ c, cl.lookup p.2 = some c) (caps.zip cn)) (h10 : (x :: cn).Nodup) : Caps X x scope cl caps cn := by
  refine ⟨h1, h2, fun y hy z => ?_, fun y hy z => ?_, h5, fun y c e => AllC.mem h6 _ (lookup_mem e), fun y hy => ?_, h8, fun k y j e1 e2 => ?_, h10⟩
  · have q := List.all_eq_true.mp h3 y hy
    rw [z] at q
    cases q
  · have q := List.all_eq_true.mp h4 y hy
    rw [z] at q
    simpa using q
  · have m : ∃ k, (y, k) ∈ (relabel scope X.env).names ∧ (k = .cell ∨ k = .free) := by
      rcases hy with hy | hy
      · exact ⟨_, lookup_mem hy, .inl rfl⟩
      · exact ⟨_, lookup_mem hy, .inr rfl⟩
    obtain ⟨k, hm, hk⟩ := m
    have q := List.all_eq_true.mp h7 _ hm
    have hk' : (k == NameKind.cell || k == NameKind.free) = true := by rcases hk with rfl | rfl <;> decide
    rw [hk'] at q
    exact Option.isSome_iff_exists.mp (by simpa using q)
  · refine AllC.mem h9 (j, y) ?_
    have hz : (caps.zip cn)[k]? = some (j, y) := by rw [List.getElem?_zip_eq_some]; exact ⟨e2, e1⟩
    exact List.mem_of_getElem? hz
section
variable {X : Cx}
def rCatS : R2 := fun x y H Q => ∃ i j, x = .str i ∧ y = .str j ∧ i.length + j.length ≤ sizeLine ∧ Q (.str (i ++ j)) H
theorem op_catS : OpR X (binaryOp .Add) rCatS := op_add_str
end
section
variable {K : PySem.W.Frag} {H : Hp} {Q : VK} {σ : L2.St}
theorem r_sl {r : V → Option Int → Option Int → Hp → VK → Prop} {te : TE} {tl th : TO} (h : te σ H fun x H1 => tl σ H1 fun l H2 => th σ H2 fun u H3 => r x l u H3 Q) : tSl r te tl th σ H Q := h
theorem r_noPart {Q : Option Int → Hp → Prop} (h : Q none H) : tNoPart σ H Q := h
theorem r_part {te : TE} {Q : Option Int → Hp → Prop} (h : te σ H fun x H1 => ∃ i, x = .int i ∧ Q (some i) H1) : tPart te σ H Q := h
theorem r_exi {i : Int} {Q : Int → Prop} (h : Q i) : ∃ j, V.int i = .int j ∧ Q j := ⟨i, rfl, h⟩
theorem r_chain {r r' : R2} {ta tb tc : TE} (h : ta σ H fun x H1 => tb σ H1 fun y H2 => r x y H2 fun z H3 => ∃ k, z = .bl k ∧ (if k = true then tc σ H3 fun w' H4 => r' y w' H4 Q else Q (.bl false) H3)) : tChain r r' ta tb tc σ H Q := h
theorem r_catS {i j : Str} (hn : i.length + j.length ≤ sizeLine) (h : Q (.str (i ++ j)) H) : rCatS (.str i) (.str j) H Q := ⟨i, j, rfl, rfl, hn, h⟩
theorem r_ixS {z : Str} {i : Int} {c : Nat} (hn : z.length ≤ sizeLine) (e : atI z.cps.toList i = some c) (h : Q (.str ⟨#[c]⟩) H) : rIxS (.str z) (.int i) H Q := ⟨z, i, c, rfl, rfl, hn, e, h⟩
theorem r_comp {wi : TI} {caps : List Nat} {tt : CT TT} {te : CT TE} (h : wi σ H fun J H1 => ∀ (C : Addr) (s : Shared) (H0 : Hp) (fp : List Addr) (acc : Addr), H1 acc = none → COMP J caps (tt C s H0 fp) (te C s H0 fp) acc σ (upd H1 acc (.lst [])) Q) : tComp wi caps tt te σ H Q := h
theorem r_true {Q : Bool → Hp → Prop} (h : Q true H) : tTrue σ H Q := h
theorem r_app {acc : Addr} {N : Hp → Prop} {y : V} {ys : List V} (ha : H acc = some (.lst ys)) (hz : ys.length < sizeLine) (h : N (upd H acc (.lst (ys ++ [y])))) : rApp acc N y H := ⟨ys, ha, hz, h⟩
theorem c_by {J : It} {caps : List Nat} {tt : TT} {te : TE} {acc : Addr} (n : Nat) (Pv : Nat → Hp → Prop) (h0 : Pv 0 H) (hgo : ∀ i H, i < n → Pv i H → J.go i H) (hst : ∀ H, Pv n H → J.stop n H)
    (hs : ∀ i H v H', i < n → Pv i H → J.yld i H v H' → tt (some v :: capsOf caps σ) H' fun b H2 => if b = true then te (some v :: capsOf caps σ) H2 fun y H3 => rApp acc (Pv (i + 1)) y H3 else Pv (i + 1) H2)
    (hd : ∀ H, Pv n H → Q (.ref acc) H) : COMP J caps tt te acc σ H Q := by
  refine ⟨fun i m H => m = n - i ∧ i ≤ n ∧ Pv i H, ⟨n, rfl, Nat.zero_le _, h0⟩, ?_⟩
  rintro i m H ⟨rfl, hi, p⟩
  by_cases hlt : i < n
  · exact .inr ⟨hgo i H hlt p, Pv (i + 1), fun H' p' => ⟨n - (i + 1), by omega, rfl, hlt, p'⟩, fun v H' y => hs i H v H' hlt p y⟩
  · have e : i = n := by omega
    subst e
    exact .inl ⟨hst H p, hd H p⟩
end
end My
set_option Elab.async false
set_option linter.all false
set_option maxRecDepth 100000
set_option maxHeartbeats 1000000
namespace My
open PySem PySem.Spec PyProof.Rows L2
section
variable {X : Cx}
def rRep : R2 := fun x y H Q => ∃ z n, x = .str z ∧ y = .int n ∧ 0 ≤ n ∧ n ≤ 1 ∧ Q (.str (if n < 1 then Str.empty else z)) H
theorem op_rep : OpR X (binaryOp .Mult) rRep := by
  intro pins s σ H x y v u Q I rx ry h
  obtain ⟨z, n, rfl, rfl, h0, h1, q⟩ := h
  obtain ⟨t, rfl⟩ := rx
  obtain ⟨k, rfl⟩ := ry
  refine P.mul_str (by rw [decide_eq_false (by omega), decide_eq_false (by omega)]; rfl) (fun h2 h3 => ?_) (fun h2 h3 => ?_) ?_
  · have e : n = 1 := by omega
    subst e
    rw [show ((1 : Int) == 1) = true from rfl, Bool.true_or] at h3; cases h3
  · have e : n = 1 := by omega
    subst e
    rw [show ((1 : Int) == 1) = true from rfl, Bool.true_or] at h3; cases h3
  · by_cases c : n < 1
    · rw [if_pos c] at q ⊢
      exact ⟨by decide, .str Str.empty, H, I.tok _, ⟨_, rfl⟩, q⟩
    · have e : n = 1 := by omega
      subst e
      rw [if_neg c] at q ⊢
      rw [if_pos (by rw [show ((1 : Int) == 1) = true from rfl, Bool.true_or])]
      exact ⟨.str z, H, I, ⟨_, rfl⟩, q⟩
def rIntB : List V → Hp → VK → Prop := fun xs H Q => ∃ b : Bool, xs = [.bl b] ∧ Q (.int (if b then 1 else 0)) H
theorem call_intB : CallR X (.type "int") rIntB := by
  intro pins s σ H xs us Q I r h
  obtain ⟨b, rfl, q⟩ := h
  cases r with
  | cons r1 r2 =>
    cases r2
    cases r1
    exact call_int_bool ⟨.int _, H, I.tok _, ⟨_, rfl⟩, q⟩
end
section
variable {H : Hp} {Q : VK}
theorem r_rep {z : Str} {n : Int} (h0 : 0 ≤ n) (h1 : n ≤ 1) (h : Q (.str (if n < 1 then Str.empty else z)) H) : rRep (.str z) (.int n) H Q := ⟨z, n, rfl, rfl, h0, h1, h⟩
theorem r_intB {b : Bool} (h : Q (.int (if b then 1 else 0)) H) : rIntB [.bl b] H Q := ⟨b, rfl, h⟩
end
end My
set_option Elab.async false
set_option linter.all false
set_option maxRecDepth 100000
set_option maxHeartbeats 1000000
namespace My
open PySem PySem.Spec PyProof.Rows L2
section
variable {prog : Program} {w : World} {A : Around} {E : Value → Shared → Prop} {h : Heap} {g : Array GenState} {d : Drawn} {t : Nat} {os : OsState}
variable {nm q : Str} {C N fI : Addr} {bs bm bmB : List Value} {hdct : Bool} {sn : List Str} {sub : List Value} {ab : Bool} {col : Option Bool} {dd : Option Addr} {k0 k1 k2 k3 k5 : Option Value} {B Bn newId nid initId inN : String} {bmN : List Value}
end
end My
set_option Elab.async false
set_option linter.all false
set_option maxRecDepth 100000
set_option maxHeartbeats 1000000
namespace My
open PySem PySem.Spec PyProof.Rows L2
def onlyVE : List Value → Bool
  | .ref _ :: r => onlyVE r
  | [.type a, .type b, .type c, .type e] => a == "ValueError" && b == "Exception" && c == "BaseException" && e == "object"
  | _ => false
def overVE (K : PySem.W.Frag) (C : Addr) : Bool := (PySem.W.clsIn K C).any fun cd => onlyVE cd.mro
section
variable {prog : Program} {w : World} {A : Around} {E : Value → Shared → Prop} {s : Shared} {K : PySem.W.Frag} {x C : Addr} {o : Obj} {name : Str} {v : Value} {R : Result → Shared → Prop}
open PySem.W in
end
end My
set_option Elab.async false
set_option linter.all false
set_option maxRecDepth 100000
set_option maxHeartbeats 1000000
namespace My
open PySem PySem.Spec PyProof.Rows L2
section
variable {prog : Program} {w : World} {A : Around} {E : Value → Shared → Prop} {s : Shared} {K : PySem.W.Frag} {x C : Addr} {ox : Obj} {od : Option Obj} {name : Str} {v : Value} {R : Result → Shared → Prop}
open PySem.W in
open PySem.W in
open PySem.W in
open PySem.W in
structure XAt (K : PySem.W.Frag) (C : Addr) : Prop where
  ga : PySem.W.findIn K (.ref C) "__getattribute__" = some (some (.builtin "BaseException.__getattribute__"))
  gn : PySem.W.findIn K (.ref C) "__getattr__" = some none
  mb : PySem.W.mroIn K C (.type "BaseException") = some true
  mo : PySem.W.mroIn K C (.type "object") = some true
  hd : PySem.W.hasDictIn K C = true
  cl : PySem.W.findIn K (.ref C) "__class__" = some (some (.builtin "object.__class__"))
  sp : PySem.W.specialIn K (.builtin "object.__class__") "__get__" = some (some (.builtin "getset_descriptor.__get__"))
  tk : PySem.W.takesIn K (.builtin "object.__class__") = some true
  sa : PySem.W.findIn K (.ref C) "__setattr__" = some (some (.builtin "object.__setattr__"))
  po : overVE K C = true
open PySem.W in
open PySem.W in
end
end My
set_option Elab.async false
set_option linter.all false
set_option maxRecDepth 100000
set_option maxHeartbeats 1000000
namespace My
open PySem PySem.Spec PyProof.Rows L2
section
variable {X : Cx} {pins : List (Addr × Obj)} {σ : L2.St} {H : Hp} {s : Shared} {a C dx : Addr} {fs : List (Str × V)} {f : Str} {v y : V} {u : Value} {A : Around} {E : Value → Shared → Prop}
end
end My
set_option Elab.async false
set_option linter.all false
set_option maxRecDepth 100000
set_option maxHeartbeats 1000000
namespace My
open PySem PySem.Spec PyProof.Rows L2
def del (H : Hp) (a : Addr) : Hp := fun b => if b = a then none else H b
section
variable {X : Cx} {pins : List (Addr × Obj)} {σ : L2.St} {H : Hp} {s : Shared} {a : Addr} {φ : Heap → Prop}
end
structure XClI (K : PySem.W.Frag) (C f : Addr) : Prop where
  ob : ∃ (nm q : Str) (N : Addr) (bs bm : List Value) (hdct : Bool) (sn : List Str) (sub : List Value) (ab : Bool) (col : Option Bool) (dd : Option Addr) (k0 k1 k2 k3 k5 : Option Value) (mN : Str → Option Value),
    K.lookup C = some (excClassObj nm q C N bs bm hdct sn sub ab col dd k0 k1 k2 k3 k5 "ValueError.__new__") ∧ (∀ h : Heap, K.In h → h.Ns N mN) ∧ mN "__init__" = some (.ref f) ∧
    ∀ h : Heap, K.In h → OwnTail h [.type "ValueError", .type "Exception", .type "BaseException", .type "object"] bm
  fn : PySem.W.isFn K (.ref f) = true
section
variable {X : Cx} {k : Nat} {f : Addr} {fd : FuncData} {ps : List Str} {sp : Sp} {x : Str} {C : Addr} {W : L2.St → XK} {np cpos pos : Pos} {e : Expr} {es : List Expr} {t : TA} {CX : CXT}
end
end My
set_option Elab.async false
set_option linter.all false
set_option maxRecDepth 100000
set_option maxHeartbeats 1000000
namespace My
open PySem PySem.Spec PyProof.Rows L2
section
variable {X : Cx}
inductive PJ (X : Cx) : List Expr → List TE → Prop
  | nil : PJ X [] []
  | cons {e : Expr} {es : List Expr} {t : TE} {ts : List TE} (h : PE X e t) (r : PJ X es ts) : PJ X (e :: es) (t :: ts)
end
section
variable {σ : L2.St} {H : Hp} {Q : VK} {te t : TE} {r : List TE} {z out : Str}
end
end My
set_option Elab.async false
set_option linter.all false
set_option maxRecDepth 100000
set_option maxHeartbeats 1000000
namespace My
open PySem PySem.Spec PyProof.Rows L2
section
variable {prog : Program} {w : World} {A : Around} {E : Value → Shared → Prop} {h : Heap} {g : Array GenState} {d : Drawn} {t : Nat} {os : OsState}
variable {nm q : Str} {C N : Addr} {bs bm bmB : List Value} {hdct : Bool} {sn : List Str} {sub : List Value} {ab : Bool} {col : Option Bool} {dd : Option Addr} {k0 k1 k2 k3 k5 : Option Value} {B newId nid initId : String}
end
end My
set_option Elab.async false
set_option linter.all false
set_option maxRecDepth 100000
set_option maxHeartbeats 1000000
namespace My
open PySem PySem.Spec PyProof.Rows L2
structure XBase (K : PySem.W.Frag) (T : Addr) : Prop where
  ga : PySem.W.specialIn K (.ref T) "__getattribute__" = some (some (.builtin "type.__getattribute__"))
  rd : PySem.W.readsIn K T (.type "type") = true
  at_ : PySem.W.findCls K (.ref T) (.type "type") "__init__" = some (.val (.builtin "ValueError.__init__"))
section
variable {X : Cx} {C T f : Addr} {x : Str} {p apos cpos : Pos} {e : Expr} {es : List Expr} {t : TA}
end
end My
set_option Elab.async false
set_option linter.all false
set_option maxRecDepth 100000
set_option maxHeartbeats 1000000
namespace My
open PySem PySem.Spec PyProof.Rows L2
section
variable {X : Cx} {o e value : Expr} {f : Str} {pos pos' : Pos} {ta tv : TE}
end
section
variable {K : PySem.W.Frag} {σ : L2.St} {H : Hp} {Q : VK} {D : Ends} {ta tv : TE} {f : Str} {a C dx c : Addr} {d : Option Addr} {fs : List (Str × V)} {v y : V} {b : Bool}
end
end My
set_option Elab.async false
set_option linter.all false
set_option maxRecDepth 100000
set_option maxHeartbeats 1000000
namespace My
open PySem PySem.Spec PyProof.Rows L2
open PySem.MeetsSeq PySem.MeetsSeq2 PySem.MeetsSeq3 PySem.SeqRoads2
def EqW (P : Program) (w : World) (A : Around) (s : Shared) (y x : Value) (b : Bool) : Prop := ∀ (E : Value → Shared → Prop) (Q : Bool → Shared → Prop), Q b s → wpAny (model P w) A (eqBool y x) Q E s
def opN : Bool → CmpOp
  | false => .Eq
  | true => .NotEq
def RcW (P : Program) (w : World) (A : Around) (s : Shared) (ne : Bool) (y x : Value) (b : Bool) : Prop := ∀ (E : Value → Shared → Prop) (Q : Value → Shared → Prop), Q (.bool b) s → wpAny (model P w) A (richCompare (opN ne) y x) Q E s
def codeN : Bool → Int
  | false => 2
  | true => 3
abbrev lo (dd : Option Addr) (xs : Array Value) (n : Nat) (sl : Array (Option Value)) : Obj := { cls := .type "list", dict := dd, data := .seq xs n, slots := sl }
abbrev tob (dd : Option Addr) (xs : Array Value) (n : Nat) (sl : Array (Option Value)) : Obj := { cls := .type "tuple", dict := dd, data := .seq xs n, slots := sl }
section
variable {P : Program} {w : World} {A : Around} {s : Shared} {l b : Addr} {k : Bool}
theorem EqW.of {y x : Value} (h : SeqAt.EqAt A s y x k) : EqW P w A s y x k := fun E Q q => h P w E Q q
theorem EqW.refs (hn : l ≠ b) (h : RcW P w A s false (.ref l) (.ref b) k) : EqW P w A s (.ref l) (.ref b) k := fun E Q q => by
  unfold eqBool
  refine wpAny_holding (wpAny_ite_split (fun z => ?_) fun _ => wpAny_bind (h E _ (wpAny_truthy_bool q)))
  have z' := eq_of_beq z
  injection z' with z'
  exact absurd z' hn
abbrev Fin1 (P : Program) (w : World) (A : Around) (R : Result → Shared → Prop) : PySem.Fin → Shared → Prop := fun f s' => match f with | .done r => R (.ok r) s' | .again c => c.quiet = true ∧ codeAny (model P w) A c R s'
theorem loopW (ne : Bool) {xs ys : Array Value} {n m : Nat} {d1 d2 : Option Addr} {s1 s2 : Array (Option Value)} (hz : xs.size = ys.size) (f : Nat → Bool) (r : Nat) : ∀ (i : Nat), xs.size - i = r → ∀ (A : Around) (R : Result → Shared → Prop) (s : Shared), s.heap.get? l = some (lo d1 xs n s1) → s.heap.get? b = some (lo d2 ys m s2) →
    (∀ j (h1 : j < xs.size) (h2 : j < ys.size), EqW P w A.in1 s xs[j] ys[j] (f j)) → R (.ok (.ret (.bool (ne != ((List.range xs.size).drop i).all f)))) s →
    wpAny (model P w) A.in1 (Builtin.«list.__eq__.loop» ⟨[.ref l, .ref b, rawInt i, rawInt (codeN ne)], []⟩) (Fin1 P w A R) (fun e s' => R (.error e) s') s := by
  induction r with
  | zero =>
    intro i hr A R s hl hb he q
    obtain ⟨hp, g, d, tk, os⟩ := s
    have t1 : xs[((i : Nat) : Int).toNat]? = none := by simp; omega
    have t2 : ys[((i : Nat) : Int).toNat]? = none := by simp; omega
    have t3 : (List.range xs.size).drop i = [] := by simp; omega
    rw [t3] at q
    cases ne with
    | false =>
      wp_walk using AutoSeq1.wpAny_loadPart' hl, AutoSeq1.wpAny_loadPart' hb
      rw [t1, t2]
      wp_walk using AutoSeq1.wpAny_loadPart' hl, AutoSeq1.wpAny_loadPart' hb
      show R (.ok (.ret (.bool (xs.size == ys.size)))) _
      rw [hz]
      simpa using q
    | true =>
      wp_walk using AutoSeq1.wpAny_loadPart' hl, AutoSeq1.wpAny_loadPart' hb
      rw [t1, t2]
      wp_walk using AutoSeq1.wpAny_loadPart' hl, AutoSeq1.wpAny_loadPart' hb
      show R (.ok (.ret (.bool (xs.size != ys.size)))) _
      rw [hz]
      simpa using q
  | succ r ih =>
    intro i hr A R s hl hb he q
    obtain ⟨hp, g, d, tk, os⟩ := s
    have j1 : i < xs.size := by omega
    have j2 : i < ys.size := by omega
    have t1 : xs[((i : Nat) : Int).toNat]? = some xs[i] := by simp [j1]
    have t2 : ys[((i : Nat) : Int).toNat]? = some ys[i] := by simp [j2]
    have t3 : (List.range xs.size).drop i = i :: (List.range xs.size).drop (i + 1) := by simp [List.drop_eq_getElem_cons, j1]
    have t4 : ((i : Int) + 1) = ((i + 1 : Nat) : Int) := by push_cast; rfl
    rw [t3, List.all_cons] at q
    cases ne with
    | false =>
      wp_walk using AutoSeq1.wpAny_loadPart' hl, AutoSeq1.wpAny_loadPart' hb
      rw [t1, t2]
      refine wpAny_bind (he i j1 j2 _ _ ?_)
      cases hf : f i with
      | true =>
        rw [hf] at q
        wp_walk
        rw [t4]
        refine ⟨plainId_quiet plain_eq_loop _, codeAny_builtin entry_eq_loop ?_⟩
        rw [Around.under_plainId plain_eq_loop _]
        exact ih (i + 1) (by omega) A R _ hl hb he (by simpa using q)
      | false =>
        rw [hf] at q
        wp_walk using AutoSeq1.wpAny_loadPart' hl, AutoSeq1.wpAny_loadPart' hb
        rw [t1, t2]
        wp_walk
        simpa using q
    | true =>
      wp_walk using AutoSeq1.wpAny_loadPart' hl, AutoSeq1.wpAny_loadPart' hb
      rw [t1, t2]
      refine wpAny_bind (he i j1 j2 _ _ ?_)
      cases hf : f i with
      | true =>
        rw [hf] at q
        wp_walk
        rw [t4]
        refine ⟨plainId_quiet plain_eq_loop _, codeAny_builtin entry_eq_loop ?_⟩
        rw [Around.under_plainId plain_eq_loop _]
        exact ih (i + 1) (by omega) A R _ hl hb he (by simpa using q)
      | false =>
        rw [hf] at q
        wp_walk using AutoSeq1.wpAny_loadPart' hl, AutoSeq1.wpAny_loadPart' hb
        rw [t1, t2]
        wp_walk
        simpa using q
theorem listW (ne : Bool) {xs ys : Array Value} {n m : Nat} {d1 d2 : Option Addr} {s1 s2 : Array (Option Value)} (hz : xs.size = ys.size) (f : Nat → Bool) {R : Result → Shared → Prop} (hl : s.heap.get? l = some (lo d1 xs n s1)) (hb : s.heap.get? b = some (lo d2 ys m s2))
    (he : ∀ j (h1 : j < xs.size) (h2 : j < ys.size), EqW P w A.in1 s xs[j] ys[j] (f j)) (q : R (.ok (.ret (.bool (ne != (List.range xs.size).all f)))) s) :
    wpAny (model P w) A.in1 ((if ne = true then Builtin.«list.__ne__» else Builtin.«list.__eq__») ⟨[.ref l, .ref b], []⟩) (Fin1 P w A R) (fun e s' => R (.error e) s') s := by
  obtain ⟨hp, g, d, tk, os⟩ := s
  have f3 := AutoSeq1.sub_list_list
  have z0 : ¬ (xs.size != ys.size) = true := by simp [hz]
  cases ne with
  | false =>
    show wpAny _ _ (Builtin.«list.__eq__» _) _ _ _
    wp_walk using AutoSeq1.wpAny_loadPart' hl, AutoSeq1.wpAny_loadPart' hb
    refine ⟨plainId_quiet plain_eq_loop _, codeAny_builtin entry_eq_loop ?_⟩
    rw [Around.under_plainId plain_eq_loop _]
    exact loopW false hz f _ 0 rfl A R _ hl hb he (by simpa using q)
  | true =>
    show wpAny _ _ (Builtin.«list.__ne__» _) _ _ _
    wp_walk using AutoSeq1.wpAny_loadPart' hl, AutoSeq1.wpAny_loadPart' hb
    refine ⟨plainId_quiet plain_eq_loop _, codeAny_builtin entry_eq_loop ?_⟩
    rw [Around.under_plainId plain_eq_loop _]
    exact loopW true hz f _ 0 rfl A R _ hl hb he (by simpa using q)
theorem callW {T id : String} {name : Str} {B : Builtin} {self : Value} {rest : List Value} {E Q : Value → Shared → Prop} (slot : Slot T name id) (hT : s.TypeIs self T) (entry : entryFor table id = some B) (args : argsOk id ⟨self :: rest, []⟩)
    (h : wpAny (model P w) A.in1 (B ⟨self :: rest, []⟩) (Fin1 P w A (wants Q E)) (fun e s' => wants Q E (.error e) s') s) : wpAny (model P w) A (call (.builtin id) (self :: rest)) Q E s :=
  wpAny_call (codeAny_call_builtin slot.plain entry (slot.check _ _ _ _ _ _ _ _ hT args h))
theorem RcW.lists (ne : Bool) {xs ys : Array Value} {f : Nat → Bool} (hl : s.heap.IsList l xs) (hb : s.heap.IsList b ys) (hz : xs.size = ys.size) (hu : A.units < cLine) (he : ∀ j (h1 : j < xs.size) (h2 : j < ys.size), EqW P w A.in1 s xs[j] ys[j] (f j)) :
    RcW P w A s ne (.ref l) (.ref b) (ne != (List.range xs.size).all f) := fun E Q q => by
  obtain ⟨⟨c1, d1, e1, s1⟩, ho, hc, n, hd⟩ := id hl
  obtain ⟨⟨c2, d2, e2, s2⟩, ho2, hc2, m, hd2⟩ := id hb
  simp only at hc hd hc2 hd2
  subst hc hd hc2 hd2
  have q' : Value.bool (ne != (List.range xs.size).all f) ≠ Value.notImplemented ∧ Q (.bool (ne != (List.range xs.size).all f)) s := ⟨(fun x => nomatch x), q⟩
  cases ne with
  | false => exact wpAny_richCompare_same_room (op := .Eq) ⟨_, ho, rfl⟩ ⟨_, ho2, rfl⟩ F.slot_list_eq (callW F.slot_list_eq ⟨_, ho, rfl⟩ F.entry_list_eq (F.args_list_eq_2 _ _) (listW (R := wants (fun v s' => v ≠ .notImplemented ∧ Q v s') E) false hz f ho ho2 he q')) hu
  | true => exact wpAny_richCompare_same_room (op := .NotEq) ⟨_, ho, rfl⟩ ⟨_, ho2, rfl⟩ F.slot_list_ne (callW F.slot_list_ne ⟨_, ho, rfl⟩ F.entry_list_ne (F.args_list_ne_2 _ _) (listW (R := wants (fun v s' => v ≠ .notImplemented ∧ Q v s') E) true hz f ho ho2 he q')) hu
theorem RcW.listsN (ne : Bool) {xs ys : Array Value} (hl : s.heap.IsList l xs) (hb : s.heap.IsList b ys) (hz : (xs.size != ys.size) = true) (hu : A.units < cLine) : RcW P w A s ne (.ref l) (.ref b) (ne != false) := fun E Q q => by
  cases ne with
  | false => exact SeqAt.RcAt.lists_lengths hl hb hz hu P w E Q q
  | true => exact SeqAt.RcNeAt.lists_lengths hl hb hz hu P w E Q q
theorem tupW (ne : Bool) {xs ys : Array Value} {n m : Nat} {d1 d2 : Option Addr} {s1 s2 : Array (Option Value)} (f : Nat → Bool) {E Q : Value → Shared → Prop} (hl : s.heap.get? l = some (tob d1 xs n s1)) (hb : s.heap.get? b = some (tob d2 ys m s2))
    (he : ∀ j (h1 : j < xs.size) (h2 : j < ys.size), EqW P w A.in1 s xs[j] ys[j] (f j)) (q : Q (.bool (ne != ((List.range (min xs.size ys.size)).all f && xs.size == ys.size))) s) :
    wpAny (model P w) A.in1 ((if ne = true then Builtin.«tuple.__ne__» else Builtin.«tuple.__eq__») ⟨[.ref l, .ref b], []⟩) (fun fin s' => ∃ v, fin = .done (.ret v) ∧ Q v s') E s := by
  obtain ⟨hp, g, d, tk, os⟩ := s
  have f2 := AutoSeq1.sub_tuple_tuple
  have hZ : (xs.toList.zip ys.toList).length = min xs.size ys.size := by simp
  have turn : ∀ (x y : Value) (rest : List (Value × Value)) (i : Nat), (x, y) :: rest = (xs.toList.zip ys.toList).drop i → ∃ (h1 : i < xs.size) (h2 : i < ys.size), x = xs[i] ∧ y = ys[i] ∧ rest = (xs.toList.zip ys.toList).drop (i + 1) ∧ (List.range (min xs.size ys.size)).drop i = i :: (List.range (min xs.size ys.size)).drop (i + 1) := fun x y rest i hz => by
    have hlt : i < (xs.toList.zip ys.toList).length := by
      rcases Nat.lt_or_ge i (xs.toList.zip ys.toList).length with z | z
      · exact z
      · rw [List.drop_of_length_le z] at hz; cases hz
    have hm : i < min xs.size ys.size := hZ ▸ hlt
    have h1 : i < xs.size := Nat.lt_of_lt_of_le hm (Nat.min_le_left _ _)
    have h2 : i < ys.size := Nat.lt_of_lt_of_le hm (Nat.min_le_right _ _)
    rw [List.drop_eq_getElem_cons hlt] at hz
    injection hz with hxy hrest
    exact ⟨h1, h2, by have := congrArg Prod.fst hxy; simpa using this, by have := congrArg Prod.snd hxy; simpa using this, hrest, by simp [List.drop_eq_getElem_cons, hm]⟩
  have last : ∀ i : Nat, [] = (xs.toList.zip ys.toList).drop i → (List.range (min xs.size ys.size)).drop i = [] := fun i hz => by
    have hge : min xs.size ys.size ≤ i := by
      rcases Nat.lt_or_ge i (xs.toList.zip ys.toList).length with z | z
      · rw [List.drop_eq_getElem_cons z] at hz; cases hz
      · exact hZ ▸ z
    exact List.drop_of_length_le (by simpa using hge)
  cases ne with
  | false =>
    show wpAny _ _ (Builtin.«tuple.__eq__» _) _ _ _
    wp_walk using AutoSeq1.wpAny_loadPart' hl, AutoSeq1.wpAny_loadPart' hb, wpAny_forIn_list _ (fun rest c s' => c.1 = none ∧ s' = ⟨hp, g, d, tk, os⟩ ∧ ∃ i, rest = (xs.toList.zip ys.toList).drop i ∧ Q (.bool (((List.range (min xs.size ys.size)).drop i).all f && xs.size == ys.size)) ⟨hp, g, d, tk, os⟩) _
    case turn =>
      rintro ⟨x, y⟩ rest c s' ⟨hc, rfl, i, hz, hR⟩
      obtain ⟨h1, h2, rfl, rfl, hrest, hd⟩ := turn x y rest i hz
      rw [hd, List.all_cons] at hR
      refine wpAny_bind (he i h1 h2 _ _ ?_)
      cases hf : f i with
      | true =>
        rw [hf] at hR
        wp_walk
        exact ⟨rfl, rfl, i + 1, hrest, by simpa using hR⟩
      | false =>
        rw [hf] at hR
        wp_walk
        exact ⟨_, rfl, by simpa using hR⟩
    case fin =>
      rintro ⟨c1, c2⟩ s' ⟨hc, rfl, i, hz, hR⟩
      simp only at hc
      subst hc
      rw [last i hz] at hR
      wp_walk
      exact ⟨_, rfl, by simpa [Builtin.Tuple.tupleCompareSizes] using hR⟩
    case h => exact ⟨rfl, rfl, 0, rfl, by simpa using q⟩
  | true =>
    show wpAny _ _ (Builtin.«tuple.__ne__» _) _ _ _
    wp_walk using AutoSeq1.wpAny_loadPart' hl, AutoSeq1.wpAny_loadPart' hb, wpAny_forIn_list _ (fun rest c s' => c.1 = none ∧ s' = ⟨hp, g, d, tk, os⟩ ∧ ∃ i, rest = (xs.toList.zip ys.toList).drop i ∧ Q (.bool (!(((List.range (min xs.size ys.size)).drop i).all f && xs.size == ys.size))) ⟨hp, g, d, tk, os⟩) _
    case turn =>
      rintro ⟨x, y⟩ rest c s' ⟨hc, rfl, i, hz, hR⟩
      obtain ⟨h1, h2, rfl, rfl, hrest, hd⟩ := turn x y rest i hz
      rw [hd, List.all_cons] at hR
      refine wpAny_bind (he i h1 h2 _ _ ?_)
      cases hf : f i with
      | true =>
        rw [hf] at hR
        wp_walk
        exact ⟨rfl, rfl, i + 1, hrest, by simpa using hR⟩
      | false =>
        rw [hf] at hR
        wp_walk
        exact ⟨_, rfl, by simpa using hR⟩
    case fin =>
      rintro ⟨c1, c2⟩ s' ⟨hc, rfl, i, hz, hR⟩
      simp only at hc
      subst hc
      rw [last i hz] at hR
      wp_walk
      exact ⟨_, rfl, by simpa [Builtin.Tuple.tupleCompareSizes, bne] using hR⟩
    case h => exact ⟨rfl, rfl, 0, rfl, by simpa using q⟩
theorem RcW.tuples (ne : Bool) {xs ys : Array Value} {f : Nat → Bool} (hl : s.heap.IsTuple l xs) (hb : s.heap.IsTuple b ys) (hu : A.units < cLine) (he : ∀ j (h1 : j < xs.size) (h2 : j < ys.size), EqW P w A.in1 s xs[j] ys[j] (f j)) :
    RcW P w A s ne (.ref l) (.ref b) (ne != ((List.range (min xs.size ys.size)).all f && xs.size == ys.size)) := fun E Q q => by
  obtain ⟨⟨c1, d1, e1, s1⟩, ho, hc, n, hd⟩ := id hl
  obtain ⟨⟨c2, d2, e2, s2⟩, ho2, hc2, m, hd2⟩ := id hb
  simp only at hc hd hc2 hd2
  subst hc hd hc2 hd2
  cases ne with
  | false => exact wpAny_richCompare_same_room (op := .Eq) ⟨_, ho, rfl⟩ ⟨_, ho2, rfl⟩ F.slot_tuple_eq (wpAny_call_entry F.slot_tuple_eq ⟨_, ho, rfl⟩ F.entry_tuple_eq (tupW (Q := fun v s' => v ≠ .notImplemented ∧ Q v s') false f ho ho2 he ⟨(fun x => nomatch x), q⟩) (F.args_tuple_eq_2 _ _)) hu
  | true => exact wpAny_richCompare_same_room (op := .NotEq) ⟨_, ho, rfl⟩ ⟨_, ho2, rfl⟩ F.slot_tuple_ne (wpAny_call_entry F.slot_tuple_ne ⟨_, ho, rfl⟩ F.entry_tuple_ne (tupW (Q := fun v s' => v ≠ .notImplemented ∧ Q v s') true f ho ho2 he ⟨(fun x => nomatch x), q⟩) (F.args_tuple_ne_2 _ _)) hu
end
end My
set_option Elab.async false
set_option linter.all false
set_option maxRecDepth 100000
set_option maxHeartbeats 1000000
namespace My
open PySem PySem.Spec PyProof.Rows L2
inductive DEq (K : PySem.W.Frag) (H : Hp) : Nat → V → V → Bool → Prop
  | same {n : Nat} {a : Addr} : DEq K H n (.ref a) (.ref a) true
  | flat {n : Nat} {x y : V} (hx : flatV x = true) (hy : flatV y = true) : DEq K H n x y (eqV x y)
  | ls {n : Nat} {a b : Addr} {xs ys : List V} {e : Nat → Bool} (ha : SqL K H a xs) (hb : SqL K H b ys) (ne : a ≠ b) (hl : xs.length = ys.length)
      (he : ∀ j (h1 : j < xs.length) (h2 : j < ys.length), DEq K H n xs[j] ys[j] (e j)) : DEq K H (n + 1) (.ref a) (.ref b) ((List.range xs.length).all e)
  | lsN {n : Nat} {a b : Addr} {xs ys : List V} (ha : SqL K H a xs) (hb : SqL K H b ys) (ne : a ≠ b) (hl : xs.length ≠ ys.length) : DEq K H (n + 1) (.ref a) (.ref b) false
  | ts {n : Nat} {a b : Addr} {xs ys : List V} {e : Nat → Bool} (ha : SqT K H a xs) (hb : SqT K H b ys) (ne : a ≠ b)
      (he : ∀ j (h1 : j < xs.length) (h2 : j < ys.length), DEq K H n xs[j] ys[j] (e j)) : DEq K H (n + 1) (.ref a) (.ref b) ((List.range (min xs.length ys.length)).all e && xs.length == ys.length)
  | dd {n : Nat} {a b : Addr} {ka kb : List (Key × V)} (ha : Rd H a (.dK ka)) (hb : Rd H b (.dK kb)) (ne : a ≠ b) (fa : ∀ p ∈ ka, flatV p.2 = true) (fb : ∀ p ∈ kb, flatV p.2 = true) :
      DEq K H (n + 1) (.ref a) (.ref b) (ka.length == kb.length && ka.all fun p => (valV kb p.1).elim false (eqV p.2))
theorem vals_at {xs : List V} {us : List Value} (r : Vals xs us) {j : Nat} (h1 : j < xs.length) (h2 : j < us.length) : RelV xs[j] us[j] := by
  obtain ⟨u, e, ru⟩ := r.get (List.getElem?_eq_getElem h1)
  rw [List.getElem?_eq_getElem h2] at e
  cases e
  exact ru
theorem valV_mem {kvs : List (Key × V)} {k : Key} {v : V} (h : valV kvs k = some v) : (k, v) ∈ kvs := by
  unfold valV at h
  obtain ⟨p, hp, rfl⟩ := Option.map_eq_some_iff.mp h
  have e := List.find?_some hp
  have e' : p.1 = k := of_decide_eq_true e
  subst e'
  exact List.mem_of_find?_eq_some hp
theorem hits_of {A : Around} {s : Shared} {kb : List (Key × V)} {vb : List (Key × Value)} (rb : KV kb vb) (fb : ∀ p ∈ kb, flatV p.2 = true) {ka : List (Key × V)} {va : List (Key × Value)} (ra : KV ka va) (fa : ∀ p ∈ ka, flatV p.2 = true) :
    PySem.W.KeqHits A s vb va (ka.all fun p => (valV kb p.1).elim false (eqV p.2)) := by
  induction ra with
  | nil => exact .nil
  | @cons p q l1 l2 h t ih =>
    obtain ⟨k, v⟩ := p
    obtain ⟨k', u⟩ := q
    obtain ⟨e, ru⟩ := h
    dsimp only at e ru
    subst e
    have z := rb.val k
    rw [List.all_cons]
    have ih' := ih fun p hp => fa p (List.mem_cons_of_mem _ hp)
    cases hv : valV kb k with
    | none =>
      rw [hv] at z
      have hn : valueAt vb k = none := RelO.none_of z
      exact .miss hn
    | some y =>
      rw [hv] at z
      cases hu : valueAt vb k with
      | none => rw [hu] at z; exact z.elim
      | some yu =>
        rw [hu] at z
        exact .hit hu (eqAt_V ru z (fa _ (List.mem_cons_self ..)) (fb _ (valV_mem hv))) ih'
section
variable {X : Cx} {pins : List (Addr × Obj)} {σ : L2.St} {H : Hp} {s : Shared}
theorem PlainL.isList {h : Heap} {a : Addr} {its : Array Value} (p : PlainL h a its) : h.IsList a its := by
  obtain ⟨o, n, e, c, d, t⟩ := p
  exact ⟨o, e, c, n, t⟩
theorem deq_ok (I : Inv X pins σ H s) {n : Nat} {x y : V} {k : Bool} (q : DEq X.K H n x y k) : ∀ (A : Around) (u v : Value), RelV x u → RelV y v → A.units + n < cLine →
    EqW X.prog X.w A s u v k ∧ ∀ a b, x = .ref a → y = .ref b → a ≠ b → ∀ ne : Bool, RcW X.prog X.w A s ne (.ref a) (.ref b) (ne != k) := by
  have both : ∀ {A : Around} {a b : Addr} {k : Bool}, a ≠ b → (∀ ne : Bool, RcW X.prog X.w A s ne (.ref a) (.ref b) (ne != k)) →
      EqW X.prog X.w A s (.ref a) (.ref b) k ∧ ∀ a' b', V.ref a = .ref a' → V.ref b = .ref b' → a' ≠ b' → ∀ ne : Bool, RcW X.prog X.w A s ne (.ref a') (.ref b') (ne != k) := fun {A a b k} ne R =>
    ⟨EqW.refs ne (by have z := R false; simpa using z), fun a' b' e1 e2 _ => by cases e1; cases e2; exact R⟩
  induction q with
  | @same n a =>
    intro A u v ru rv hu
    obtain rfl : u = Value.ref a := ru
    obtain rfl : v = Value.ref a := rv
    exact ⟨EqW.of (SeqAt.EqAt.same _), fun a' b' e1 e2 ne => by cases e1; cases e2; exact absurd rfl ne⟩
  | flat hx hy =>
    intro A u v ru rv hu
    exact ⟨EqW.of (eqAt_V ru rv hx hy), fun a b e _ _ => by subst e; cases hx⟩
  | @ls n a b xs ys e ha hb ne hl he ih =>
    intro A u v ru rv hu
    obtain rfl : u = Value.ref a := ru
    obtain rfl : v = Value.ref b := rv
    obtain ⟨its, r1, p1, _⟩ := I.list ha
    obtain ⟨its2, r2, p2, _⟩ := I.list hb
    have l1 := r1.length
    have l2 := r2.length
    refine both ne fun nb => ?_
    have z := RcW.lists (P := X.prog) (w := X.w) (A := A) (s := s) nb (f := e) (PlainL.isList p1) (PlainL.isList p2) (by rw [List.size_toArray, List.size_toArray]; omega) (by omega) fun j h1 h2 => by
      have k1 : j < its.length := by simpa using h1
      have k2 : j < its2.length := by simpa using h2
      have w := (ih j (by omega) (by omega) A.in1 its[j] its2[j] (vals_at r1 (by omega) k1) (vals_at r2 (by omega) k2) (by show A.units + 1 + n < cLine; omega)).1
      simpa using w
    rw [List.size_toArray, ← l1] at z
    exact z
  | @lsN n a b xs ys ha hb ne hl =>
    intro A u v ru rv hu
    obtain rfl : u = Value.ref a := ru
    obtain rfl : v = Value.ref b := rv
    obtain ⟨its, r1, p1, _⟩ := I.list ha
    obtain ⟨its2, r2, p2, _⟩ := I.list hb
    have l1 := r1.length
    have l2 := r2.length
    exact both ne fun nb => RcW.listsN nb (PlainL.isList p1) (PlainL.isList p2) (by rw [List.size_toArray, List.size_toArray]; simp; omega) (by omega)
  | @ts n a b xs ys e ha hb ne he ih =>
    intro A u v ru rv hu
    obtain rfl : u = Value.ref a := ru
    obtain rfl : v = Value.ref b := rv
    obtain ⟨its, r1, p1, _⟩ := I.tuple ha
    obtain ⟨its2, r2, p2, _⟩ := I.tuple hb
    have l1 := r1.length
    have l2 := r2.length
    refine both ne fun nb => ?_
    have z := RcW.tuples (P := X.prog) (w := X.w) (A := A) (s := s) nb (f := e) p1 p2 (by omega) fun j h1 h2 => by
      have k1 : j < its.length := by simpa using h1
      have k2 : j < its2.length := by simpa using h2
      have w := (ih j (by omega) (by omega) A.in1 its[j] its2[j] (vals_at r1 (by omega) k1) (vals_at r2 (by omega) k2) (by show A.units + 1 + n < cLine; omega)).1
      simpa using w
    rw [List.size_toArray, List.size_toArray, ← l1, ← l2] at z
    exact z
  | @dd n a b ka kb ha hb ne fa fb =>
    intro A u v ru rv hu
    obtain rfl : u = Value.ref a := ru
    obtain rfl : v = Value.ref b := rv
    obtain ⟨_, ga, va, ra, da⟩ := dk_rd I.hok ha
    obtain ⟨_, gb, vb, rb, db⟩ := dk_rd I.hok hb
    have l1 := ra.length
    have l2 := rb.length
    refine both ne fun nb E Q q => ?_
    have hits := hits_of (A := A.in1) (s := s) rb fb ra fa
    rw [l1, l2] at q
    cases nb with
    | false => exact PySem.W.keq_eq ga gb da db (by omega) (fun _ => hits) (by simpa using q)
    | true => exact PySem.W.keq_ne ga gb da db (by omega) (fun _ => hits) (by simpa using q)
def rEqD (K : PySem.W.Frag) : R2 := fun x y H Q => ∃ a b n k, x = .ref a ∧ y = .ref b ∧ a ≠ b ∧ n ≤ 8 ∧ DEq K H n (.ref a) (.ref b) k ∧ Q (.bl k) H
theorem op_eqD (hu : X.A.units + 8 < cLine) : OpR X (compareOp .Eq) (rEqD X.K) := by
  intro pins s σ H x y v u Q I rx ry h
  obtain ⟨a, b, n, k, rfl, rfl, ne, hn, q, z⟩ := h
  cases rx
  cases ry
  have r := (deq_ok I q X.A _ _ rfl rfl (by omega)).2 a b rfl rfl ne false X.xe (EP X pins σ Q)
  rw [Bool.false_bne] at r
  exact r ⟨.bl k, H, I, rfl, z⟩
end
end My
set_option Elab.async false
set_option linter.all false
set_option maxRecDepth 100000
set_option maxHeartbeats 1000000
namespace My
open PySem PySem.Spec PyProof.Rows L2
section
variable {X : Cx}
def rListOf (K : PySem.W.Frag) : List V → Hp → VK → Prop := fun xs H Q => ∃ p ys, xs = [.ref p] ∧ (SqL K H p ys ∨ SqT K H p ys) ∧ ∀ l, H l = none → Q (.ref l) (upd H l (.lst ys))
theorem call_listR : CallR X (.type "list") (rListOf X.K) := call_list_of
end
section
variable {K : PySem.W.Frag} {σ : L2.St} {H : Hp} {Q : VK} {p l b : Addr} {ys xs zs : List V} {to : TE} {t : TA} {T : String} {r : V → List V → Hp → VK → Prop} {x v : V}
theorem r_listL (h : SqL K H p ys) (q : ∀ l, H l = none → Q (.ref l) (upd H l (.lst ys))) : rListOf K [.ref p] H Q := ⟨p, ys, rfl, .inl h, q⟩
theorem r_bm (h : to σ H fun x H1 => tyV K T x H1 ∧ t σ H1 fun xs H2 => r x xs H2 Q) : tBM K T r to t σ H Q := h
theorem r_bm0 (h : to σ H fun x H1 => tyV K T x H1 ∧ r x [] H1 Q) : tBM0 K T r to σ H Q := h
theorem r_tyL {P : Prop} (h : SqL K H p ys) (q : P) : tyV K "list" (.ref p) H ∧ P := ⟨.inl ⟨rfl, _, h⟩, q⟩
theorem r_append (h : H l = some (.lst xs)) (hz : xs.length < sizeLine) (q : Q .non (upd H l (.lst (xs ++ [v])))) : rAppend (.ref l) [v] H Q := ⟨l, xs, v, rfl, rfl, h, hz, q⟩
theorem r_clear (h : H l = some (.lst xs)) (q : Q .non (upd H l (.lst []))) : rClear (.ref l) [] H Q := ⟨l, xs, rfl, rfl, h, q⟩
theorem r_cat (h : H l = some (.lst xs)) (h' : H b = some (.lst zs)) (hz : xs.length + zs.length ≤ sizeLine) (q : ∀ p, H p = none → Q (.ref p) (upd H p (.lst (xs ++ zs)))) : rCat (.ref l) (.ref b) H Q := ⟨l, b, xs, zs, rfl, rfl, h, h', hz, q⟩
end
end My
set_option Elab.async false
set_option linter.all false
set_option maxRecDepth 100000
set_option maxHeartbeats 1000000
namespace My
open PySem PySem.Spec PyProof.Rows L2
end My
set_option Elab.async false
set_option linter.all false
set_option maxRecDepth 100000
set_option maxHeartbeats 1000000
namespace My
open PySem PySem.Spec PyProof.Rows L2
structure RoomH (k : Nat) (A : Around) : Prop where
  dp : A.depth + 3 * k + 5 < recursionLimit
  un : A.units + 16 * k + 200 < cLine
structure FnOkH (P : Program) (w : World) (K : PySem.W.Frag) (mg : Str → Option Value) (base : Heap) (k : Nat) (f : Addr) (fd : FuncData) (ps : List Str) (sp : Sp) : Prop where
  len : ∀ vs H Q E, sp vs H Q E → vs.length = ps.length
  run : ∀ (a : Addr) (A : Around) (outer : List Env) (s : Shared) (H : Hp) (args : Args) (us : List Value) (vs : List V) (Q : VK) (E : XK), RoomH k A → A.handled = some (.ref a) → Env0 P w K mg base A outer s H → BindsTo s fd args (ps.zip us) → Vals vs us → sp vs H Q E →
    codeAny (model P w) A (.call (.ref f) args) (CR CX0 outer P w H s Q E) s
section
variable {X : Cx} {k : Nat} {f a : Addr} {fd : FuncData} {ps : List Str} {sp : Sp} {x : Str} {p pos : Pos} {e : Expr} {es : List Expr} {t : TA}
end
end My
set_option Elab.async false
set_option linter.all false
set_option maxRecDepth 100000
set_option maxHeartbeats 1000000
namespace My
open PySem PySem.Spec PyProof.Rows L2
section
variable {X : Cx}
def rNeD (K : PySem.W.Frag) : R2 := fun x y H Q => ∃ a b n k, x = .ref a ∧ y = .ref b ∧ a ≠ b ∧ n ≤ 8 ∧ DEq K H n (.ref a) (.ref b) k ∧ Q (.bl (!k)) H
theorem op_neD (hu : X.A.units + 8 < cLine) : OpR X (compareOp .NotEq) (rNeD X.K) := by
  intro pins s σ H x y v u Q I rx ry h
  obtain ⟨a, b, n, k, rfl, rfl, ne, hn, q, z⟩ := h
  cases rx
  cases ry
  have r := (deq_ok I q X.A _ _ rfl rfl (by omega)).2 a b rfl rfl ne true X.xe (EP X pins σ Q)
  rw [Bool.true_bne] at r
  exact r ⟨.bl (!k), H, I, rfl, z⟩
end
section
variable {K : PySem.W.Frag} {H : Hp} {Q : VK} {a b : Addr} {n : Nat} {k : Bool}
theorem r_eqD (ne : a ≠ b) (hn : n ≤ 8) (q : DEq K H n (.ref a) (.ref b) k) (h : Q (.bl k) H) : rEqD K (.ref a) (.ref b) H Q := ⟨a, b, n, k, rfl, rfl, ne, hn, q, h⟩
theorem r_neD (ne : a ≠ b) (hn : n ≤ 8) (q : DEq K H n (.ref a) (.ref b) k) (h : Q (.bl (!k)) H) : rNeD K (.ref a) (.ref b) H Q := ⟨a, b, n, k, rfl, rfl, ne, hn, q, h⟩
end
end My
set_option Elab.async false
set_option linter.all false
set_option maxRecDepth 100000
set_option maxHeartbeats 1000000
namespace My
open PySem PySem.Spec PyProof.Rows L2
section
variable {K : PySem.W.Frag} {σ : L2.St} {H : Hp} {Q : VK} {D : Ends} {ta tv : TE} {t : TA} {f : Str} {C : Addr}
end
end My
set_option Elab.async false
set_option linter.all false
set_option maxRecDepth 100000
set_option maxHeartbeats 1000000
namespace My
open PySem PySem.Spec PyProof.Rows L2
theorem hu8 {k : Nat} {A : Around} (r : Room k A) : A.units + 8 < cLine := by have := r.un; omega
section
variable {K : PySem.W.Frag} {cs : List Addr} {i j : Nat} {c e : Addr}
end
def DEqs (K : PySem.W.Frag) (H : Hp) (n : Nat) : List V → List V → Prop
  | [], [] => True
  | x :: xs, y :: ys => DEq K H n x y true ∧ DEqs K H n xs ys
  | _, _ => False
theorem DEqs.len {K : PySem.W.Frag} {H : Hp} {n : Nat} : ∀ {xs ys : List V}, DEqs K H n xs ys → xs.length = ys.length
  | [], [], _ => rfl
  | _ :: _, _ :: _, h => congrArg (· + 1) (DEqs.len h.2)
  | [], _ :: _, h => h.elim
  | _ :: _, [], h => h.elim
theorem DEqs.get {K : PySem.W.Frag} {H : Hp} {n : Nat} : ∀ {xs ys : List V}, DEqs K H n xs ys → ∀ j (h1 : j < xs.length) (h2 : j < ys.length), DEq K H n xs[j] ys[j] true
  | [], [], _, j, h1, _ => absurd h1 (Nat.not_lt_zero j)
  | _ :: _, _ :: _, h, 0, _, _ => h.1
  | _ :: _, _ :: _, h, j + 1, h1, h2 => DEqs.get h.2 j (Nat.lt_of_succ_lt_succ h1) (Nat.lt_of_succ_lt_succ h2)
  | [], _ :: _, h, _, _, _ => h.elim
  | _ :: _, [], h, _, _, _ => h.elim
theorem deq_list {K : PySem.W.Frag} {H : Hp} {n : Nat} {a b : Addr} {xs ys : List V} (ha : SqL K H a xs) (hb : SqL K H b ys) (ne : a ≠ b) (h : DEqs K H n xs ys) : DEq K H (n + 1) (.ref a) (.ref b) true := by
  have z := DEq.ls (n := n) (e := fun _ => true) ha hb ne h.len h.get
  have e : (List.range xs.length).all (fun _ => true) = true := by simp
  rw [e] at z
  exact z
theorem deq_str {K : PySem.W.Frag} {H : Hp} {n : Nat} (z : Str) : DEq K H n (.str z) (.str z) true := by
  have w := DEq.flat (K := K) (H := H) (n := n) (x := .str z) (y := .str z) rfl rfl
  have e : eqV (.str z) (.str z) = true := by simp [eqV]
  rw [e] at w
  exact w
def SameBut (L : Addr) (H H' : Hp) : Prop := ∀ b o, b ≠ L → H b = some o → H' b = some o
theorem SameBut.at {H H' : Hp} {L : Addr} {o : HO} (e : SameBut L H H') : SameBut L H (upd H' L o) := fun b u hb q => by
  rw [upd_ne hb]; exact e b u hb q
theorem SameBut.of {H H' : Hp} {L : Addr} (s : Same H H') : SameBut L H H' := fun b u _ q => s b u q
section
variable {K : PySem.W.Frag} {H : Hp} {Q : VK} {a C c : Addr} {d : Option Addr} {b : Bool}
end
end My
set_option Elab.async false
set_option linter.all false
set_option maxRecDepth 100000
set_option maxHeartbeats 1000000
namespace My
open PySem PySem.Spec PyProof.Rows L2
def NoFrz (H : Hp) (a : Addr) : Prop := ∀ o u, H a ≠ some (.frz o u)
section
variable {X : Cx} {pins : List (Addr × Obj)} {σ : L2.St} {H H' : Hp} {s : Shared} {a : Addr} {kvs : List (Key × V)} {o : Obj}
theorem Inv.freeze (I : Inv X pins σ H s) (e : H a = some (.dK kvs)) (ho : s.heap.get? a = some o) : Inv X pins σ (upd H a (.frz o (.dK kvs))) s := by
  have ok := I.hok a _ e
  have z := I.write (x := a) (e := a) (o := .frz o (.dK kvs)) (h' := s.heap) (t' := s.toks) (by rw [e]; exact True.intro) (.inl rfl) (fun _ _ _ q => q) ⟨o, ho⟩ ⟨ho, ok⟩
  exact z
theorem Inv.thaw (I : Inv X pins σ H s) (e : H a = some (.frz o (.dK kvs))) (n0 : NoFrz X.H₀ a) : Inv X pins σ (upd H a (.dK kvs)) s := by
  have ne : ∀ b, H b = none → b ≠ a := fun b q z => by subst z; rw [e] at q; cases q
  have nk : ∀ b u, H b = some u → (∀ o' u', u ≠ .frz o' u') → b ≠ a := fun b u q z w => by subst w; rw [e] at q; cases q; exact z _ _ rfl
  refine ⟨I.ok, I.os, I.bare, ⟨I.base.keep, I.base.slot, fun b ob q n hx => ?_, I.base.there, fun b xs q => ?_, fun b ob u q => ?_, fun b ps q => ?_⟩, I.loc, I.cell, ?_, fun x c q => ?_, fun p hp => ?_, fun b u q => ?_, I.len⟩
  · have z := I.base.free b ob q n hx
    rw [upd_ne (ne b z)]; exact z
  · have z := I.base.tups b xs q
    rw [upd_ne (nk b _ z (by intro _ _ h; cases h))]; exact z
  · have z := I.base.frzs b ob u q
    rw [upd_ne (fun w => by subst w; exact n0 _ _ q)]; exact z
  · obtain ⟨m, z⟩ := I.base.tbls b ps q
    exact ⟨m, by rw [upd_ne (nk b _ z (by intro _ _ h; cases h))]; exact z⟩
  · have z := I.free
    rw [upd_ne (ne _ z)]; exact z
  · have z := I.freeC x c q
    rw [upd_ne (ne _ z)]; exact z
  · obtain ⟨p1, p2, p3⟩ := I.pin p hp
    exact ⟨p1, by rw [upd_ne (ne _ p2)]; exact p2, p3⟩
  · by_cases hb : b = a
    · subst hb
      rw [upd_same] at q
      cases q
      exact (I.hok b _ e).2
    · rw [upd_ne hb] at q
      exact (I.hok b u q).stay (fun _ _ _ r => r) (fun c r => by rw [upd_ne (nk c _ r (by intro _ _ h; cases h))]; exact r) fun c xs r => by rw [upd_ne (nk c _ r (by intro _ _ h; cases h))]; exact r
def Thaw (H0 H H' : Hp) : Prop := H' = H ∨ ∃ a o kvs, H a = some (.frz o (.dK kvs)) ∧ NoFrz H0 a ∧ H' = upd H a (.dK kvs)
theorem Inv.thawed (I : Inv X pins σ H s) (t : Thaw X.H₀ H H') : Inv X pins σ H' s := by
  rcases t with rfl | ⟨a, o, kvs, e, n, rfl⟩
  · exact I
  · exact Inv.thaw I e n
end
section
variable {X : Cx} {st : Stmt} {e : Expr} {t : TS} {te : TE}
def tThB (H0 : Hp) (t : TS) : TS := fun D σ H => ∃ H', Thaw H0 H H' ∧ t D σ H'
theorem ps_thB (h : PS X st t) : PS X st (tThB X.H₀ t) := fun pins s σ H D I ⟨H', th, q⟩ => h pins s σ H' D (Inv.thawed I th) q
def thE (H0 : Hp) (D : Ends) : Ends := { nx := fun σ H => ∃ H', Thaw H0 H H' ∧ D.nx σ H', rt := fun v H => ∃ H', Thaw H0 H H' ∧ D.rt v H', bk := fun σ H => ∃ H', Thaw H0 H H' ∧ D.bk σ H', ct := fun σ H => ∃ H', Thaw H0 H H' ∧ D.ct σ H' }
def tThA (H0 : Hp) (t : TS) : TS := fun D σ H => t (thE H0 D) σ H
theorem ps_thA (h : PS X st t) : PS X st (tThA X.H₀ t) := fun pins s σ H D I q => thn (h pins s σ H _ I q) fun f s' hs => by
  cases f with
  | next => obtain ⟨σ', H1, J, H2, th, q⟩ := hs; exact ⟨σ', H2, Inv.thawed J th, q⟩
  | brk => obtain ⟨σ', H1, J, H2, th, q⟩ := hs; exact ⟨σ', H2, Inv.thawed J th, q⟩
  | cont => obtain ⟨σ', H1, J, H2, th, q⟩ := hs; exact ⟨σ', H2, Inv.thawed J th, q⟩
  | ret u => obtain ⟨v, σ', H1, J, r, H2, th, q⟩ := hs; exact ⟨v, σ', H2, Inv.thawed J th, r, q⟩
end
theorem kvget {κ : Type} {kvs : List (κ × V)} {vs : List (κ × Value)} (r : KV kvs vs) : ∀ {i : Nat} {k : κ} {v : V}, kvs[i]? = some (k, v) → ∃ u, vs[i]? = some (k, u) ∧ RelV v u := by
  induction r with
  | nil => intro i k v e; simp at e
  | cons h t ih =>
    intro i k v e
    cases i with
    | zero =>
      simp only [List.getElem?_cons_zero, Option.some.injEq] at e ⊢
      subst e
      obtain ⟨h1, h2⟩ := h
      exact ⟨_, Prod.ext h1.symm rfl, h2⟩
    | succ i =>
      simp only [List.getElem?_cons_succ] at e ⊢
      exact ih e
theorem kV_rel {k : Key} {u : Value} (h : keyIs k u = true) : RelV (kV k) u := by
  rcases keyIs_shape h with ⟨i, t, rfl, rfl⟩ | ⟨x, t, rfl, rfl⟩
  · exact ⟨t, rfl⟩
  · exact ⟨t, rfl⟩
def ItD (d : Addr) (o : Obj) (kvs : List (Key × V)) : It :=
  ⟨fun i H => H d = some (.frz o (.dK kvs)) ∧ i < kvs.length, fun i H x H' => H' = H ∧ ∃ k v, kvs[i]? = some (k, v) ∧ x = kV k, fun i H => H d = some (.frz o (.dK kvs)) ∧ kvs.length ≤ i⟩
theorem frz_at {P : Program} {w : World} {H : Hp} {h : Heap} {d : Addr} {o : Obj} {kvs : List (Key × V)} {es : Array DictEntry} {ep : Nat} (ok : HOk P w H h) (e : H d = some (.frz o (.dK kvs))) (hd : o.data = .dict es ep) :
    ∃ vs, KV kvs vs ∧ h.DictAt (mixKind P w) d vs ep := by
  obtain ⟨ho, _, _, vs, rel, o', es', ep', ho', ex, hd', ks, ps, nd⟩ := ok d _ e
  rw [ho] at ho'
  cases ho'
  rw [hd] at hd'
  cases hd'
  exact ⟨vs, rel, o, es, ho, ex, hd, ks, ps, nd⟩
theorem turn_dict {P : Program} {w : World} {K : PySem.W.Frag} {tg : Expr} {o : Obj} {kvs : List (Key × V)} {es : Array DictEntry} {ep : Nat} (d it : Addr) (hd : o.data = .dict es ep) : Turn P w K tg (ItD d o kvs) [it] it (fun i h => h.IsKeyIter it d i kvs.length ep) where
  mem := by simp
  obj := fun i h st b hb => by
    have e : b = it := by simpa using hb
    subst e
    obtain ⟨ob, e, c, dd⟩ := st
    exact ⟨ob, e, fun v z => by rw [dd] at z; cases z⟩
  keep := fun i h h' st k => st.at fun ob e => k it (by simp) ob e
  item := by
    intro X hP hw hK hc i pins s σ H E I hf st hg
    subst hP hw hK
    obtain ⟨hfz, hi⟩ := hg
    obtain ⟨vs, rel, dat⟩ := frz_at I.hok hfz hd
    obtain ⟨f0, f1, f2, f3, f4, f5⟩ := hf it (by simp)
    have hl := rel.length
    obtain ⟨u, hu, ru⟩ := kvget rel (i := i) (k := kvs[i].1) (v := kvs[i].2) (by rw [List.getElem?_eq_getElem hi])
    rw [hl] at st
    refine wpAny_pyNext_dict_item st dat hu fun key h' hkey st' hs' => ?_
    have I1 : Inv X pins σ H { s with heap := h' } := I.turned (t' := s.toks) (fun b ob hb e => hs'.extBut b ob hb e) f0 f1 f3 f4 f5
    obtain ⟨ob, e, c, dd⟩ := id st'
    exact ⟨key, rfl, go_of (s := { s with heap := h' }) e c dd (by decide) ⟨kV kvs[i].1, H, I1, kV_rel hkey, ⟨rfl, kvs[i].1, kvs[i].2, List.getElem?_eq_getElem hi, rfl⟩, by rw [hl]; exact st', fun b hb => (hf b hb).1⟩⟩
  done := by
    intro X hP hw hK hc i pins s σ H E I hf st hg
    subst hP hw hK
    obtain ⟨hfz, hi⟩ := hg
    obtain ⟨vs, rel, dat⟩ := frz_at I.hok hfz hd
    obtain ⟨f0, f1, f2, f3, f4, f5⟩ := hf it (by simp)
    have hl := rel.length
    rw [hl] at st hi
    exact wpAny_pyNext_dict_end (I.ok.hd hc) st dat (by simpa using hi) fun h' eb => ⟨rfl, I.turned (t' := s.toks) (fun b ob hb e => eb b ob hb e) f0 f1 f3 f4 f5⟩
  self := fun _ _ _ _ _ st h => wpAny_pyIter_keyiter st h
def rItD (x : V) (H : Hp) (R : It → Hp → Prop) : Prop := ∃ a kvs, x = .ref a ∧ ((H a = some (.dK kvs) ∧ ∀ o, R (ItD a o kvs) (upd H a (.frz o (.dK kvs)))) ∨ ∃ o, H a = some (.frz o (.dK kvs)) ∧ R (ItD a o kvs) H)
def iDict (td : TE) : TI := fun σ H R => td σ H fun x H1 => rItD x H1 R
theorem dat_of {P : Program} {w : World} {H : Hp} {h : Heap} {d : Addr} {kvs : List (Key × V)} (ok : ObjOk P w H h d (.dK kvs)) : ∃ o es ep vs, h.get? d = some o ∧ o.data = .dict es ep ∧ KV kvs vs ∧ h.DictAt (mixKind P w) d vs ep ∧ (d == sysModules) = false := by
  obtain ⟨_, hs, vs, rel, o, es, ep, ho, ex, hd, ks, ps, nd⟩ := ok
  exact ⟨o, es, ep, vs, ho, hd, rel, ⟨o, es, ho, ex, hd, ks, ps, nd⟩, hs⟩
theorem pi_dict {X : Cx} {tg l : Expr} {tl : TE} (hl : PE X l tl) : PI X tg l (iDict tl) := by
  intro pins s σ H R I h
  refine thn (hl pins s σ H _ I h) fun v s1 ⟨x, H1, I1, r1, q1⟩ => ?_
  obtain ⟨a, kvs, e, q⟩ := q1
  subst e
  cases r1
  have ok : ObjOk X.prog X.w H1 s1.heap a (.dK kvs) := by
    rcases q with ⟨e, _⟩ | ⟨o, e, _⟩
    · exact I1.hok a _ e
    · exact (I1.hok a _ e).2
  obtain ⟨o, es, ep, vs, ho, hd, rel, dat, hs⟩ := dat_of ok
  have hlen := rel.length
  refine wpAny_pyIter_dict hs dat ?_
  have it0 : (s1.heap.push { cls := .type "dict_keyiterator", data := .fields #[.ref a, .int 0 0, .int vs.length 0, .int ep 0] }).IsKeyIter s1.heap.objs.size a 0 kvs.length ep := by
    rw [hlen]; exact ⟨_, Heap.get?_push_size _ rfl, rfl, rfl⟩
  rcases q with ⟨e, q⟩ | ⟨o', e, q⟩
  · have I2 := Inv.freeze I1 e ho
    refine ⟨s1.heap.objs.size, [s1.heap.objs.size], _, _, _, rfl, I2.kept (t' := s1.toks) fun b ob e => Heap.get?_push_of_some _ e, turn_dict (kvs := kvs) a _ hd, it0, fun b hb => ?_, q o⟩
    have e : b = s1.heap.objs.size := by simpa using hb
    subst e
    exact I2.fpOk (Nat.le_refl _) (I2.hok.fresh (Nat.le_refl _))
  · have eo : o' = o := by
      have z := (I1.hok a _ e).1
      rw [ho] at z
      cases z
      rfl
    subst eo
    refine ⟨s1.heap.objs.size, [s1.heap.objs.size], _, _, _, rfl, I1.kept (t' := s1.toks) fun b ob e => Heap.get?_push_of_some _ e, turn_dict (kvs := kvs) a _ hd, it0, fun b hb => ?_, q⟩
    have e : b = s1.heap.objs.size := by simpa using hb
    subst e
    exact I1.fpOk (Nat.le_refl _) (I1.hok.fresh (Nat.le_refl _))
section
variable {σ : L2.St} {H H' : Hp} {D : Ends} {t : TS} {te tl : TE} {Q : VK} {g : TG} {tb : TS} {a : Addr} {o : Obj} {kvs : List (Key × V)} {H0 : Hp} {v : V}
theorem r_thB (th : Thaw H0 H H') (h : t D σ H') : tThB H0 t D σ H := ⟨H', th, h⟩
theorem r_thA (h : t (thE H0 D) σ H) : tThA H0 t D σ H := h
theorem r_thNx (th : Thaw H0 H H') (h : D.nx σ H') : (thE H0 D).nx σ H := ⟨H', th, h⟩
theorem thaw0 : Thaw H0 H H := .inl rfl
theorem thaw1 (e : H a = some (.frz o (.dK kvs))) (n : NoFrz H0 a) : Thaw H0 H (upd H a (.dK kvs)) := .inr ⟨a, o, kvs, e, n, rfl⟩
theorem r_iD {R : It → Hp → Prop} (h : tl σ H fun x H1 => rItD x H1 R) : iDict tl σ H R := h
theorem r_itD {R : It → Hp → Prop} (e : H a = some (.dK kvs)) (h : ∀ o, R (ItD a o kvs) (upd H a (.frz o (.dK kvs)))) : rItD (.ref a) H R := ⟨a, kvs, rfl, .inl ⟨e, h⟩⟩
theorem f_dict (Pv : Nat → L2.St → Hp → Prop) (h0 : Pv 0 σ H) (hl : ∀ i σ H, i ≤ kvs.length → Pv i σ H → H a = some (.frz o (.dK kvs)))
    (hs : ∀ i k v σ H, kvs[i]? = some (k, v) → Pv i σ H → g (kV k) σ H fun σ2 H2 => tb { nx := Pv (i + 1), rt := D.rt, bk := D.nx, ct := Pv (i + 1) } σ2 H2) (hd : ∀ σ H, Pv kvs.length σ H → D.nx σ H) : FOR (ItD a o kvs) g tb D σ H := by
  refine ⟨fun i m σ H => m = kvs.length - i ∧ i ≤ kvs.length ∧ Pv i σ H, ⟨kvs.length, rfl, Nat.zero_le _, h0⟩, ?_⟩
  rintro i m σ H ⟨rfl, hi, p⟩
  have q := hl i σ H hi p
  by_cases hlt : i < kvs.length
  · refine .inr ⟨⟨q, hlt⟩, Pv (i + 1), fun σ' H' p' => ⟨kvs.length - (i + 1), by omega, rfl, hlt, p'⟩, fun x H' y => ?_⟩
    obtain ⟨e, k, v, hk, rfl⟩ := y
    subst e
    exact hs i k v σ _ hk p
  · have e : i = kvs.length := Nat.le_antisymm hi (Nat.le_of_not_lt hlt)
    subst e
    exact .inl ⟨⟨q, Nat.le_refl _⟩, hd σ H p⟩
end
end My
set_option Elab.async false
set_option linter.all false
set_option maxRecDepth 100000
set_option maxHeartbeats 1000000
namespace My
open PySem PySem.Spec PyProof.Rows L2
section
variable {X : Cx}
def rDClear : V → List V → Hp → VK → Prop := fun x xs H Q => ∃ p kvs, x = .ref p ∧ xs = [] ∧ H p = some (.dK kvs) ∧ Q .non (upd H p (.dK []))
theorem mt_dclear : MtR X "dict.clear" rDClear := by
  intro pins s σ H x xs v us Q I rx rv h
  obtain ⟨p, kvs, rfl, rfl, e, q⟩ := h
  cases rx
  have hus := rv.zero
  subst hus
  exact d_clear I e fun s' I' => ⟨.non, _, I', rfl, q⟩
end
section
variable {K : PySem.W.Frag} {H : Hp} {Q : VK} {p : Addr} {kvs : List (Key × V)} {ss : List Str}
end
end My
set_option Elab.async false
set_option linter.all false
set_option maxRecDepth 100000
set_option maxHeartbeats 1000000
namespace My
open PySem PySem.Spec PyProof.Rows L2
structure AD (kvs : List (Key × V)) (f : Str → Option Int) : Prop where
  nd : (kvs.map (·.1)).Nodup
  sh : ∀ p ∈ kvs, ∃ z i, p = (Sum.inr z, V.int i)
  get : ∀ z, valV kvs (Sum.inr z) = (f z).map V.int
def noF : Str → Option Int := fun _ => none
def putF' (f : Str → Option Int) (z : Str) (i : Int) : Str → Option Int := fun y => if y = z then some i else f y
theorem AD.nil : AD [] noF := ⟨List.nodup_nil, fun p hp => absurd hp (by simp), fun z => rfl⟩
theorem AD.cast {kvs : List (Key × V)} {f g : Str → Option Int} (h : AD kvs f) (e : ∀ z, f z = g z) : AD kvs g := ⟨h.nd, h.sh, fun z => by rw [h.get, e]⟩
theorem putK_keys {kvs : List (Key × V)} {k : Key} {v : V} (h : valV kvs k ≠ none) : (putK kvs k v).map (·.1) = kvs.map (·.1) := by
  unfold putK
  have e : (kvs.any fun kv => decide (kv.1 = k)) = true := by rw [valV_any]; cases q : valV kvs k with
    | none => exact absurd q h
    | some _ => rfl
  rw [if_pos e, List.map_map]
  apply List.map_congr_left
  intro p _
  show (if p.1 = k then (p.1, v) else p).1 = p.1
  split <;> rfl
theorem putK_mem {kvs : List (Key × V)} {k : Key} {v : V} {p : Key × V} (h : p ∈ putK kvs k v) : p = (k, v) ∨ p ∈ kvs := by
  unfold putK at h
  split at h
  · obtain ⟨q, hq, e⟩ := List.mem_map.mp h
    split at e
    · rename_i ek; subst ek; exact .inl e.symm
    · subst e; exact .inr hq
  · rcases List.mem_append.mp h with h | h
    · exact .inr h
    · exact .inl (by simpa using h)
theorem AD.put {kvs : List (Key × V)} {f : Str → Option Int} (h : AD kvs f) (z : Str) (i : Int) : AD (putK kvs (Sum.inr z) (.int i)) (putF' f z i) := by
  refine ⟨?_, fun p hp => ?_, fun y => ?_⟩
  · cases q : valV kvs (Sum.inr z) with
    | none => exact nd_putK _ h.nd q
    | some v => rw [putK_keys (by rw [q]; simp)]; exact h.nd
  · rcases putK_mem hp with rfl | hp
    · exact ⟨z, i, rfl⟩
    · exact h.sh p hp
  · rw [valV_put]
    unfold putF'
    by_cases e : y = z
    · subst e; rw [if_pos rfl, if_pos rfl]; rfl
    · rw [if_neg (fun q => e (Sum.inr.inj q)), if_neg e]; exact h.get y
theorem AD.flat {kvs : List (Key × V)} {f : Str → Option Int} (h : AD kvs f) : ∀ p ∈ kvs, flatV p.2 = true := fun p hp => by
  obtain ⟨z, i, rfl⟩ := h.sh p hp
  rfl
theorem valV_of_mem {kvs : List (Key × V)} (nd : (kvs.map (·.1)).Nodup) {k : Key} {v : V} (h : (k, v) ∈ kvs) : valV kvs k = some v := by
  induction kvs with
  | nil => simp at h
  | cons p r ih =>
    rw [List.map_cons, List.nodup_cons] at nd
    rcases List.mem_cons.mp h with rfl | h
    · exact valV_pos rfl
    · have ne : ¬ p.1 = k := fun e => nd.1 (e ▸ List.mem_map.mpr ⟨(k, v), h, rfl⟩)
      rw [valV_neg ne]
      exact ih nd.2 h
theorem AD.mem {kvs : List (Key × V)} {f : Str → Option Int} (h : AD kvs f) {k : Key} {v : V} (hm : (k, v) ∈ kvs) : ∃ z n, k = Sum.inr z ∧ v = .int n ∧ f z = some n := by
  obtain ⟨z, n, e⟩ := h.sh _ hm
  cases e
  have q := valV_of_mem h.nd hm
  rw [h.get] at q
  cases hf : f z with
  | none => rw [hf] at q; cases q
  | some m => rw [hf] at q; cases q; exact ⟨z, _, rfl, rfl, hf⟩
def keysS (kvs : List (Key × V)) : List Str := kvs.filterMap fun p => match p.1 with | .inr z => some z | .inl _ => none
theorem AD.keys {kvs : List (Key × V)} {f : Str → Option Int} (h : AD kvs f) : kvs.map (·.1) = (keysS kvs).map Sum.inr := by
  have sh := h.sh
  clear h
  induction kvs with
  | nil => rfl
  | cons p r ih =>
    obtain ⟨z, i, rfl⟩ := sh p (List.mem_cons_self ..)
    show Sum.inr z :: r.map (·.1) = (z :: keysS r).map Sum.inr
    rw [List.map_cons, ih fun q hq => sh q (List.mem_cons_of_mem _ hq)]
theorem AD.klen {kvs : List (Key × V)} {f : Str → Option Int} (h : AD kvs f) : (keysS kvs).length = kvs.length := by
  have := congrArg List.length h.keys
  simpa using this.symm
theorem AD.knd {kvs : List (Key × V)} {f : Str → Option Int} (h : AD kvs f) : (keysS kvs).Nodup := by
  have nd := h.nd
  rw [h.keys] at nd
  exact List.Pairwise.imp (fun ne e => ne (congrArg Sum.inr e)) (List.pairwise_map.mp nd)
theorem AD.kin {kvs : List (Key × V)} {f : Str → Option Int} (h : AD kvs f) (z : Str) : z ∈ keysS kvs ↔ f z ≠ none := by
  constructor
  · intro hz
    have hm : (Sum.inr z : Key) ∈ kvs.map (·.1) := by rw [h.keys]; exact List.mem_map.mpr ⟨z, hz, rfl⟩
    obtain ⟨⟨k, v⟩, hp, e⟩ := List.mem_map.mp hm
    dsimp only at e
    subst e
    obtain ⟨z', n, e1, _, hf⟩ := h.mem hp
    cases e1
    rw [hf]; simp
  · intro hf
    cases q : f z with
    | none => exact absurd q hf
    | some n =>
      have hv := h.get z
      rw [q] at hv
      have hm := valV_in hv
      rw [h.keys] at hm
      obtain ⟨y, hy, e⟩ := List.mem_map.mp hm
      cases e
      exact hy
theorem nd_le : ∀ {l m : List Str}, l.Nodup → (∀ a ∈ l, a ∈ m) → l.length ≤ m.length
  | [], _, _, _ => Nat.zero_le _
  | a :: l, m, nd, h => by
    have ha := h a (List.mem_cons_self ..)
    rw [List.nodup_cons] at nd
    have q := nd_le (l := l) (m := m.erase a) nd.2 fun b hb => (List.mem_erase_of_ne (fun (e : b = a) => nd.1 (by rw [← e]; exact hb))).mpr (h b (List.mem_cons_of_mem _ hb))
    rw [List.length_erase_of_mem ha] at q
    have : 0 < m.length := List.length_pos_of_mem ha
    simp only [List.length_cons]
    omega
theorem AD.eq {ka kb : List (Key × V)} {f : Str → Option Int} (h : AD ka f) (h' : AD kb f) : (ka.length == kb.length && ka.all fun p => (valV kb p.1).elim false (eqV p.2)) = true := by
  rw [Bool.and_eq_true, beq_iff_eq, List.all_eq_true]
  constructor
  · have l1 := nd_le h.knd fun z hz => (h'.kin z).mpr ((h.kin z).mp hz)
    have l2 := nd_le h'.knd fun z hz => (h.kin z).mpr ((h'.kin z).mp hz)
    rw [h.klen, h'.klen] at l1
    rw [h.klen, h'.klen] at l2
    omega
  · rintro ⟨k, v⟩ hp
    obtain ⟨z, n, rfl, rfl, hf⟩ := h.mem hp
    show ((valV kb (Sum.inr z)).elim false (eqV (.int n))) = true
    rw [h'.get, hf]
    show (n == n) = true
    simp
theorem AD.at {kvs : List (Key × V)} {f : Str → Option Int} (h : AD kvs f) {i : Nat} {k : Key} {v : V} (e : kvs[i]? = some (k, v)) : ∃ z n, k = Sum.inr z ∧ v = .int n ∧ f z = some n ∧ (keysS kvs)[i]? = some z := by
  obtain ⟨z, n, rfl, rfl, hf⟩ := h.mem (List.mem_of_getElem? e)
  refine ⟨z, n, rfl, rfl, hf, ?_⟩
  have q : (kvs.map (·.1))[i]? = some (Sum.inr z) := by rw [List.getElem?_map, e]; rfl
  rw [h.keys, List.getElem?_map] at q
  obtain ⟨y, hy, e⟩ := Option.map_eq_some_iff.mp q
  cases e
  exact hy
def gN (f : Str → Option Int) (z : Str) : Int := (f z).getD 0
def addF (f g : Str → Option Int) : Str → Option Int := fun y => match g y with | none => f y | some b => some (gN f y + b)
def posF (f : Str → Option Int) : Str → Option Int := fun y => match f y with | none => none | some a => if 0 < a then some a else none
theorem take_succ_mem {l : List Str} {i : Nat} {z : Str} (h : l[i]? = some z) (y : Str) : y ∈ l.take (i + 1) ↔ y ∈ l.take i ∨ y = z := by
  rw [List.take_add_one, h, List.mem_append]
  simp
end My
set_option Elab.async false
set_option linter.all false
set_option maxRecDepth 100000
set_option maxHeartbeats 1000000
namespace My
open PySem PySem.Spec PyProof.Rows L2
section
variable {prog : Program} {w : World} {A : Around} {s : Shared} {E Q : Value → Shared → Prop} {r : Addr} {n : Int} {t u v : Tok}
end
section
variable {X : Cx}
end
section
variable {σ : L2.St} {H : Hp} {D : Ends} {Q : VK} {g : TG} {tb : TS} {ta : TA} {j : Int} {p : Addr} {n : Nat}
end
end My
set_option Elab.async false
set_option linter.all false
set_option maxRecDepth 100000
set_option maxHeartbeats 1000000
namespace My
open PySem PySem.Spec PyProof.Rows L2
section
variable {K : PySem.W.Frag} {σ : L2.St} {H H' : Hp} {Q : VK} {D : Ends} {td ty tx tv : TE} {a b p : Addr} {kvs kb : List (Key × V)} {f : Str → Option Int} {z : Str} {n : Int} {v : V} {o : Obj}
def rDGk (x y : V) (H : Hp) (Q : VK) : Prop := ∃ a v, x = .ref a ∧ DGet H a y (some v) ∧ Q v H
theorem r_dg (h : td σ H fun x H1 => ty σ H1 fun y H2 => rDGk x y H2 Q) : tDGet td ty σ H Q := h
theorem r_dgk (d : Rd H a (.dK kvs)) (A : AD kvs f) (e : f z = some n) (h : Q (.int n) H) : rDGk (.ref a) (.str z) H Q :=
  ⟨a, .int n, rfl, .inl ⟨kvs, Sum.inr z, d, rfl, by rw [A.get, e]; rfl⟩, h⟩
def rDP (x y v : V) (H : Hp) (D : Ends) (σ : L2.St) : Prop := ∃ a H4, x = .ref a ∧ DPut H a y v H4 ∧ D.nx σ H4
theorem r_dp (h : tv σ H fun v H1 => td σ H1 fun x H2 => ty σ H2 fun y H3 => rDP x y v H3 D σ) : sDPut td ty tv D σ H := h
theorem r_dpk (e : H a = some (.dK kvs)) (hz : kvs.length < sizeLine) (h : D.nx σ (upd H a (.dK (putK kvs (Sum.inr z) v)))) : rDP (.ref a) (.str z) v H D σ := ⟨a, _, rfl, DPut.k (k := Sum.inr z) e hz, h⟩
theorem r_dnew (h : ∀ p, H p = none → Q (.ref p) (upd H p (.dK []))) : tDNewK σ H Q := h
theorem noFrz_dK (e : H a = some (.dK kvs)) : NoFrz H a := fun o u z => by rw [e] at z; cases z
theorem same_thaw (e : H a = some (.dK kvs)) (sb : SameBut a H H') : Same H (upd H' a (.dK kvs)) := fun b u q => by
  by_cases h : b = a
  · subst h; rw [upd_same]; rw [e] at q; exact q
  · rw [upd_ne h]; exact sb b u h q
theorem sb_frz (e : H a = some (.dK kvs)) : SameBut a H (upd H a (.frz o (.dK kvs))) := fun b u h q => by rw [upd_ne h]; exact q
theorem sb_put {l : Addr} {u : HO} (sb : SameBut a H H') (n : H l = none) : SameBut a H (upd H' l u) := fun b w h q => by
  rw [upd_ne (ne_of_none q n)]; exact sb b w h q
end
theorem step_put {l : List Str} {i : Nat} {z : Str} (h : l[i]? = some z) (F G : Str → Option Int) {v : Int} (hv : F z = some v) (y : Str) : putF' (fun y => if y ∈ l.take i then F y else G y) z v y = if y ∈ l.take (i + 1) then F y else G y := by
  unfold putF'
  by_cases e : y = z
  · subst e
    rw [if_pos rfl, if_pos ((take_succ_mem h y).mpr (.inr rfl)), hv]
  · rw [if_neg e]
    by_cases e2 : y ∈ l.take i
    · rw [if_pos ((take_succ_mem h y).mpr (.inl e2))]; exact if_pos e2
    · rw [if_neg (fun q => ((take_succ_mem h y).mp q).elim e2 e)]; exact if_neg e2
theorem step_no {l : List Str} {i : Nat} {z : Str} (h : l[i]? = some z) (F G : Str → Option Int) (hv : F z = G z) (y : Str) : (if y ∈ l.take i then F y else G y) = if y ∈ l.take (i + 1) then F y else G y := by
  by_cases e2 : y ∈ l.take i
  · rw [if_pos e2, if_pos ((take_succ_mem h y).mpr (.inl e2))]
  · rw [if_neg e2]
    by_cases e : y = z
    · subst e
      rw [if_pos ((take_succ_mem h y).mpr (.inr rfl)), hv]
    · rw [if_neg (fun q => ((take_succ_mem h y).mp q).elim e2 e)]
theorem step_end {kvs : List (Key × V)} {g : Str → Option Int} (hB : AD kvs g) (F G : Str → Option Int) (hn : ∀ y, g y = none → F y = G y) (y : Str) : (if y ∈ (keysS kvs).take kvs.length then F y else G y) = F y := by
  rw [← hB.klen, List.take_length]
  by_cases e : y ∈ keysS kvs
  · rw [if_pos e]
  · rw [if_neg e]
    refine (hn y ?_).symm
    cases hf : g y with
    | none => rfl
    | some n => exact absurd ((hB.kin y).mpr (by rw [hf]; simp)) e
end My
set_option Elab.async false
set_option linter.all false
set_option maxRecDepth 100000
set_option maxHeartbeats 1000000
namespace My
open PySem PySem.Spec PyProof.Rows L2
section
variable {X : Cx}
theorem ps_comp {elt iter : Expr} {x y : Str} {px py : Pos} {ifs : List Expr} {scope : Scope} {cl : List (Str × Addr)} {pos spos : Pos} {caps : List Nat} {cn : List Str} {wi : TI} {tt : CT TT} {te : CT TE} {j : Nat} (Cp : Caps X x scope cl caps cn) (hc : X.calm = true)
    (hN : X.N.Nodup) (hy : X.N[j]? = some y) (hly : X.env.scope.names.lookup y = some .local)
    (hi : PI X (.Name x px) iter wi) (ht : ∀ C s H fp, PIfs (cxC X (x :: cn) scope cl C s H fp) ifs (tt C s H fp)) (he : ∀ C s H fp, PE (cxC X (x :: cn) scope cl C s H fp) elt (te C s H fp))
    (hsw : swapsWith (.ListComp elt [⟨.Name x px, iter, ifs, 0⟩] scope pos) (some (.Name y py)) spos.line X.env = pure true := by rfl) (hs : ∀ x, foldedSetIterable iter X.env x = pure x := by intro _; rfl) :
    PS X (.Assign [.Name y py] (.ListComp elt [⟨.Name x px, iter, ifs, 0⟩] scope pos) spos) (tAsg (tComp wi caps tt te) (gName j)) := by
  intro pins s σ H D I h
  replace h : tComp wi caps tt te σ H (fun v H1 => D.nx (σ.set j (some v)) H1) := h
  rw [exec_Assign_Name_used _ _ _ _ hsw]
  refine wpAny_bind (wpAny_standAt (wpAny_bind ?_))
  show wpAny _ X.A (do let _ ← comprehension (.ListComp elt [⟨.Name x px, iter, ifs, 0⟩] scope pos) scope X.env _ (newList []) false (eval iter X.env) (some (assign (.Name y py) X.env))) _ _ s
  refine wpAny_bind (wpAny_mono (wpAny_comprehension_free (use := some (assign (.Name y py) X.env)) (Q := fun _ s' => SP X pins D .next s') rfl hs Cp.clos Cp.kind Cp.names
    (thn (hi pins s σ H _ I h) fun v s1 h1 => thn h1 fun itv s2 h2 => comp_gen Cp hc ht h2 (fun acc s3 H3 fp I3 f3 pn s9 τ H9 R I9 q9 => wpAny_mono (he _ _ _ _ pn s9 τ H9 R I9 q9) (fun _ _ q => q) fun _ _ q => q.elim) fun acc s3 H3 fp I3 f3 τ H5 s6 v I6 qn => ?_)) (fun _ s' hq => wpAny_pure (wpAny_pure hq)) fun _ _ e => e)
  obtain ⟨m, hm, _⟩ := id I6.loc
  have J0 : Inv X pins σ H5 s6 := Inv.uncomp I3 f3 rfl I6 (h' := s6.heap) ⟨rfl, fun _ _ => rfl⟩
  have fC : FpOk X pins H5 s3.heap.objs.size := I3.fpOk (Nat.le_refl _) I6.free
  show wpAny _ X.A (assign (.Name y py) X.env (.ref acc)) _ _ s6
  refine wpAny_assign_Name (store_ok2 (X := X) (v := .ref acc) J0 hN hy (.inl hly) rfl (fun s7 I7 ⟨a, sb, ha⟩ => ?_) (.inr hly))
  have nC : s3.heap.objs.size ≠ a := by
    rcases ha with rfl | ha
    · exact fC.2.1
    · exact (fC.2.2.2.2.1 y a ha).symm
  refine ⟨m, hm.sameBut sb nC, fun h' sb' => ⟨_, H5, ?_, qn⟩⟩
  exact I7.turned (t' := s7.toks) (fun b o hb e => (sb'.2 b hb).trans e) fC.1 fC.2.1 fC.2.2.2.1 fC.2.2.2.2.1 fC.2.2.2.2.2
end
end My
set_option Elab.async false
set_option linter.all false
set_option maxRecDepth 100000
set_option maxHeartbeats 1000000
namespace My
open PySem PySem.Spec PyProof.Rows L2
section
variable {X : Cx} {pins : List (Addr × Obj)} {σ : L2.St} {H : Hp} {s : Shared} {h' : Heap}
end
section
variable {K : PySem.W.Frag} {σ : L2.St} {H : Hp} {D : Ends} {g : TG} {tb : TS} {ta : TA} {l1 l2 : Addr} {xs ys : List V}
end
end My
set_option Elab.async false
set_option linter.all false
set_option maxRecDepth 100000
set_option maxHeartbeats 1000000
namespace My
open PySem PySem.Spec PyProof.Rows L2
section
variable {prog : Program} {w : World} {A : Around} {E : Value → Shared → Prop} {s : Shared}
end
section
variable {X : Cx}
end
section
variable {K : PySem.W.Frag} {σ : L2.St} {H : Hp} {Q : VK} {D : Ends} {td ty tv t1 t2 : TE} {l : Addr} {xs : List V} {ss : List Str} {k : Nat} {v : V} {z : Str} {i j : Int}
theorem r_tyS {B : Prop} (q : B) : tyV K "str" (.str z) H ∧ B := ⟨rfl, q⟩
end
end My
set_option Elab.async false
set_option linter.all false
set_option maxRecDepth 100000
set_option maxHeartbeats 1000000
namespace My
open PySem PySem.Spec PyProof.Rows L2
section
variable {K : PySem.W.Frag} {σ : L2.St} {H : Hp} {Q : VK} {D : Ends} {ta tv : TE} {t : TA} {a C dx : Addr} {fs : List (Str × V)} {f m : Str} {v y : V} {sp : Sp} {dvs : List V} {E : XK}
end
structure IsC (K : PySem.W.Frag) (C : Addr) : Prop where
  ha : PySem.W.findIn K (.ref C) "__class__" = some (some (.builtin "object.__class__"))
  hn : PySem.W.specialIn K (.builtin "object.__class__") "__get__" = some (some (.builtin "getset_descriptor.__get__"))
  htk : PySem.W.takesIn K (.builtin "object.__class__") = some true
  hm : PySem.W.mroIn K C (.type "object") = some true
end My
set_option Elab.async false
set_option linter.all false
set_option maxRecDepth 100000
set_option maxHeartbeats 1000000
namespace My
open PySem PySem.Spec PyProof.Rows L2
section
variable {X : Cx} {k : Nat} {f C : Addr} {fd : FuncData} {ps : List Str} {sp : Sp} {dvs : List V} {ds : List Value} {W : L2.St → XK} {x m : Str} {p pos apos : Pos} {e o : Expr} {es : List Expr} {ta : TE} {t : TA}
end
structure FunD (K : PySem.W.Frag) (x qual : Str) (st : Stmt) (f : Addr) (fd : FuncData) (T : Addr) (items : Array Value) : Prop where
  ex : ∃ (oc : Value) (od : Option Addr) (kV doc pm : Value) (an : Option Addr) (cdv ct : Value) (osl : Array (Option Value)),
    fd = PySem.W.fnOf x qual (defArgs st) (defBody st) (defScope st) (.ref T) kV doc pm an cdv ct ∧ K.lookup f = some ⟨oc, od, .func fd, osl⟩ ∧ PySem.W.codeIn K cdv qual = true
  kp : PySem.W.keepIn K (.ref f) = true
  tup : ∃ (o : Obj) (n : Nat), K.lookup T = some o ∧ o.data = .seq items n
section
variable {P : Program} {w : World} {K : PySem.W.Frag} {mg : Str → Option Value} {base : Heap} {x qual : Str} {st : Stmt} {f T : Addr} {fd : FuncData} {N ps : List Str} {k : Nat} {sp : Sp} {items : Array Value}
end
section
variable {K : PySem.W.Frag} {σ : L2.St} {H : Hp} {Q : VK} {ta : TE} {t : TA} {a C dx : Addr} {fs : List (Str × V)} {m : Str} {sp : Sp} {dvs : List V} {W : L2.St → XK}
end
end My
set_option Elab.async false
set_option linter.all false
set_option maxRecDepth 100000
set_option maxHeartbeats 1000000
namespace My
open PySem PySem.Spec PyProof.Rows L2
section
variable {prog : Program} {w : World} {A : Around} {E : Value → Shared → Prop} {s : Shared} {it l : Addr} {its : Array Value}
end
section
variable {X : Cx}
end
section
variable {K : PySem.W.Frag} {σ : L2.St} {H : Hp} {Q : VK} {ta : TA} {p : Addr} {ys : List V}
end
end My
set_option Elab.async false
set_option linter.all false
set_option maxRecDepth 100000
set_option maxHeartbeats 1000000
namespace My
open PySem PySem.Spec PyProof.Rows L2
section
variable {prog : Program} {w : World} {A : Around} {E : Value → Shared → Prop}
end
section
variable {X : Cx} {pos : Pos}
end
end My
set_option Elab.async false
set_option linter.all false
set_option maxRecDepth 100000
set_option maxHeartbeats 1000000
namespace My
open PySem PySem.Spec PyProof.Rows L2
end My
set_option Elab.async false
set_option linter.all false
set_option maxRecDepth 100000
set_option maxHeartbeats 1000000
namespace My
open PySem PySem.Spec PyProof.Rows L2
section
variable {P : Program} {w : World} {K : PySem.W.Frag} {mg : Str → Option Value} {base : Heap} {x qual : Str} {st : Stmt} {f T : Addr} {fd : FuncData} {N ps : List Str} {k : Nat} {sp : Sp} {items : Array Value}
end
end My
set_option Elab.async false
set_option linter.all false
set_option maxRecDepth 100000
set_option maxHeartbeats 1000000
namespace My
open PySem PySem.Spec PyProof.Rows L2
section
variable {K : PySem.W.Frag} {σ : L2.St} {H H' : Hp} {Q : VK} {D : Ends} {a h : Addr} {hs : List (Str × Addr)} {z : Str}
end
end My
set_option Elab.async false
set_option linter.all false
set_option maxRecDepth 100000
set_option maxHeartbeats 1000000
set_option exponentiation.threshold 2000
namespace My
open PySem PySem.Spec PyProof.Rows L2
section
variable {X : Cx}
end
section
variable {σ : L2.St} {H : Hp} {Q : VK} {te : TE} {i : Int}
end
end My
set_option Elab.async false
set_option linter.all false
set_option maxRecDepth 100000
set_option maxHeartbeats 3200000
namespace My
open PySem PySem.Spec PyProof.Rows L2
section
variable {P : Program} {w : World} {A : Around}
end
section
variable {X : Cx}
end
section
variable {P : Program} {w : World} {K : PySem.W.Frag} {H : Hp} {Q : VK}
end
end My
set_option Elab.async false
set_option linter.all false
set_option maxRecDepth 100000
set_option maxHeartbeats 1000000
namespace My
open PySem PySem.Spec PyProof.Rows L2
section
variable {X : Cx}
end
section
variable {σ : L2.St} {H : Hp} {D : Ends} {g : TG} {tb : TS} {tl : TE} {a : Addr} {o : Obj} {kvs : List (Key × V)} {Q : VK}
end
section
variable {X : Cx}
end
end My
set_option Elab.async false
set_option linter.all false
set_option maxRecDepth 100000
set_option maxHeartbeats 1000000
namespace My
open PySem PySem.Spec PyProof.Rows L2
section
variable {X : Cx}
end
section
variable {σ : L2.St} {H : Hp} {tl : TE} {a : Addr} {kvs : List (Key × V)} {Q : VK}
end
end My
set_option Elab.async false
set_option linter.all false
set_option maxRecDepth 100000
namespace My
open PySem PySem.Spec PyProof.Rows L2 PyProof
section
variable {X : Cx}
def rUpper : V → List V → Hp → VK → Prop := fun x xs H Q => ∃ z : Str, x = .str z ∧ xs = [] ∧ Builtin.Str.tooLong (Txt.upper z).length = false ∧ Q (.str (Txt.upper z)) H
theorem mt_upper : MtR X "str.upper" rUpper := by
  intro pins s σ H x xs v us Q I rx rv h
  obtain ⟨z, rfl, rfl, hf, q⟩ := h
  obtain ⟨t, rfl⟩ := rx
  cases rv
  exact SC.upper hf ⟨.str _, H, I.tok _, ⟨_, rfl⟩, q⟩
theorem r_upper {z : Str} {H : Hp} {Q : VK} (h : Builtin.Str.tooLong (Txt.upper z).length = false) (q : Q (.str (Txt.upper z)) H) : rUpper (.str z) [] H Q := ⟨z, rfl, rfl, h, q⟩
end
theorem up1 : ∀ c : Nat, c < 123 → 97 ≤ c → (Unicode.upperOf c).length = 1 := by decide +kernel
theorem upper_size (x : Str) : (Txt.upper x).length = (x.cps.toList.map fun c => (Unicode.upperOf c).length).sum := by
  show (placed x fun _ c => Unicode.upperOf c).size = _
  unfold placed
  have e : Array.mapIdx (fun _ c => (Unicode.upperOf c).toArray) x.cps = x.cps.map fun c => (Unicode.upperOf c).toArray := by
    apply Array.ext
    · simp
    · intro i h1 h2; simp
  rw [Array.size_flatten, e, Array.map_map, ← Array.sum_toList, Array.toList_map]
  rfl
theorem upper_fit {z : Str} (h8 : z.length ≤ 8) (hL : ∀ c ∈ z.cps.toList, 97 ≤ c ∧ c ≤ 122) : Builtin.Str.tooLong (Txt.upper z).length = false := by
  have e : (z.cps.toList.map fun c => (Unicode.upperOf c).length) = z.cps.toList.map fun _ => 1 := List.map_congr_left fun c hc => up1 c (by have := (hL c hc).2; omega) (hL c hc).1
  have l : z.cps.toList.length = z.length := by simp [Str.length]
  rw [upper_size, e]
  unfold Builtin.Str.tooLong
  refine decide_eq_false ?_
  rw [sizeLine_eq, List.map_const', List.sum_replicate_nat, l]
  omega
end My
set_option Elab.async false
set_option linter.all false
set_option maxRecDepth 100000
namespace My
open PySem PySem.Spec PyProof.Rows L2
section
variable {X : Cx}
end
end My
set_option Elab.async false
set_option linter.all false
set_option maxRecDepth 100000
namespace My
open PySem PySem.Spec PyProof.Rows L2
section
variable {X : Cx}
inductive OddV (K : PySem.W.Frag) (H : Hp) : V → Prop
  | non : OddV K H .non
  | bl (b : Bool) : OddV K H (.bl b)
  | int (i : Int) : OddV K H (.int i)
  | lst {a : Addr} {xs : List V} (h : SqL K H a xs) : OddV K H (.ref a)
  | tup {a : Addr} {xs : List V} (h : SqT K H a xs) : OddV K H (.ref a)
  | dct {a : Addr} {kvs : List (Key × V)} (h : H a = some (.dK kvs)) : OddV K H (.ref a)
end
section
variable {K : PySem.W.Frag} {H : Hp} {Q : VK}
theorem inV_str {y : Str} : ∀ nm : List Str, inV (.str y) (nm.map V.str) = decide (y ∈ nm)
  | [] => rfl
  | z :: r => by
    have ih := inV_str (y := y) r
    unfold inV at ih ⊢
    rw [List.map_cons, List.any_cons, ih]
    by_cases c : z = y
    · subst c
      rw [show eqV (V.str z) (V.str z) = true from beq_self_eq_true z, decide_eq_true (List.mem_cons_self ..)]
      rfl
    · rw [show eqV (V.str z) (V.str y) = false from beq_false_of_ne c, Bool.false_or]
      by_cases m : y ∈ r
      · rw [decide_eq_true m, decide_eq_true (List.mem_cons_of_mem _ m)]
      · rw [decide_eq_false m, decide_eq_false fun h => (List.mem_cons.mp h).elim (fun e => c e.symm) m]
theorem flat_strs (nm : List Str) : (nm.map V.str).all flatV = true := by
  rw [List.all_map]
  exact List.all_eq_true.mpr fun _ _ => rfl
end
end My
set_option Elab.async false
set_option linter.all false
set_option maxRecDepth 100000
set_option maxHeartbeats 1000000
namespace My
open PySem PySem.Spec PyProof.Rows L2
section
variable {X : Cx} {tg : Expr}
end
section
variable {K : PySem.W.Frag} {σ : L2.St} {H : Hp} {D : Ends} {Q : VK} {g : TG} {tb : TS} {ta : TA} {tl : TE}
end
end My
set_option Elab.async false
set_option linter.all false
set_option maxRecDepth 100000
set_option maxHeartbeats 1000000
namespace My
open PySem PySem.Spec PyProof.Rows L2
section
variable {X : Cx}
end
section
variable {K : PySem.W.Frag} {H : Hp} {Q : VK} {p : Addr} {ns : List Int}
end
end My
set_option Elab.async false
set_option linter.all false
set_option maxRecDepth 100000
set_option maxHeartbeats 1000000
namespace My
open PySem PySem.Spec PyProof.Rows L2
section
variable {X : Cx} {pins : List (Addr × Obj)} {σ : L2.St} {H : Hp} {s : Shared}
end
section
variable {X : Cx}
end
section
variable {K : PySem.W.Frag} {σ : L2.St} {H : Hp} {Q : VK}
end
end My
set_option Elab.async false
set_option linter.all false
set_option maxRecDepth 100000
set_option maxHeartbeats 1000000
namespace My
open PySem PySem.Spec PyProof.Rows L2
section
variable {X : Cx} {E : XK} {k : Nat} {f : Addr} {fd : FuncData} {ps : List Str} {sp : Sp} {dvs : List V} {ds : List Value} {x : Str} {p pos : Pos} {e : Expr} {es : List Expr} {t : TA}
end
section
variable {X : Cx} {pins : List (Addr × Obj)} {σ : L2.St} {H : Hp} {s : Shared}
end
section
variable {X : Cx}
end
end My
set_option Elab.async false
set_option linter.all false
set_option maxRecDepth 100000
set_option maxHeartbeats 1000000
namespace My
open PySem PySem.Spec PyProof.Rows L2 PyProof PySem.Builtin.Str
section
variable {X : Cx}
end
section
variable {K : PySem.W.Frag} {H : Hp} {Q : VK} {z y : Str}
end
end My
set_option Elab.async false
set_option linter.all false
set_option maxRecDepth 100000
set_option maxHeartbeats 1000000
namespace My
open PySem PySem.Spec PyProof.Rows L2 PyProof PySem.Builtin.Str PySem.StrLaws
def hits (l : List Nat) (c : Nat) (is : List Nat) : List Nat := is.filter fun i => decide (l[i]? = some c)
end My
set_option Elab.async false
set_option linter.all false
set_option maxRecDepth 100000
set_option maxHeartbeats 1000000
namespace My
open PySem PySem.Spec PyProof.Rows L2 PyProof PySem.Builtin.Str PySem.NumText
end My
set_option Elab.async false
set_option linter.all false
set_option maxRecDepth 100000
set_option maxHeartbeats 1000000
namespace My
open PySem PySem.Spec PyProof.Rows L2 PyProof PySem.Builtin.Str
section
variable {X : Cx}
end
section
variable {K : PySem.W.Frag} {H : Hp} {Q : VK}
end
end My
set_option Elab.async false
set_option linter.all false
set_option maxRecDepth 100000
set_option maxHeartbeats 1000000
namespace My
open PySem PySem.Spec PyProof.Rows L2 PySem.Builtin
section
variable {prog : Program} {w : World} {A : Around} {E : Value → Shared → Prop} {s : Shared} {it d : Addr} {i ep : Nat} {od : Obj} {es : Array DictEntry}
theorem rawKey (hit : s.heap.IsKeyIter it d i es.size ep) (hod : s.heap.get? d = some od) (hdd : od.data = .dict es ep) {Q : Option Value → Shared → Prop} (hi : i < es.size)
    (hQ : ∀ h', h'.IsKeyIter it d (i + 1) es.size ep → Heap.SameBut it s.heap h' → Q (some es[i].key) { s with heap := h' }) : wpAny (model prog w) A (pyNext (.ref it)) Q E s := by
  obtain ⟨o, ho, hc, hd⟩ := id hit
  have up : (s.heap.update it (Obj.mapFields (·.setIfInBounds 1 (rawInt ((i : Int) + 1))))).IsKeyIter it d (i + 1) es.size ep := by
    refine ⟨_, Heap.get?_update_self _ ho (Obj.isFreed_of_fields (Obj.data_mapFields hd _)), ?_, ?_⟩
    · rw [Obj.cls_mapFields]; exact hc
    · rw [Obj.data_mapFields hd]; simp [rawInt]
  have own : Dict_items.ownsTuple "dict_keyiterator" = false := by decide
  have n1 : ¬ ((Value.ref d == Value.none) = true) := Bool.false_ne_true
  unfold pyNext
  refine wpAny_bind (wpAny_attempt (wpAny_callSpecial?_slot (name := Str.ofString "__next__") hit.typeIs F.slot_dict_keyiterator_next (wpAny_call_entry F.slot_dict_keyiterator_next hit.typeIs F.entry_dict_keyiterator_next ?_ (F.args_dict_keyiterator_next_1 _))))
  refine wpAny_bind (wpAny_pure (wpAny_bind (wpAny_bind (wpAny_bind (wpAny_typeNameOfWhole_keyiter hit.typeIs (wpAny_pure (wpAny_bind (wpAny_fieldsOf ho hd ?_))))))))
  rw [own, if_neg Bool.false_ne_true]
  show wpAny _ _ (ite ((Value.ref d == Value.none) = true) _ _) _ _ s
  rw [if_neg n1]
  refine wpAny_bind (wpAny_pure (wpAny_bind (wpAny_dictEntries hod hdd ?_)))
  rw [if_neg (by simp)]
  refine wpAny_bind (wpAny_pure (wpAny_bind (wpAny_dictEpoch hod hdd ?_)))
  rw [if_neg (by simp)]
  refine wpAny_pure ?_
  have eg : (if (i : Int) < 0 then none else es[(i : Int).toNat]?) = some es[i] := by rw [if_neg (by omega), Int.toNat_natCast]; exact Array.getElem?_eq_getElem hi
  dsimp only
  rw [eg]
  dsimp only
  refine wpAny_bind (wpAny_bind (wpAny_typeNameOfWhole_keyiter hit.typeIs (wpAny_pure ?_)))
  refine wpAny_bind (wpAny_isOneOf_keyiter hit.typeIs ?_)
  rw [own]
  refine wpAny_bind (wpAny_setField ho hd (by simp) ?_)
  refine wpAny_bind (wpAny_holding ?_)
  refine wpAny_bind (wpAny_isOneOf_keyiter (s := { s with heap := s.heap.update it (Obj.mapFields (·.setIfInBounds 1 (rawInt ((i : Int) + 1)))) }) up.typeIs ?_)
  exact wpAny_pure (wpAny_pure ⟨_, rfl, wpAny_pure (hQ _ up (Heap.SameBut.update ..))⟩)
theorem rawKeyEnd (hh : A.handled = none) (hit : s.heap.IsKeyIter it d i es.size ep) (hod : s.heap.get? d = some od) (hdd : od.data = .dict es ep) {Q : Option Value → Shared → Prop} (hi : es.size ≤ i)
    (hQ : ∀ h', Heap.ExtBut it s.heap h' → Q none { s with heap := h' }) : wpAny (model prog w) A (pyNext (.ref it)) Q E s := by
  obtain ⟨o, ho, hc, hd⟩ := id hit
  have own : Dict_items.ownsTuple "dict_keyiterator" = false := by decide
  have n1 : ¬ ((Value.ref d == Value.none) = true) := Bool.false_ne_true
  unfold pyNext
  refine wpAny_bind (wpAny_attempt (wpAny_callSpecial?_slot (name := Str.ofString "__next__") hit.typeIs F.slot_dict_keyiterator_next (wpAny_call_entry F.slot_dict_keyiterator_next hit.typeIs F.entry_dict_keyiterator_next ?_ (F.args_dict_keyiterator_next_1 _))))
  refine wpAny_bind (wpAny_pure (wpAny_bind (wpAny_bind (wpAny_bind (wpAny_typeNameOfWhole_keyiter hit.typeIs (wpAny_pure (wpAny_bind (wpAny_fieldsOf ho hd ?_))))))))
  rw [own, if_neg Bool.false_ne_true]
  show wpAny _ _ (ite ((Value.ref d == Value.none) = true) _ _) _ _ s
  rw [if_neg n1]
  refine wpAny_bind (wpAny_pure (wpAny_bind (wpAny_dictEntries hod hdd ?_)))
  rw [if_neg (by simp)]
  refine wpAny_bind (wpAny_pure (wpAny_bind (wpAny_dictEpoch hod hdd ?_)))
  rw [if_neg (by simp)]
  refine wpAny_pure ?_
  have eg : (if (i : Int) < 0 then none else es[(i : Int).toNat]?) = none := by rw [if_neg (by omega), Int.toNat_natCast]; exact Array.getElem?_eq_none hi
  dsimp only
  rw [eg]
  dsimp only
  refine wpAny_bind (wpAny_bind (wpAny_typeNameOfWhole_keyiter hit.typeIs (wpAny_pure ?_)))
  rw [own]
  refine wpAny_bind (wpAny_setField ho hd (by simp) (wpAny_bind ?_))
  unfold newExc newTuple
  refine wpAny_bind (wpAny_newObj_type ?_ (by size_fits))
  refine wpAny_bind (m := firstArgMember _ _) (wpAny_of_eq (a := Value.none) (by first | rfl | (simp only [firstArgMember]; rfl)) (wpAny_newObj_type ?_ (by size_fits)))
  unfold raiseNew
  refine wpAny_bind (wpAny_handled ?_)
  rw [show A.in1.handled = none from hh]
  refine wpAny_bind (wpAny_pure (wpAny_throw ?_))
  refine wpAny_bind (wpAny_isInstance (T := "StopIteration") (b := true) ⟨_, Heap.get?_push_size _ rfl, rfl⟩ isSubtype_stop ?_)
  exact wpAny_pure (hQ _ (((Heap.SameBut.update ..).extBut.push _).push _))
theorem rawIter {Q : Value → Shared → Prop} (hd : (d == sysModules) = false) (hod : s.heap.get? d = some od) (hx : od.ExactDict) (hdd : od.data = .dict es ep)
    (hQ : Q (.ref s.heap.objs.size) { s with heap := s.heap.push { cls := .type "dict_keyiterator", data := .fields #[.ref d, .int 0 0, .int es.size 0, .int ep 0] } }) : wpAny (model prog w) A (pyIter (.ref d)) Q E s := by
  have hT : s.TypeIs (.ref d) "dict" := ⟨od, hod, hx.1⟩
  refine wpAny_pyIter_slot hT F.slot_dict_iter (wpAny_call_entry F.slot_dict_iter hT F.entry_dict_iter ?_ (F.args_dict_iter_1 _))
  unfold Builtin.«dict.__iter__» Builtin.Dict.dictSlotNone
  refine wpAny_bind (wpAny_bind (wpAny_notOrdered_dict hT (wpAny_pure ?_)))
  unfold Builtin.Dict.showsAll
  dsimp only
  refine wpAny_bind (wpAny_pure (wpAny_bind ?_))
  rw [if_neg (by rw [hd]; exact Bool.false_ne_true)]
  refine wpAny_pure (wpAny_bind (wpAny_dictEntries hod hdd (wpAny_bind (wpAny_dictEpoch hod hdd (wpAny_bind (wpAny_newObj_type (wpAny_pure ⟨_, rfl, "dict_keyiterator", _, ⟨_, Heap.get?_push_size _ rfl, rfl⟩, F.slot_dict_keyiterator_next.lookup, ?_⟩)))))))
  simpa [rawInt] using hQ
end
end My
set_option Elab.async false
set_option linter.all false
set_option maxRecDepth 100000
set_option maxHeartbeats 1000000
namespace My
open PySem PySem.Spec PyProof.Rows L2
section
variable {X : Cx} {pins : List (Addr × Obj)} {σ : L2.St} {H : Hp} {s : Shared} {a : Addr} {kvs : List (List Key × V)} {o : Obj}
end
section
variable {X : Cx}
end
end My
set_option Elab.async false
set_option linter.all false
set_option maxRecDepth 100000
set_option maxHeartbeats 1000000
namespace My
open PySem PySem.Spec PyProof.Rows L2 PyProof PySem.SeqAt
section
variable {X : Cx}
end
section
variable {K : PySem.W.Frag} {H : Hp} {Q : VK}
end
end My
set_option Elab.async false
set_option linter.all false
set_option maxRecDepth 100000
set_option maxHeartbeats 1000000
namespace My
open PySem PySem.Spec PyProof.Rows L2
section
variable {X : Cx}
end
section
variable {K : PySem.W.Frag} {H : Hp} {Q : VK}
end
end My
set_option Elab.async false
set_option linter.all false
set_option maxRecDepth 100000
set_option maxHeartbeats 1000000
namespace My
open PySem PySem.Spec PyProof.Rows L2
section
variable {X : Cx}
end
end My
set_option Elab.async false
set_option linter.all false
set_option maxRecDepth 100000
set_option maxHeartbeats 1000000
namespace My
open PySem PySem.Spec PyProof.Rows L2 PyProof PySem.SeqAt
section
variable {X : Cx}
end
section
variable {K : PySem.W.Frag} {H : Hp} {Q : VK}
end
end My
set_option Elab.async false
set_option linter.all false
set_option maxRecDepth 100000
set_option maxHeartbeats 1000000
namespace My
open PySem PySem.Spec PyProof.Rows L2
section
variable {X : Cx}
end
section
variable {K : PySem.W.Frag} {H : Hp} {Q : VK} {D : Ends} {σ : L2.St} {p a dx C : Addr} {kvs : List (Key × V)} {ns : List Int} {n : Int} {v y : V} {f : Str} {fs : List (Str × V)} {ta tv : TE}
end
end My
set_option Elab.async false
set_option linter.all false
set_option maxRecDepth 100000
set_option maxHeartbeats 1000000
namespace My
open PySem PySem.Spec PyProof.Rows L2
section
variable {X : Cx}
end
section
variable {K : PySem.W.Frag} {H : Hp} {Q : VK} {p l : Addr} {kvs : List (Key × V)} {n : Int} {y : V} {xs : List V}
end
end My
set_option Elab.async false
set_option linter.all false
set_option maxRecDepth 100000
set_option maxHeartbeats 1000000
namespace My
open PySem PySem.Spec PyProof.Rows L2
section
variable {X : Cx}
end
section
variable {K : PySem.W.Frag} {σ : L2.St} {H : Hp} {tl td ty tv : TE} {a p : Addr} {kvs : List (List Key × V)} {Q : VK} {D : Ends} {rd : V → V → Hp → VK → Prop}
end
section
variable {X : Cx} {pins : List (Addr × Obj)} {σ : L2.St} {H H' : Hp} {s : Shared} {a : Addr} {kvs : List (List Key × V)} {o : Obj}
end
section
variable {X : Cx} {st : Stmt} {e : Expr} {t : TS} {te : TE}
end
section
variable {σ : L2.St} {H H' H0 : Hp} {D : Ends} {t : TS} {te : TE} {Q : VK} {a : Addr} {o : Obj} {kvs : List (List Key × V)} {v : V}
end
end My
set_option Elab.async false
set_option linter.all false
set_option maxRecDepth 100000
set_option maxHeartbeats 1000000
namespace My
open PySem PySem.Spec PyProof.Rows L2
section
variable {K : PySem.W.Frag} {σ : L2.St} {H : Hp} {D : Ends} {g : TG} {tb : TS} {ta : TA} {l : Addr} {xs : List V}
end
end My
set_option Elab.async false
set_option linter.all false
set_option maxRecDepth 100000
set_option maxHeartbeats 1000000
namespace My
open PySem PySem.Spec PyProof.Rows L2
section
variable {X : Cx} {pins : List (Addr × Obj)} {σ : L2.St} {H : Hp} {s : Shared}
end
section
variable {X : Cx}
end
section
variable {K : PySem.W.Frag} {σ : L2.St} {H : Hp} {Q : VK}
end
end My
set_option Elab.async false
set_option linter.all false
set_option maxRecDepth 100000
set_option maxHeartbeats 1000000
namespace My
open PySem PySem.Spec PyProof.Rows L2
inductive PEq (K : PySem.W.Frag) (H : Hp) : Nat → V → V → Bool → Prop
  | same {n : Nat} {a : Addr} : PEq K H n (.ref a) (.ref a) true
  | flat {n : Nat} {x y : V} (hx : flatV x = true) (hy : flatV y = true) : PEq K H n x y (eqV x y)
  | ls {n : Nat} {a b : Addr} {xs ys : List V} {e : Nat → Bool} (ha : SqL K H a xs) (hb : SqL K H b ys) (ne : a ≠ b) (hl : xs.length = ys.length)
      (he : ∀ j (h1 : j < xs.length) (h2 : j < ys.length), PEq K H n xs[j] ys[j] (e j)) : PEq K H (n + 1) (.ref a) (.ref b) ((List.range xs.length).all e)
  | lsN {n : Nat} {a b : Addr} {xs ys : List V} (ha : SqL K H a xs) (hb : SqL K H b ys) (ne : a ≠ b) (hl : xs.length ≠ ys.length) : PEq K H (n + 1) (.ref a) (.ref b) false
  | ts {n : Nat} {a b : Addr} {xs ys : List V} {e : Nat → Bool} (ha : SqT K H a xs) (hb : SqT K H b ys) (ne : a ≠ b)
      (he : ∀ j (h1 : j < xs.length) (h2 : j < ys.length), PEq K H n xs[j] ys[j] (e j)) : PEq K H (n + 1) (.ref a) (.ref b) ((List.range (min xs.length ys.length)).all e && xs.length == ys.length)
section
variable {X : Cx} {pins : List (Addr × Obj)} {σ : L2.St} {H : Hp} {s : Shared}
end
section
variable {X : Cx}
end
end My
set_option Elab.async false
set_option linter.all false
set_option maxRecDepth 100000
set_option maxHeartbeats 1000000
namespace My
open PySem PySem.Spec PyProof.Rows L2
section
variable {X : Cx} {E : XK} {k : Nat} {f C : Addr} {fd : FuncData} {ps : List Str} {ds : List Value} {dvs : List V} {sp : Sp} {m : Str} {apos pos : Pos} {o e : Expr} {es : List Expr} {ta : TE} {t : TA}
end
end My
set_option Elab.async false
set_option linter.all false
set_option maxRecDepth 100000
set_option maxHeartbeats 1000000
namespace My
open PySem PySem.Spec PyProof.Rows L2 PyProof PySem.SeqAt
section
variable {X : Cx}
end
end My
set_option Elab.async false
set_option linter.all false
set_option maxRecDepth 100000
set_option maxHeartbeats 1000000
namespace My
open PySem PySem.Spec PyProof.Rows L2 PySem.W
structure SO (n : Nat) (lt : Nat → Nat → Bool) : Prop where
  tr : ∀ i j k, i < n → j < n → k < n → lt i j = true → lt j k = true → lt i k = true
  to : ∀ i j, i < n → j < n → i ≠ j → lt i j = false → lt j i = true
structure Pm (n : Nat) (p : Array Nat) : Prop where
  pm : p.Perm (List.toArray (List.range n))
section
variable {n : Nat} {lt : Nat → Nat → Bool} {cmp : Nat → Nat → (Bool → Shared → Prop) → Shared → Prop} {s : Shared} {p : Array Nat}
end
section
variable {prog : Program} {w : World} {A : Around} {E : Value → Shared → Prop} {s : Shared}
end
section
variable {X : Cx}
end
end My
set_option Elab.async false
set_option linter.all false
set_option maxRecDepth 100000
set_option maxHeartbeats 1000000
namespace My
open PySem PySem.Spec PyProof.Rows L2
section
variable {X : Cx}
end
section
variable {K : PySem.W.Frag} {σ : L2.St} {H : Hp} {ta : TA} {l : Addr} {xs : List V}
end
end My
set_option Elab.async false
set_option linter.all false
set_option maxRecDepth 100000
set_option maxHeartbeats 1000000
namespace My
open PySem PySem.Spec PyProof.Rows L2 PySem.W
section
variable {X : Cx}
end
def absV : Value → V
  | .none => .non
  | .bool b => .bl b
  | .int i _ => .int i
  | .str x _ => .str x
  | .bytes b _ => .byt b
  | .float b _ => .flt b
  | .ref a => .ref a
  | .type n => .ty n
  | _ => .non
section
variable {X : Cx}
end
structure Rw2 where
  a : Addr
  n : Str
  r : List V
def lt2 (a b : Rw2) : Bool := decide (a.n.cps.toList < b.n.cps.toList)
section
variable {prog : Program} {w : World} {A : Around} {E : Value → Shared → Prop} {s : Shared}
end
section
variable {X : Cx}
end
end My
set_option Elab.async false
set_option linter.all false
set_option maxRecDepth 100000
set_option maxHeartbeats 1000000
namespace My
open PySem PySem.Spec PyProof.Rows L2
@[irreducible] def PSsx (X : Cx) (l : List Stmt) (t : TS) : Prop := PSs X l t
@[irreducible] def PEx (X : Cx) (e : Expr) (t : TE) : Prop := PE X e t
@[irreducible] def PAx (X : Cx) (es : List Expr) (t : TA) : Prop := PA X es t
section
variable {X : Cx}
end
end My
set_option Elab.async false
set_option linter.all false
set_option maxRecDepth 100000
set_option maxHeartbeats 1000000
namespace My
open PySem PySem.Spec PyProof.Rows L2
end My
set_option Elab.async false
set_option linter.all false
set_option maxRecDepth 100000
set_option maxHeartbeats 1000000
namespace My
open PySem PySem.Spec PyProof.Rows L2
section
variable {P : Program} {w : World} {H : Hp} {h h' : Heap} {p g cd cl : Addr} {more : Array Value} {v : V} {u : Value} {name qual x : Str} {params : Arguments} {body : List Stmt} {scope : Scope} {doc pm ctv : Value} {fs : List Addr}
end
end My
set_option Elab.async false
set_option linter.all false
set_option maxRecDepth 100000
set_option maxHeartbeats 1000000
namespace My
open PySem PySem.Spec PyProof.Rows L2
def less (H : Hp) (c : Addr) : Hp := fun b => if b = c then none else H b
structure MadeOk (name qual : Str) (params : Arguments) (body : List Stmt) (scope : Scope) (z x : Str) : Prop where
  kind : scope.kind = .function
  co : scope.isCoroutine = false
  gen : scope.isGenerator = false
  nocell : ∀ y ∈ scope.names, y.2 ≠ .cell
  par : scope.names.lookup z = some .local
  free : scope.names.lookup x = some .free
  only : ∀ y, scope.names.lookup y = some .free → y = x
  bind : ∀ (cl cd : Addr) (ct doc pm : Value) (s : Shared) (u : Value), BindsTo s (PySem.W.fnX name qual params body scope [(x, cl)] .none .none doc pm none (.ref cd) ct) ⟨[u], []⟩ [(z, u)]
end My
set_option Elab.async false
set_option linter.all false
set_option maxRecDepth 100000
set_option maxHeartbeats 1000000
set_option exponentiation.threshold 5000
namespace My
open PySem PySem.Spec PyProof.Rows L2
end My
set_option Elab.async false
set_option linter.all false
set_option maxRecDepth 100000
set_option maxHeartbeats 1000000
set_option exponentiation.threshold 5000
namespace My
open PySem PySem.Spec PyProof.Rows L2
section
variable {X : Cx} {pins : List (Addr × Obj)} {σ : L2.St} {H : Hp} {s : Shared}
end
end My
set_option Elab.async false
set_option linter.all false
set_option maxRecDepth 100000
set_option maxHeartbeats 1000000
namespace My
open PySem PySem.Spec PyProof.Rows L2
section
variable {X : Cx}
end
section
variable {prog : Program} {w : World} {A : Around} {E : Value → Shared → Prop} {s : Shared}
structure LamOk (qual : Str) (params : Arguments) (scope : Scope) (z : Str) (b : Expr) : Prop where
  bind : ∀ (pm cd ct u : Value), bindArgs (PySem.W.kla_fn "<lambda>" qual params b scope [] pm cd ct) ⟨[u], []⟩ = pure [(z, u)]
  par : scope.names.lookup z = some .local
  co : scope.isCoroutine = false
  gen : scope.isGenerator = false
  kind : scope.kind = .function
  cell : ∀ x ∈ scope.names, x.2 ≠ .cell
  dbg : (z == ("__debug__" : Str)) = false
end
end My
set_option Elab.async false
set_option linter.all false
set_option maxRecDepth 100000
set_option maxHeartbeats 1000000
namespace My
open PySem PySem.Spec PyProof.Rows L2
section
variable {X : Cx}
end
section
variable {H : Hp} {Q : VK} {p l : Addr} {kvs : List (Key × V)} {z : Str} {y : V} {xs : List V}
end
end My
set_option Elab.async false
set_option linter.all false
set_option maxRecDepth 100000
set_option maxHeartbeats 1000000
namespace My
open PySem PySem.Spec PyProof.Rows L2
section
variable {P : Program} {w : World} {H : Hp} {h h' : Heap} {p g cd cl : Addr} {ps : Array Value} {v : V} {u : Value} {name qual x : Str} {params : Arguments} {body : List Stmt} {scope : Scope} {doc pm ctv : Value} {fs : List Addr}
end
end My
set_option Elab.async false
set_option linter.all false
set_option maxRecDepth 100000
namespace My
open PySem PySem.Spec PyProof.Rows L2
inductive MK where
  | k (x : Key)
  | no
  | tu (ks : List Key)
  deriving DecidableEq
section
variable (P : Program) (w : World)
def mkIs (h : Heap) : MK → Value → Prop
  | .k (.inl i), v => (∃ t, v = .int i t) ∨ ∃ b : Bool, v = .bool b ∧ i = (if b then 1 else 0)
  | .k (.inr x), v => ∃ t, v = .str x t
  | .no, v => v = .none
  | .tu ks, v => ∃ a, v = .ref a ∧ IsTupleKey (mixKind P w) h ks a
def mkH : MK → Int
  | .k x => keyH w x
  | .no => PySem.reduceHash 0xFCA86420
  | .tu ks => tupleKeyHash (mixKind P w) ks
end
section
variable {P : Program} {w : World} {A : Around} {E : Value → Shared → Prop} {s : Shared}
theorem mk_inj {h : Heap} {a b : MK} {v : Value} (ha : mkIs P w h a v) (hb : mkIs P w h b v) : a = b := by
  match a, b, ha, hb with
  | .k (.inl i), .k (.inl j), .inl ⟨t, e⟩, .inl ⟨u, f⟩ => rw [e] at f; cases f; rfl
  | .k (.inl i), .k (.inl j), .inl ⟨t, e⟩, .inr ⟨u, f, _⟩ => rw [e] at f; cases f
  | .k (.inl i), .k (.inl j), .inr ⟨t, e, _⟩, .inl ⟨u, f⟩ => rw [e] at f; cases f
  | .k (.inl i), .k (.inl j), .inr ⟨t, e, e2⟩, .inr ⟨u, f, f2⟩ => rw [e] at f; cases f; rw [e2, f2]
  | .k (.inl i), .k (.inr y), .inl ⟨t, e⟩, ⟨u, f⟩ => rw [e] at f; cases f
  | .k (.inl i), .k (.inr y), .inr ⟨t, e, _⟩, ⟨u, f⟩ => rw [e] at f; cases f
  | .k (.inl i), .no, .inl ⟨t, e⟩, f => rw [e] at f; cases f
  | .k (.inl i), .no, .inr ⟨t, e, _⟩, f => rw [e] at f; cases f
  | .k (.inl i), .tu ks, .inl ⟨t, e⟩, ⟨u, f, _⟩ => rw [e] at f; cases f
  | .k (.inl i), .tu ks, .inr ⟨t, e, _⟩, ⟨u, f, _⟩ => rw [e] at f; cases f
  | .k (.inr x), .k (.inl j), ⟨t, e⟩, .inl ⟨u, f⟩ => rw [e] at f; cases f
  | .k (.inr x), .k (.inl j), ⟨t, e⟩, .inr ⟨u, f, _⟩ => rw [e] at f; cases f
  | .k (.inr x), .k (.inr y), ⟨t, e⟩, ⟨u, f⟩ => rw [e] at f; cases f; rfl
  | .k (.inr x), .no, ⟨t, e⟩, f => rw [e] at f; cases f
  | .k (.inr x), .tu ks, ⟨t, e⟩, ⟨u, f, _⟩ => rw [e] at f; cases f
  | .no, .k (.inl j), e, .inl ⟨u, f⟩ => rw [show v = .none from e] at f; cases f
  | .no, .k (.inl j), e, .inr ⟨u, f, _⟩ => rw [show v = .none from e] at f; cases f
  | .no, .k (.inr y), e, ⟨u, f⟩ => rw [show v = .none from e] at f; cases f
  | .no, .no, _, _ => rfl
  | .no, .tu ks, e, ⟨u, f, _⟩ => rw [show v = .none from e] at f; cases f
  | .tu ks, .k (.inl j), ⟨t, e, _⟩, .inl ⟨u, f⟩ => rw [e] at f; cases f
  | .tu ks, .k (.inl j), ⟨t, e, _⟩, .inr ⟨u, f, _⟩ => rw [e] at f; cases f
  | .tu ks, .k (.inr y), ⟨t, e, _⟩, ⟨u, f⟩ => rw [e] at f; cases f
  | .tu ks, .no, ⟨t, e, _⟩, f => rw [e] at f; cases f
  | .tu ks, .tu ls, ⟨t, e, h1⟩, ⟨u, f, h2⟩ => rw [e] at f; cases f; rw [h1.inj h2]
theorem mk_hash {k : MK} {v : Value} {Q : Int → Shared → Prop} (hu : A.units < cLine) (hk : mkIs P w s.heap k v) (h : ∀ n, s.toks ≤ n → Q (mkH P w k) { s with toks := n }) : wpAny (model P w) A (pyHash v) Q E s := by
  match k, hk with
  | .k (.inl i), .inl ⟨t, e⟩ => subst e; exact wpAny_pyHash_int (h _ (Nat.le_add_right _ _))
  | .k (.inl i), .inr ⟨b, e, e2⟩ =>
    subst e
    refine PySem.W.pyHash_slot (T := "bool") rfl F.slot_bool_hash entry_int_hash (args_int_hash _) (beq_builtin_none _) (.inr hu) ?_
    cases b
    · subst e2
      exact (show wpAny _ _ (do ret (← mkInt 0)) _ _ s from wpAny_bind (wpAny_mkInt (wpAny_pure ⟨_, _, rfl, h _ (Nat.le_add_right _ _)⟩)))
    · subst e2
      exact (show wpAny _ _ (do ret (← mkInt 1)) _ _ s from wpAny_bind (wpAny_mkInt (wpAny_pure ⟨_, _, rfl, h _ (Nat.le_add_right _ _)⟩)))
  | .k (.inr x), ⟨t, e⟩ => subst e; exact wpAny_pyHash_str (h _ (Nat.le_add_right _ _))
  | .no, e =>
    obtain rfl : v = .none := e
    exact PySem.W.pyHash_slot (T := "NoneType") rfl F.slot_NoneType_hash F.entry_NoneType_hash (F.args_NoneType_hash_1 _) (beq_builtin_none _) (.inr hu) (wpAny_bind (wpAny_pure (wpAny_bind (wpAny_mkInt (wpAny_pure ⟨_, _, rfl, h _ (Nat.le_add_right _ _)⟩)))))
  | .tu ks, ⟨a, e, hx⟩ => subst e; exact wpAny_pyHash_tuple hu hx (h _ (Nat.le_add_right _ _))
theorem tk_tup {h : Heap} {ks : List Key} {a : Addr} (x : IsTupleKey (mixKind P w) h ks a) : ∃ items, h.IsTuple a items := by
  obtain ⟨o, items, n, h1, h2, h3, _⟩ := x
  exact ⟨items, o, h1, h2, n, h3⟩
theorem mk_eq {a b : MK} {u v : Value} {Q : Bool → Shared → Prop} (hu : A.units < cLine) (ha : mkIs P w s.heap a u) (hb : mkIs P w s.heap b v) (h : Q (decide (a = b)) s) : wpAny (model P w) A (eqBool u v) Q E s := by
  have ii : ∀ i j : Int, decide ((MK.k (.inl i)) = .k (.inl j)) = (i == j) := fun i j => by
    by_cases c : i = j
    · subst c; simp
    · rw [decide_eq_false (fun e => c (by cases e; rfl))]; exact (beq_eq_false_iff_ne.mpr c).symm
  match a, b, ha, hb with
  | .k (.inl i), .k (.inl j), .inl ⟨t, e⟩, .inl ⟨u, f⟩ => subst e f; rw [ii] at h; exact wpAny_eqBool_int h
  | .k (.inl i), .k (.inl j), .inl ⟨t, e⟩, .inr ⟨u, f, g⟩ => subst e f; rw [ii, g] at h; exact SeqAt.EqAt.int_bool _ _ _ _ _ _ _ h
  | .k (.inl i), .k (.inl j), .inr ⟨t, e, g⟩, .inl ⟨u, f⟩ => subst e f; rw [ii, g] at h; exact SeqAt.EqAt.bool_int _ _ _ _ _ _ _ h
  | .k (.inl i), .k (.inl j), .inr ⟨t, e, e2⟩, .inr ⟨u, f, f2⟩ =>
    subst e f
    refine SeqAt.EqAt.bool_bool _ _ _ _ _ _ ?_
    rw [ii, e2, f2] at h
    cases t <;> cases u <;> exact h
  | .k (.inl i), .k (.inr y), .inl ⟨t, e⟩, ⟨u, f⟩ => subst e f; exact SeqAt.EqAt.int_str _ _ _ _ _ _ _ _ h
  | .k (.inl i), .k (.inr y), .inr ⟨t, e, _⟩, ⟨u, f⟩ => subst e f; exact SeqAt.EqAt.bool_str _ _ _ _ _ _ _ h
  | .k (.inl i), .no, .inl ⟨t, e⟩, f => obtain rfl : v = .none := f; subst e; exact SeqAt.EqAt.int_none _ _ _ _ _ _ h
  | .k (.inl i), .no, .inr ⟨t, e, _⟩, f => obtain rfl : v = .none := f; subst e; exact SeqAt.EqAt.bool_none _ _ _ _ _ h
  | .k (.inl i), .tu ks, .inl ⟨t, e⟩, ⟨u, f, x⟩ => obtain ⟨its, y⟩ := tk_tup x; subst e f; exact SeqAt.EqAt.int_tuple _ _ y hu _ _ _ _ h
  | .k (.inl i), .tu ks, .inr ⟨t, e, _⟩, ⟨u, f, x⟩ => obtain ⟨its, y⟩ := tk_tup x; subst e f; exact SeqAt.EqAt.bool_tuple _ y hu _ _ _ _ h
  | .k (.inr x), .k (.inl j), ⟨t, e⟩, .inl ⟨u, f⟩ => subst e f; exact SeqAt.EqAt.str_int _ _ _ _ _ _ _ _ h
  | .k (.inr x), .k (.inl j), ⟨t, e⟩, .inr ⟨u, f, _⟩ => subst e f; exact SeqAt.EqAt.str_bool _ _ _ _ _ _ _ h
  | .k (.inr x), .k (.inr y), ⟨t, e⟩, ⟨u, f⟩ =>
    subst e f
    refine wpAny_eqBool_str ?_
    rw [show decide ((MK.k (.inr x)) = .k (.inr y)) = decide (x = y) from decide_eq_decide.mpr ⟨fun e => by cases e; rfl, fun e => by rw [e]⟩] at h
    exact h
  | .k (.inr x), .no, ⟨t, e⟩, f => obtain rfl : v = .none := f; subst e; exact SeqAt.EqAt.str_none _ _ _ _ _ _ h
  | .k (.inr z), .tu ks, ⟨t, e⟩, ⟨u, f, x⟩ => obtain ⟨its, y⟩ := tk_tup x; subst e f; exact SeqAt.EqAt.str_tuple _ _ y hu _ _ _ _ h
  | .no, .k (.inl j), e, .inl ⟨u, f⟩ => obtain rfl : _ = Value.none := e; subst f; exact SeqAt.EqAt.none_int _ _ _ _ _ _ h
  | .no, .k (.inl j), e, .inr ⟨u, f, _⟩ => obtain rfl : _ = Value.none := e; subst f; exact SeqAt.EqAt.none_bool _ _ _ _ _ h
  | .no, .k (.inr y), e, ⟨u, f⟩ => obtain rfl : _ = Value.none := e; subst f; exact SeqAt.EqAt.none_str _ _ _ _ _ _ h
  | .no, .no, e, f => obtain rfl : _ = Value.none := e; obtain rfl : _ = Value.none := f; exact (show wpAny (model P w) A (pure true) Q E s from wpAny_pure h)
  | .no, .tu ks, e, ⟨u, f, x⟩ => obtain ⟨its, y⟩ := tk_tup x; obtain rfl : _ = Value.none := e; subst f; exact SeqAt.EqAt.none_tuple y hu _ _ _ _ h
  | .tu ks, .k (.inl j), ⟨t, e, x⟩, .inl ⟨u, f⟩ => obtain ⟨its, y⟩ := tk_tup x; subst e f; exact SeqAt.EqAt.tuple_int _ _ y hu _ _ _ _ h
  | .tu ks, .k (.inl j), ⟨t, e, x⟩, .inr ⟨u, f, _⟩ => obtain ⟨its, y⟩ := tk_tup x; subst e f; exact SeqAt.EqAt.tuple_bool _ y hu _ _ _ _ h
  | .tu ks, .k (.inr z), ⟨t, e, x⟩, ⟨u, f⟩ => obtain ⟨its, y⟩ := tk_tup x; subst e f; exact SeqAt.EqAt.tuple_str _ _ y hu _ _ _ _ h
  | .tu ks, .no, ⟨t, e, x⟩, f => obtain ⟨its, y⟩ := tk_tup x; obtain rfl : v = .none := f; subst e; exact SeqAt.EqAt.tuple_none y hu _ _ _ _ h
  | .tu ks, .tu ls, ⟨t, e, h1⟩, ⟨u, f, h2⟩ =>
    subst e f
    refine wpAny_eqBool_tuple hu h1 h2 ?_
    rw [show decide ((MK.tu ks) = .tu ls) = decide (ks = ls) from decide_eq_decide.mpr ⟨fun e => by cases e; rfl, fun e => by rw [e]⟩] at h
    exact h
theorem mk_quiet {k : MK} {v : Value} {Q : Bool → Shared → Prop} (hk : mkIs P w s.heap k v) (h : Q true s) : wpAny (model P w) A (eqIsQuiet 8 v) Q E s := by
  match k, hk with
  | .k (.inl i), .inl ⟨t, e⟩ => subst e; exact wpAny_pure h
  | .k (.inl i), .inr ⟨b, e, e2⟩ => subst e; exact wpAny_pure h
  | .k (.inr x), ⟨t, e⟩ => subst e; exact wpAny_pure h
  | .no, e => obtain rfl : v = .none := e; exact wpAny_pure h
  | .tu ks, ⟨a, e, hx⟩ => subst e; exact wpAny_eqIsQuiet_tuple hx h
theorem ite_wp {α : Type} {M : Model} {c : Prop} [Decidable c] {x y : Sem α} {Q : α → Shared → Prop} (h1 : c → wpAny M A x Q E s) (h2 : ¬ c → wpAny M A y Q E s) : wpAny M A (if c then x else y) Q E s := by
  by_cases h : c
  · rw [if_pos h]; exact h1 h
  · rw [if_neg h]; exact h2 h
abbrev MX := MK × Value × Value
def mxE (P : Program) (w : World) (x : MX) : DictEntry := ⟨mkH P w x.1, x.2.1, x.2.2⟩
theorem mx_quiet {k : MK} {key : Value} {stored : List Value} {Q : Bool → Shared → Prop} (hkey : mkIs P w s.heap k key)
    (hst : ∀ v ∈ stored, ∃ k', mkIs P w s.heap k' v) (h : Q false s) : wpAny (model P w) A (tableMayTell key stored) Q E s := by
  unfold tableMayTell
  split
  · exact wpAny_pure h
  · refine wpAny_bind (mk_quiet hkey ?_)
    simp only [Bool.not_true, Bool.false_eq_true, if_false]
    refine wpAny_bind ?_
    refine wpAny_forIn_list _ (fun rest r s' => s' = s ∧ r = (none, ()) ∧ ∀ v ∈ rest, ∃ k', mkIs P w s.heap k' v) _ ?_ ?_ _ _ ⟨rfl, rfl, hst⟩
    · rintro x rest r s' ⟨rfl, rfl, hr⟩
      obtain ⟨k', hb⟩ := hr x List.mem_cons_self
      refine wpAny_bind (mk_quiet hb ?_)
      simp only [Bool.not_true, Bool.false_eq_true, if_false]
      exact wpAny_pure ⟨rfl, rfl, fun v hv => hr v (List.mem_cons_of_mem _ hv)⟩
    · rintro r s' ⟨rfl, rfl, _⟩
      exact wpAny_pure h
theorem mx_size {es : Array DictEntry} {xs : List MX} (he : es.toList = xs.map (mxE P w)) : es.size = xs.length := by
  rw [← Array.length_toList, he, List.length_map]
theorem mx_at {es : Array DictEntry} {xs : List MX} (he : es.toList = xs.map (mxE P w)) (j : Nat) : es[j]? = (xs[j]?).map (mxE P w) := by
  rw [← Array.getElem?_toList, he, List.getElem?_map]
theorem mx_idx {xs : List MX} (hn : (xs.map (·.1)).Nodup) {i j : Nat} {k : MK} {p q : Value × Value} (hi : xs[i]? = some (k, p)) (hj : xs[j]? = some (k, q)) : i = j := by
  have hi' : (xs.map (·.1))[i]? = some k := by rw [List.getElem?_map, hi]; rfl
  have hj' : (xs.map (·.1))[j]? = some k := by rw [List.getElem?_map, hj]; rfl
  exact (List.getElem?_inj (List.getElem?_eq_some_iff.mp hi').1 hn).mp (hi'.trans hj'.symm)
set_option maxHeartbeats 4000000 in
theorem mx_find {d : Addr} {o : Obj} {es : Array DictEntry} {ep : Nat} {xs : List MX} {k : MK} {key : Value} {Q : Option Nat → Shared → Prop} (hu : A.units < cLine) (hkey : mkIs P w s.heap k key)
    (ho : s.heap.get? d = some o) (hd : o.data = .dict es ep) (he : es.toList = xs.map (mxE P w)) (his : ∀ x ∈ xs, mkIs P w s.heap x.1 x.2.1) (hn : (xs.map (·.1)).Nodup)
    (hnone : (∀ (j : Nat) (p : Value × Value), xs[j]? ≠ some (k, p)) → Q none s) (hsome : ∀ (j : Nat) (p : Value × Value), xs[j]? = some (k, p) → Q (some j) s) :
    wpAny (model P w) A (dictFind d key (mkH P w k)) Q E s := by
  have hsz := mx_size he
  have haskey : ∀ (j : Nat) (p : Value × Value), xs[j]? = some (k, p) → ((es[j]?.map (·.hash)) == some (mkH P w k)) = true := by
    intro j p hj
    rw [mx_at he j, hj]
    simp [mxE]
  have hmem : ∀ e ∈ es, ∃ x ∈ xs, e = mxE P w x := by
    intro e hin
    have : e ∈ xs.map (mxE P w) := he ▸ Array.mem_toList_iff.mpr hin
    obtain ⟨x, hx, rfl⟩ := List.mem_map.mp this
    exact ⟨x, hx, rfl⟩
  have hany : ¬ (es.any fun e => e.key == key && e.hash != mkH P w k) = true := by
    rw [← Array.any_toList, List.any_eq_true]
    rintro ⟨e, hin, hc⟩
    obtain ⟨x, hx, rfl⟩ := hmem e (Array.mem_toList_iff.mp hin)
    simp only [mxE, Bool.and_eq_true, beq_iff_eq, bne_iff_ne, ne_eq] at hc
    obtain ⟨hxa, hne⟩ := hc
    have := his x hx
    rw [hxa] at this
    exact hne (by rw [mk_inj this hkey])
  have hst : ∀ v ∈ (placesWithHash es.size (fun i => es[i]?.map (·.hash)) (mkH P w k)).filterMap (fun i => es[i]?.map (·.key)), ∃ k', mkIs P w s.heap k' v := by
    intro v hv
    obtain ⟨i, _, hi⟩ := List.mem_filterMap.mp hv
    cases hei : es[i]? with
    | none => rw [hei] at hi; cases hi
    | some e =>
      rw [hei] at hi
      obtain rfl : e.key = v := by simpa using hi
      obtain ⟨x, hx, rfl⟩ := hmem e (Array.mem_of_getElem? hei)
      exact ⟨x.1, his x hx⟩
  have hin : ∀ j ∈ placesWithHash es.size (fun i => es[i]?.map (·.hash)) (mkH P w k), j < es.size ∧ (es[j]?.map (·.hash)) = some (mkH P w k) := fun j hj => by
    unfold placesWithHash at hj
    obtain ⟨h1, h2⟩ := List.mem_filter.mp hj
    exact ⟨List.mem_range.mp h1, eq_of_beq h2⟩
  have hout : ∀ j p, xs[j]? = some (k, p) → j ∈ placesWithHash es.size (fun i => es[i]?.map (·.hash)) (mkH P w k) := fun j p hj => by
    unfold placesWithHash
    exact List.mem_filter.mpr ⟨List.mem_range.mpr (by rw [hsz]; exact (List.getElem?_eq_some_iff.mp hj).1), haskey j p hj⟩
  have hnd : (placesWithHash es.size (fun i => es[i]?.map (·.hash)) (mkH P w k)).Nodup := by
    unfold placesWithHash
    exact List.nodup_range.filter _
  have hget : ∀ j ∈ placesWithHash es.size (fun i => es[i]?.map (·.hash)) (mkH P w k), ∃ k' b v, xs[j]? = some (k', b, v) ∧ es[j]? = some ⟨mkH P w k, b, v⟩ ∧ mkIs P w s.heap k' b := fun j hj => by
    obtain ⟨h1, h2⟩ := hin j hj
    obtain ⟨⟨k', b, v⟩, hx⟩ : ∃ y, xs[j]? = some y := ⟨xs[j]'(by rw [← hsz]; exact h1), List.getElem?_eq_getElem _⟩
    have hex : es[j]? = some ⟨mkH P w k', b, v⟩ := by rw [mx_at he j, hx]; rfl
    rw [hex] at h2
    refine ⟨k', b, v, hx, ?_, his _ (List.mem_of_getElem? hx)⟩
    rw [hex]
    have : mkH P w k' = mkH P w k := Option.some.inj h2
    rw [this]
  generalize hPl : placesWithHash es.size (fun i => es[i]?.map (·.hash)) (mkH P w k) = pl at *
  have walk : wpAny (model P w) A (dictWalkPlain d key (mkH P w k) es pl) Q E s := by
    unfold dictWalkPlain
    refine wpAny_bind ?_
    refine wpAny_forIn_list _ (fun rest b s' => s' = s ∧ b = (none, ()) ∧ ∃ pre, pl = pre ++ rest ∧ ∀ j ∈ pre, ∀ p, xs[j]? ≠ some (k, p)) _ ?_ ?_ _ _ ⟨rfl, rfl, [], rfl, fun _ h => nomatch h⟩
    · rintro x rest b s' ⟨rfl, rfl, pre, hp, hno⟩
      obtain ⟨k', kb, kv, hx, hex, hib⟩ := hget x (by rw [hp]; exact List.mem_append_right _ List.mem_cons_self)
      simp only [hex]
      rw [if_pos (beq_self_eq_true _)]
      refine wpAny_bind (wpAny_dictEpoch ho hd (wpAny_bind (mk_eq hu hib hkey (wpAny_bind (wpAny_dictEpoch ho hd ?_)))))
      show wpAny _ _ (if (ep != ep) = true then _ else _) _ E _
      rw [if_neg (by simp)]
      by_cases hkk : k' = k
      · subst hkk
        rw [decide_eq_true rfl]
        exact wpAny_bind (wpAny_rule (wpAny_pure (wpAny_pure (hsome x _ hx))))
      · rw [decide_eq_false hkk]
        refine wpAny_bind (wpAny_rule (wpAny_pure ⟨rfl, rfl, pre ++ [x], by rw [hp, List.append_assoc]; rfl, fun j hj p e => ?_⟩))
        rcases List.mem_append.mp hj with h | h
        · exact hno j h p e
        · rw [List.mem_singleton.mp h, hx] at e
          cases e
          exact hkk rfl
    · rintro b s' ⟨rfl, rfl, pre, hp, hno⟩
      rw [List.append_nil] at hp
      subst hp
      exact wpAny_pure (hnone fun j p e => hno j (hout j p e) p e)
  have found : ∀ z t, key = .str z t → wpAny (model P w) A (foundByValue d key es z) Q E s := fun z t ez => by
    have ek : k = .k (.inr z) := by
      have h2 : mkIs P w s.heap (.k (.inr z)) key := ⟨t, ez⟩
      exact mk_inj hkey h2
    have hst2 : ∀ (e : DictEntry) (x : MX), x ∈ xs → e = mxE P w x → (e.key.isStr z = true ↔ x.1 = k) := fun e x hx ee => by
      have hk := his x hx
      have e1 : e.key = x.2.1 := by rw [ee]; rfl
      rw [e1]
      constructor
      · intro h
        have h2 : mkIs P w s.heap k x.2.1 := by
          rw [ek]
          cases hv : x.2.1 with
          | str y u =>
            rw [hv] at h
            have : y = z := eq_of_beq (show (y == z) = true from h)
            exact ⟨u, by rw [this]⟩
          | _ => rw [hv] at h; exact absurd h (by simp [Value.isStr])
        exact mk_inj hk h2
      · intro h
        rw [h, ek] at hk
        obtain ⟨u, eu⟩ := hk
        rw [eu]
        exact beq_self_eq_true z
    unfold foundByValue
    cases hf : es.findIdx? (fun e => e.key.isStr z) with
    | none =>
      refine wpAny_pure (hnone fun j p e => ?_)
      have h1 := Array.findIdx?_eq_none_iff.mp hf
      have hex : es[j]? = some (mxE P w (k, p)) := by rw [mx_at he j, e]; rfl
      have := h1 _ (Array.mem_of_getElem? hex)
      rw [(hst2 _ (k, p) (List.mem_of_getElem? e) rfl).mpr rfl] at this
      cases this
    | some i =>
      obtain ⟨hlt, hi, _⟩ := Array.findIdx?_eq_some_iff_getElem.mp hf
      obtain ⟨⟨k', b, v⟩, hx⟩ : ∃ y, xs[i]? = some y := ⟨xs[i]'(by rw [← hsz]; exact hlt), List.getElem?_eq_getElem _⟩
      have hex : es[i]? = some (mxE P w (k', b, v)) := by rw [mx_at he i, hx]; rfl
      have hkk : k' = k := (hst2 _ (k', b, v) (List.mem_of_getElem? hx) (by rw [Array.getElem?_eq_getElem hlt] at hex; exact Option.some.inj hex)).mp hi
      subst hkk
      simp only [hex]
      refine wpAny_bind (wpAny_dictEpoch ho hd (wpAny_bind (mk_eq hu (his _ (List.mem_of_getElem? hx)) hkey (wpAny_bind (wpAny_dictEpoch ho hd ?_)))))
      show wpAny _ _ (if (ep != ep) = true then _ else _) _ E _
      rw [if_neg (by simp), decide_eq_true rfl]
      exact wpAny_bind (wpAny_rule (wpAny_pure (hsome i _ hx)))
  unfold dictFind
  refine wpAny_holding ?_
  refine wpAny_bind (wpAny_dictEntries ho hd ?_)
  have shape : (∃ z t, key = .str z t) ∨ (∃ a, key = .ref a) ∨ (∃ b, key = .bool b) ∨ (∃ i t, key = .int i t) ∨ key = .none := by
    match k, hkey with
    | .k (.inl i), .inl ⟨t, e⟩ => exact .inr (.inr (.inr (.inl ⟨i, t, e⟩)))
    | .k (.inl i), .inr ⟨b, e, _⟩ => exact .inr (.inr (.inl ⟨b, e⟩))
    | .k (.inr x), ⟨t, e⟩ => exact .inl ⟨x, t, e⟩
    | .no, e => exact .inr (.inr (.inr (.inr e)))
    | .tu ks, ⟨a, e, _⟩ => exact .inr (.inl ⟨a, e⟩)
  rcases shape with ⟨z, t, rfl⟩ | ⟨a, rfl⟩ | ⟨b, rfl⟩ | ⟨i, t, rfl⟩ | rfl
  all_goals
    dsimp only
    try rw [hPl]
  case' inl => refine ite_wp (fun _ => found z t rfl) fun _ => ?_
  all_goals
    refine ite_wp (fun _ => walk) fun _ => ?_
    try refine ite_wp (fun h => absurd h hany) fun _ => ?_
    refine ite_wp (fun _ => wpAny_bind (wpAny_pure ?_)) fun _ => wpAny_bind (mx_quiet hkey hst ?_)
  all_goals
    refine ite_wp (fun h => by simp at h) fun _ => ?_
    refine wpAny_bind ?_
    refine wpAny_forIn_list _ (fun rest b s' => s' = s ∧ ∃ hit pre, b = (none, hit) ∧ pl = pre ++ rest ∧ ((hit = none ∧ ∀ j ∈ pre, ∀ p, xs[j]? ≠ some (k, p)) ∨ ∃ j p, hit = some j ∧ j ∈ pre ∧ xs[j]? = some (k, p))) _ ?_ ?_ _ _ ⟨rfl, none, [], rfl, rfl, .inl ⟨rfl, fun _ h => nomatch h⟩⟩
    · rintro x rest b s' ⟨rfl, hit, pre, rfl, hp, hH⟩
      obtain ⟨k', kb, kv, hx, hex, hib⟩ := hget x (by rw [hp]; exact List.mem_append_right _ List.mem_cons_self)
      have hp2 : pl = (pre ++ [x]) ++ rest := by rw [hp, List.append_assoc]; rfl
      rw [hex]
      dsimp only
      rw [if_pos (beq_self_eq_true _)]
      refine wpAny_bind (wpAny_dictEpoch ho hd (wpAny_bind (mk_eq hu hib hkey (wpAny_bind (wpAny_dictEpoch ho hd ?_)))))
      refine ite_wp (fun h => by simp at h) fun _ => ?_
      by_cases hkk : k' = k
      · subst hkk
        rw [decide_eq_true rfl]
        rcases hH with ⟨rfl, _⟩ | ⟨j, p, rfl, hj, ej⟩
        · refine ite_wp (fun _ => ?_) fun h => absurd rfl h
          refine ite_wp (fun h => by simp at h) fun _ => ?_
          refine wpAny_bind (wpAny_rule ?_)
          refine ite_wp (fun _ => wpAny_pure (wpAny_pure (hsome x _ hx))) fun _ => ?_
          exact wpAny_pure ⟨rfl, some x, pre ++ [x], rfl, hp2, .inr ⟨x, _, rfl, List.mem_append_right _ List.mem_cons_self, hx⟩⟩
        · exfalso
          have e := mx_idx hn ej hx
          subst e
          rw [hp] at hnd
          exact (List.nodup_append.mp hnd).2.2 _ hj _ List.mem_cons_self rfl
      · rw [decide_eq_false hkk]
        refine ite_wp (fun h => by cases h) fun _ => ?_
        refine wpAny_bind (wpAny_rule ?_)
        refine ite_wp (fun h => by simp at h) fun _ => ?_
        refine wpAny_pure ⟨rfl, hit, pre ++ [x], rfl, hp2, ?_⟩
        rcases hH with ⟨h0, hno⟩ | ⟨j, p, h1, hj, ej⟩
        · refine .inl ⟨h0, fun j hj p e => ?_⟩
          rcases List.mem_append.mp hj with h | h
          · exact hno j h p e
          · rw [List.mem_singleton.mp h, hx] at e
            cases e
            exact hkk rfl
        · exact .inr ⟨j, p, h1, List.mem_append_left _ hj, ej⟩
    · rintro b s' ⟨rfl, hit, pre, rfl, hp, hH⟩
      rw [List.append_nil] at hp
      subst hp
      rcases hH with ⟨rfl, hno⟩ | ⟨j, p, rfl, _, ej⟩
      · exact wpAny_pure (hnone fun j p e => hno j (hout j p e) p e)
      · exact wpAny_pure (hsome j p ej)
end
end My
set_option Elab.async false
set_option linter.all false
set_option maxRecDepth 100000
namespace My
open PySem PySem.Spec PyProof.Rows L2
section
variable {P : Program} {w : World} {A : Around} {E : Value → Shared → Prop} {s : Shared}
theorem list_keys_none : typeLookup (.type "list") "keys" = pure none := by rw [typeLookup_type, builtinLookup_eq_fast]; kernel_rfl
theorem keys_miss {a : Addr} {xs : Array Value} {Q : Option Value → Shared → Prop} (hl : s.heap.get? a = some { cls := .type "list", data := .seq xs n }) (hA : A.handled = none)
    (h : ∀ h' tk e, Heap.NewExcOf s.heap h' e "AttributeError" → Q none { s with heap := h', toks := tk }) : wpAny (model P w) A (getAttr? (.ref a) "keys") Q E s := by
  obtain ⟨hp, g, d, tk, os⟩ := s
  have hT : ∀ tk', (⟨hp, g, d, tk', os⟩ : Shared).TypeIs (.ref a) "list" := fun _ => ⟨_, hl, rfl⟩
  have f1 := sub_AttributeError
  have f3 := F.slot_list_getattribute.lookup
  have f4 := F.slot_list_getattribute.bind (.ref a)
  have f5 := am_list_getattr_none
  unfold getAttr? getAttrBy? getAttrBy
  repeat (any_goals (first | assumption | exact hT _ | ((with_reducible show wpAny _ _ (call (Value.builtin "list.__getattribute__") _ _) _ _ _); refine call_meets F.slot_list_getattribute (hT _) am_entry_list_getattribute (F.args_list_getattribute_2 _ _) (meets_getattribute_miss_list a xs n #[] "keys" _ list_keys_none (by decide) (by decide)) ⟨hl, hA, fun h' tk' e hx' => ?_⟩) | wp_step))
  obtain ⟨t', u', he⟩ := hx'.there
  show wpAny _ _ (getattributeRaised _ _ _ _ _ _ _) _ _ _
  unfold getattributeRaised
  repeat (any_goals (first | assumption | wp_step))
  exact h _ _ _ hx'.of
def Mx (P : Program) (w : World) (h : Heap) (d : Addr) (xs : List MX) : Prop :=
  ∃ o es ep, h.get? d = some o ∧ o.ExactDict ∧ o.data = .dict es ep ∧ es.toList = xs.map (mxE P w) ∧ (∀ x ∈ xs, mkIs P w h x.1 x.2.1) ∧ (xs.map (·.1)).Nodup
theorem mk_keeps {h h' : Heap} {k : MK} {v : Value} (hk : mkIs P w h k v) (q : ∀ a o ys n, h.get? a = some o → o.data = .seq ys n → h'.get? a = some o) : mkIs P w h' k v := by
  match k, hk with
  | .k (.inl i), x => exact x
  | .k (.inr z), x => exact x
  | .no, x => exact x
  | .tu ks, ⟨a, e, o, its, n, h1, h2, h3, h4⟩ => exact ⟨a, e, o, its, n, q _ _ _ _ h1 h3, h2, h3, h4⟩
theorem mk_but {h h' : Heap} {k : MK} {v : Value} {d : Addr} {o : Obj} {es : Array DictEntry} {ep : Nat} (hk : mkIs P w h k v) (ho : h.get? d = some o) (hd : o.data = .dict es ep) (hs : Heap.SameBut d h h') : mkIs P w h' k v :=
  mk_keeps hk fun a o' ys n e e2 => by
    have : a ≠ d := fun z => by rw [z, ho] at e; cases e; rw [hd] at e2; cases e2
    rw [hs.2 a this]; exact e
theorem mx_set {d : Addr} {xs : List MX} {k : MK} {key v : Value} {Q : Unit → Shared → Prop} (hu : A.units < cLine) (hkey : mkIs P w s.heap k key) (hm : Mx P w s.heap d xs) (hno : k ∉ xs.map (·.1)) (hz : xs.length ≤ 1000)
    (hQ : ∀ h' n, s.toks ≤ n → Mx P w h' d (xs ++ [(k, key, v)]) → Heap.SameBut d s.heap h' → Q () { s with heap := h', toks := n }) : wpAny (model P w) A (dictSet d key v) Q E s := by
  obtain ⟨o, es, ep, ho, hc, hd, he, his, hn⟩ := hm
  have hsz := mx_size he
  unfold dictSet
  refine wpAny_holding ?_
  refine wpAny_bind (mk_hash hu hkey fun n hn2 => ?_)
  unfold dictSetHashed
  refine wpAny_holding ?_
  refine wpAny_bind (mx_find (s := { s with toks := n }) hu hkey ho hd he his hn (fun _ => ?_) fun j p hj => absurd (List.mem_map.mpr ⟨_, List.mem_of_getElem? hj, rfl⟩) hno)
  have sb : Heap.SameBut d s.heap (s.heap.update d (Obj.mapDictKeys fun l => l.push ⟨mkH P w k, key, v⟩)) := Heap.SameBut.update ..
  refine wpAny_bind (wpAny_rule (wpAny_updateDictKeys (hz := by rw [hsz]; exact Nat.le_trans hz (by decide)) (s := { s with toks := n }) ho hd (hQ _ _ hn2 ⟨_, _, ep + 1, Heap.get?_update_self _ ho (Obj.isFreed_of_dict (Obj.data_mapDictKeys hd _)),
      hc.mapDictKeys _, Obj.data_mapDictKeys hd _, ?_, ?_, ?_⟩ sb)))
  · simp [he, mxE]
  · intro x hx
    rcases List.mem_append.mp hx with hx | hx
    · exact mk_but (his x hx) ho hd sb
    · rw [List.mem_singleton.mp hx]; exact mk_but hkey ho hd sb
  · rw [List.map_append, List.nodup_append]
    refine ⟨hn, by simp, ?_⟩
    intro x hx y hy
    simp only [List.map_cons, List.map_nil, List.mem_singleton] at hy
    subst hy
    exact fun e => hno (e ▸ hx)
end
end My
set_option Elab.async false
set_option linter.all false
set_option maxRecDepth 100000
set_option maxHeartbeats 3200000
namespace My
open PySem PySem.Spec PyProof.Rows L2
section
variable {P : Program} {w : World} {A : Around}
theorem entry_dict_update_loop : entryFor table "dict.update.loop" = some Builtin.«dict.update.loop» := entryFor_of_tree (by kernel_rfl)
theorem plain_dict_update_loop : plainId "dict.update.loop" = true := by decide +kernel
def PrAt (P : Program) (w : World) (h : Heap) (t : Addr) (x : MX) : Prop := ∃ o n, h.get? t = some o ∧ o.cls = .type "tuple" ∧ o.data = .seq #[x.2.1, x.2.2] n ∧ mkIs P w h x.1 x.2.1
theorem dictP_loop {R : Result → Shared → Prop} {it c : Addr} {fp wr : List Addr} {G : Array GenState → Array GenState → Prop} {ts : List (Addr × MX)} {pv : Nat → Value → Prop} {St : Nat → Shared → Prop} {h0 : Heap}
    (W : WalksS P w A.in1 it fp wr G ts.length pv St) (hu : A.in1.units < cLine) (hc : c ∉ fp) (hc0 : h0.get? c = none) (hw0 : ∀ b ∈ wr, h0.get? b = none) (nd : (ts.map (·.2.1)).Nodup) (hts : ∀ p ∈ ts, PrAt P w h0 p.1 p.2) (hv : ∀ i v, pv i v → ∃ t x, ts[i]? = some (t, x) ∧ v = .ref t) (hb : ts.length ≤ 1000) :
    ∀ (k i : Nat) (s : Shared), ts.length - i = k → i ≤ ts.length → St i s → (∀ b o, h0.get? b = some o → s.heap.get? b = some o) → Mx P w s.heap c ((ts.take i).map (·.2)) →
      (∀ s', Moved (c :: wr) G s s' → Mx P w s'.heap c (ts.map (·.2)) → R (.ok (.ret .none)) s') →
      codeAny (model P w) A (.builtin "dict.update.loop" ⟨[.ref c, .ref it, rawInt i, .none], []⟩) R s := by
  have cw : c ∉ wr := fun h => hc (W.sub _ h)
  have stays : ∀ {xs : List MX} {s s' : Shared}, Moved wr G s s' → (∀ b o, h0.get? b = some o → s.heap.get? b = some o) → (∀ x ∈ xs, mkIs P w h0 x.1 x.2.1) → Mx P w s.heap c xs → Mx P w s'.heap c xs := fun hm k0 hk hS => by
    obtain ⟨o, es, ep, ho, hcc, hd, he, his, hn⟩ := hS
    exact ⟨o, es, ep, hm.heap c _ cw ho, hcc, hd, he, fun x hx => mk_keeps (hk x hx) fun a o ys n e _ => hm.heap a o (fun z => by rw [hw0 a z] at e; cases e) (k0 a o e), hn⟩
  have keys : ∀ i, ∀ x ∈ (ts.take i).map (·.2), mkIs P w h0 x.1 x.2.1 := fun i x hx => by
    obtain ⟨p, hp, rfl⟩ := List.mem_map.mp hx
    obtain ⟨_, _, _, _, _, h2⟩ := hts p (List.mem_of_mem_take hp)
    exact h2
  intro k
  induction k with
  | zero =>
    intro i s hk hi st k0 hS hR
    have e : i = ts.length := by omega
    subst e
    refine codeAny_builtin entry_dict_update_loop ?_
    rw [Around.under_plainId plain_dict_update_loop]
    show wpAny _ _ (pyNext (.ref it) >>= _) _ _ _
    refine wpAny_bind (W.done s _ _ st fun s1 hm => ?_)
    have S1 := stays hm k0 (keys _) hS
    rw [List.take_length] at S1
    exact wpAny_bind (wpAny_pure (wpAny_pure (hR s1 (hm.mono fun b h => List.mem_cons_of_mem _ h) S1)))
  | succ k ih =>
    intro i s hk hi st k0 hS hR
    have lt : i < ts.length := by omega
    refine codeAny_builtin entry_dict_update_loop ?_
    rw [Around.under_plainId plain_dict_update_loop]
    show wpAny _ _ (pyNext (.ref it) >>= _) _ _ _
    refine wpAny_bind (W.item i s _ _ lt st fun v s1 hp st1 hm => ?_)
    obtain ⟨t, x, hz, rfl⟩ := hv i v hp
    obtain ⟨ot, n, ht, hot, hod, hkx⟩ := hts _ (List.mem_of_getElem? hz)
    have S1 := stays hm k0 (keys _) hS
    have k1 : ∀ b o, h0.get? b = some o → s1.heap.get? b = some o := fun b o e => hm.heap b o (fun z => by rw [hw0 b z] at e; cases e) (k0 b o e)
    refine wpAny_bind (wpAny_holding ?_)
    have k2 := k1 _ _ ht
    have hT : s1.TypeIs (.ref t) "tuple" := ⟨_, k2, hot⟩
    have hno : x.1 ∉ ((ts.take i).map (·.2)).map (·.1) := fun z => by
      rw [List.map_map] at z
      obtain ⟨p, hp, e⟩ := List.mem_map.mp z
      obtain ⟨j, hj, ej⟩ := List.mem_iff_getElem.mp hp
      rw [List.length_take] at hj
      rw [List.getElem_take] at ej
      obtain ⟨hi2, e2⟩ := List.getElem?_eq_some_iff.mp hz
      have := (List.pairwise_iff_getElem.mp nd) j i (by rw [List.length_map]; omega) (by rw [List.length_map]; exact lt) (by omega)
      rw [List.getElem_map, List.getElem_map, ej, e2] at this
      exact this e
    refine wpAny_bind (wpAny_tryCatch ?_)
    unfold Builtin.Dict.pairItems
    refine wpAny_bind (wpAny_typeOf hT ?_)
    rw [if_pos (by decide)]
    refine wpAny_bind (wpAny_seqItems k2 hod ?_)
    refine wpAny_pure ?_
    show wpAny _ _ (holding [x.2.1, x.2.2] (dictSet c x.2.1 x.2.2)) _ _ _
    refine wpAny_holding ?_
    refine mx_set hu (mk_keeps hkx fun a o ys n e _ => k1 a o e) S1 hno (by rw [List.length_map, List.length_take]; omega) fun h2 tk htk M2 sb => ?_
    have e2 : (ts.take i).map (·.2) ++ [(x.1, x.2.1, x.2.2)] = (ts.take (i + 1)).map (·.2) := by rw [List.take_add_one, hz, List.map_append]; rfl
    rw [e2] at M2
    refine wpAny_pure ⟨plainId_quiet plain_dict_update_loop _, ?_⟩
    rw [show ((i : Int) + 1) = ((i + 1 : Nat) : Int) by omega]
    refine ih (i + 1) _ (by omega) lt ?_ (fun b o e => ?_) M2 fun s4 hm4 S4 => ?_
    · exact W.frame _ s1 _ _ st1 htk fun b h o e => by rw [sb.2 b fun q => hc (q ▸ h)]; exact e
    · show h2.get? b = some o
      rw [sb.2 b fun q => by rw [q, hc0] at e; cases e]; exact k1 b o e
    · refine hR s4 (Moved.trans W.gtrans ((hm.mono fun b h => List.mem_cons_of_mem _ h).then_heap htk fun b o h e => ?_) hm4) S4
      rw [sb.2 b fun q => h (q ▸ List.mem_cons_self)]; exact e
theorem dictP_call {E : Value → Shared → Prop} {s : Shared} {l : Addr} {items : Array Value} {n : Nat} {ts : List (Addr × MX)} {Q : Value → Shared → Prop} (hh : A.handled = none) (hu : A.units + 4 < cLine) (hl : s.heap.get? l = some { cls := .type "list", data := .seq items n }) (hi : items.toList = ts.map fun p => .ref p.1)
    (hts : ∀ p ∈ ts, PrAt P w s.heap p.1 p.2) (nd : (ts.map (·.2.1)).Nodup) (hb : ts.length ≤ 1000)
    (h : ∀ h' tk, Mx P w h' s.heap.objs.size (ts.map (·.2)) → (∀ b o, s.heap.get? b = some o → h'.get? b = some o) → Q (.ref s.heap.objs.size) { s with heap := h', toks := tk }) :
    wpAny (model P w) A (call (.type "dict") [.ref l]) Q E s := by
  refine callType_codes (Q₁ := fun obj s₁ => obj = .ref s.heap.objs.size ∧ s₁ = { s with heap := s.heap.push { cls := .type "dict", data := .dict #[] } }) F.kt_called_dict (F.kt_typeCall_dict_1 _) F.entry_dict_init (kt_code_dict_new _ ⟨rfl, rfl⟩) ?_
  rintro obj s₁ ⟨rfl, rfl⟩
  have hD : (s.heap.push { cls := .type "dict", data := .dict #[] }).get? s.heap.objs.size = some { cls := .type "dict", data := .dict #[] } := Heap.get?_push_size _ rfl
  have hT : Shared.TypeIs { s with heap := s.heap.push { cls := .type "dict", data := .dict #[] } } (.ref s.heap.objs.size) "dict" := ⟨_, hD, rfl⟩
  have hl1 := Heap.get?_push_of_some { cls := .type "dict", data := .dict #[] } hl
  refine ⟨hT, F.args_dict_init_2 _ _, ?_⟩
  unfold Builtin.«dict.__init__»
  refine wpAny_bind ?_
  unfold Builtin.Dict.selfAndRest
  refine wpAny_bind (wpAny_notOrdered_dict hT ?_)
  show wpAny _ _ (pure (s.heap.objs.size, [Value.ref l])) _ _ _
  refine wpAny_pure ?_
  show wpAny _ _ (Builtin.Dict.updateFrom "dict.__init__" s.heap.objs.size (.ref l) [] .none) _ _ _
  unfold Builtin.Dict.updateFrom
  refine wpAny_bind (wpAny_typeOf (T := "list") ⟨_, hl1, rfl⟩ ?_)
  rw [if_pos (by decide)]
  refine wpAny_bind (keys_miss hl1 (by simp [hh]) fun h2 tk2 e he => ?_)
  refine ite_wp (fun _ => ?_) fun z => absurd rfl z
  have k2 : ∀ b o, s.heap.get? b = some o → h2.get? b = some o := fun b o z => he.keeps b o (Heap.get?_push_of_some _ z)
  have hD2 := he.keeps _ _ hD
  have hl2 := he.keeps _ _ hl1
  have hL2 : h2.IsList l items := ⟨_, hl2, rfl, n, rfl⟩
  refine wpAny_bind (wpAny_rule (wpAny_bind (wpAny_pyIter_list hL2 ?_)))
  refine wpAny_pure ⟨plainId_quiet plain_dict_update_loop _, ?_⟩
  have lS : l < h2.objs.size := Heap.lt_size hl2
  have lD : s.heap.objs.size < h2.objs.size := Heap.lt_size hD2
  have nI : l ≠ h2.objs.size := Nat.ne_of_lt lS
  have nl : s.heap.objs.size ≠ l := fun z => by have := Heap.lt_size hl; rw [← z] at this; exact Nat.lt_irrefl _ this
  have ez : items.size = ts.length := by rw [← Array.length_toList, hi, List.length_map]
  have W : WalksS P w A.in1.in1 _ _ _ _ items.size _ _ := (Walks.list (by simp [hh]) _ l nI items).toS
  rw [ez] at W
  have none0 : ∀ b, s.heap.objs.size ≤ b → s.heap.get? b = none := fun b hb => by
    cases q : s.heap.get? b with
    | none => rfl
    | some o => exact absurd (Heap.lt_size q) (Nat.not_lt.mpr hb)
  refine dictP_loop (ts := ts) (h0 := s.heap) W (by simp only [Around.in1_units]; omega) (fun z => ?_) (none0 _ (Nat.le_refl _)) (fun b hb => ?_) nd hts (fun i v hv => ?_) hb (ts.length - 0) 0 _ (by omega) (Nat.zero_le _) ⟨⟨_, Heap.get?_push_size _ rfl, rfl, rfl⟩, ⟨_, Heap.get?_push_of_some _ hl2, rfl, n, rfl⟩⟩ (fun b o z => Heap.get?_push_of_some _ (k2 b o z)) ?_ fun s4 hm M4 => ?_
  · simp only [List.mem_cons, List.not_mem_nil, or_false] at z
    rcases z with z | z
    · rw [z] at lD; exact Nat.lt_irrefl _ lD
    · exact nl z
  · rw [List.mem_singleton.mp hb]; exact none0 _ (Nat.le_of_lt lD)
  · have hv : items[i]? = some v := hv
    rw [← Array.getElem?_toList, hi, List.getElem?_map] at hv
    obtain ⟨⟨t, x⟩, h1, h2⟩ := Option.map_eq_some_iff.mp hv
    exact ⟨t, x, h1, h2.symm⟩
  · exact ⟨_, _, _, Heap.get?_push_of_some _ hD2, ⟨rfl, rfl, rfl⟩, rfl, rfl, (fun x hx => by simp at hx), List.nodup_nil⟩
  · obtain ⟨h4, g4, d4, tk4, os4⟩ := s4
    have eg : g4 = s.gens := hm.gens
    have ed : d4 = s.drawn := hm.drawn
    have eo : os4 = s.os := hm.os
    subst eg ed eo
    refine ⟨rfl, h h4 tk4 M4 fun b o e => hm.heap b o (fun z => ?_) (Heap.get?_push_of_some _ (k2 b o e))⟩
    simp only [List.mem_cons, List.not_mem_nil, or_false] at z
    have := Heap.lt_size e
    rcases z with z | z
    · rw [z] at this; exact Nat.lt_irrefl _ this
    · rw [z] at this; exact Nat.lt_irrefl _ (Nat.lt_trans this lD)
end
end My
set_option Elab.async false
set_option linter.all false
set_option maxRecDepth 100000
set_option maxHeartbeats 1000000
namespace My
open PySem PySem.Spec PyProof.Rows L2
def RawO (a : Addr) (o : Obj) : HO := .ext fun h => h.get? a = some o
theorem rawO_ok {P : Program} {w : World} {H : Hp} {h : Heap} {a : Addr} {o : Obj} (e : h.get? a = some o) : ObjOk P w H h a (RawO a o) := ⟨e, ⟨o, e⟩, fun _ _ e1 k => k _ e1⟩
abbrev MV := MK × V × V
def MkV (H : Hp) : MK → V → Prop
  | .k (.inl i), v => v = .int i ∨ ∃ b : Bool, v = .bl b ∧ i = (if b then 1 else 0)
  | .k (.inr x), v => v = .str x
  | .no, v => v = .non
  | .tu ks, v => ∃ b, v = .ref b ∧ H b = some (.tup (ks.map kV))
theorem MkV.keep {H H' : Hp} {k : MK} {v : V} (h : MkV H k v) (q : ∀ b xs, H b = some (.tup xs) → H' b = some (.tup xs)) : MkV H' k v := by
  match k, h with
  | .k (.inl i), x => exact x
  | .k (.inr z), x => exact x
  | .no, x => exact x
  | .tu ks, ⟨b, e, x⟩ => exact ⟨b, e, q _ _ x⟩
theorem MkV.is {P : Program} {w : World} {H : Hp} {h : Heap} {k : MK} {v : V} {u : Value} (ok : HOk P w H h) (hk : MkV H k v) (r : RelV v u) : mkIs P w h k u := by
  match k, hk with
  | .k (.inl i), .inl e => subst e; obtain ⟨t, rfl⟩ := r; exact .inl ⟨t, rfl⟩
  | .k (.inl i), .inr ⟨b, e, e2⟩ => subst e; exact .inr ⟨b, r, e2⟩
  | .k (.inr x), e => obtain rfl : v = .str x := e; obtain ⟨t, rfl⟩ := r; exact ⟨t, rfl⟩
  | .no, e => obtain rfl : v = .non := e; exact r
  | .tu ks, ⟨b, e, x⟩ => subst e; cases r; exact ⟨b, rfl, key_of ok x⟩
def mvR (p : MV) (x : MX) : Prop := p.1 = x.1 ∧ RelV p.2.1 x.2.1 ∧ RelV p.2.2 x.2.2
def MxOk (P : Program) (w : World) (o : Obj) (kvs : List MV) : Prop := o.ExactDict ∧ ∃ es ep xs, o.data = .dict es ep ∧ es.toList = xs.map (mxE P w) ∧ Paired mvR kvs xs
structure MD (P : Program) (w : World) (H : Hp) (a : Addr) (kvs : List MV) : Prop where
  ob : ∃ o, H a = some (RawO a o) ∧ MxOk P w o kvs
  ks : ∀ p ∈ kvs, MkV H p.1 p.2.1
  nd : (kvs.map (·.1)).Nodup
  sy : (a == sysModules) = false
theorem Paired.keys {kvs : List MV} {xs : List MX} (r : Paired mvR kvs xs) : kvs.map (·.1) = xs.map (·.1) := by
  induction r with
  | nil => rfl
  | cons h t ih => rw [List.map_cons, List.map_cons, h.1, ih]
theorem Paired.all {kvs : List MV} {xs : List MX} (r : Paired mvR kvs xs) : ∀ x ∈ xs, ∃ p ∈ kvs, mvR p x := by
  induction r with
  | nil => intro x hx; cases hx
  | cons h t ih =>
    intro x hx
    rcases List.mem_cons.mp hx with e | e
    · exact ⟨_, List.mem_cons_self .., by rw [e]; exact h⟩
    · obtain ⟨p, hp, q⟩ := ih x e
      exact ⟨p, List.mem_cons_of_mem _ hp, q⟩
theorem MD.mx {P : Program} {w : World} {H : Hp} {h : Heap} {a : Addr} {kvs : List MV} (m : MD P w H a kvs) (ok : HOk P w H h) : ∃ xs, Paired mvR kvs xs ∧ Mx P w h a xs := by
  obtain ⟨o, e, hx, es, ep, xs, hd, he, r⟩ := m.ob
  obtain ⟨e2, _⟩ := (show ObjOk P w H h a (RawO a o) from ok a _ e)
  refine ⟨xs, r, o, es, ep, e2, hx, hd, he, fun x hx => ?_, by rw [← Paired.keys r]; exact m.nd⟩
  obtain ⟨p, hp, e1, r1, _⟩ := Paired.all r x hx
  have := (m.ks p hp).is ok r1
  rw [e1] at this
  exact this
theorem MD.same {P : Program} {w : World} {H H' : Hp} {a : Addr} {kvs : List MV} (m : MD P w H a kvs) (s : Same H H') : MD P w H' a kvs := by
  obtain ⟨o, e, h⟩ := m.ob
  exact ⟨⟨o, s _ _ e, h⟩, fun p hp => (m.ks p hp).keep fun b xs q => s _ _ q, m.nd, m.sy⟩
abbrev RwV := Addr × MV
def rDictP (P : Program) (w : World) : List V → Hp → VK → Prop := fun xs H Q => ∃ (l : Addr) (rows : List RwV), xs = [.ref l] ∧ H l = some (.lst (rows.map fun r => .ref r.1)) ∧ (∀ r ∈ rows, H r.1 = some (.tup [r.2.2.1, r.2.2.2]) ∧ MkV H r.2.1 r.2.2.1) ∧ (rows.map (·.2.1)).Nodup ∧ rows.length ≤ 60 ∧
  ((∀ (q : Addr) (o : Obj), H q = none → MD P w (upd H q (RawO q o)) q (rows.map (·.2)) → Q (.ref q) (upd H q (RawO q o))) ∨
   ∃ kvs : List (Key × V), rows.map (·.2) = kvs.map (fun p => (MK.k p.1, kV p.1, p.2)) ∧ ∀ q : Addr, H q = none → Q (.ref q) (upd H q (.dK kvs)))
section
variable {X : Cx}
theorem rows_raw {P : Program} {w : World} {H : Hp} {h : Heap} (ok : HOk P w H h) : ∀ (rows : List RwV), (∀ r ∈ rows, H r.1 = some (.tup [r.2.2.1, r.2.2.2]) ∧ MkV H r.2.1 r.2.2.1) →
    ∃ ts : List (Addr × MX), ts.map (·.1) = rows.map (·.1) ∧ Paired mvR (rows.map (·.2)) (ts.map (·.2)) ∧ ∀ p ∈ ts, PrAt P w h p.1 p.2
  | [], _ => ⟨[], rfl, .nil, fun p hp => by cases hp⟩
  | r :: rows, hr => by
    obtain ⟨ts, e, pr, hp⟩ := rows_raw ok rows fun q hq => hr q (List.mem_cons_of_mem _ hq)
    obtain ⟨h1, h2⟩ := hr r (List.mem_cons_self ..)
    obtain ⟨_, its, rv, o, g1, g2, n, g3⟩ := (show ObjOk P w H h r.1 (.tup [r.2.2.1, r.2.2.2]) from ok r.1 _ h1)
    obtain ⟨u1, u2, rfl, r1, r2⟩ : ∃ u1 u2, its = [u1, u2] ∧ RelV r.2.2.1 u1 ∧ RelV r.2.2.2 u2 := by
      cases rv with
      | cons a b =>
        cases b with
        | cons c d => cases d; exact ⟨_, _, rfl, a, c⟩
    refine ⟨(r.1, r.2.1, u1, u2) :: ts, by rw [List.map_cons, List.map_cons, e], .cons ⟨rfl, r1, r2⟩ pr, fun p hp' => ?_⟩
    rcases List.mem_cons.mp hp' with e | e
    · rw [e]; exact ⟨o, n, g1, g2, g3, h2.is ok r1⟩
    · exact hp p e
theorem call_dictP (hu : X.A.units + 8 < cLine) (hc : X.calm = true := by rfl) : CallR X (.type "dict") (rDictP X.prog X.w) := by
  intro pins s σ H xs us Q I hv h
  obtain ⟨l, rows, rfl, el, hr, nd, h60, q⟩ := h
  obtain ⟨u, rfl, ru⟩ := hv.one
  cases ru
  obtain ⟨ts, e1, pr, hts⟩ := rows_raw I.hok rows hr
  obtain ⟨hz, its, n, rv, hl⟩ := (show ObjOk X.prog X.w H s.heap l (.lst (rows.map fun r => .ref r.1)) from I.hok l _ el)
  have hit : its = ts.map fun p => Value.ref p.1 := by
    have refs : ∀ {rs : List Addr} {us : List Value}, Vals (rs.map V.ref) us → us = rs.map Value.ref := by
      intro rs
      induction rs with
      | nil => intro us h; cases h; rfl
      | cons r rs ih =>
        intro us h
        cases h with
        | cons a b => cases (show _ = Value.ref r from a); rw [List.map_cons, ← ih b]
    have h1 : Vals ((rows.map (·.1)).map V.ref) its := by rw [List.map_map]; exact rv
    rw [refs h1, ← e1, List.map_map]; rfl
  have hnd : (ts.map (·.2.1)).Nodup := by
    have := Paired.keys pr
    rw [List.map_map, List.map_map] at this
    rw [show ts.map (·.2.1) = rows.map (·.2.1) from this.symm]
    exact nd
  have hlen : ts.length = rows.length := by
    have := congrArg List.length e1
    rwa [List.length_map, List.length_map] at this
  refine dictP_call (I.ok.hd hc) (by omega) hl (by simpa using hit) hts hnd (by omega) fun h' tk m hk => ?_
  have hfr := I.hok.fresh (Nat.le_refl s.heap.objs.size)
  obtain ⟨o, es, ep, ho, hx, hd, he, his, hn⟩ := m
  have hsy : (s.heap.objs.size == sysModules) = false := beq_eq_false_iff_ne.mpr (Ne.symm (Nat.ne_of_lt I.big))
  rcases q with q | ⟨kvs, ek, q⟩
  · refine ⟨.ref _, _, I.laid (a := s.heap.objs.size) (o := RawO s.heap.objs.size o) (t' := tk) hk (Nat.le_refl _) (rawO_ok ho), rfl, q _ o hfr ⟨⟨o, upd_same, hx, es, ep, _, hd, he, pr⟩, fun p hp => ?_, by rw [List.map_map]; exact nd, hsy⟩⟩
    obtain ⟨r, hr2, rfl⟩ := List.mem_map.mp hp
    exact (hr r hr2).2.keep fun b xs e => by rw [upd_ne (ne_of_none e hfr)]; exact e
  · refine ⟨.ref _, _, I.laid (a := s.heap.objs.size) (o := .dK kvs) (t' := tk) hk (Nat.le_refl _) ?_, rfl, q _ hfr⟩
    rw [ek] at pr
    have hkl : kvs.length = rows.length := by
      have := congrArg List.length ek
      rwa [List.length_map, List.length_map, eq_comm] at this
    have big : ∀ {ks : List (Key × V)} {xs : List MX}, Paired mvR (ks.map fun p => (MK.k p.1, kV p.1, p.2)) xs → ∃ vs : List (Key × Value), KV ks vs ∧ (∀ x ∈ xs, ∃ y, (mixKind X.prog X.w).is y x.2.1 = true ∧ mkH X.prog X.w x.1 = (mixKind X.prog X.w).hash y) ∧ Pairs (mixKind X.prog X.w) (xs.map (mxE X.prog X.w)) vs := by
      intro ks
      induction ks with
      | nil => intro xs h; cases h; exact ⟨[], .nil, (fun x hx => by cases hx), .nil⟩
      | cons p ks ih =>
        intro xs h
        cases h with
        | @cons _ x _ xs' a b =>
          obtain ⟨vs, k1, k2, k3⟩ := ih b
          obtain ⟨a1, a2, a3⟩ := a
          have a1 : MK.k p.1 = x.1 := a1
          have hk := kV_is (P := X.prog) (w := X.w) a2
          refine ⟨(p.1, x.2.2) :: vs, .cons ⟨rfl, a3⟩ k1, fun y hy => ?_, .cons hk rfl k3⟩
          rcases List.mem_cons.mp hy with e | e
          · subst e; exact ⟨p.1, hk, by rw [← a1]; rfl⟩
          · exact k2 y e
    obtain ⟨vs, k1, k2, k3⟩ := big pr
    refine dk_new (by rw [hkl, sizeLine_eq]; omega) hsy k1 ⟨o, es, ep, ho, hx, hd, fun e he2 => ?_, by rw [he]; exact k3, ?_⟩
    · have : e ∈ (ts.map (·.2)).map (mxE X.prog X.w) := he ▸ Array.mem_toList_iff.mpr he2
      obtain ⟨x, hx2, rfl⟩ := List.mem_map.mp this
      exact k2 x hx2
    · have kk : ∀ {ks : List (Key × V)} {vs : List (Key × Value)}, KV ks vs → vs.map (·.1) = ks.map (·.1) := by
        intro ks vs h
        induction h with
        | nil => rfl
        | cons a _ ih => rw [List.map_cons, List.map_cons, ih, a.1]
      rw [kk k1]
      have e3 : rows.map (·.2.1) = (kvs.map (·.1)).map MK.k := by
        have := congrArg (List.map (·.1)) ek
        rw [List.map_map, List.map_map] at this
        rw [List.map_map]; exact this
      rw [e3] at nd
      exact List.Pairwise.of_map MK.k (fun a b h e => h (by rw [e])) nd
end
end My
set_option Elab.async false
set_option linter.all false
set_option maxRecDepth 100000
set_option maxHeartbeats 1000000
namespace My
open PySem PySem.Spec PyProof.Rows L2
theorem mx_ent {P : Program} {w : World} {o : Obj} {kvs : List MV} (m : MxOk P w o kvs) : ∃ es ep, o.ExactDict ∧ o.data = .dict es ep ∧ es.size = kvs.length ∧ ∀ (i : Nat) (hi : i < es.size) p, kvs[i]? = some p → RelV p.2.1 es[i].key ∧ RelV p.2.2 es[i].val := by
  obtain ⟨hx, es, ep, xs, hd, he, r⟩ := m
  have hl : xs.length = kvs.length := by
    have := congrArg List.length (Paired.keys r)
    rw [List.length_map, List.length_map] at this
    exact this.symm
  refine ⟨es, ep, hx, hd, (mx_size he).trans hl, fun i hi p hp => ?_⟩
  have get : ∀ {kvs : List MV} {xs : List MX}, Paired mvR kvs xs → ∀ (i : Nat) p x, kvs[i]? = some p → xs[i]? = some x → mvR p x := by
    intro kvs xs r
    induction r with
    | nil => intro i p x h; cases h
    | cons a b ih =>
      intro i p x h1 h2
      cases i with
      | zero => cases h1; cases h2; exact a
      | succ i => exact ih i p x h1 h2
  have hi2 : i < xs.length := by rw [← mx_size he]; exact hi
  have e1 := mx_at he i
  rw [List.getElem?_eq_getElem hi2, Array.getElem?_eq_getElem hi] at e1
  have e2 : es[i] = mxE P w xs[i] := Option.some.inj e1
  obtain ⟨_, r1, r2⟩ := get r i p _ hp (List.getElem?_eq_getElem hi2)
  rw [e2]
  exact ⟨r1, r2⟩
def ItM (d : Addr) (o : Obj) (kvs : List MV) : It :=
  ⟨fun i H => H d = some (RawO d o) ∧ i < kvs.length, fun i H x H' => H' = H ∧ ∃ p, kvs[i]? = some p ∧ x = p.2.1, fun i H => H d = some (RawO d o) ∧ kvs.length ≤ i⟩
theorem turn_M {P : Program} {w : World} {K : PySem.W.Frag} {tg : Expr} {o : Obj} {kvs : List MV} {es : Array DictEntry} {ep : Nat} (d it : Addr) (hd : o.data = .dict es ep) (m : MxOk P w o kvs) : Turn P w K tg (ItM d o kvs) [it] it (fun i h => h.IsKeyIter it d i kvs.length ep) where
  mem := by simp
  obj := fun i h st b hb => by
    have e : b = it := by simpa using hb
    subst e
    obtain ⟨ob, e, c, dd⟩ := st
    exact ⟨ob, e, fun v z => by rw [dd] at z; cases z⟩
  keep := fun i h h' st k => st.at fun ob e => k it (by simp) ob e
  item := by
    intro X hP hw hK hc i pins s σ H E I hf st hg
    subst hP hw hK
    obtain ⟨hfz, hi⟩ := hg
    obtain ⟨ho, _⟩ := (show ObjOk X.prog X.w H s.heap d (RawO d o) from I.hok d _ hfz)
    obtain ⟨es', ep', hx, hd', hsz, get⟩ := mx_ent m
    rw [hd] at hd'
    cases hd'
    obtain ⟨f0, f1, f2, f3, f4, f5⟩ := hf it (by simp)
    obtain ⟨r1, _⟩ := get i (by omega) kvs[i] (by rw [List.getElem?_eq_getElem hi])
    rw [← hsz] at st
    refine rawKey st ho hd (by omega) fun h' st' hs' => ?_
    have I1 : Inv X pins σ H { s with heap := h' } := I.turned (t' := s.toks) (fun b ob hb e => hs'.extBut b ob hb e) f0 f1 f3 f4 f5
    obtain ⟨ob, e, c, dd⟩ := id st'
    exact ⟨_, rfl, go_of (s := { s with heap := h' }) e c dd (by decide) ⟨kvs[i].2.1, H, I1, r1, ⟨rfl, kvs[i], List.getElem?_eq_getElem hi, rfl⟩, by rw [← hsz]; exact st', fun b hb => (hf b hb).1⟩⟩
  done := by
    intro X hP hw hK hc i pins s σ H E I hf st hg
    subst hP hw hK
    obtain ⟨hfz, hi⟩ := hg
    obtain ⟨ho, _⟩ := (show ObjOk X.prog X.w H s.heap d (RawO d o) from I.hok d _ hfz)
    obtain ⟨es', ep', hx, hd', hsz, get⟩ := mx_ent m
    rw [hd] at hd'
    cases hd'
    obtain ⟨f0, f1, f2, f3, f4, f5⟩ := hf it (by simp)
    rw [← hsz] at st
    exact rawKeyEnd (I.ok.hd hc) st ho hd (by omega) fun h' eb => ⟨rfl, I.turned (t' := s.toks) (fun b ob hb e => eb b ob hb e) f0 f1 f3 f4 f5⟩
  self := fun _ _ _ _ _ st h => wpAny_pyIter_keyiter st h
def rItX (P : Program) (w : World) (x : V) (H : Hp) (R : It → Hp → Prop) : Prop := rItD x H R ∨ ∃ a kvs, x = .ref a ∧ MD P w H a kvs ∧ ∀ o, H a = some (RawO a o) → R (ItM a o kvs) H
def iDictX (P : Program) (w : World) (td : TE) : TI := fun σ H R => td σ H fun x H1 => rItX P w x H1 R
theorem pi_dictX {X : Cx} {tg l : Expr} {tl : TE} (hl : PE X l tl) : PI X tg l (iDictX X.prog X.w tl) := by
  intro pins s σ H R I h
  refine thn (hl pins s σ H _ I h) fun v s1 ⟨x, H1, I1, r1, q1⟩ => ?_
  rcases q1 with q1 | ⟨a, kvs, e, m, q⟩
  · obtain ⟨a, kvs, e, q⟩ := q1
    subst e
    cases r1
    have ok : ObjOk X.prog X.w H1 s1.heap a (.dK kvs) := by
      rcases q with ⟨e, _⟩ | ⟨o, e, _⟩
      · exact I1.hok a _ e
      · exact (I1.hok a _ e).2
    obtain ⟨o, es, ep, vs, ho, hd, rel, dat, hs⟩ := dat_of ok
    have hlen := rel.length
    refine wpAny_pyIter_dict hs dat ?_
    have it0 : (s1.heap.push { cls := .type "dict_keyiterator", data := .fields #[.ref a, .int 0 0, .int vs.length 0, .int ep 0] }).IsKeyIter s1.heap.objs.size a 0 kvs.length ep := by
      rw [hlen]; exact ⟨_, Heap.get?_push_size _ rfl, rfl, rfl⟩
    rcases q with ⟨e, q⟩ | ⟨o', e, q⟩
    · have I2 := Inv.freeze I1 e ho
      refine ⟨s1.heap.objs.size, [s1.heap.objs.size], _, _, _, rfl, I2.kept (t' := s1.toks) fun b ob e => Heap.get?_push_of_some _ e, turn_dict (kvs := kvs) a _ hd, it0, fun b hb => ?_, q o⟩
      have e : b = s1.heap.objs.size := by simpa using hb
      subst e
      exact I2.fpOk (Nat.le_refl _) (I2.hok.fresh (Nat.le_refl _))
    · have eo : o' = o := by
        have z := (I1.hok a _ e).1
        rw [ho] at z
        cases z
        rfl
      subst eo
      refine ⟨s1.heap.objs.size, [s1.heap.objs.size], _, _, _, rfl, I1.kept (t' := s1.toks) fun b ob e => Heap.get?_push_of_some _ e, turn_dict (kvs := kvs) a _ hd, it0, fun b hb => ?_, q⟩
      have e : b = s1.heap.objs.size := by simpa using hb
      subst e
      exact I1.fpOk (Nat.le_refl _) (I1.hok.fresh (Nat.le_refl _))
  subst e
  cases r1
  obtain ⟨o, eo, mo⟩ := m.ob
  obtain ⟨es, ep, hx, hd, hsz, get⟩ := mx_ent mo
  obtain ⟨ho, _⟩ := (show ObjOk X.prog X.w H1 s1.heap a (RawO a o) from I1.hok a _ eo)
  refine rawIter m.sy ho hx hd ?_
  have it0 : (s1.heap.push { cls := .type "dict_keyiterator", data := .fields #[.ref a, .int 0 0, .int es.size 0, .int ep 0] }).IsKeyIter s1.heap.objs.size a 0 kvs.length ep := by
    rw [← hsz]; exact ⟨_, Heap.get?_push_size _ rfl, rfl, rfl⟩
  refine ⟨s1.heap.objs.size, [s1.heap.objs.size], _, _, _, rfl, I1.kept (t' := s1.toks) fun b ob e => Heap.get?_push_of_some _ e, turn_M (kvs := kvs) a _ hd mo, it0, fun b hb => ?_, q o eo⟩
  have e : b = s1.heap.objs.size := by simpa using hb
  subst e
  exact I1.fpOk (Nat.le_refl _) (I1.hok.fresh (Nat.le_refl _))
theorem rawClear (P : Program) (w : World) (d : Addr) : MeetsIn P w (Builtin.«dict.clear» ⟨[.ref d], []⟩) (fun _ R s => ∃ o es ep, s.heap.get? d = some o ∧ o.ExactDict ∧ o.data = .dict es ep ∧ es.size ≤ sizeLine ∧
      ∀ h', h'.DictOf (mixKind P w) d [] → Heap.SameBut d s.heap h' → R (.ok (.ret .none)) { s with heap := h' }) :=
  .of_wp fun A R s ⟨o, es, ep, ho, hc, hdat, hes, h⟩ => by
    have hT : s.TypeIs (.ref d) "dict" := ⟨o, ho, hc.1⟩
    unfold Builtin.«dict.clear»
    refine wpAny_bind ?_
    unfold Builtin.Dict.noArgs
    refine wpAny_bind (wpAny_notOrdered_dict hT ?_)
    show wpAny _ _ (pure d) _ _ s
    refine wpAny_pure ?_
    refine wpAny_bind (wpAny_dictEntries ho hdat ?_)
    refine wpAny_bind ?_
    unfold bearsInstanceDictMark
    refine wpAny_bind (wpAny_load ho (wpAny_pure ?_))
    refine wpAny_bind (wpAny_updateDictKeys (hz := hes) ho hdat ?_)
    have hnew : (s.heap.update d (Obj.mapDictKeys fun _ => #[])).DictOf (mixKind P w) d [] :=
      ⟨_, _, ep + 1, Heap.get?_update_self _ ho (Obj.isFreed_of_dict (Obj.data_mapDictKeys hdat _)), hc.mapDictKeys _, Obj.data_mapDictKeys hdat _, fun _ he => by simp at he, Pairs.nil, List.nodup_nil⟩
    split
    · exact wpAny_bind (wpAny_letGo (wpAny_pure ⟨.none, rfl, h _ hnew (Heap.SameBut.update ..)⟩))
    · exact wpAny_bind (wpAny_pure (wpAny_pure ⟨.none, rfl, h _ hnew (Heap.SameBut.update ..)⟩))
def rClearX (P : Program) (w : World) : V → List V → Hp → VK → Prop := fun x xs H Q => rDClear x xs H Q ∨ ∃ p kvs, x = .ref p ∧ xs = [] ∧ MD P w H p kvs ∧ kvs.length ≤ 60 ∧ Q .non (upd H p (.dK []))
section
variable {X : Cx}
theorem mt_clearX : MtR X "dict.clear" (rClearX X.prog X.w) := by
  intro pins s σ H x xs v us Q I rx rv h
  rcases h with h | ⟨p, kvs, rfl, rfl, m, h60, q⟩
  · exact mt_dclear pins s σ H x xs v us Q I rx rv h
  cases rx
  have hus := rv.zero
  subst hus
  obtain ⟨o, e, mo⟩ := m.ob
  obtain ⟨es, ep, hx, hd, hsz, get⟩ := mx_ent mo
  obtain ⟨ho, _⟩ := (show ObjOk X.prog X.w H s.heap p (RawO p o) from I.hok p _ e)
  have hT : s.TypeIs (.ref p) "dict" := ⟨o, ho, hx.1⟩
  refine call_meetsIn PySem.F.slot_dict_clear hT PySem.F.entry_dict_clear (PySem.F.args_dict_clear_1 _) (rawClear X.prog X.w p) ⟨o, es, ep, ho, hx, hd, by rw [hsz, sizeLine_eq]; omega, fun h' dd sb => ?_⟩
  have he : ∃ q, h'.get? p = some q := let ⟨q, _, _, hq, _⟩ := dd; ⟨q, hq⟩
  exact ⟨.non, _, d_write (t' := s.toks) I (by rw [e]; exact True.intro) sb he (dk_new (Nat.zero_le _) m.sy .nil dd), rfl, q⟩
def rIsiX (K : PySem.W.Frag) : List V → Hp → VK → Prop := fun xs H Q => rIsi K xs H Q ∨ ∃ p o, xs = [.ref p, .ty "dict"] ∧ H p = some (RawO p o) ∧ o.cls = .type "dict" ∧ Q (.bl true) H
theorem call_isiX : CallR X (.builtin "isinstance") (rIsiX X.K) := by
  intro pins s σ H xs us Q I hv h
  rcases h with h | ⟨p, o, rfl, e, hc, q⟩
  · exact call_isi2 pins s σ H xs us Q I hv h
  cases hv with
  | cons r1 hv =>
    cases hv with
    | cons r2 hv =>
      cases hv
      cases r1
      cases (show _ = Value.type "dict" from r2)
      obtain ⟨ho, _⟩ := (show ObjOk X.prog X.w H s.heap p (RawO p o) from I.hok p _ e)
      exact isi_yes I.kIn ⟨o, ho, hc⟩ (by unfold PySem.W.kitOne; rfl) ⟨.bl true, H, I, rfl, q⟩
end
end My
set_option Elab.async false
set_option linter.all false
set_option maxRecDepth 100000
set_option maxHeartbeats 1000000
namespace My
open PySem PySem.Spec PyProof.Rows L2
def okV : V → Bool
  | .byt _ | .flt _ => false
  | _ => true
section
variable {P : Program} {w : World} {A : Around} {E : Value → Shared → Prop} {s : Shared}
theorem eqAt_same {v : V} {x y : Value} (h : okV v = true) (hx : RelV v x) (hy : RelV v y) : SeqAt.EqAt A s x y true := by
  cases v with
  | non => cases (show x = _ from hx); cases (show y = _ from hy); exact SeqAt.EqAt.same _
  | bl b => cases (show x = _ from hx); cases (show y = _ from hy); exact SeqAt.EqAt.same _
  | ref a => cases (show x = _ from hx); cases (show y = _ from hy); exact SeqAt.EqAt.same _
  | ty n => cases (show x = _ from hx); cases (show y = _ from hy); exact SeqAt.EqAt.same _
  | int i =>
    obtain ⟨t, rfl⟩ := hx
    obtain ⟨u, rfl⟩ := hy
    have := SeqAt.EqAt.int_int (A := A) (s := s) i t i u
    rwa [beq_self_eq_true] at this
  | str z =>
    obtain ⟨t, rfl⟩ := hx
    obtain ⟨u, rfl⟩ := hy
    have := SeqAt.EqAt.str_str (A := A) (s := s) z t z u
    rwa [beq_self_eq_true] at this
  | byt b => cases h
  | flt b => cases h
theorem mx_same {nm : String} {a b : Addr} {xs ys : List MX} {Q : Bool → Shared → Prop} (hu : A.units < cLine) (ha : (a == sysModules) = false) (hb : (b == sysModules) = false) (ma : Mx P w s.heap a xs) (mb : Mx P w s.heap b ys)
    (hl : xs.length = ys.length) (hit : ∀ (i : Nat) x y, xs[i]? = some x → ys[i]? = some y → x.1 = y.1 ∧ SeqAt.EqAt A s x.2.2 y.2.2 true) (h : Q true s) : wpAny (model P w) A (Builtin.Dict.samePairs nm a b) Q E s := by
  obtain ⟨oa, es, ep, hoa, _, hda, hea, hia, hna⟩ := ma
  obtain ⟨ob, es', ep', hob, _, hdb, heb, hib, hnb⟩ := mb
  have s1 := mx_size hea
  have s2 := mx_size heb
  unfold Builtin.Dict.samePairs Builtin.Dict.showsAll
  rw [if_neg (show ¬ (a == sysModules) = true by rw [ha]; exact Bool.false_ne_true), if_neg (show ¬ (b == sysModules) = true by rw [hb]; exact Bool.false_ne_true)]
  refine wpAny_bind (wpAny_pure (wpAny_bind (wpAny_pure ?_)))
  refine wpAny_bind (wpAny_dictEntries hoa hda ?_)
  dsimp only
  refine wpAny_bind (wpAny_dictEntries hob hdb ?_)
  rw [if_neg (by rw [s1, s2, hl]; simp)]
  refine wpAny_bind (wpAny_dictEpoch hoa hda ?_)
  refine wpAny_bind ?_
  rw [Std.Legacy.Range.forIn_eq_forIn_range']
  simp only [Std.Legacy.Range.size, Nat.sub_zero, Nat.add_sub_cancel, Nat.div_one]
  refine wpAny_forIn_list _ (fun rest q s' => s' = s ∧ q = (none, ()) ∧ ∀ x ∈ rest, x < es.size) _ ?_ ?_ _ _ ⟨rfl, rfl, fun x hx => by have := List.mem_range'_1.mp hx; omega⟩
  · rintro x rest q s' ⟨rfl, rfl, hr⟩
    have hlt : x < es.size := hr x List.mem_cons_self
    refine wpAny_bind (wpAny_dictEntries hoa hda ?_)
    rw [Array.getElem?_eq_getElem hlt]
    have hx1 : x < xs.length := by omega
    have hx2 : x < ys.length := by omega
    have e1 : es[x] = mxE P w xs[x] := by
      have := mx_at hea x
      rw [Array.getElem?_eq_getElem hlt, List.getElem?_eq_getElem hx1] at this
      exact Option.some.inj this
    obtain ⟨k1, k2⟩ := hit x _ _ (List.getElem?_eq_getElem hx1) (List.getElem?_eq_getElem hx2)
    show wpAny _ _ (holding [es[x].key, es[x].val] _ >>= _) _ _ _
    rw [e1]
    refine wpAny_bind (wpAny_holding (wpAny_bind (mx_find hu (hia _ (List.getElem_mem hx1)) hob hdb heb hib hnb (fun no => ?_) fun j p hj => ?_)))
    · exact absurd (List.getElem?_eq_getElem hx2) (by
        have := no x ys[x].2
        rw [k1] at this
        exact this)
    · have ej : j = x := by
        refine mx_idx hnb (k := xs[x].1) (p := p) (q := ys[x].2) hj ?_
        rw [List.getElem?_eq_getElem hx2, k1]
      subst ej
      refine wpAny_bind (wpAny_dictEntries hob hdb ?_)
      rw [mx_at heb j, List.getElem?_eq_getElem hx2]
      refine wpAny_holding (k2 P w _ _ ?_)
      show wpAny _ _ (if (!true) = true then _ else _) _ _ _
      rw [if_neg (by decide)]
      refine wpAny_bind (wpAny_dictEpoch hoa hda ?_)
      rw [if_neg (by simp)]
      exact wpAny_pure ⟨rfl, rfl, fun y hy => hr y (List.mem_cons_of_mem _ hy)⟩
  · rintro q s' ⟨rfl, rfl, _⟩
    exact wpAny_pure h
theorem Mx.typeIs {a : Addr} {xs : List MX} (m : Mx P w s.heap a xs) : s.TypeIs (.ref a) "dict" := by
  obtain ⟨o, _, _, ho, hc, _⟩ := m
  exact ⟨o, ho, hc.1⟩
theorem mx_ne {a b : Addr} {xs ys : List MX} {Q : Value → Shared → Prop} (hu : A.units + 1 < cLine) (ha : (a == sysModules) = false) (hb : (b == sysModules) = false) (ma : Mx P w s.heap a xs) (mb : Mx P w s.heap b ys)
    (hl : xs.length = ys.length) (hit : ∀ (i : Nat) x y, xs[i]? = some x → ys[i]? = some y → x.1 = y.1 ∧ SeqAt.EqAt A.in1 s x.2.2 y.2.2 true) (h : Q (.bool false) s) : wpAny (model P w) A (compareOp .NotEq (.ref a) (.ref b)) Q E s := by
  refine wpAny_richCompare_same_room (op := .NotEq) ma.typeIs mb.typeIs PySem.F.slot_dict_ne (wpAny_call_entry PySem.F.slot_dict_ne ma.typeIs PySem.F.entry_dict_ne ?_ (PySem.F.args_dict_ne_2 _ _)) (by omega)
  show wpAny _ _ (Builtin.Dict.dictSlotArgs "__ne__" ⟨[.ref a, .ref b], []⟩ >>= _) _ _ s
  refine wpAny_bind ?_
  unfold Builtin.Dict.dictSlotArgs
  refine wpAny_bind (wpAny_notOrdered_dict ma.typeIs ?_)
  show wpAny _ _ (pure (Value.ref a, Value.ref b)) _ _ s
  refine wpAny_pure ?_
  refine wpAny_bind (wpAny_isInstance (T := "dict") mb.typeIs PySem.F.sub_dict_dict ?_)
  simp only [Bool.not_true, Bool.false_eq_true, if_false]
  refine wpAny_bind (wpAny_pure (wpAny_bind (wpAny_pure ?_)))
  refine wpAny_bind (mx_same (by simpa using hu) ha hb ma mb hl hit ?_)
  refine wpAny_pure ⟨_, rfl, ?_, ?_⟩
  · exact fun x => nomatch x
  · simpa using h
end
def DV (P : Program) (w : World) (H : Hp) (a : Addr) (kvs : List MV) : Prop := MD P w H a kvs ∨ ∃ ks : List (Key × V), H a = some (.dK ks) ∧ kvs = ks.map fun p => (MK.k p.1, kV p.1, p.2)
theorem dk_mx {P : Program} {w : World} {es : List DictEntry} {vs : List (Key × Value)} (r : Pairs (mixKind P w) es vs) : ∀ {ks : List (Key × V)}, KV ks vs → (∀ e ∈ es, ∃ k, (mixKind P w).is k e.key = true ∧ e.hash = (mixKind P w).hash k) →
    ∃ xs : List MX, es = xs.map (mxE P w) ∧ Paired mvR (ks.map fun p => (MK.k p.1, kV p.1, p.2)) xs ∧ ∀ (h : Heap), ∀ x ∈ xs, mkIs P w h x.1 x.2.1 := by
  induction r with
  | nil =>
    intro ks kv _
    cases kv
    exact ⟨[], rfl, .nil, fun h x hx => by cases hx⟩
  | @cons e kv es vs h1 h2 _ ih =>
    intro ks r hk
    cases r with
    | @cons p _ ks' _ a b =>
      obtain ⟨xs, e1, e2, e3⟩ := ih b fun e he => hk e (List.mem_cons_of_mem _ he)
      obtain ⟨k, g1, g2⟩ := hk e (List.mem_cons_self ..)
      have ek : k = kv.1 := (mixKind P w).inj _ _ _ g1 h1
      subst ek
      obtain ⟨a1, a2⟩ := a
      refine ⟨(MK.k kv.1, e.key, e.val) :: xs, ?_, .cons ⟨show MK.k p.1 = MK.k kv.1 by rw [a1], show RelV (kV p.1) e.key by rw [a1]; exact kV_rel h1, show RelV p.2 e.val by rw [h2]; exact a2⟩ e2, fun h x hx => ?_⟩
      · rw [List.map_cons, ← e1]
        have : e = mxE P w (MK.k kv.1, e.key, e.val) := by
          obtain ⟨eh, ek, ev⟩ := e
          show _ = (⟨keyH w kv.1, ek, ev⟩ : DictEntry)
          rw [show eh = keyH w kv.1 from g2]
        rw [← this]
      · rcases List.mem_cons.mp hx with z | z
        · subst z
          have := keyIs_shape (show keyIs kv.1 e.key = true from h1)
          rcases this with ⟨i, t, q1, q2⟩ | ⟨x, t, q1, q2⟩
          · rw [q1]; exact .inl ⟨t, q2⟩
          · rw [q1]; exact ⟨t, q2⟩
        · exact e3 h x z
theorem DV.mx {P : Program} {w : World} {H : Hp} {h : Heap} {a : Addr} {kvs : List MV} (d : DV P w H a kvs) (ok : HOk P w H h) : ∃ xs, Paired mvR kvs xs ∧ Mx P w h a xs ∧ (a == sysModules) = false := by
  rcases d with m | ⟨ks, e, rfl⟩
  · obtain ⟨xs, r, x⟩ := m.mx ok
    exact ⟨xs, r, x, m.sy⟩
  · obtain ⟨_, hs, vs, rel, o, es, ep, ho, ex, hd, hk, ps, nd⟩ := (show ObjOk P w H h a (.dK ks) from ok a _ e)
    obtain ⟨xs, e1, e2, e3⟩ := dk_mx ps rel fun e he => hk e (Array.mem_toList_iff.mp he)
    refine ⟨xs, e2, ⟨o, es, ep, ho, ex, hd, e1, e3 h, ?_⟩, hs⟩
    rw [← Paired.keys e2, List.map_map]
    have kk : ∀ {ks : List (Key × V)} {vs : List (Key × Value)}, KV ks vs → vs.map (·.1) = ks.map (·.1) := by
      intro ks vs h
      induction h with
      | nil => rfl
      | cons a _ ih => rw [List.map_cons, List.map_cons, ih, a.1]
    rw [kk rel] at nd
    have z : (ks.map fun p => MK.k p.1) = (ks.map (·.1)).map MK.k := by rw [List.map_map]; rfl
    show (ks.map fun p => MK.k p.1).Nodup
    rw [z]
    exact List.Pairwise.map MK.k (fun a b h e => h (by cases e; rfl)) nd
def rNeM (P : Program) (w : World) : R2 := fun x y H Q => ∃ a b kvs, x = .ref a ∧ y = .ref b ∧ DV P w H a kvs ∧ DV P w H b kvs ∧ (∀ p ∈ kvs, okV p.2.2 = true) ∧ Q (.bl false) H
theorem op_neM {X : Cx} (hu : X.A.units + 8 < cLine) : OpR X (compareOp .NotEq) (rNeM X.prog X.w) := by
  intro pins s σ H x y v u Q I rx ry h
  obtain ⟨a, b, kvs, rfl, rfl, da, db, ok, q⟩ := h
  cases rx
  cases ry
  obtain ⟨xs, r1, m1, z1⟩ := da.mx I.hok
  obtain ⟨ys, r2, m2, z2⟩ := db.mx I.hok
  have get : ∀ {kvs : List MV} {xs : List MX}, Paired mvR kvs xs → ∀ (i : Nat) x, xs[i]? = some x → ∃ p, kvs[i]? = some p ∧ mvR p x := by
    intro kvs xs r
    induction r with
    | nil => intro i x h; cases h
    | cons a b ih =>
      intro i x h2
      cases i with
      | zero => cases h2; exact ⟨_, rfl, a⟩
      | succ i => exact ih i x h2
  have l1 := congrArg List.length (Paired.keys r1)
  have l2 := congrArg List.length (Paired.keys r2)
  rw [List.length_map, List.length_map] at l1 l2
  refine mx_ne (by omega) z1 z2 m1 m2 (by omega) (fun i x y hx hy => ?_) ⟨.bl false, H, I, rfl, q⟩
  obtain ⟨p, hp, e1, _, v1⟩ := get r1 i x hx
  obtain ⟨p', hp', e2, _, v2⟩ := get r2 i y hy
  rw [hp] at hp'
  cases hp'
  exact ⟨by rw [← e1, e2], eqAt_same (ok p (List.mem_of_getElem? hp)) v1 v2⟩
end My
set_option Elab.async false
set_option linter.all false
set_option maxRecDepth 100000
set_option maxHeartbeats 1000000
namespace My
open PySem PySem.Spec PyProof.Rows L2
theorem MD.raw {P : Program} {w : World} {H : Hp} {a : Addr} {kvs : List MV} (m : MD P w H a kvs) : ∃ o, H a = some (RawO a o) ∧ o.cls = .type "dict" ∧ MxOk P w o kvs := by
  obtain ⟨o, e, mo⟩ := m.ob
  exact ⟨o, e, mo.1.1, mo⟩
section
variable {X : Cx}
def rNeS : R2 := fun x y H Q => ∃ z k, x = .str z ∧ MkV H k y ∧ Q (.bl (!decide (k = MK.k (.inr z)))) H
theorem op_neS (hu : X.A.units + 8 < cLine) : OpR X (compareOp .NotEq) rNeS := by
  intro pins s σ H x y v u Q I rx ry h
  obtain ⟨z, k, rfl, hk, q⟩ := h
  match k, hk with
  | .k (.inl i), .inl e =>
    subst e
    refine op_ne pins s σ H _ _ v u Q I rx ry ⟨rfl, ?_⟩
    rw [show (!decide (V.str z = V.int i)) = true by simp]
    rw [decide_eq_false (fun e => by cases e)] at q
    exact q
  | .k (.inl i), .inr ⟨b, e, _⟩ =>
    subst e
    refine op_ne pins s σ H _ _ v u Q I rx ry ⟨rfl, ?_⟩
    rw [show (!decide (V.str z = V.bl b)) = true by simp]
    rw [decide_eq_false (fun e => by cases e)] at q
    exact q
  | .k (.inr y'), e =>
    obtain rfl : y = .str y' := e
    refine op_ne pins s σ H _ _ v u Q I rx ry ⟨rfl, ?_⟩
    rw [show (decide (V.str z = V.str y')) = decide (MK.k (.inr y') = MK.k (.inr z)) from decide_eq_decide.mpr ⟨fun e => by cases e; rfl, fun e => by cases e; rfl⟩]
    exact q
  | .no, e =>
    obtain rfl : y = .non := e
    refine op_ne pins s σ H _ _ v u Q I rx ry ⟨rfl, ?_⟩
    rw [show (!decide (V.str z = V.non)) = true by simp]
    rw [decide_eq_false (fun e => by cases e)] at q
    exact q
  | .tu ks, ⟨b, e, x⟩ =>
    subst e
    cases ry
    obtain ⟨t, rfl⟩ := rx
    obtain ⟨its, r1, p1, _⟩ := I.tuple (.inl (.inl x))
    rw [decide_eq_false (fun e => by cases e)] at q
    exact SeqAt.RcNeAt.str_tuple z t p1 (by omega) X.prog X.w X.xe (EP X pins σ Q) ⟨.bl true, H, I, rfl, q⟩
def tClrX (P : Program) (w : World) (to : TE) : TE := fun σ H Q => to σ H fun x H1 => ∃ p kvs, x = .ref p ∧ DV P w H1 p kvs ∧ kvs.length ≤ 60 ∧ Q .non (upd H1 p (.dK []))
variable {o : Expr} {to : TE} {apos cpos : Pos}
theorem pe_clrX (ho : PE X o to) (hbase : attributeBase o "clear" X.env (eval o X.env) = eval o X.env := by rfl) (hline : (apos.endLine == cpos.line) = true := by rfl) : PE X (.Call (.Attribute o "clear" apos) [] [] cpos) (tClrX X.prog X.w to) := by
  intro pins s σ H Q I h
  refine wpAny_Call_method0_late hbase hline (thn (ho pins s σ H _ I h) fun v s1 ⟨x, H1, I1, r1, p, kvs, e, dv, h60, q1⟩ => ?_)
  subst e
  cases r1
  obtain ⟨xs, _, ⟨o1, es, ep, g1, ex, _⟩, _⟩ := dv.mx I1.hok
  refine ⟨"dict", _, PySem.F.plainAttrs_dict, PySem.F.slot_dict_clear, PySem.F.type_dict_clear, ⟨o1, g1, ex.1⟩, fun a e2 => ?_, Calls.callWith_builtin rfl (PySem.evalArgs_none (mt_clearX pins s1 σ H1 (.ref p) [] _ [] Q I1 rfl .nil ?_))⟩
  · cases e2
    exact ⟨o1, g1, ex.2.1⟩
  · rcases dv with m | ⟨ks, e, _⟩
    · exact .inr ⟨p, kvs, rfl, rfl, m, h60, q1⟩
    · exact .inl ⟨p, ks, rfl, rfl, e, q1⟩
end
section
variable {P : Program} {w : World} {K : PySem.W.Frag} {σ : L2.St} {H : Hp} {D : Ends} {Q : VK} {g : TG} {tb : TS} {tl : TE} {a : Addr} {o : Obj} {kvs : List MV} {R : It → Hp → Prop}
theorem f_dictM (Pv : Nat → L2.St → Hp → Prop) (h0 : Pv 0 σ H) (hl : ∀ i σ H, i ≤ kvs.length → Pv i σ H → H a = some (RawO a o))
    (hs : ∀ i p σ H, kvs[i]? = some p → Pv i σ H → g p.2.1 σ H fun σ2 H2 => tb { nx := Pv (i + 1), rt := D.rt, bk := D.nx, ct := Pv (i + 1) } σ2 H2) (hd : ∀ σ H, Pv kvs.length σ H → D.nx σ H) : FOR (ItM a o kvs) g tb D σ H := by
  refine ⟨fun i m σ H => m = kvs.length - i ∧ i ≤ kvs.length ∧ Pv i σ H, ⟨kvs.length, rfl, Nat.zero_le _, h0⟩, ?_⟩
  rintro i m σ H ⟨rfl, hi, p⟩
  have q := hl i σ H hi p
  by_cases hlt : i < kvs.length
  · refine .inr ⟨⟨q, hlt⟩, Pv (i + 1), fun σ' H' p' => ⟨kvs.length - (i + 1), by omega, rfl, hlt, p'⟩, fun x H' y => ?_⟩
    obtain ⟨e, p2, hk, rfl⟩ := y
    subst e
    exact hs i p2 σ _ hk p
  · have e : i = kvs.length := Nat.le_antisymm hi (Nat.le_of_not_lt hlt)
    subst e
    exact .inl ⟨⟨q, Nat.le_refl _⟩, hd σ H p⟩
theorem r_iX (h : tl σ H fun x H1 => rItX P w x H1 R) : iDictX P w tl σ H R := h
theorem r_itXd {ks : List (Key × V)} (e : H a = some (.dK ks)) (h : ∀ o, R (ItD a o ks) (upd H a (.frz o (.dK ks)))) : rItX P w (.ref a) H R := .inl (r_itD e h)
theorem r_itXm (m : MD P w H a kvs) (h : ∀ o, H a = some (RawO a o) → R (ItM a o kvs) H) : rItX P w (.ref a) H R := .inr ⟨a, kvs, rfl, m, h⟩
theorem r_isiM (m : MD P w H a kvs) (q : Q (.bl true) H) : rIsiX K [.ref a, .ty "dict"] H Q := by
  obtain ⟨o, e, hc, _⟩ := m.raw
  exact .inr ⟨a, o, rfl, e, hc, q⟩
theorem r_isi0 {xs : List V} (h : rIsi K xs H Q) : rIsiX K xs H Q := .inl h
theorem r_clrX {to : TE} (h : to σ H fun x H1 => ∃ p kvs, x = .ref p ∧ DV P w H1 p kvs ∧ kvs.length ≤ 60 ∧ Q .non (upd H1 p (.dK []))) : tClrX P w to σ H Q := h
theorem r_neMk {z : Str} {k : MK} {y : V} (hk : MkV H k y) (q : Q (.bl (!decide (k = MK.k (.inr z)))) H) : rNeS (.str z) y H Q := ⟨z, k, rfl, hk, q⟩
end
end My
set_option Elab.async false
set_option linter.all false
set_option maxRecDepth 100000
set_option maxHeartbeats 4000000
set_option exponentiation.threshold 1000
namespace Our
open PySem L2 My
def top (i : Nat) : PySem.Stmt := PySem.Challenge.pw_quotatree_k06_amounts_taken.main.body.getD i (.Pass ⟨0, 0, 0, 0⟩)
abbrev s_is_whole : PySem.Stmt := top 5
abbrev s_is_whole_from : PySem.Stmt := top 6
abbrev s_is_amount : PySem.Stmt := top 8
abbrev s_amounts_of : PySem.Stmt := top 9
abbrev s_above_nought : PySem.Stmt := top 10
abbrev s_cell : PySem.Stmt := top 12
abbrev s_whole : PySem.Stmt := top 13
abbrev s_name : PySem.Stmt := top 14
abbrev s_rows : PySem.Stmt := top 15
abbrev s_put : PySem.Stmt := top 16
abbrev s_bad_key : PySem.Stmt := top 17
abbrev s_bad_value : PySem.Stmt := top 18
abbrev s_no_dict : PySem.Stmt := top 19
abbrev s_asked : PySem.Stmt := top 20
abbrev s_alike : PySem.Stmt := top 21
abbrev s_law : PySem.Stmt := top 22
structure Ad where
  f_is_whole : Addr
  fd_is_whole : FuncData
  f_is_whole_from : Addr
  fd_is_whole_from : FuncData
  f_is_amount : Addr
  fd_is_amount : FuncData
  f_amounts_of : Addr
  fd_amounts_of : FuncData
  f_above_nought : Addr
  fd_above_nought : FuncData
  f_cell : Addr
  fd_cell : FuncData
  f_whole : Addr
  fd_whole : FuncData
  f_name : Addr
  fd_name : FuncData
  f_rows : Addr
  fd_rows : FuncData
  f_put : Addr
  fd_put : FuncData
  f_bad_key : Addr
  fd_bad_key : FuncData
  f_bad_value : Addr
  fd_bad_value : FuncData
  f_no_dict : Addr
  fd_no_dict : FuncData
  f_asked : Addr
  fd_asked : FuncData
  f_alike : Addr
  fd_alike : FuncData
  f_law : Addr
  fd_law : FuncData
  c_TreeError : Addr
  c_NoAmount : Addr
  c_NoWare : Addr
structure Tx (K : PySem.W.Frag) (mg : Str → Option Value) (d : Ad) : Prop where
  F_is_whole : Fun K "is_whole" "is_whole" s_is_whole d.f_is_whole d.fd_is_whole
  m_is_whole : mg "is_whole" = some (.ref d.f_is_whole)
  b_is_whole : Binds K d.fd_is_whole ["thing"] []
  F_is_whole_from : Fun K "is_whole_from" "is_whole_from" s_is_whole_from d.f_is_whole_from d.fd_is_whole_from
  m_is_whole_from : mg "is_whole_from" = some (.ref d.f_is_whole_from)
  b_is_whole_from : Binds K d.fd_is_whole_from ["thing", "least", "most"] []
  F_is_amount : Fun K "is_amount" "is_amount" s_is_amount d.f_is_amount d.fd_is_amount
  m_is_amount : mg "is_amount" = some (.ref d.f_is_amount)
  b_is_amount : Binds K d.fd_is_amount ["thing"] []
  F_amounts_of : Fun K "amounts_of" "amounts_of" s_amounts_of d.f_amounts_of d.fd_amounts_of
  m_amounts_of : mg "amounts_of" = some (.ref d.f_amounts_of)
  b_amounts_of : Binds K d.fd_amounts_of ["handed", "wares"] []
  F_above_nought : Fun K "above_nought" "above_nought" s_above_nought d.f_above_nought d.fd_above_nought
  m_above_nought : mg "above_nought" = some (.ref d.f_above_nought)
  b_above_nought : Binds K d.fd_above_nought ["amounts"] []
  F_cell : Fun K "_law_cell" "_law_cell" s_cell d.f_cell d.fd_cell
  m_cell : mg "_law_cell" = some (.ref d.f_cell)
  b_cell : Binds K d.fd_cell ["_law_script", "_law_k"] []
  F_whole : Fun K "_law_whole" "_law_whole" s_whole d.f_whole d.fd_whole
  m_whole : mg "_law_whole" = some (.ref d.f_whole)
  b_whole : Binds K d.fd_whole ["_law_found"] []
  F_name : Fun K "_law_name" "_law_name" s_name d.f_name d.fd_name
  m_name : mg "_law_name" = some (.ref d.f_name)
  b_name : Binds K d.fd_name ["_law_script", "_law_number"] []
  F_rows : Fun K "_law_rows" "_law_rows" s_rows d.f_rows d.fd_rows
  m_rows : mg "_law_rows" = some (.ref d.f_rows)
  b_rows : Binds K d.fd_rows ["_law_script", "_law_wares"] []
  F_put : Fun K "_law_put" "_law_put" s_put d.f_put d.fd_put
  m_put : mg "_law_put" = some (.ref d.f_put)
  b_put : Binds K d.fd_put ["_law_rows_here", "_law_cell_here", "_law_row"] []
  F_bad_key : Fun K "_law_bad_key" "_law_bad_key" s_bad_key d.f_bad_key d.fd_bad_key
  m_bad_key : mg "_law_bad_key" = some (.ref d.f_bad_key)
  b_bad_key : Binds K d.fd_bad_key ["_law_script", "_law_cell_here"] []
  F_bad_value : Fun K "_law_bad_value" "_law_bad_value" s_bad_value d.f_bad_value d.fd_bad_value
  m_bad_value : mg "_law_bad_value" = some (.ref d.f_bad_value)
  b_bad_value : Binds K d.fd_bad_value ["_law_cell_here"] []
  F_no_dict : Fun K "_law_no_dict" "_law_no_dict" s_no_dict d.f_no_dict d.fd_no_dict
  m_no_dict : mg "_law_no_dict" = some (.ref d.f_no_dict)
  b_no_dict : Binds K d.fd_no_dict ["_law_cell_here", "_law_rows_here"] []
  F_asked : Fun K "_law_asked" "_law_asked" s_asked d.f_asked d.fd_asked
  m_asked : mg "_law_asked" = some (.ref d.f_asked)
  b_asked : Binds K d.fd_asked ["_law_handed", "_law_wares"] []
  F_alike : Fun K "_law_alike" "_law_alike" s_alike d.f_alike d.fd_alike
  m_alike : mg "_law_alike" = some (.ref d.f_alike)
  b_alike : Binds K d.fd_alike ["_law_found", "_law_due"] []
  F_law : Fun K "law" "law" s_law d.f_law d.fd_law
  m_law : mg "law" = some (.ref d.f_law)
  m_TreeError : mg "TreeError" = some (.ref d.c_TreeError)
  m_NoAmount : mg "NoAmount" = some (.ref d.c_NoAmount)
  m_NoWare : mg "NoWare" = some (.ref d.c_NoWare)
  z_bool : mg "bool" = none
  z_dict : mg "dict" = none
  z_int : mg "int" = none
  z_isinstance : mg "isinstance" = none
  z_len : mg "len" = none
  z_list : mg "list" = none
  z_range : mg "range" = none
  z_str : mg "str" = none
  kAA : PySem.W.kitCls K (.ref d.c_NoAmount) (.ref d.c_NoAmount) = some true
  kWA : PySem.W.kitCls K (.ref d.c_NoWare) (.ref d.c_NoAmount) = some false
  kWW : PySem.W.kitCls K (.ref d.c_NoWare) (.ref d.c_NoWare) = some true
  X_NoAmount : My.XCls K d.c_NoAmount
  X_NoWare : My.XCls K d.c_NoWare
  B_NoAmount : PySem.W.kitCls K (.ref d.c_NoAmount) (.type "BaseException") = some true
  B_NoWare : PySem.W.kitCls K (.ref d.c_NoWare) (.type "BaseException") = some true
def sp_cell (K : PySem.W.Frag) (d : Ad) : Sp := fun vs H Q _ => ∃ (a : Addr) (ns : List Int) (k : Int), vs = [.ref a, .int k] ∧ SqL K H a (ns.map V.int) ∧ 0 ≤ k ∧ Q (.int (cell ns k)) H
def sp_above_nought (K : PySem.W.Frag) (d : Ad) : Sp := fun vs H Q _ => ∃ (a : Addr) (kvs : List (Key × V)) (f : Str → Option Int), vs = [.ref a] ∧ H a = some (.dK kvs) ∧ AD kvs f ∧ kvs.length ≤ 1000 ∧
  ∀ l k' H', Same H H' → H l = none → H' l = some (.dK k') → AD k' (posF f) → Q (.ref l) H'
def sp_whole (K : PySem.W.Frag) (d : Ad) : Sp := fun vs H Q _ => ∃ i : Int, vs = [.int i] ∧ Q (.bl true) H
def sp_alike (K : PySem.W.Frag) (d : Ad) : Sp := fun vs H Q _ => ∃ (a b : Addr) (ka kb : List (Key × V)) (f : Str → Option Int), vs = [.ref a, .ref b] ∧ a ≠ b ∧ H a = some (.dK ka) ∧ Rd H b (.dK kb) ∧ AD ka f ∧ AD kb f ∧ ∀ H', Same H H' → Q (.bl true) H'
def sp_law0 (K : PySem.W.Frag) : Sp := fun vs H Q _ => ∃ (a : Addr) (ns : List Int), vs = [.ref a] ∧ SqL K H a (ns.map V.int) ∧ ns.length ≤ 63 ∧ ∀ H', Q (.bl true) H'
def sp_law (K : PySem.W.Frag) (d : Ad) : Sp := sp_law0 K
section
variable {K : PySem.W.Frag} {d : Ad} {H : Hp} {Q : VK} {E : XK}
theorem u_cell {a : Addr} {ns : List Int} {k : Int} (hS : SqL K H a (ns.map V.int)) (h0 : 0 ≤ k) (q : Q (.int (cell ns k)) H) : sp_cell K d [.ref a, .int k] H Q E := ⟨a, ns, k, rfl, hS, h0, q⟩
theorem u_whole {i : Int} (q : Q (.bl true) H) : sp_whole K d [.int i] H Q E := ⟨i, rfl, q⟩
end
local macro_rules | `(tactic| walk_at "kit") => `(tactic| (with_reducible (first | assumption | exact My.kit_int_int | exact My.kit_int_bool | exact My.kit_int_str | exact My.kit_int_lst | exact My.kit_int_tup | exact My.kit_int_dct | exact My.kit_bool_int | exact My.kit_bool_bool | exact My.kit_bool_str | exact My.kit_bool_lst | exact My.kit_bool_tup | exact My.kit_bool_dct | exact My.kit_str_int | exact My.kit_str_bool | exact My.kit_str_str | exact My.kit_str_lst | exact My.kit_str_tup | exact My.kit_str_dct | exact My.kit_non_int | exact My.kit_non_bool | exact My.kit_non_str | exact My.kit_non_lst | exact My.kit_non_tup | exact My.kit_non_dct | exact My.kit_lst_int | exact My.kit_lst_bool | exact My.kit_lst_str | exact My.kit_lst_lst | exact My.kit_lst_tup | exact My.kit_lst_dct | exact My.kit_tup_int | exact My.kit_tup_bool | exact My.kit_tup_str | exact My.kit_tup_lst | exact My.kit_tup_tup | exact My.kit_tup_dct | exact My.kit_dct_int | exact My.kit_dct_bool | exact My.kit_dct_str | exact My.kit_dct_lst | exact My.kit_dct_tup | exact My.kit_dct_dct)))
local macro_rules | `(tactic| walk_at "ty") => `(tactic| (first | (with_reducible assumption) | (with_reducible exact TyOf.int _) | (with_reducible exact TyOf.bl _) | (with_reducible exact TyOf.str _) | (with_reducible exact TyOf.non) | ((with_reducible refine' TyOf.tup ?h); (case h => walk_at "heap")) | ((with_reducible refine' TyOf.lst ?h); (case h => walk_at "heap")) | ((with_reducible refine' TyOf.dK ?h); (case h => walk_at "heap"))))
local macro_rules | `(tactic| walk_at "heap") => `(tactic| first | with_reducible assumption | with_reducible exact upd_same | ((with_reducible refine' look_new ?h ?n); (case n => with_reducible assumption); (case h => walk_at "heap")))
local macro_rules | `(tactic| walk_at "sqL") => `(tactic| first | with_reducible assumption | ((with_reducible refine' sqL_new ?h ?n); (case n => with_reducible assumption); (case h => walk_at "sqL")) | ((with_reducible refine' SqL.of ?h); (case h => walk_at "heap")))
local macro_rules | `(tactic| walk_at "sqT") => `(tactic| first | with_reducible assumption | ((with_reducible refine' sqT_new ?h ?n); (case n => with_reducible assumption); (case h => walk_at "sqT")) | ((with_reducible refine' SqT.of ?h); (case h => walk_at "heap")))
local macro_rules | `(tactic| walk_at "side") => `(tactic| first | assumption | exact rfl | omega | decide | (simp only [List.length_cons, List.length_nil, List.length_map]; omega) | exact ⟨by omega, by omega⟩ | exact ⟨by decide, by decide⟩ | exact ⟨by omega, by assumption⟩ | exact ⟨by assumption, by assumption⟩ | exact ⟨by decide, by assumption⟩ | exact ⟨by decide, by decide, by decide⟩)
local macro_rules | `(tactic| walk_at "size") => `(tactic| (first | assumption | (simp only [List.length_cons, List.length_nil, List.length_map, List.length_take]; first | decide | (show _ ≤ 16777216; omega) | (show _ < 16777216; omega)) | (show _ ≤ 16777216; omega) | (show _ < 16777216; omega)))
local macro_rules | `(tactic| walk_at "sp") => `(tactic| fail)
local macro_rules | `(tactic| walk_at "r1") => `(tactic| first
  | (with_reducible refine r_var (by with_unfolding_all exact rfl) ?_)
  | (with_reducible refine r_c ?_) | (with_reducible refine r_op ?_) | (with_reducible refine r_un ?_)
  | (with_reducible refine r_I0 ?_) | (with_reducible refine r_U ?_)
  | ((with_reducible refine r_I ?hc ?_); (case hc => walk_at "side"))
  | (with_reducible refine r_eqI ?_) | (with_reducible refine r_neI ?_) | (with_reducible refine r_eqB ?_) | (with_reducible refine r_eqS ?_) | (with_reducible refine r_neS ?_)
  | (with_reducible refine r_exb ?_) | (with_reducible refine r_test ?_) | (with_reducible refine r_tB ?_)
  | (with_reducible refine r_and ?_) | (with_reducible refine r_or ?_) | (with_reducible refine r_not ?_)
  | (with_reducible refine r_andV ?_) | (with_reducible refine r_orV ?_) | (with_reducible refine r_notV ?_) | (with_reducible refine r_ifE ?_)
  | (with_reducible refine r_next ?_) | (with_reducible refine r_seq ?_) | (with_reducible refine r_drop ?_) | (with_reducible refine r_ret ?_) | (with_reducible refine r_retN ?_)
  | (with_reducible refine r_if ?_) | (with_reducible refine r_asg ?_)
  | (with_reducible refine r_name (by with_unfolding_all (simp only [List.set]; exact rfl)) ?_)
  | (with_reducible refine r_gnil ?_) | (with_reducible refine r_gcons ?_)
  | ((with_reducible refine' r_gtup ?s ?n ?_); (case s => walk_at "sqT"); (case n => exact rfl))
  | (with_reducible refine r_for ?_) | (with_reducible refine r_iL ?_) | (with_reducible refine r_iT ?_) | (with_reducible refine r_iR ?_)
  | ((with_reducible refine' r_itL ?s ?_); (case s => walk_at "sqL")) | ((with_reducible refine' r_itT ?s ?_); (case s => walk_at "sqT")) | ((with_reducible refine' r_itR ?s ?t ?_); (case s => walk_at "side"); (case t => walk_at "side"))
  | (with_reducible refine r_par ?_) | (with_reducible refine r_two ?_)
  | (with_reducible refine r_gone (by with_unfolding_all (simp only [List.set]; exact rfl)) ?_) | (with_reducible refine r_goneR ?_)
  | (with_reducible refine r_nx ?_) | (with_reducible refine r_rt ?_) | (with_reducible refine r_bk ?_) | (with_reducible refine r_ct ?_)
  | (with_reducible refine r_nil ?_) | (with_reducible refine r_cons ?_) | (with_reducible refine r_tup ?_) | (with_reducible refine r_lst ?_)
  | ((with_reducible refine r_new ?n ?_); (case n => (simp only [List.length_cons, List.length_nil]; decide)))
  | ((with_reducible refine r_fresh ?_); intro p hp)
  | (with_reducible refine r_as ?_)
  | (with_reducible refine r_call ?_) | (with_reducible refine r_callX ?_) | (with_reducible refine r_cb ?_) | ((with_reducible refine r_try ?_); intro pins) | (with_reducible refine r_raise ?_)
  | ((with_reducible refine' r_ixT ?s ?e ?_); (case s => walk_at "sqT"); (case e => exact rfl))
  | (with_reducible refine r_comp ?_) | (with_reducible refine r_true ?_) | (with_reducible refine r_iS ?_) | (with_reducible refine r_itS ?_) | (with_reducible refine r_inS ?_)
  | ((with_reducible refine' r_app ?a ?z ?_); (case a => walk_at "heap"); (case z => walk_at "size"))
  | ((with_reducible refine' r_catS ?z ?_); (case z => walk_at "size")) | ((with_reducible refine' r_lenS ?z ?_); (case z => walk_at "size")) | ((with_reducible refine' r_slS ?z ?_); (case z => walk_at "size"))
  | (with_reducible refine r_sl ?_) | (with_reducible refine r_noPart ?_) | (with_reducible refine r_part ?_) | (with_reducible refine r_exi ?_) | (with_reducible refine r_chain ?_)
  | ((with_reducible refine' r_lenT ?s ?_); (case s => walk_at "sqT")) | ((with_reducible refine' r_lenL ?s ?_); (case s => walk_at "sqL"))
  | (with_reducible refine r_abs ?_) | (with_reducible refine r_isNn ?_) | (with_reducible refine r_isNr ?_) | (with_reducible refine r_isNi ?_) | (with_reducible refine r_isNb ?_) | (with_reducible refine r_isNs ?_)
  | (with_reducible refine r_notNn ?_) | (with_reducible refine r_notNr ?_) | (with_reducible refine r_notNi ?_) | (with_reducible refine r_isTb ?_) | (with_reducible refine r_isTn ?_)
  | ((with_reducible refine' r_isi ?t ?k ?_); (case t => walk_at "ty"); (case k => walk_at "kit"))
  | (with_reducible refine i_nT ?_) | (with_reducible refine i_nF ?_)
  | (with_reducible refine iteT ?_) | (with_reducible refine iteF ?_)
  | ((with_reducible refine i_t ?c ?_); (case c => walk_at "side")) | ((with_reducible refine i_f ?c ?_); (case c => walk_at "side"))
  | ((with_reducible refine i_nt ?c ?_); (case c => walk_at "side")) | ((with_reducible refine i_nf ?c ?_); (case c => walk_at "side"))
  | walk_at "sp")
local macro_rules | `(tactic| walk_at "go") => `(tactic| repeat walk_at "r1")
local macro_rules | `(tactic| walk_at "rd") => `(tactic| first | with_reducible assumption | ((with_reducible refine' rd_new ?h ?n); (case n => with_reducible assumption); (case h => walk_at "rd")) | ((with_reducible refine' Rd.of ?h); (case h => walk_at "heap")))
local macro_rules | `(tactic| walk_at "same") => `(tactic| first | with_reducible assumption | exact Same.refl _ | ((with_reducible refine' same_upd ?h ?n); (case n => with_reducible assumption); (case h => walk_at "same")))
local macro_rules | `(tactic| walk_at "sp") => `(tactic| first
  | ((with_reducible refine r_disp1 ?_); intro p hp) | ((with_reducible refine' r_ds ?e ?_); (case e => walk_at "heap"))
  | ((with_reducible refine' r_glst ?s ?n ?_); (case s => walk_at "sqL"); (case n => exact rfl))
  | (with_reducible refine r_lrev ?_) | ((with_reducible refine' r_lrevk ?s ?_); (case s => walk_at "sqL"); intro p hp)
  | ((with_reducible refine' r_clear ?h ?_); (case h => walk_at "heap"))
  | ((with_reducible refine' u_cell ?s ?z ?_); (case s => walk_at "sqL"); (case z => walk_at "side")) | (with_reducible refine u_whole ?_) | (with_reducible refine r_iX ?_) | (with_reducible refine r_clrX ?_)
  | (with_reducible refine r_intB ?_) | (with_reducible refine r_neB ?_)
  | ((with_reducible refine' r_ixL ?s ?e ?_); (case s => walk_at "sqL"); (case e => exact rfl))
  | (with_reducible refine r_dg2 ?_) | ((with_reducible refine' r_dg2a ?r ?_); (case r => walk_at "rd")) | ((with_reducible refine' r_dg2b ?r ?a ?_); (case r => walk_at "rd"); (case a => with_reducible assumption))
  | (with_reducible refine r_dg ?_) | ((with_reducible refine' r_dgk ?r ?a ?e ?_); (case r => walk_at "rd"); (case a => with_reducible assumption); (case e => with_reducible assumption))
  | (with_reducible refine r_dp ?_) | ((with_reducible refine' r_dpk ?e ?z ?_); (case e => walk_at "heap"); (case z => walk_at "size"))
  | ((with_reducible refine r_dnew ?_); intro p hp) | (with_reducible refine r_thA ?_) | (with_reducible refine r_iD ?_)
  | ((with_reducible refine' r_dictCp ?e ?_); (case e => walk_at "rd"); intro p hp)
  | (with_reducible refine r_iZ ?_) | (with_reducible refine r_lp ?_) | (with_reducible refine r_max ?_) | (with_reducible refine r_min ?_) | (with_reducible refine r_tyS ?_)
  | (with_reducible refine r_mtX ?_) | ((with_reducible refine' r_mtkX ?e ?l ?_); (case e => walk_at "heap"); (case l => exact rfl)) | (with_reducible refine r_mkX ?_) | ((with_reducible refine' r_mtk ?e ?l ?_); (case e => walk_at "heap"); (case l => exact rfl))
  | (with_reducible refine r_notNs ?_) | (with_reducible refine r_di ?_) | ((with_reducible refine' r_diO ?r ?_); (case r => walk_at "rd"))
  | (with_reducible refine r_mk ?_) | (with_reducible refine r_mt ?_) | (with_reducible refine r_fl ?_) | (with_reducible refine r_fs ?_)
  | ((with_reducible refine' r_flk ?e ?c ?n ?l ?_); (case e => walk_at "heap"); (case c => with_reducible assumption); (case n => with_reducible assumption); (case l => exact rfl))
  | ((with_reducible refine' r_fsk ?e ?c ?n ?z ?_); (case e => walk_at "heap"); (case c => with_reducible assumption); (case n => with_reducible assumption); (case z => (show _ < 1000; decide)))
  | (with_reducible refine r_bm ?_) | (with_reducible refine r_bm0 ?_) | ((with_reducible refine' r_tyL ?s ?_); (case s => walk_at "sqL")) | ((with_reducible refine' r_tyD ?s ?_); (case s => walk_at "heap"))
  | ((with_reducible refine' r_append ?h ?z ?_); (case h => walk_at "heap"); (case z => walk_at "size")) | ((with_reducible refine' r_dclear ?h ?_); (case h => walk_at "heap"))
  | ((with_reducible refine r_szS ?z ?_); (case z => first | (show _ ≤ 16777216; omega) | (simp only [len_app]; show _ ≤ 16777216; omega))))
theorem sc_is_whole : FnScope ["thing"] ["thing"] (defScope s_is_whole) := ⟨rfl, rfl, rfl, by decide +kernel, rfl, by decide +kernel, by decide +kernel⟩
theorem sc_is_whole_from : FnScope ["thing", "least", "most"] ["thing", "least", "most"] (defScope s_is_whole_from) := ⟨rfl, rfl, rfl, by decide +kernel, rfl, by decide +kernel, by decide +kernel⟩
theorem sc_is_amount : FnScope ["thing"] ["thing"] (defScope s_is_amount) := ⟨rfl, rfl, rfl, by decide +kernel, rfl, by decide +kernel, by decide +kernel⟩
theorem sc_amounts_of : FnScope ["handed", "wares", "key", "ware"] ["handed", "wares"] (defScope s_amounts_of) := ⟨rfl, rfl, rfl, by decide +kernel, rfl, by decide +kernel, by decide +kernel⟩
theorem sc_above_nought : FnScope ["amounts", "told", "ware"] ["amounts"] (defScope s_above_nought) := ⟨rfl, rfl, rfl, by decide +kernel, rfl, by decide +kernel, by decide +kernel⟩
theorem sc_cell : FnScope ["_law_script", "_law_k"] ["_law_script", "_law_k"] (defScope s_cell) := ⟨rfl, rfl, rfl, by decide +kernel, rfl, by decide +kernel, by decide +kernel⟩
theorem sc_whole : FnScope ["_law_found"] ["_law_found"] (defScope s_whole) := ⟨rfl, rfl, rfl, by decide +kernel, rfl, by decide +kernel, by decide +kernel⟩
theorem sc_name : FnScope ["_law_script", "_law_number", "_law_letters", "_law_cell_here", "_law_size", "_law_at", "_law_shift", "_law_tail", "_law_name_here", "_law_k"] ["_law_script", "_law_number"] (defScope s_name) := ⟨rfl, rfl, rfl, by decide +kernel, rfl, by decide +kernel, by decide +kernel⟩
theorem sc_rows : FnScope ["_law_script", "_law_wares", "_law_rows_here", "_law_k", "_law_cell_here", "_law_many"] ["_law_script", "_law_wares"] (defScope s_rows) := ⟨rfl, rfl, rfl, by decide +kernel, rfl, by decide +kernel, by decide +kernel⟩
theorem sc_put : FnScope ["_law_rows_here", "_law_cell_here", "_law_row", "_law_left", "_law_at"] ["_law_rows_here", "_law_cell_here", "_law_row"] (defScope s_put) := ⟨rfl, rfl, rfl, by decide +kernel, rfl, by decide +kernel, by decide +kernel⟩
theorem sc_bad_key : FnScope ["_law_script", "_law_cell_here", "_law_known", "_law_some"] ["_law_script", "_law_cell_here"] (defScope s_bad_key) := ⟨rfl, rfl, rfl, by decide +kernel, rfl, by decide +kernel, by decide +kernel⟩
theorem sc_bad_value : FnScope ["_law_cell_here", "_law_far"] ["_law_cell_here"] (defScope s_bad_value) := ⟨rfl, rfl, rfl, by decide +kernel, rfl, by decide +kernel, by decide +kernel⟩
theorem sc_no_dict : FnScope ["_law_cell_here", "_law_rows_here"] ["_law_cell_here", "_law_rows_here"] (defScope s_no_dict) := ⟨rfl, rfl, rfl, by decide +kernel, rfl, by decide +kernel, by decide +kernel⟩
theorem sc_asked : FnScope ["_law_handed", "_law_wares", "_law_word", "_law_found"] ["_law_handed", "_law_wares"] (defScope s_asked) := ⟨rfl, rfl, rfl, by decide +kernel, rfl, by decide +kernel, by decide +kernel⟩
theorem sc_alike : FnScope ["_law_found", "_law_due", "_law_ware"] ["_law_found", "_law_due"] (defScope s_alike) := ⟨rfl, rfl, rfl, by decide +kernel, rfl, by decide +kernel, by decide +kernel⟩
theorem sc_law : FnScope ["_law_script", "_law_wares", "_law_rows_here", "_law_due", "_law_way", "_law_wrong", "_law_ware", "_law_many", "_law_handed", "_law_known", "_law_word", "_law_found"] ["_law_script"] (defScope s_law) := ⟨rfl, rfl, rfl, by decide +kernel, rfl, by decide +kernel, by decide +kernel⟩
theorem same_put {H H' : Hp} {a : Addr} {o : HO} (s : Same H H') (n : H a = none) : Same H (upd H' a o) := fun b u e => by rw [upd_ne (ne_of_none e n)]; exact s b u e
def isL (c : Nat) : Bool := decide (97 ≤ c) && decide (c ≤ 122)
def codes (x : Str) : List Nat := x.cps.toList
def goodS (x : Str) : Bool := decide (1 ≤ x.length) && decide (x.length ≤ 8) && (codes x).all isL
theorem len_codes (x : Str) : (codes x).length = x.length := by simp [codes, Str.length]
theorem goodS_of {z : Str} (h : goodS z = true) : 1 ≤ z.length ∧ z.length ≤ 8 ∧ ∀ c ∈ codes z, isL c = true := by
  unfold goodS at h
  rw [Bool.and_eq_true, Bool.and_eq_true, List.all_eq_true] at h
  exact ⟨of_decide_eq_true h.1.1, of_decide_eq_true h.1.2, h.2⟩
abbrev ABC : Str := Str.ofString "abcdefghijklmnopqrstuvwxyz"
def letc (i : Int) : Nat := 97 + (i % 26).toNat
theorem letAt (g : Int) : atI ABC.cps.toList (g % 26) = some (letc g) := by
  have e0 := Int.emod_nonneg g (show (26 : Int) ≠ 0 by decide)
  have e1 := Int.emod_lt_of_pos g (show (0 : Int) < 26 by decide)
  have h : ∀ k : Nat, k < 26 → ABC.cps.toList[k]? = some (97 + k) := by decide +kernel
  have e : g % 26 = (((g % 26).toNat : Nat) : Int) := by omega
  rw [e]
  rw [atI_nat (h (g % 26).toNat (by omega))]
  rfl
theorem letc_isL (g : Int) : isL (letc g) = true := by
  have e0 := Int.emod_nonneg g (show (26 : Int) ≠ 0 by decide)
  have e1 := Int.emod_lt_of_pos g (show (0 : Int) < 26 by decide)
  unfold isL letc
  rw [Bool.and_eq_true, decide_eq_true_iff, decide_eq_true_iff]
  omega
theorem letc_inj {g g' : Int} (h : letc g = letc g') : g % 26 = g' % 26 := by
  have e0 := Int.emod_nonneg g (show (26 : Int) ≠ 0 by decide)
  have f0 := Int.emod_nonneg g' (show (26 : Int) ≠ 0 by decide)
  unfold letc at h
  omega
def ofL (l : List Nat) : Str := ⟨l.toArray⟩
theorem codes_ofL (l : List Nat) : codes (ofL l) = l := by simp [codes, ofL]
theorem ofL_inj {l m : List Nat} (h : ofL l = ofL m) : l = m := by rw [← codes_ofL l, ← codes_ofL m, h]
theorem ofL_snoc (l : List Nat) (c : Nat) : ofL l ++ (⟨#[c]⟩ : Str) = ofL (l ++ [c]) := by
  have e : (ofL l ++ (⟨#[c]⟩ : Str)).cps = (ofL (l ++ [c])).cps := by
    rw [Str.cps_append]
    simp [ofL]
  exact congrArg Str.mk e
theorem ofL_len (l : List Nat) : (ofL l).length = l.length := by simp [ofL, Str.length]
def nJ (c1 sh A : Int) (j : Nat) : Nat := letc (c1.fdiv (0 + (j : Int) + 1) + (0 + (j : Int)) * (0 + (j : Int)) + sh * if decide (0 + (j : Int) = A) = true then 1 else 0)
def nB (c1 sh A : Int) (L : Nat) : List Nat := (List.range L).map (nJ c1 sh A)
def nE (c0 : Int) : Int := c0.fdiv 64 % 2
def nL (c0 : Int) : Nat := (1 + c0 % (8 - nE c0)).toNat
def nA (c0 : Int) : Int := c0.fdiv 8 % ((nL c0 : Nat) : Int)
def nmC (c0 c1 : Int) (m : Int) : List Nat := if nE c0 = 1 then nB c1 (m.fdiv 2) (nA c0) (nL c0) ++ (if m % 2 = 1 then [letc c1] else []) else nB c1 m (nA c0) (nL c0)
def nmS (c0 c1 : Int) (m : Int) : Str := ofL (nmC c0 c1 m)
theorem nE_or (c0 : Int) : nE c0 = 0 ∨ nE c0 = 1 := by unfold nE; omega
theorem nL_ok (c0 : Int) : 1 ≤ nL c0 ∧ ((nL c0 : Nat) : Int) ≤ 8 - nE c0 ∧ ((nL c0 : Nat) : Int) = 1 + c0 % (8 - nE c0) := by
  have h := nE_or c0
  unfold nL
  generalize nE c0 = e at *
  have f0 := Int.emod_nonneg c0 (show (8 - e : Int) ≠ 0 by omega)
  have f1 := Int.emod_lt_of_pos c0 (show (0 : Int) < 8 - e by omega)
  omega
theorem nA_ok (c0 : Int) : 0 ≤ nA c0 ∧ nA c0 < ((nL c0 : Nat) : Int) := by
  have h := (nL_ok c0).1
  unfold nA
  exact ⟨Int.emod_nonneg _ (by omega), Int.emod_lt_of_pos _ (by omega)⟩
theorem nB_len (c1 sh A : Int) (L : Nat) : (nB c1 sh A L).length = L := by unfold nB; rw [List.length_map, List.length_range]
theorem nB_inj {c1 sh sh' A : Int} {L : Nat} (a0 : 0 ≤ A) (a1 : A < L) (h0 : 0 ≤ sh) (h1 : sh < 26) (h2 : 0 ≤ sh') (h3 : sh' < 26) (h : nB c1 sh A L = nB c1 sh' A L) : sh = sh' := by
  have hj := congrArg (fun l : List Nat => l[A.toNat]?) h
  unfold nB at hj
  simp only [List.getElem?_map] at hj
  rw [List.getElem?_range (by omega)] at hj
  have hj' : nJ c1 sh A A.toNat = nJ c1 sh' A A.toNat := by simpa using hj
  unfold nJ at hj'
  have e : decide ((0 : Int) + (A.toNat : Int) = A) = true := decide_eq_true (by omega)
  rw [e, if_pos rfl] at hj'
  have z := letc_inj hj'
  generalize c1.fdiv (0 + (A.toNat : Int) + 1) + (0 + (A.toNat : Int)) * (0 + (A.toNat : Int)) = x at z
  omega
theorem good_ofL {l : List Nat} (h1 : 1 ≤ l.length) (h8 : l.length ≤ 8) (h : ∀ x ∈ l, isL x = true) : goodS (ofL l) = true := by
  unfold goodS
  rw [ofL_len, codes_ofL, Bool.and_eq_true, Bool.and_eq_true, decide_eq_true_iff, decide_eq_true_iff, List.all_eq_true]
  exact ⟨⟨h1, h8⟩, h⟩
theorem nB_isL (c1 sh A : Int) (L : Nat) : ∀ x ∈ nB c1 sh A L, isL x = true := fun x hx => by
  unfold nB at hx
  obtain ⟨j, _, rfl⟩ := List.mem_map.mp hx
  exact letc_isL _
theorem nmS_good (c0 c1 m : Int) : goodS (nmS c0 c1 m) = true := by
  obtain ⟨h1, h2, _⟩ := nL_ok c0
  unfold nmS nmC
  rcases nE_or c0 with e | e
  · rw [if_neg (by omega)]
    exact good_ofL (by rw [nB_len]; exact h1) (by rw [nB_len]; omega) (nB_isL _ _ _ _)
  · rw [if_pos e]
    by_cases c : m % 2 = 1
    · rw [if_pos c]
      refine good_ofL (by rw [List.length_append, nB_len]; omega) (by rw [List.length_append, nB_len, List.length_singleton]; omega) fun x hx => ?_
      rcases List.mem_append.mp hx with h | h
      · exact nB_isL _ _ _ _ x h
      · rw [List.mem_singleton.mp h]; exact letc_isL _
    · rw [if_neg c, List.append_nil]
      exact good_ofL (by rw [nB_len]; exact h1) (by rw [nB_len]; omega) (nB_isL _ _ _ _)
theorem nmS_inj {c0 c1 m m' : Int} (m0 : 0 ≤ m) (m1 : m < 26) (m2 : 0 ≤ m') (m3 : m' < 26) (h : nmS c0 c1 m = nmS c0 c1 m') : m = m' := by
  have z := ofL_inj h
  obtain ⟨a0, a1⟩ := nA_ok c0
  unfold nmC at z
  have d1 : m.fdiv 2 = m / 2 := Int.fdiv_eq_ediv_of_nonneg m (by decide)
  have d2 : m'.fdiv 2 = m' / 2 := Int.fdiv_eq_ediv_of_nonneg m' (by decide)
  rcases nE_or c0 with e | e
  · rw [if_neg (by omega), if_neg (by omega)] at z
    exact nB_inj a0 a1 m0 m1 m2 m3 z
  · rw [if_pos e, if_pos e, d1, d2] at z
    have hl := congrArg List.length z
    rw [List.length_append, List.length_append, nB_len, nB_len] at hl
    have hx := nB_inj a0 a1 (show 0 ≤ m / 2 by omega) (by omega) (show 0 ≤ m' / 2 by omega) (by omega) (List.append_inj_left z (by rw [nB_len, nB_len]))
    by_cases c : m % 2 = 1
    · by_cases c' : m' % 2 = 1
      · omega
      · rw [if_pos c, if_neg c'] at hl
        have hl : nL c0 + 1 = nL c0 + 0 := hl
        omega
    · by_cases c' : m' % 2 = 1
      · rw [if_neg c, if_pos c'] at hl
        have hl : nL c0 + 0 = nL c0 + 1 := hl
        omega
      · omega
structure Nms (ss : List Str) (n : Nat) : Prop where
  len : ss.length = n
  nd : ss.Nodup
  good : ∀ z ∈ ss, goodS z = true
theorem nms_of {c0 c1 b : Int} {n : Nat} (b0 : 0 ≤ b) (b1 : b + n ≤ 26) : Nms ((List.range n).map fun (k : Nat) => nmS c0 c1 (b + (k : Int))) n := by
  refine ⟨by rw [List.length_map, List.length_range], ?_, fun z hz => ?_⟩
  · show List.Pairwise _ _
    rw [List.pairwise_map]
    refine List.Pairwise.imp_of_mem (R := fun a b => a < b) (fun {x y} hx hy lt e => ?_) List.pairwise_lt_range
    have h1 := List.mem_range.mp hx
    have h2 := List.mem_range.mp hy
    have := nmS_inj (by omega) (by omega) (by omega) (by omega) e
    omega
  · obtain ⟨k, _, rfl⟩ := List.mem_map.mp hz
    exact nmS_good _ _ _
theorem ok_cell {P : Program} {w : World} {K : PySem.W.Frag} {mg : Str → Option Value} {base : Heap} {d : Ad} (T : Tx K mg d) : FnOk P w K mg base CX0 1 d.f_cell d.fd_cell ["_law_script", "_law_k"] (sp_cell K d) := by
  refine T.F_cell.ok sc_cell (fun vs H Q E h => ?_) (fun cdv A outer s H vs Q E hr h => ?_)
  · obtain ⟨a, ns, k, rfl, _⟩ := h; rfl
  obtain ⟨a, ns, k, rfl, hS, h0, q⟩ := h
  refine ⟨_, (pss_cons (ps_if (pt_cmpR op_lt (pv 1) (pe_callB My.call_lenN rfl T.z_len PySem.boot_len (pa_cons (pv 0) pa_nil)) (nomark _)) (pss_one (ps_ret (pe_ix ix_list (pv 0) (pv 1) (fun _ _ => rfl)))) pss_nil)
    (pss_one (ps_ret pe_int))), ?_⟩
  try dsimp only [L2.cxOf, L2.Cx.nox, L2.Cx.wish, My.xw, My.pnd, My.suite]
  refine r_start (σ := [some (.ref a), some (.int k)]) rfl ?_
  walk_at "go"
  have hl : (ns.map V.int).length = ns.length := List.length_map _
  refine i_2 (fun c => ?_) (fun c => ?_)
  · rw [hl] at c
    walk_at "go"
    refine r_ixL hS (cell_at h0 c) ?_
    exact q
  · rw [hl] at c
    walk_at "go"
    rw [cell_out c h0] at q; exact q
theorem ofL_app (l l' : List Nat) : ofL l ++ ofL l' = ofL (l ++ l') := by
  have e : (ofL l ++ ofL l').cps = (ofL (l ++ l')).cps := by
    rw [Str.cps_append]
    simp [ofL]
  exact congrArg Str.mk e
def sp_name (K : PySem.W.Frag) (d : Ad) : Sp := fun vs H Q _ => ∃ (a : Addr) (ns : List Int) (m : Int), vs = [.ref a, .int m] ∧ SqL K H a (ns.map V.int) ∧ 0 ≤ m ∧ m ≤ 25 ∧ Q (.str (nmS (cell ns 0) (cell ns 1) m)) H
theorem ok_name {P : Program} {w : World} {K : PySem.W.Frag} {mg : Str → Option Value} {base : Heap} {d : Ad} (T : Tx K mg d) : FnOk P w K mg base CX0 2 d.f_name d.fd_name ["_law_script", "_law_number"] (sp_name K d) := by
  refine T.F_name.ok sc_name (fun vs H Q E h => ?_) (fun cdv A outer s H vs Q E hr h => ?_)
  · obtain ⟨a, ns, m, rfl, _⟩ := h; rfl
  obtain ⟨a, ns, m, rfl, hS, m0, m1, q⟩ := h
  refine ⟨_, (pss_cons (ps_set (i := 2) sc_name.nd rfl (Or.inl rfl) pe_str)
    (pss_cons (ps_set (i := 3) sc_name.nd rfl (Or.inl rfl) (pe_call ((ok_cell T).mono (by decide)) hr rfl T.m_cell T.F_cell.kp T.b_cell .nil pass0 (pa_cons (pv 0) (pa_cons pe_int pa_nil))))
    (pss_cons (ps_set (i := 4) sc_name.nd rfl (Or.inl rfl) (pe_op op_add pe_int (pe_op op_mod (pv 3) (pe_op op_sub pe_int (pe_op op_mod (pe_op My.op_fdivB (pv 3) pe_int) pe_int)))))
    (pss_cons (ps_set (i := 5) sc_name.nd rfl (Or.inl rfl) (pe_op op_mod (pe_op My.op_fdivB (pv 3) pe_int) (pv 4)))
    (pss_cons (ps_set (i := 6) sc_name.nd rfl (Or.inl rfl) (pv 1))
    (pss_cons (ps_set (i := 7) sc_name.nd rfl (Or.inl rfl) pe_str)
    (pss_cons (My.ps_cut (ps_if (pt_cmpR op_eq (pe_op op_mod (pe_op My.op_fdivB (pv 3) pe_int) pe_int) pe_int (nomark _)) (pss_cons (ps_set (i := 6) sc_name.nd rfl (Or.inl rfl) (pe_op My.op_fdivB (pv 1) pe_int))
    (pss_one (ps_set (i := 7) sc_name.nd rfl (Or.inl rfl) (pe_op My.op_rep (pe_ix ix_str (pv 2) (pe_op op_mod (pe_call ((ok_cell T).mono (by decide)) hr rfl T.m_cell T.F_cell.kp T.b_cell .nil pass0 (pa_cons (pv 0) (pa_cons pe_int pa_nil))) pe_int) (fun _ _ => rfl)) (pe_op op_mod (pv 1) pe_int))))) pss_nil))
    (pss_cons (ps_set (i := 8) sc_name.nd rfl (Or.inl rfl) pe_str)
    (pss_cons (ps_for PassesOwn.never rfl (pi_range1 rfl T.z_range (pa_cons (pv 4) pa_nil)) (pg_name (i := 9) sc_name.nd rfl (Or.inl rfl)) (pss_one (ps_set (i := 8) sc_name.nd rfl (Or.inl rfl) (pe_op My.op_catS (pv 8) (pe_ix ix_str (pv 2) (pe_op op_mod (pe_op op_add (pe_op op_add (pe_op My.op_fdivB (pe_call ((ok_cell T).mono (by decide)) hr rfl T.m_cell T.F_cell.kp T.b_cell .nil pass0 (pa_cons (pv 0) (pa_cons pe_int pa_nil))) (pe_op op_add (pv 9) pe_int)) (pe_op My.op_mulB (pv 9) (pv 9))) (pe_op My.op_mulB (pv 6) (pe_callTy My.call_intB rfl T.z_int PyProof.Rows.boot_int (pa_cons (pe_cmpR op_eq (pv 9) (pv 5) (nomark _)) pa_nil)))) pe_int) (fun _ _ => rfl))))))
    (pss_one (ps_ret (pe_op My.op_catS (pv 8) (pv 7))))))))))))), ?_⟩
  try dsimp only [L2.cxOf, L2.Cx.nox, L2.Cx.wish, My.xw, My.pnd, My.suite]
  refine r_start (σ := [some (.ref a), some (.int m), none, none, none, none, none, none, none, none]) rfl ?_
  walk_at "go"
  generalize hc0 : cell ns 0 = c0 at *
  generalize hc1 : cell ns 1 = c1 at *
  obtain ⟨L1, L8, eL⟩ := nL_ok c0
  obtain ⟨A0, A1⟩ := nA_ok c0
  have E01 := nE_or c0
  have eL' : 1 + c0 % (8 - c0.fdiv 64 % 2) = ((nL c0 : Nat) : Int) := eL.symm
  rw [eL']
  refine r_I (by omega) ?_
  have eA : c0.fdiv 8 % ((nL c0 : Nat) : Int) = nA c0 := rfl
  rw [eA]
  clear eL eL' eA
  have eN : ((nL c0 : Nat) : Int).toNat = nL c0 := by omega
  generalize hLi : ((nL c0 : Nat) : Int) = Li at *
  generalize hAi : nA c0 = A at *
  walk_at "go"
  refine r_cut (fun σ' H' => H' = H ∧ ∃ (sh : Int) (tl : List Nat), σ' = [some (.ref a), some (.int m), some (.str ABC), some (.int c0), some (.int Li), some (.int A), some (.int sh), some (.str (ofL tl)), none, none] ∧ 0 ≤ sh ∧ sh ≤ 25 ∧ tl.length ≤ 1 ∧ nmC c0 c1 m = nB c1 sh A (nL c0) ++ tl) ?_ ?_
  · walk_at "go"
    refine i_2 (fun c => ?_) (fun c => ?_)
    · have ed : m.fdiv 2 = m / 2 := Int.fdiv_eq_ediv_of_nonneg m (by decide)
      have ez : nmC c0 c1 m = nB c1 (m.fdiv 2) A (nL c0) ++ (if m % 2 = 1 then [letc c1] else []) := by unfold nmC; rw [if_pos (show nE c0 = 1 from c), hAi]
      walk_at "go"
      rw [hc1]
      refine r_ixS (by decide) (letAt _) ?_
      walk_at "go"
      refine r_rep (by omega) (by omega) ?_
      walk_at "go"
      refine ⟨rfl, m.fdiv 2, if m % 2 = 1 then [letc c1] else [], ?_, by omega, by omega, by split; exact Nat.le_refl _; exact Nat.zero_le _, ez⟩
      by_cases c3 : m % 2 = 1
      · rw [if_pos c3, if_neg (by omega)]; rfl
      · rw [if_neg c3, if_pos (by omega)]; rfl
    · walk_at "go"
      refine ⟨rfl, m, [], rfl, m0, by omega, by decide, ?_⟩
      unfold nmC
      rw [if_neg (show ¬ nE c0 = 1 from c), List.append_nil, hAi]
  rintro σ' H2 ⟨rfl, sh, tl, rfl, h0, h1, ht, ez⟩
  walk_at "go"
  rw [eN]
  have shs : sh.natAbs < 2 ^ 600 := Nat.lt_of_le_of_lt (show sh.natAbs ≤ 25 by omega) (by decide)
  refine f_range (fun i σ H' => H' = H2 ∧ ∃ (w : Option V), σ = [some (.ref a), some (.int m), some (.str ABC), some (.int c0), some (.int Li), some (.int A), some (.int sh), some (.str (ofL tl)), some (.str (ofL (nB c1 sh A i))), w]) ⟨rfl, _, rfl⟩ ?_ ?_
  · rintro i σ H' hi ⟨rfl, w, rfl⟩
    have ki : ((0 : Int) + (i : Int)).natAbs < 2 ^ 600 := Nat.lt_of_le_of_lt (show ((0 : Int) + (i : Int)).natAbs ≤ 8 by omega) (by decide)
    have ez : nB c1 sh A (i + 1) = nB c1 sh A i ++ [nJ c1 sh A i] := by unfold nB; rw [List.range_succ, List.map_append]; rfl
    have lz : (ofL (nB c1 sh A i)).length = i := by rw [ofL_len, nB_len]
    walk_at "go"
    rw [hc1]
    refine r_ixS (by decide) (letAt _) ?_
    refine r_catS ?_ ?_
    · rw [lz]; show _ + 1 ≤ 16777216; omega
    walk_at "go"
    rw [ez, ← ofL_snoc]
    exact ⟨rfl, _, rfl⟩
  · rintro σ H' ⟨rfl, w, rfl⟩
    have ln : (ofL (nB c1 sh A (nL c0))).length = nL c0 := by rw [ofL_len, nB_len]
    walk_at "go"
    refine r_catS (by rw [ln, ofL_len]; show nL c0 + _ ≤ 16777216; omega) ?_
    walk_at "go"
    have en : ofL (nB c1 sh A (nL c0)) ++ ofL tl = nmS c0 c1 m := by
      unfold nmS
      rw [ez]
      exact ofL_app _ _
    rw [en]
    exact q
theorem ok_whole {P : Program} {w : World} {K : PySem.W.Frag} {mg : Str → Option Value} {base : Heap} {d : Ad} (T : Tx K mg d) : FnOk P w K mg base CX0 1 d.f_whole d.fd_whole ["_law_found"] (sp_whole K d) := by
  refine T.F_whole.ok sc_whole (fun vs H Q E h => ?_) (fun cdv A outer s H vs Q E hr h => ?_)
  · obtain ⟨i, rfl, _⟩ := h; rfl
  obtain ⟨i, rfl, q⟩ := h
  refine ⟨_, (pss_one (ps_ret (pe_and (pe_callB My.call_isi2 rfl T.z_isinstance PyProof.Rows.boot_isinstance (pa_cons (pv 0) (pa_cons (pe_bltn (v := .ty "int") rfl T.z_int PyProof.Rows.boot_int rfl) pa_nil))) (pe_one (pe_not (pe_callB My.call_isi2 rfl T.z_isinstance PyProof.Rows.boot_isinstance (pa_cons (pv 0) (pa_cons (pe_bltn (v := .ty "bool") rfl T.z_bool PyProof.Rows.boot_bool rfl) pa_nil)))))))), ?_⟩
  try dsimp only [L2.cxOf, L2.Cx.nox, L2.Cx.wish, My.xw, My.pnd, My.suite]
  refine r_start (σ := [some (.int i)]) rfl ?_
  walk_at "go"
  exact q
theorem ok_above_nought {P : Program} {w : World} {K : PySem.W.Frag} {mg : Str → Option Value} {base : Heap} {d : Ad} (T : Tx K mg d) : FnOk P w K mg base CX0 1 d.f_above_nought d.fd_above_nought ["amounts"] (sp_above_nought K d) := by
  refine T.F_above_nought.ok sc_above_nought (fun vs H Q E h => ?_) (fun cdv A outer s H vs Q E hr h => ?_)
  · obtain ⟨a, kvs, f, rfl, _⟩ := h; rfl
  obtain ⟨a, kvs, f, rfl, hH, hA, hz, q⟩ := h
  refine ⟨_, (pss_cons (ps_set (i := 1) sc_above_nought.nd rfl (Or.inl rfl) pe_dnewK)
    (pss_cons (My.ps_thA (ps_for PassesOwn.never rfl (My.pi_dict (pv 0)) (pg_name (i := 2) sc_above_nought.nd rfl (Or.inl rfl)) (pss_one (My.ps_cut (ps_if (pt_cmpR op_gt (pe_dget (hu_of hr) (pv 0) (pv 2) (fun _ _ => rfl)) pe_int (nomark _)) (pss_one (ps_dput (hu_of hr) (pv 1) (pv 2) (pe_dget (hu_of hr) (pv 0) (pv 2) (fun _ _ => rfl)) rfl)) pss_nil)))))
    (pss_one (ps_ret (pv 1))))), ?_⟩
  try dsimp only [L2.cxOf, L2.Cx.nox, L2.Cx.wish, My.xw, My.pnd, My.suite]
  refine r_start (σ := [some (.ref a), none, none]) rfl ?_
  walk_at "go"
  rename_i l hl
  have ea := look_new (o' := .dK []) hH hl
  have nla : l ≠ a := (ne_of_none hH hl).symm
  refine r_itD ea fun o => ?_
  refine f_dict (fun i σ H' => ∃ (k' : List (Key × V)) (w : Option V), σ = [some (.ref a), some (.ref l), w] ∧ SameBut a H H' ∧ H' a = some (.frz o (.dK kvs)) ∧ H' l = some (.dK k') ∧ k'.length ≤ i ∧ AD k' (fun y => if y ∈ (keysS kvs).take i then posF f y else none))
    ⟨[], none, rfl, SameBut.at (SameBut.of (same_new hl _)), upd_same, by rw [upd_ne nla]; exact upd_same, Nat.le_refl _, AD.nil.cast fun z => by simp [noF]⟩ ?_ ?_ ?_
  · rintro i σ H' _ ⟨k', w, rfl, sb, fz, hl', _⟩; exact fz
  · rintro i k v σ H' hk ⟨k', w, rfl, sb, fz, hl', hlen, hA'⟩
    obtain ⟨z, n, rfl, rfl, hf, hzi⟩ := hA.at hk
    have hi : i < kvs.length := (List.getElem?_eq_some_iff.mp hk).1
    have hRd : Rd H' a (.dK kvs) := .inr ⟨o, fz⟩
    show gName _ (.str z) _ _ _
    walk_at "go"
    refine r_cut0 ?_
    walk_at "go"
    refine i_2 (fun c => ?_) (fun c => ?_)
    · walk_at "go"
      refine ⟨_, _, rfl, ?_, by rw [upd_ne nla.symm]; exact fz, upd_same, ?_, (hA'.put z n).cast fun y => ?_⟩
      · exact sb_put sb hl
      · have := length_putK k' (Sum.inr z) (.int n); omega
      · exact step_put hzi (posF f) (fun _ => none) (by unfold posF; rw [hf]; exact if_pos c) y
    · walk_at "go"
      refine ⟨_, _, rfl, sb, fz, hl', by omega, hA'.cast fun y => ?_⟩
      exact step_no hzi (posF f) (fun _ => none) (by unfold posF; rw [hf]; exact if_neg c) y
  · rintro σ H' ⟨k', w, rfl, sb, fz, hl', _, hA'⟩
    refine r_thNx (thaw1 fz (noFrz_dK hH)) ?_
    walk_at "go"
    refine q l k' _ (same_thaw hH sb) hl (by rw [upd_ne nla]; exact hl') (hA'.cast fun y => ?_)
    exact step_end hA (posF f) (fun _ => none) (fun y e => by unfold posF; rw [e]) y
theorem ok_alike {P : Program} {w : World} {K : PySem.W.Frag} {mg : Str → Option Value} {base : Heap} {d : Ad} (T : Tx K mg d) : FnOk P w K mg base CX0 2 d.f_alike d.fd_alike ["_law_found", "_law_due"] (sp_alike K d) := by
  refine T.F_alike.ok sc_alike (fun vs H Q E h => ?_) (fun cdv A outer s H vs Q E hr h => ?_)
  · obtain ⟨a, b, ka, kb, f, rfl, _⟩ := h; rfl
  obtain ⟨a, b, ka, kb, f, rfl, ne, ha, hRb, hA, hB, q⟩ := h
  refine ⟨_, (pss_cons (ps_if (PW.pt (pw_or (pt_not (pt_val (pe_callB My.call_isi2 rfl T.z_isinstance PyProof.Rows.boot_isinstance (pa_cons (pv 0) (pa_cons (pe_bltn (v := .ty "dict") rfl T.z_dict PyProof.Rows.boot_dict rfl) pa_nil))))) (pw_or1 (pt_cmpR (My.op_neD (My.hu8 hr)) (pv 0) (pv 1) (nomark _))))) (pss_one (ps_ret pe_bl)) pss_nil)
    (pss_cons (My.ps_thA (ps_for PassesOwn.never rfl (My.pi_dict (pv 0)) (pg_name (i := 2) sc_alike.nd rfl (Or.inl rfl)) (pss_one (ps_if (pt_not (pt_val (pe_call ((ok_whole T).mono (by decide)) hr rfl T.m_whole T.F_whole.kp T.b_whole .nil pass0 (pa_cons (pe_dget (hu_of hr) (pv 0) (pv 2) (fun _ _ => rfl)) pa_nil)))) (pss_one (ps_ret pe_bl)) pss_nil))))
    (pss_one (ps_ret pe_bl)))), ?_⟩
  try dsimp only [L2.cxOf, L2.Cx.nox, L2.Cx.wish, My.xw, My.pnd, My.suite]
  refine r_start (σ := [some (.ref a), some (.ref b), none]) rfl ?_
  walk_at "go"
  have de := DEq.dd (K := K) (n := 0) (.inl ha) hRb ne hA.flat hB.flat
  rw [hA.eq hB] at de
  refine r_neD ne (by decide) de ?_
  walk_at "go"
  refine r_itD ha fun o => ?_
  refine f_dict (fun i σ H' => H' = upd H a (.frz o (.dK ka)) ∧ ∃ w, σ = [some (.ref a), some (.ref b), w]) ⟨rfl, _, rfl⟩ ?_ ?_ ?_
  · rintro i σ H' _ ⟨rfl, _⟩; exact upd_same
  · rintro i k v σ H' hk ⟨rfl, w, rfl⟩
    obtain ⟨z, n, rfl, rfl, hf, hzi⟩ := hA.at hk
    have hRd : Rd (upd H a (.frz o (.dK ka))) a (.dK ka) := .inr ⟨o, upd_same⟩
    show gName _ (.str z) _ _ _
    walk_at "go"
    exact ⟨rfl, _, rfl⟩
  · rintro σ H' ⟨rfl, w, rfl⟩
    refine r_thNx (thaw1 upd_same (noFrz_dK ha)) ?_
    walk_at "go"
    exact q _ (same_thaw ha (sb_frz ha))
inductive Bd (H : Hp) : V → Prop
  | far (i : Int) (h : i < 0 ∨ 10 ^ 30 < i) : Bd H (.int i)
  | bl (b : Bool) : Bd H (.bl b)
  | non : Bd H .non
  | str (z : Str) : Bd H (.str z)
  | lst {a : Addr} {xs : List V} (h : H a = some (.lst xs)) : Bd H (.ref a)
  | tup {a : Addr} {xs : List V} (h : H a = some (.tup xs)) : Bd H (.ref a)
theorem Bd.same {H H' : Hp} {v : V} (h : Bd H v) (s : Same H H') : Bd H' v := by
  cases h with
  | far i h => exact .far i h
  | bl b => exact .bl b
  | non => exact .non
  | str z => exact .str z
  | lst h => exact .lst (s _ _ h)
  | tup h => exact .tup (s _ _ h)
theorem Bd.ok {H : Hp} {v : V} (h : Bd H v) : okV v = true := by cases h <;> rfl
def NoI (K : PySem.W.Frag) (H : Hp) (x : V) : Prop := (∃ b, x = .bl b) ∨ ∃ t, TyOf K H x t ∧ PySem.W.kitOne K t (.type "int") = some false
def NoD (K : PySem.W.Frag) (H : Hp) (x : V) : Prop := ∃ t, TyOf K H x t ∧ PySem.W.kitOne K t (.type "dict") = some false
theorem Bd.noI {K : PySem.W.Frag} {H : Hp} {v : V} (h : Bd H v) : (∃ i, v = .int i ∧ (i < 0 ∨ 10 ^ 30 < i)) ∨ NoI K H v := by
  cases h with
  | far i h => exact .inl ⟨i, rfl, h⟩
  | bl b => exact .inr (.inl ⟨b, rfl⟩)
  | non => exact .inr (.inr ⟨_, .non, by unfold PySem.W.kitOne; rfl⟩)
  | str z => exact .inr (.inr ⟨_, .str z, by unfold PySem.W.kitOne; rfl⟩)
  | lst h => exact .inr (.inr ⟨_, .lst h, by unfold PySem.W.kitOne; rfl⟩)
  | tup h => exact .inr (.inr ⟨_, .tup h, by unfold PySem.W.kitOne; rfl⟩)
def sp_is_whole (K : PySem.W.Frag) (d : Ad) : Sp := fun vs H Q _ => ∃ x : V, vs = [x] ∧ ((∃ i, x = .int i) ∧ Q (.bl true) H ∨ NoI K H x ∧ Q (.bl false) H)
theorem ok_is_whole {P : Program} {w : World} {K : PySem.W.Frag} {mg : Str → Option Value} {base : Heap} {d : Ad} (T : Tx K mg d) : FnOk P w K mg base CX0 1 d.f_is_whole d.fd_is_whole ["thing"] (sp_is_whole K d) := by
  refine T.F_is_whole.ok sc_is_whole (fun vs H Q E h => ?_) (fun cdv A outer s H vs Q E hr h => ?_)
  · obtain ⟨x, rfl, _⟩ := h; rfl
  obtain ⟨x, rfl, h⟩ := h
  refine ⟨_, (pss_one (ps_ret (pe_and (pe_callB My.call_isi2 rfl T.z_isinstance PyProof.Rows.boot_isinstance (pa_cons (pv 0) (pa_cons (pe_bltn (v := .ty "int") rfl T.z_int PyProof.Rows.boot_int rfl) pa_nil))) (pe_one (pe_not (pe_callB My.call_isi2 rfl T.z_isinstance PyProof.Rows.boot_isinstance (pa_cons (pv 0) (pa_cons (pe_bltn (v := .ty "bool") rfl T.z_bool PyProof.Rows.boot_bool rfl) pa_nil)))))))), ?_⟩
  try dsimp only [L2.cxOf, L2.Cx.nox, L2.Cx.wish, My.xw, My.pnd, My.suite]
  refine r_start (σ := [some (x)]) rfl ?_
  rcases h with ⟨⟨i, rfl⟩, q⟩ | ⟨⟨b, rfl⟩ | ⟨t, ty, e⟩, q⟩
  · walk_at "go"
    exact q
  · walk_at "go"
    exact q
  · walk_at "go"
    exact q
def sp_is_whole_from (K : PySem.W.Frag) (d : Ad) : Sp := fun vs H Q _ => ∃ (x : V) (a b : Int), vs = [x, .int a, .int b] ∧ ((∃ i, x = .int i ∧ Q (.bl (decide (a ≤ i) && decide (i ≤ b))) H) ∨ NoI K H x ∧ Q (.bl false) H)
theorem ok_is_whole_from {P : Program} {w : World} {K : PySem.W.Frag} {mg : Str → Option Value} {base : Heap} {d : Ad} (T : Tx K mg d) : FnOk P w K mg base CX0 2 d.f_is_whole_from d.fd_is_whole_from ["thing", "least", "most"] (sp_is_whole_from K d) := by
  refine T.F_is_whole_from.ok sc_is_whole_from (fun vs H Q E h => ?_) (fun cdv A outer s H vs Q E hr h => ?_)
  · obtain ⟨x, a, b, rfl, _⟩ := h; rfl
  obtain ⟨x, a, b, rfl, h⟩ := h
  refine ⟨_, (pss_one (ps_ret (pe_and (pe_call ((ok_is_whole T).mono (by decide)) hr rfl T.m_is_whole T.F_is_whole.kp T.b_is_whole .nil pass0 (pa_cons (pv 0) pa_nil)) (pe_one (pe_chain op_le op_le (pv 1) (pv 0) (pv 2)))))), ?_⟩
  try dsimp only [L2.cxOf, L2.Cx.nox, L2.Cx.wish, My.xw, My.pnd, My.suite]
  refine r_start (σ := [some (x), some (.int a), some (.int b)]) rfl ?_
  walk_at "go"
  rcases h with ⟨i, rfl, q⟩ | ⟨n, q⟩
  · refine ⟨_, rfl, .inl ⟨⟨i, rfl⟩, ?_⟩⟩
    walk_at "go"
    by_cases c : a ≤ i
    · rw [decide_eq_true c] at q ⊢
      refine iteT ?_
      walk_at "go"
      exact q
    · rw [decide_eq_false c] at q ⊢
      refine iteF ?_
      exact q
  · refine ⟨_, rfl, .inr ⟨n, ?_⟩⟩
    walk_at "go"
    exact q
def sp_is_amount (K : PySem.W.Frag) (d : Ad) : Sp := fun vs H Q _ => ∃ x : V, vs = [x] ∧ ((∃ i, x = .int i ∧ 0 ≤ i ∧ i ≤ 10 ^ 30) ∧ Q (.bl true) H ∨ Bd H x ∧ Q (.bl false) H)
theorem ok_is_amount {P : Program} {w : World} {K : PySem.W.Frag} {mg : Str → Option Value} {base : Heap} {d : Ad} (T : Tx K mg d) : FnOk P w K mg base CX0 3 d.f_is_amount d.fd_is_amount ["thing"] (sp_is_amount K d) := by
  refine T.F_is_amount.ok sc_is_amount (fun vs H Q E h => ?_) (fun cdv A outer s H vs Q E hr h => ?_)
  · obtain ⟨x, rfl, _⟩ := h; rfl
  obtain ⟨x, rfl, h⟩ := h
  refine ⟨_, (pss_one (ps_ret (pe_call ((ok_is_whole_from T).mono (by decide)) hr rfl T.m_is_whole_from T.F_is_whole_from.kp T.b_is_whole_from .nil pass0 (pa_cons (pv 0) (pa_cons pe_int (pa_cons (pe_op op_pow pe_int pe_int) pa_nil)))))), ?_⟩
  try dsimp only [L2.cxOf, L2.Cx.nox, L2.Cx.wish, My.xw, My.pnd, My.suite]
  refine r_start (σ := [some (x)]) rfl ?_
  walk_at "go"
  rcases h with ⟨⟨i, rfl, h0, h1⟩, q⟩ | ⟨b, q⟩
  · refine ⟨_, 0, _, rfl, .inl ⟨i, rfl, ?_⟩⟩
    rw [show (10 : Int) ^ Int.toNat 30 = 10 ^ 30 from rfl, decide_eq_true h0, decide_eq_true h1]
    walk_at "go"
    exact q
  · rcases b.noI (K := K) with ⟨i, rfl, h⟩ | n
    · refine ⟨_, 0, _, rfl, .inl ⟨i, rfl, ?_⟩⟩
      rw [show (10 : Int) ^ Int.toNat 30 = 10 ^ 30 from rfl, show (decide ((0 : Int) ≤ i) && decide (i ≤ 10 ^ 30)) = false by
        rcases h with h | h
        · rw [decide_eq_false (by omega)]; rfl
        · rw [decide_eq_false (show ¬ i ≤ 10 ^ 30 by omega), Bool.and_false]]
      walk_at "go"
      exact q
    · refine ⟨_, 0, _, rfl, .inr ⟨n, ?_⟩⟩
      walk_at "go"
      exact q
theorem r_pick {K : PySem.W.Frag} {H : Hp} {Q : VK} {p : Addr} {m : Int} {xs : List V} (h : H p = some (.lst xs)) (h0 : 0 ≤ m) (h1 : m < ((xs.length : Nat) : Int)) (q : ∀ v ∈ xs, Q v H) : rIxL K (.ref p) (.int m) H Q := by
  obtain ⟨j, rfl⟩ : ∃ j : Nat, m = (j : Int) := ⟨m.toNat, by omega⟩
  have hj : j < xs.length := by omega
  exact r_ixL (SqL.of h) (atI_nat (List.getElem?_eq_getElem hj)) (q _ (List.getElem_mem hj))
theorem all_cons {α : Type} {P : α → Prop} {a : α} {l : List α} (h : P a) (t : ∀ x ∈ l, P x) : ∀ x ∈ a :: l, P x := List.forall_mem_cons.mpr ⟨h, t⟩
theorem all_nil {α : Type} {P : α → Prop} : ∀ x ∈ ([] : List α), P x := fun _ h => nomatch h
def sp_bad_value (K : PySem.W.Frag) (d : Ad) : Sp := fun vs H Q _ => ∃ c : Int, vs = [.int c] ∧ ∀ v H', Same H H' → Bd H' v → Q v H'
theorem ok_bad_value {P : Program} {w : World} {K : PySem.W.Frag} {mg : Str → Option Value} {base : Heap} {d : Ad} (T : Tx K mg d) : FnOk P w K mg base CX0 1 d.f_bad_value d.fd_bad_value ["_law_cell_here"] (sp_bad_value K d) := by
  refine T.F_bad_value.ok sc_bad_value (fun vs H Q E h => ?_) (fun cdv A outer s H vs Q E hr h => ?_)
  · obtain ⟨c, rfl, _⟩ := h; rfl
  obtain ⟨c, rfl, q⟩ := h
  refine ⟨_, (pss_cons (ps_set (i := 1) sc_bad_value.nd rfl (Or.inl rfl) (pe_op op_mod (pe_op My.op_fdivB (pv 0) pe_int) (pe_op op_pow pe_int pe_int)))
    (pss_one (ps_ret (pe_ix ix_list (pe_lst (pa_cons (pe_op op_add (pe_op op_add (pe_op op_pow pe_int pe_int) pe_int) (pv 1)) (pa_cons (pe_op op_sub (pe_un un_neg pe_int) (pv 1)) (pa_cons pe_bl (pa_cons pe_bl (pa_cons pe_non (pa_cons pe_str (pa_cons (pe_lst (pa_cons pe_int pa_nil)) (pa_cons (pe_tup (pa_cons pe_int pa_nil)) pa_nil))))))))) (pe_op op_mod (pv 0) pe_int) (fun _ _ => rfl))))), ?_⟩
  try dsimp only [L2.cxOf, L2.Cx.nox, L2.Cx.wish, My.xw, My.pnd, My.suite]
  refine r_start (σ := [some (.int c), none]) rfl ?_
  walk_at "go"
  rename_i p1 h1 p2 h2 p3 h3
  rw [show (10 : Int) ^ Int.toNat 30 = 10 ^ 30 from rfl] at *
  have f0 := Int.emod_nonneg (c.fdiv 8) (show (10 : Int) ^ 30 ≠ 0 by decide)
  generalize c.fdiv 8 % 10 ^ 30 = y at *
  have s1 := same_new h1 (.lst [V.int 1])
  have s2 := same_new h2 (.tup [V.int 0])
  have s3 := same_new h3 (.lst [V.int (10 ^ 30 + 1 + y), V.int (-1 - y), V.bl true, V.bl false, V.non, V.str (Str.ofString "1"), V.ref p1, V.ref p2])
  have sm := (s1.trans s2).trans s3
  have e1 := (s2.trans s3) p1 _ upd_same
  have e2 := s3 p2 _ upd_same
  have e3 : upd (upd (upd H p1 (.lst [V.int 1])) p2 (.tup [V.int 0])) p3 (.lst [V.int (10 ^ 30 + 1 + y), V.int (-1 - y), V.bl true, V.bl false, V.non, V.str (Str.ofString "1"), V.ref p1, V.ref p2]) p3 = some _ := upd_same
  generalize upd (upd (upd H p1 (.lst [V.int 1])) p2 (.tup [V.int 0])) p3 (.lst [V.int (10 ^ 30 + 1 + y), V.int (-1 - y), V.bl true, V.bl false, V.non, V.str (Str.ofString "1"), V.ref p1, V.ref p2]) = H3 at *
  refine r_pick e3 (Int.emod_nonneg c (by decide)) (Int.emod_lt_of_pos c (by decide)) ?_
  have g : ∀ v, Bd H3 v → ({ nx := fun x H' => Q V.non H', rt := Q } : Ends).rt v H3 := fun v b => q v H3 sm b
  exact all_cons (g _ (.far _ (.inr (by omega)))) (all_cons (g _ (.far _ (.inl (by omega)))) (all_cons (g _ (.bl _)) (all_cons (g _ (.bl _)) (all_cons (g _ .non) (all_cons (g _ (.str _)) (all_cons (g _ (.lst e1)) (all_cons (g _ (.tup e2)) all_nil)))))))
def sp_no_dict (K : PySem.W.Frag) (d : Ad) : Sp := fun vs H Q _ => ∃ (c : Int) (a : Addr) (xs : List V), vs = [.int c, .ref a] ∧ H a = some (.lst xs) ∧ ∀ v H', Same H H' → NoD K H' v → Q v H'
theorem ok_no_dict {P : Program} {w : World} {K : PySem.W.Frag} {mg : Str → Option Value} {base : Heap} {d : Ad} (T : Tx K mg d) : FnOk P w K mg base CX0 1 d.f_no_dict d.fd_no_dict ["_law_cell_here", "_law_rows_here"] (sp_no_dict K d) := by
  refine T.F_no_dict.ok sc_no_dict (fun vs H Q E h => ?_) (fun cdv A outer s H vs Q E hr h => ?_)
  · obtain ⟨c, a, xs, rfl, _⟩ := h; rfl
  obtain ⟨c, a, xs, rfl, ha, q⟩ := h
  refine ⟨_, (pss_one (ps_ret (pe_ix ix_list (pe_lst (pa_cons pe_non (pa_cons (pe_lst pa_nil) (pa_cons (pv 1) (pa_cons pe_str (pa_cons pe_int (pa_cons pe_bl (pa_cons (pe_tup pa_nil) pa_nil)))))))) (pe_op op_mod (pv 0) pe_int) (fun _ _ => rfl)))), ?_⟩
  try dsimp only [L2.cxOf, L2.Cx.nox, L2.Cx.wish, My.xw, My.pnd, My.suite]
  refine r_start (σ := [some (.int c), some (.ref a)]) rfl ?_
  walk_at "go"
  rename_i p1 h1 p2 h2 p3 h3
  have s1 := same_new h1 (.lst [])
  have s2 := same_new h2 (.tup [])
  have s3 := same_new h3 (.lst [V.non, V.ref p1, V.ref a, V.str (Str.ofString "a"), V.int 5, V.bl true, V.ref p2])
  have sm := (s1.trans s2).trans s3
  have ea := sm a _ ha
  have e1 := (s2.trans s3) p1 _ upd_same
  have e2 := s3 p2 _ upd_same
  have e3 : upd (upd (upd H p1 (.lst [])) p2 (.tup [])) p3 (.lst [V.non, V.ref p1, V.ref a, V.str (Str.ofString "a"), V.int 5, V.bl true, V.ref p2]) p3 = some _ := upd_same
  generalize upd (upd (upd H p1 (.lst [])) p2 (.tup [])) p3 (.lst [V.non, V.ref p1, V.ref a, V.str (Str.ofString "a"), V.int 5, V.bl true, V.ref p2]) = H3 at *
  refine r_pick e3 (Int.emod_nonneg c (by decide)) (Int.emod_lt_of_pos c (by decide)) ?_
  have g : ∀ v t, TyOf K H3 v t → PySem.W.kitOne K t (.type "dict") = some false → ({ nx := fun x H' => Q V.non H', rt := Q } : Ends).rt v H3 := fun v t b e => q v H3 sm ⟨t, b, e⟩
  exact all_cons (g _ _ .non (by unfold PySem.W.kitOne; rfl)) (all_cons (g _ _ (.lst e1) (by unfold PySem.W.kitOne; rfl)) (all_cons (g _ _ (.lst ea) (by unfold PySem.W.kitOne; rfl)) (all_cons (g _ _ (.str _) (by unfold PySem.W.kitOne; rfl)) (all_cons (g _ _ (.int _) (by unfold PySem.W.kitOne; rfl)) (all_cons (g _ _ (.bl _) (by unfold PySem.W.kitOne; rfl)) (all_cons (g _ _ (.tup e2) (by unfold PySem.W.kitOne; rfl)) all_nil))))))
theorem up32 : ∀ c : Nat, c < 123 → 97 ≤ c → Unicode.upperOf c = [c - 32] := by decide +kernel
theorem upper_ne {z y : Str} (hz : goodS z = true) (hy : goodS y = true) : Txt.upper z ≠ y := by
  intro e
  obtain ⟨z1, z8, zL⟩ := goodS_of hz
  obtain ⟨y1, y8, yL⟩ := goodS_of hy
  subst e
  have hl : 0 < (codes (Txt.upper z)).length := by rw [len_codes]; omega
  have hm := List.getElem_mem hl
  have i1 := yL _ hm
  have hm2 : (codes (Txt.upper z))[0] ∈ (placed z fun _ c => Unicode.upperOf c).toList := hm
  generalize (codes (Txt.upper z))[0] = x at *
  unfold placed at hm2
  rw [Array.mem_toList_iff, Array.mem_flatten] at hm2
  obtain ⟨xs, h1, h2⟩ := hm2
  rw [Array.mem_mapIdx] at h1
  obtain ⟨i, hi, rfl⟩ := h1
  have i2 := zL z.cps[i] (by unfold codes; exact Array.mem_toList_iff.mpr (Array.getElem_mem hi))
  unfold isL at i1 i2
  rw [Bool.and_eq_true, decide_eq_true_iff, decide_eq_true_iff] at i1 i2
  dsimp only at h2
  rw [up32 _ (by omega) i2.1] at h2
  have : x = z.cps[i] - 32 := by simpa using h2
  omega
def sp_bad_key (K : PySem.W.Frag) (d : Ad) : Sp := fun vs H Q _ => ∃ (a : Addr) (ns : List Int) (c : Int), vs = [.ref a, .int c] ∧ SqL K H a (ns.map V.int) ∧
  ∀ v k H', Same H H' → MkV H' k v → (∀ m, 0 ≤ m → m ≤ 5 → k ≠ MK.k (.inr (nmS (cell ns 0) (cell ns 1) m))) → Q v H'
theorem ok_bad_key {P : Program} {w : World} {K : PySem.W.Frag} {mg : Str → Option Value} {base : Heap} {d : Ad} (T : Tx K mg d) : FnOk P w K mg base CX0 3 d.f_bad_key d.fd_bad_key ["_law_script", "_law_cell_here"] (sp_bad_key K d) := by
  refine T.F_bad_key.ok sc_bad_key (fun vs H Q E h => ?_) (fun cdv A outer s H vs Q E hr h => ?_)
  · obtain ⟨a, ns, c, rfl, _⟩ := h; rfl
  obtain ⟨a, ns, c, rfl, hS, q⟩ := h
  refine ⟨_, (pss_cons (ps_set (i := 2) sc_bad_key.nd rfl (Or.inl rfl) (pe_call ((ok_name T).mono (by decide)) hr rfl T.m_name T.F_name.kp T.b_name .nil pass0 (pa_cons (pv 0) (pa_cons pe_int pa_nil))))
    (pss_cons (ps_set (i := 3) sc_bad_key.nd rfl (Or.inl rfl) (pe_lst (pa_cons (pe_call ((ok_name T).mono (by decide)) hr rfl T.m_name T.F_name.kp T.b_name .nil pass0 (pa_cons (pv 0) (pa_cons (pe_op op_add pe_int (pe_op op_mod (pe_op My.op_fdivB (pv 1) pe_int) pe_int)) pa_nil))) (pa_cons (pe_bm0 PySem.F.plainAttrs_str PySem.F.slot_str_upper PySem.F.type_str_upper My.mt_upper (pv 2)) (pa_cons pe_str (pa_cons pe_bl (pa_cons pe_int (pa_cons pe_non (pa_cons (pe_tup (pa_cons (pv 2) pa_nil)) pa_nil)))))))))
    (pss_one (ps_ret (pe_ix ix_list (pv 3) (pe_op op_mod (pv 1) pe_int) (fun _ _ => rfl)))))), ?_⟩
  try dsimp only [L2.cxOf, L2.Cx.nox, L2.Cx.wish, My.xw, My.pnd, My.suite]
  refine r_start (σ := [some (.ref a), some (.int c), none, none]) rfl ?_
  walk_at "go"
  refine ⟨a, ns, 0, rfl, hS, by decide, by decide, ?_⟩
  walk_at "go"
  have f0 := Int.emod_nonneg (c.fdiv 7) (show (20 : Int) ≠ 0 by decide)
  have f1 := Int.emod_lt_of_pos (c.fdiv 7) (show (0 : Int) < 20 by decide)
  generalize c.fdiv 7 % 20 = y at *
  refine ⟨a, ns, 6 + y, rfl, hS, by omega, by omega, ?_⟩
  generalize cell ns 0 = c0 at *
  generalize cell ns 1 = c1 at *
  have gz := nmS_good c0 c1 0
  have n6 : ∀ m, 0 ≤ m → m ≤ 5 → MK.k (.inr (nmS c0 c1 (6 + y))) ≠ MK.k (.inr (nmS c0 c1 m)) := fun m h0 h1 e => by
    have e2 : nmS c0 c1 (6 + y) = nmS c0 c1 m := by injection e with e; injection e
    have := nmS_inj (by omega) (by omega) h0 (by omega) e2
    omega
  have nu : ∀ m, 0 ≤ m → m ≤ 5 → MK.k (.inr (Txt.upper (nmS c0 c1 0))) ≠ MK.k (.inr (nmS c0 c1 m)) := fun m h0 h1 e => by
    have e2 : Txt.upper (nmS c0 c1 0) = nmS c0 c1 m := by injection e with e; injection e
    exact upper_ne gz (nmS_good c0 c1 m) e2
  have ne : ∀ m, 0 ≤ m → m ≤ 5 → MK.k (.inr (Str.ofString "")) ≠ MK.k (.inr (nmS c0 c1 m)) := fun m h0 h1 e => by
    have e2 : Str.ofString "" = nmS c0 c1 m := by injection e with e; injection e
    have g := (goodS_of (nmS_good c0 c1 m)).1
    rw [← e2] at g
    exact absurd g (by decide)
  clear f0 f1
  obtain ⟨z1, z8, zL⟩ := goodS_of gz
  have hup : Builtin.Str.tooLong (Txt.upper (nmS c0 c1 0)).length = false := upper_fit z8 fun c hc => by
    have := zL c hc
    unfold isL at this
    simpa using this
  generalize hz6 : nmS c0 c1 (6 + y) = z6 at *
  generalize hz0 : nmS c0 c1 0 = z0 at *
  clear gz z1 z8 zL
  walk_at "go"
  refine r_upper hup ?_
  generalize Txt.upper z0 = zu at *
  walk_at "go"
  rename_i p1 h1 p2 h2
  have s1 := same_new h1 (.tup [V.str z0])
  have s2 := same_new h2 (.lst [V.str z6, V.str zu, V.str (Str.ofString ""), V.bl true, V.int 1, V.non, V.ref p1])
  have sm := s1.trans s2
  have e1 := s2 p1 _ upd_same
  have e2 : upd (upd H p1 (.tup [V.str z0])) p2 (.lst [V.str z6, V.str zu, V.str (Str.ofString ""), V.bl true, V.int 1, V.non, V.ref p1]) p2 = some _ := upd_same
  generalize upd (upd H p1 (.tup [V.str z0])) p2 (.lst [V.str z6, V.str zu, V.str (Str.ofString ""), V.bl true, V.int 1, V.non, V.ref p1]) = H3 at *
  refine r_pick e2 (Int.emod_nonneg c (by decide)) (Int.emod_lt_of_pos c (by decide)) ?_
  have g : ∀ v k, MkV H3 k v → (∀ m, 0 ≤ m → m ≤ 5 → k ≠ MK.k (.inr (nmS c0 c1 m))) → ({ nx := fun x H' => Q V.non H', rt := Q } : Ends).rt v H3 := fun v k h n => q v k H3 sm h n
  exact all_cons (g _ (.k (.inr z6)) rfl n6) (all_cons (g _ (.k (.inr zu)) rfl nu) (all_cons (g _ (.k (.inr (Str.ofString ""))) rfl ne) (all_cons (g _ (.k (.inl 1)) (.inr ⟨true, rfl, rfl⟩) fun _ _ _ e => by cases e) (all_cons (g _ (.k (.inl 1)) (.inl rfl) fun _ _ _ e => by cases e) (all_cons (g _ .no rfl fun _ _ _ e => by cases e) (all_cons (g _ (.tu [.inr z0]) ⟨p1, rfl, e1⟩ fun _ _ _ e => by cases e) all_nil))))))
theorem mk_kind {K : PySem.W.Frag} {H : Hp} {k : MK} {v : V} (h : MkV H k v) : (∃ z, k = .k (.inr z) ∧ v = .str z) ∨ ((∀ z, k ≠ .k (.inr z)) ∧ ∃ t, TyOf K H v t ∧ PySem.W.kitOne K t (.type "str") = some false) := by
  match k, h with
  | .k (.inl i), .inl e => subst e; exact .inr ⟨fun z e => (by cases e), _, .int i, by unfold PySem.W.kitOne; rfl⟩
  | .k (.inl i), .inr ⟨b, e, _⟩ => subst e; exact .inr ⟨fun z e => (by cases e), _, .bl b, by unfold PySem.W.kitOne; rfl⟩
  | .k (.inr z), e => obtain rfl : v = .str z := e; exact .inl ⟨z, rfl, rfl⟩
  | .no, e => obtain rfl : v = .non := e; exact .inr ⟨fun z e => (by cases e), _, .non, by unfold PySem.W.kitOne; rfl⟩
  | .tu ks, ⟨b, e, x⟩ => subst e; exact .inr ⟨fun z e => (by cases e), _, .tup x, by unfold PySem.W.kitOne; rfl⟩
theorem r_notIn {K : PySem.W.Frag} {H : Hp} {Q : VK} {p : Addr} {z : Str} {ws : List Str} (hS : H p = some (.lst (ws.map V.str))) (q : Q (.bl (!decide (z ∈ ws))) H) : rIn K true (.str z) (.ref p) H Q := by
  refine ⟨p, _, rfl, .inl (SqL.of hS), rfl, flat_strs ws, ?_⟩
  rw [My.inV_str]
  by_cases c : z ∈ ws
  · rw [decide_eq_true c] at q ⊢; exact q
  · rw [decide_eq_false c] at q ⊢; exact q
theorem val_at {kvs : List (Key × V)} (nd : (kvs.map (·.1)).Nodup) {i : Nat} {k : Key} {v : V} (h : kvs[i]? = some (k, v)) : valV kvs k = some v := valV_of_mem nd (List.mem_of_getElem? h)
theorem Bd.put {H : Hp} {a : Addr} {kvs : List (Key × V)} {o : HO} {v : V} (h : Bd H v) (ha : H a = some (.dK kvs)) : Bd (upd H a o) v := by
  cases h with
  | far i h => exact .far i h
  | bl b => exact .bl b
  | non => exact .non
  | str z => exact .str z
  | lst h => exact .lst (by rw [upd_ne (ne_of h ha (by intro z; cases z))]; exact h)
  | tup h => exact .tup (by rw [upd_ne (ne_of h ha (by intro z; cases z))]; exact h)
theorem r_dgS {H : Hp} {Q : VK} {a : Addr} {kvs : List (Key × V)} {z : Str} {v : V} (d : Rd H a (.dK kvs)) (e : valV kvs (Sum.inr z) = some v) (h : Q v H) : rDGk (.ref a) (.str z) H Q := ⟨a, v, rfl, .inl ⟨kvs, Sum.inr z, d, rfl, e.symm⟩, h⟩
def AmV (H : Hp) (v : V) : Prop := ∃ i, v = .int i ∧ 0 ≤ i ∧ i ≤ 10 ^ 30
theorem AmV.no {H : Hp} {v : V} (h : AmV H v) : ¬ Bd H v := fun b => by
  obtain ⟨i, rfl, h0, h1⟩ := h
  cases b with
  | far i h => omega
inductive Hd (P : Program) (w : World) (K : PySem.W.Frag) (d : Ad) (ws : List Str) (x : V) (H : Hp) (Q : VK) (E : XK) : Prop
  | no (h : NoD K H x) (e : ∀ H', Same H H' → E (.ref d.c_NoAmount) none H')
  | mx {a : Addr} {kvs : List MV} (hx : x = .ref a) (h : MD P w H a kvs) (b : ∃ p ∈ kvs, ∀ z ∈ ws, p.1 ≠ MK.k (.inr z)) (e : ∀ H', Same H H' → E (.ref d.c_NoWare) none H')
  | ky {a : Addr} {kvs : List (Key × V)} (hx : x = .ref a) (h : H a = some (.dK kvs)) (t : ∀ p ∈ kvs, ∃ z, p.1 = Sum.inr z) (b : ∃ p ∈ kvs, ∀ z ∈ ws, p.1 ≠ Sum.inr z) (e : ∀ H', Same H H' → E (.ref d.c_NoWare) none H')
  | vl {a : Addr} {kvs : List (Key × V)} (hx : x = .ref a) (h : H a = some (.dK kvs)) (nd : (kvs.map (·.1)).Nodup) (t : ∀ p ∈ kvs, ∃ z ∈ ws, p.1 = Sum.inr z) (v : ∀ p ∈ kvs, AmV H p.2 ∨ Bd H p.2) (b : ∃ p ∈ kvs, Bd H p.2) (e : ∀ H', Same H H' → E (.ref d.c_NoAmount) none H')
  | ok {a : Addr} {kvs : List (Key × V)} {f : Str → Option Int} (hx : x = .ref a) (h : H a = some (.dK kvs)) (A : AD kvs f) (z : kvs.length ≤ 1000) (hf : ∀ z n, f z = some n → z ∈ ws ∧ 0 ≤ n ∧ n ≤ 10 ^ 30)
      (q : ∀ l k' H', Same H H' → H l = none → H' l = some (.dK k') → AD k' (posF f) → Q (.ref l) H')
def sp_amounts_of (P : Program) (w : World) (K : PySem.W.Frag) (d : Ad) : Sp := fun vs H Q E => ∃ (x : V) (wa : Addr) (ws : List Str), vs = [x, .ref wa] ∧ H wa = some (.lst (ws.map V.str)) ∧ Hd P w K d ws x H Q E
theorem ok_amounts_of {P : Program} {w : World} {K : PySem.W.Frag} {mg : Str → Option Value} {base : Heap} {d : Ad} (T : Tx K mg d) : FnOk P w K mg base (My.CX1 P w) 4 d.f_amounts_of d.fd_amounts_of ["handed", "wares"] (sp_amounts_of P w K d) := by
  refine My.okX T.F_amounts_of sc_amounts_of (fun vs H Q E h => ?_) (fun cdv A outer s H vs Q E hr h => ?_)
  · obtain ⟨x, wa, ws, rfl, _⟩ := h; rfl
  obtain ⟨x, wa, ws, rfl, hw, h⟩ := h
  refine ⟨_, (pss_cons (ps_if (pt_not (pt_val (pe_callB My.call_isiX rfl T.z_isinstance PyProof.Rows.boot_isinstance (pa_cons (pv 0) (pa_cons (pe_bltn (v := .ty "dict") rfl T.z_dict PyProof.Rows.boot_dict rfl) pa_nil))))) (pss_one (My.ps_raise rfl T.X_NoAmount rfl T.m_NoAmount My.xes_xw (pa_cons pe_str pa_nil))) pss_nil)
    (pss_cons (My.ps_thA (ps_for (My.pass_xw rfl rfl) rfl (My.pi_dictX (pv 0)) (pg_name (i := 2) sc_amounts_of.nd rfl (Or.inl rfl)) (pss_one (ps_if (PW.pt (pw_or (pt_not (pt_val (pe_callB My.call_isi2 rfl T.z_isinstance PyProof.Rows.boot_isinstance (pa_cons (pv 2) (pa_cons (pe_bltn (v := .ty "str") rfl T.z_str PyProof.Rows.boot_str rfl) pa_nil))))) (pw_or1 (pt_cmpR op_notIn_seq (pv 2) (pv 1) (by rfl))))) (pss_one (My.ps_thB (My.ps_raise rfl T.X_NoWare rfl T.m_NoWare My.xes_xw (pa_cons pe_str pa_nil)))) pss_nil))))
    (pss_cons (My.ps_thA (ps_for (My.pass_xw rfl rfl) rfl (My.pi_dictX (pv 0)) (pg_name (i := 3) sc_amounts_of.nd rfl (Or.inl rfl)) (pss_one (ps_if (pt_not (pt_val (pe_call ((ok_is_amount T).mono (by decide)) hr rfl T.m_is_amount T.F_is_amount.kp T.b_is_amount .nil pass0 (pa_cons (pe_dget (hu_of hr) (pv 0) (pv 3) (fun _ _ => rfl)) pa_nil)))) (pss_one (My.ps_thB (My.ps_raise rfl T.X_NoAmount rfl T.m_NoAmount My.xes_xw (pa_cons pe_str pa_nil)))) pss_nil))))
    (pss_one (ps_ret (pe_call ((ok_above_nought T).mono (by decide)) hr rfl T.m_above_nought T.F_above_nought.kp T.b_above_nought .nil pass0 (pa_cons (pv 0) pa_nil))))))), ?_⟩
  try dsimp only [L2.cxOf, L2.Cx.nox, L2.Cx.wish, My.xw, My.pnd, My.suite]
  refine r_start (σ := [some (x), some (.ref wa), none, none]) rfl ?_
  walk_at "go"
  cases h with
  | no h e =>
    obtain ⟨t, ty, ek⟩ := h
    refine r_isi0 (r_isi ty ek ?_)
    walk_at "go"
    exact e _ (Same.refl _)
  | mx hx h b e =>
    rename_i a kvs
    subst hx
    refine r_isiM h ?_
    walk_at "go"
    refine r_itXm h fun o ho => ?_
    refine f_dictM (fun i σ H' => H' = H ∧ (∃ w2, σ = [some (.ref a), some (.ref wa), w2, none]) ∧ ∀ j p, j < i → kvs[j]? = some p → ∃ z ∈ ws, p.1 = MK.k (.inr z)) ⟨rfl, ⟨_, rfl⟩, fun j p hj => absurd hj (Nat.not_lt_zero j)⟩ ?_ ?_ ?_
    · rintro i σ H' _ ⟨rfl, _⟩; exact ho
    · rintro i p σ H' hp ⟨rfl, ⟨w2, rfl⟩, hno⟩
      rcases mk_kind (K := K) (h.ks p (List.mem_of_getElem? hp)) with ⟨z, ek, ev⟩ | ⟨nk, t, ty, et⟩
      · rw [ev]
        show gName _ (.str z) _ _ _
        walk_at "go"
        refine r_notIn hw ?_
        by_cases c : z ∈ ws
        · rw [decide_eq_true c]
          walk_at "go"
          refine ⟨rfl, ⟨_, rfl⟩, fun j p' hj hp' => ?_⟩
          rcases Nat.lt_or_ge j i with hl | hl
          · exact hno j p' hl hp'
          · obtain rfl : j = i := by omega
            rw [hp] at hp'
            cases hp'
            exact ⟨z, c, ek⟩
        · rw [decide_eq_false c]
          walk_at "go"
          refine r_thB thaw0 ?_
          walk_at "go"
          exact e _ (Same.refl _)
      · generalize p.2.1 = v at *
        walk_at "go"
        refine r_thB thaw0 ?_
        walk_at "go"
        exact e _ (Same.refl _)
    · rintro σ H' ⟨rfl, ⟨w2, rfl⟩, hno⟩
      obtain ⟨p, hp, hb⟩ := b
      obtain ⟨j, hj⟩ := List.mem_iff_getElem?.mp hp
      obtain ⟨z, hz, ez⟩ := hno j p (List.getElem?_eq_some_iff.mp hj).1 hj
      exact absurd ez (hb z hz)
  | ky hx h t b e =>
    rename_i a kvs
    subst hx
    refine r_isi0 ?_
    walk_at "go"
    refine r_itXd h fun o => ?_
    have hwa : wa ≠ a := ne_of hw h (by intro z; cases z)
    have hw' : upd H a (.frz o (.dK kvs)) wa = some (.lst (ws.map V.str)) := by rw [upd_ne hwa]; exact hw
    refine f_dict (fun i σ H' => H' = upd H a (.frz o (.dK kvs)) ∧ (∃ w2, σ = [some (.ref a), some (.ref wa), w2, none]) ∧ ∀ j p, j < i → kvs[j]? = some p → ∃ z ∈ ws, p.1 = Sum.inr z) ⟨rfl, ⟨_, rfl⟩, fun j p hj => absurd hj (Nat.not_lt_zero j)⟩ ?_ ?_ ?_
    · rintro i σ H' _ ⟨rfl, _⟩; exact upd_same
    · rintro i k v σ H' hp ⟨rfl, ⟨w2, rfl⟩, hno⟩
      obtain ⟨z, ez⟩ := t _ (List.mem_of_getElem? hp)
      obtain rfl : k = Sum.inr z := ez
      show gName _ (.str z) _ _ _
      walk_at "go"
      refine r_notIn hw' ?_
      by_cases c : z ∈ ws
      · rw [decide_eq_true c]
        walk_at "go"
        refine ⟨rfl, ⟨_, rfl⟩, fun j p' hj hp' => ?_⟩
        rcases Nat.lt_or_ge j i with hl | hl
        · exact hno j p' hl hp'
        · obtain rfl : j = i := by omega
          rw [hp] at hp'
          cases hp'
          exact ⟨z, c, rfl⟩
      · rw [decide_eq_false c]
        walk_at "go"
        refine r_thB (thaw1 upd_same (noFrz_dK h)) ?_
        walk_at "go"
        exact e _ (same_thaw h (sb_frz h))
    · rintro σ H' ⟨rfl, ⟨w2, rfl⟩, hno⟩
      obtain ⟨p, hp, hb⟩ := b
      obtain ⟨j, hj⟩ := List.mem_iff_getElem?.mp hp
      obtain ⟨z, hz, ez⟩ := hno j p (List.getElem?_eq_some_iff.mp hj).1 hj
      exact absurd ez (hb z hz)
  | vl hx h nd t v b e =>
    rename_i a kvs
    subst hx
    refine r_isi0 ?_
    walk_at "go"
    refine r_itXd h fun o => ?_
    have hwa : wa ≠ a := ne_of hw h (by intro z; cases z)
    have hw' : upd H a (.frz o (.dK kvs)) wa = some (.lst (ws.map V.str)) := by rw [upd_ne hwa]; exact hw
    refine f_dict (fun i σ H' => H' = upd H a (.frz o (.dK kvs)) ∧ (∃ w2, σ = [some (.ref a), some (.ref wa), w2, none])) ⟨rfl, ⟨_, rfl⟩⟩ ?_ ?_ ?_
    · rintro i σ H' _ ⟨rfl, _⟩; exact upd_same
    · rintro i k v σ H' hp ⟨rfl, ⟨w2, rfl⟩⟩
      obtain ⟨z, hz, ez⟩ := t _ (List.mem_of_getElem? hp)
      obtain rfl : k = Sum.inr z := ez
      show gName _ (.str z) _ _ _
      walk_at "go"
      refine r_notIn hw' ?_
      rw [decide_eq_true hz]
      walk_at "go"
      exact ⟨rfl, ⟨_, rfl⟩⟩
    · rintro σ H' ⟨rfl, ⟨w2, rfl⟩⟩
      refine r_thNx (thaw1 upd_same (noFrz_dK h)) ?_
      have s2 := same_thaw h (sb_frz (o := o) h)
      have ha2 : upd (upd H a (.frz o (.dK kvs))) a (.dK kvs) a = some (.dK kvs) := upd_same
      clear hw'
      generalize upd (upd H a (.frz o (.dK kvs))) a (.dK kvs) = H2 at *
      walk_at "go"
      refine r_itXd ha2 fun o2 => ?_
      refine f_dict (fun i σ H' => H' = upd H2 a (.frz o2 (.dK kvs)) ∧ (∃ w3, σ = [some (.ref a), some (.ref wa), w2, w3]) ∧ ∀ j p, j < i → kvs[j]? = some p → ¬ Bd H p.2) ⟨rfl, ⟨_, rfl⟩, fun j p hj => absurd hj (Nat.not_lt_zero j)⟩ ?_ ?_ ?_
      · rintro i σ H' _ ⟨rfl, _⟩; exact upd_same
      · rintro i k y σ H' hp ⟨rfl, ⟨w3, rfl⟩, hno⟩
        obtain ⟨z, hz, ez⟩ := t _ (List.mem_of_getElem? hp)
        obtain rfl : k = Sum.inr z := ez
        have hRd : Rd (upd H2 a (.frz o2 (.dK kvs))) a (.dK kvs) := .inr ⟨o2, upd_same⟩
        have hv := v _ (List.mem_of_getElem? hp)
        dsimp only at hv
        show gName _ (.str z) _ _ _
        walk_at "go"
        refine r_dgS hRd (val_at nd hp) ?_
        walk_at "go"
        rcases hv with am | bd
        · refine ⟨_, rfl, .inl ⟨am, ?_⟩⟩
          walk_at "go"
          refine ⟨rfl, ⟨_, rfl⟩, fun j p' hj hp' => ?_⟩
          rcases Nat.lt_or_ge j i with hl | hl
          · exact hno j p' hl hp'
          · obtain rfl : j = i := by omega
            rw [hp] at hp'
            cases hp'
            exact am.no
        · refine ⟨_, rfl, .inr ⟨(bd.same s2).put ha2, ?_⟩⟩
          walk_at "go"
          refine r_thB (thaw1 upd_same (noFrz_dK h)) ?_
          walk_at "go"
          exact e _ (s2.trans (same_thaw ha2 (sb_frz ha2)))
      · rintro σ H' ⟨rfl, ⟨w3, rfl⟩, hno⟩
        obtain ⟨p, hp, hb⟩ := b
        obtain ⟨j, hj⟩ := List.mem_iff_getElem?.mp hp
        exact absurd hb (hno j p (List.getElem?_eq_some_iff.mp hj).1 hj)
  | ok hx h A z hf q =>
    rename_i a kvs f
    subst hx
    refine r_isi0 ?_
    walk_at "go"
    refine r_itXd h fun o => ?_
    have hwa : wa ≠ a := ne_of hw h (by intro z; cases z)
    have hw' : upd H a (.frz o (.dK kvs)) wa = some (.lst (ws.map V.str)) := by rw [upd_ne hwa]; exact hw
    refine f_dict (fun i σ H' => H' = upd H a (.frz o (.dK kvs)) ∧ (∃ w2, σ = [some (.ref a), some (.ref wa), w2, none])) ⟨rfl, ⟨_, rfl⟩⟩ ?_ ?_ ?_
    · rintro i σ H' _ ⟨rfl, _⟩; exact upd_same
    · rintro i k v σ H' hp ⟨rfl, ⟨w2, rfl⟩⟩
      obtain ⟨z, n, rfl, rfl, hfz, hzi⟩ := A.at hp
      show gName _ (.str z) _ _ _
      walk_at "go"
      refine r_notIn hw' ?_
      rw [decide_eq_true (hf z n hfz).1]
      walk_at "go"
      exact ⟨rfl, ⟨_, rfl⟩⟩
    · rintro σ H' ⟨rfl, ⟨w2, rfl⟩⟩
      refine r_thNx (thaw1 upd_same (noFrz_dK h)) ?_
      have s2 := same_thaw h (sb_frz (o := o) h)
      have ha2 : upd (upd H a (.frz o (.dK kvs))) a (.dK kvs) a = some (.dK kvs) := upd_same
      clear hw'
      generalize upd (upd H a (.frz o (.dK kvs))) a (.dK kvs) = H2 at *
      walk_at "go"
      refine r_itXd ha2 fun o2 => ?_
      refine f_dict (fun i σ H' => H' = upd H2 a (.frz o2 (.dK kvs)) ∧ (∃ w3, σ = [some (.ref a), some (.ref wa), w2, w3])) ⟨rfl, ⟨_, rfl⟩⟩ ?_ ?_ ?_
      · rintro i σ H' _ ⟨rfl, _⟩; exact upd_same
      · rintro i k y σ H' hp ⟨rfl, ⟨w3, rfl⟩⟩
        obtain ⟨z, n, rfl, rfl, hfz, hzi⟩ := A.at hp
        have hRd : Rd (upd H2 a (.frz o2 (.dK kvs))) a (.dK kvs) := .inr ⟨o2, upd_same⟩
        show gName _ (.str z) _ _ _
        walk_at "go"
        refine ⟨_, rfl, .inl ⟨⟨n, rfl, (hf z n hfz).2⟩, ?_⟩⟩
        walk_at "go"
        exact ⟨rfl, ⟨_, rfl⟩⟩
      · rintro σ H' ⟨rfl, ⟨w3, rfl⟩⟩
        refine r_thNx (thaw1 upd_same (noFrz_dK h)) ?_
        have s3 := s2.trans (same_thaw ha2 (sb_frz (o := o2) ha2))
        have ha3 : upd (upd H2 a (.frz o2 (.dK kvs))) a (.dK kvs) a = some (.dK kvs) := upd_same
        generalize upd (upd H2 a (.frz o2 (.dK kvs))) a (.dK kvs) = H3 at *
        walk_at "go"
        refine ⟨a, kvs, f, rfl, ha3, A, z, fun l k' H4 s4 hl e4 A4 => ?_⟩
        walk_at "go"
        exact q l k' H4 (s3.trans s4) (s3.free hl) e4 A4
inductive Ak (P : Program) (w : World) (K : PySem.W.Frag) (d : Ad) (ws : List Str) (x : V) (H : Hp) (Q : VK) : Prop
  | a (h : ∀ Q0 : VK, ∀ E0 : XK, (∀ H', Same H H' → E0 (.ref d.c_NoAmount) none H') → Hd P w K d ws x H Q0 E0) (q : ∀ t H', Same H H' → H t = none → H' t = some (.tup [.str "amount", .non]) → Q (.ref t) H')
  | w (h : ∀ Q0 : VK, ∀ E0 : XK, (∀ H', Same H H' → E0 (.ref d.c_NoWare) none H') → Hd P w K d ws x H Q0 E0) (q : ∀ t H', Same H H' → H t = none → H' t = some (.tup [.str "ware", .non]) → Q (.ref t) H')
  | o (f : Str → Option Int) (h : ∀ Q0 : VK, ∀ E0 : XK, (∀ l k H', Same H H' → H l = none → H' l = some (.dK k) → AD k (posF f) → Q0 (.ref l) H') → Hd P w K d ws x H Q0 E0)
      (q : ∀ t l k H', Same H H' → H l = none → H t = none → t ≠ l → AD k (posF f) → H' l = some (.dK k) → H' t = some (.tup [.str "", .ref l]) → Q (.ref t) H')
def sp_asked (P : Program) (w : World) (K : PySem.W.Frag) (d : Ad) : Sp := fun vs H Q _ => ∃ (x : V) (wa : Addr) (ws : List Str), vs = [x, .ref wa] ∧ H wa = some (.lst (ws.map V.str)) ∧ Ak P w K d ws x H Q
theorem ok_asked {P : Program} {w : World} {K : PySem.W.Frag} {mg : Str → Option Value} {base : Heap} {d : Ad} (T : Tx K mg d) : FnOk P w K mg base CX0 5 d.f_asked d.fd_asked ["_law_handed", "_law_wares"] (sp_asked P w K d) := by
  refine T.F_asked.ok sc_asked (fun vs H Q E h => ?_) (fun cdv A outer s H vs Q E hr h => ?_)
  · obtain ⟨x, wa, ws, rfl, _⟩ := h; rfl
  obtain ⟨x, wa, ws, rfl, hw, h⟩ := h
  refine ⟨_, (pss_cons (ps_set (i := 2) sc_asked.nd rfl (Or.inl rfl) pe_str)
    (pss_cons (ps_set (i := 3) sc_asked.nd rfl (Or.inl rfl) pe_non)
    (pss_cons (My.ps_try rfl rfl (fun _ _ => (pss_one (ps_set (i := 3) sc_asked.nd rfl (Or.inl rfl) (My.pe_callX ((ok_amounts_of T).mono (by decide)) hr rfl T.m_amounts_of T.F_amounts_of.kp T.b_amounts_of .nil My.xes_xw (pa_cons (pv 0) (pa_cons (pv 1) pa_nil))))))
    (My.ph_own T.B_NoAmount rfl T.m_NoAmount (fun _ => (pss_one (ps_set (i := 2) sc_asked.nd rfl (Or.inl rfl) pe_str)))
    (My.ph_own T.B_NoWare rfl T.m_NoWare (fun _ => (pss_one (ps_set (i := 2) sc_asked.nd rfl (Or.inl rfl) pe_str)))
    My.ph_none)) pss_nil)
    (pss_one (ps_ret (pe_tup (pa_cons (pv 2) (pa_cons (pv 3) pa_nil)))))))), ?_⟩
  try dsimp only [L2.cxOf, L2.Cx.nox, L2.Cx.wish, My.xw, My.pnd, My.suite]
  refine r_start (σ := [some (x), some (.ref wa), none, none]) rfl ?_
  walk_at "go"
  cases h with
  | a h q =>
    refine ⟨x, wa, ws, rfl, hw, h _ _ fun H' s' => ?_⟩
    refine r_cl T.kAA (iteT ?_)
    intro ae hae
    walk_at "go"
    rename_i p hp
    exact q p _ (s'.trans (same_new hp _)) (s'.free hp) upd_same
  | w h q =>
    refine ⟨x, wa, ws, rfl, hw, h _ _ fun H' s' => ?_⟩
    refine r_cl T.kWA (iteF (r_cl T.kWW (iteT ?_)))
    intro ae hae
    walk_at "go"
    rename_i p hp
    exact q p _ (s'.trans (same_new hp _)) (s'.free hp) upd_same
  | o f h q =>
    refine ⟨x, wa, ws, rfl, hw, h _ _ fun l k H' s' hl e' A' => ?_⟩
    walk_at "go"
    rename_i p hp
    have nl : p ≠ l := (ne_of_none e' hp).symm
    exact q p l k _ (s'.trans (same_new hp _)) hl (s'.free hp) nl A' (by rw [upd_ne nl.symm]; exact e') upd_same
structure Rws (H : Hp) (l : Addr) (rows : List RwV) (n : Nat) : Prop where
  at_ : H l = some (.lst (rows.map fun r => .ref r.1))
  ok : ∀ r ∈ rows, H r.1 = some (.tup [r.2.2.1, r.2.2.2]) ∧ MkV H r.2.1 r.2.2.1
  nd : (rows.map (·.2.1)).Nodup
  len : rows.length ≤ n
theorem Rws.same {H H' : Hp} {l : Addr} {rows : List RwV} {n : Nat} (h : Rws H l rows n) (s : Same H H') : Rws H' l rows n :=
  ⟨s _ _ h.at_, fun r hr => ⟨s _ _ (h.ok r hr).1, (h.ok r hr).2.keep fun b xs e => s _ _ e⟩, h.nd, h.len⟩
theorem Rws.snoc {H : Hp} {p pt : Addr} {rows : List RwV} {n : Nat} {k : MK} {x y : V} (h : Rws H p rows n) (hpt : H pt = none) (hk : MkV H k x) (hn : k ∉ rows.map (·.2.1)) :
    Rws (upd (upd H pt (.tup [x, y])) p (.lst ((rows.map fun r => V.ref r.1) ++ [.ref pt]))) p (rows ++ [(pt, k, x, y)]) (n + 1) := by
  have npt : p ≠ pt := ne_of_none h.at_ hpt
  have kp : ∀ b xs, H b = some (.tup xs) → upd (upd H pt (.tup [x, y])) p (.lst ((rows.map fun r => V.ref r.1) ++ [.ref pt])) b = some (.tup xs) := fun b xs e => by
    have n1 : b ≠ pt := ne_of_none e hpt
    have n2 : b ≠ p := ne_of e h.at_ (by intro z; cases z)
    rw [upd_ne n2, upd_ne n1]; exact e
  refine ⟨?_, fun r hr => ?_, ?_, ?_⟩
  · rw [List.map_append]; exact upd_same
  · rcases List.mem_append.mp hr with hr | hr
    · exact ⟨kp _ _ (h.ok r hr).1, (h.ok r hr).2.keep kp⟩
    · obtain rfl := List.mem_singleton.mp hr
      refine ⟨?_, hk.keep kp⟩
      show upd _ p _ pt = _
      rw [upd_ne npt.symm]; exact upd_same
  · rw [List.map_append]
    refine List.nodup_append.mpr ⟨h.nd, by simp, fun a ha b hb e => ?_⟩
    have : b = k := by simpa using hb
    subst this; subst e
    exact hn ha
  · rw [List.length_append]; have := h.len; show _ + 1 ≤ n + 1; omega
theorem mod_ne {x : Int} {n i j : Nat} (hn : 0 < n) (h1 : j < i) (h2 : i < n) (e : (x + (0 + (i : Int))) % (n : Int) = (x + (0 + (j : Int))) % (n : Int)) : False := by
  have z := Int.emod_eq_emod_iff_emod_sub_eq_zero.mp e
  rw [show x + (0 + (i : Int)) - (x + (0 + (j : Int))) = ((i - j : Nat) : Int) by omega, Int.emod_eq_of_lt (by omega) (by omega)] at z
  omega
theorem at_ws {ws : List Str} {i : Nat} (hi : i < ws.length) {k : Int} (e : k = (i : Int)) : atI (ws.map V.str) k = some (.str ws[i]) := by
  subst e
  exact atI_nat (by rw [List.getElem?_map, List.getElem?_eq_getElem hi]; rfl)
def TxR (ws : List Str) (r : RwV) : Prop := ∃ z ∈ ws, ∃ i : Int, r.2.1 = .k (.inr z) ∧ r.2.2.1 = .str z ∧ r.2.2.2 = .int i ∧ 0 ≤ i ∧ i ≤ 10 ^ 30
def sp_rows (K : PySem.W.Frag) (d : Ad) : Sp := fun vs H Q _ => ∃ (a wa : Addr) (ns : List Int) (ws : List Str), vs = [.ref a, .ref wa] ∧ SqL K H a (ns.map V.int) ∧ H wa = some (.lst (ws.map V.str)) ∧ ws.Nodup ∧ 1 ≤ ws.length ∧ ws.length ≤ 6 ∧
  ∀ l rows H', Same H H' → H l = none → Rws H' l rows 6 → (∀ r ∈ rows, TxR ws r) → Q (.ref l) H'
theorem ok_rows {P : Program} {w : World} {K : PySem.W.Frag} {mg : Str → Option Value} {base : Heap} {d : Ad} (T : Tx K mg d) : FnOk P w K mg base CX0 2 d.f_rows d.fd_rows ["_law_script", "_law_wares"] (sp_rows K d) := by
  refine T.F_rows.ok sc_rows (fun vs H Q E h => ?_) (fun cdv A outer s H vs Q E hr h => ?_)
  · obtain ⟨a, wa, ns, ws, rfl, _⟩ := h; rfl
  obtain ⟨a, wa, ns, ws, rfl, hS, hw, nd, w1, w6, q⟩ := h
  refine ⟨_, (pss_cons (ps_set (i := 2) sc_rows.nd rfl (Or.inl rfl) (pe_lst pa_nil))
    (pss_cons (ps_for PassesOwn.never rfl (pi_range1 rfl T.z_range (pa_cons (pe_callB My.call_lenN rfl T.z_len PySem.boot_len (pa_cons (pv 1) pa_nil)) pa_nil)) (pg_name (i := 3) sc_rows.nd rfl (Or.inl rfl)) (pss_cons (ps_set (i := 4) sc_rows.nd rfl (Or.inl rfl) (pe_call ((ok_cell T).mono (by decide)) hr rfl T.m_cell T.F_cell.kp T.b_cell .nil pass0 (pa_cons (pv 0) (pa_cons (pe_op op_add pe_int (pv 3)) pa_nil))))
    (pss_cons (ps_set (i := 5) sc_rows.nd rfl (Or.inl rfl) (pe_ix ix_list (pe_lst (pa_cons pe_int (pa_cons pe_int (pa_cons (pe_op op_add pe_int (pe_op op_mod (pe_op My.op_fdivB (pv 4) pe_int) pe_int)) (pa_cons (pe_op op_sub (pe_op op_pow pe_int pe_int) (pe_op op_mod (pe_op My.op_fdivB (pv 4) pe_int) (pe_op op_pow pe_int pe_int))) pa_nil))))) (pe_op op_mod (pv 4) pe_int) (fun _ _ => rfl)))
    (pss_one (My.ps_cut (ps_if (pt_cmpR op_gt (pe_op op_mod (pv 4) pe_int) pe_int (nomark _)) (pss_one (ps_expr (pe_bm PySem.F.plainAttrs_list PySem.F.slot_list_append PySem.F.type_list_append mt_append (pv 2) (pa_cons (pe_tup (pa_cons (pe_ix ix_list (pv 1) (pe_op op_mod (pe_op op_add (pe_call ((ok_cell T).mono (by decide)) hr rfl T.m_cell T.F_cell.kp T.b_cell .nil pass0 (pa_cons (pv 0) (pa_cons pe_int pa_nil))) (pv 3)) (pe_callB My.call_lenN rfl T.z_len PySem.boot_len (pa_cons (pv 1) pa_nil))) (fun _ _ => rfl)) (pa_cons (pv 5) pa_nil))) pa_nil)))) pss_nil))))))
    (pss_one (ps_ret (pv 2))))), ?_⟩
  try dsimp only [L2.cxOf, L2.Cx.nox, L2.Cx.wish, My.xw, My.pnd, My.suite]
  refine r_start (σ := [some (.ref a), some (.ref wa), none, none, none, none]) rfl ?_
  walk_at "go"
  rename_i p hp
  have hl : (ws.map V.str).length = ws.length := List.length_map _
  have eN : ((ws.length : Nat) : Int).toNat = ws.length := by omega
  rw [hl, eN]
  refine f_range (fun i σ H' => ∃ (rows : List RwV) (w3 w4 w5 : Option V), σ = [some (.ref a), some (.ref wa), some (.ref p), w3, w4, w5] ∧ Same H H' ∧ Rws H' p rows i ∧ (∀ r ∈ rows, TxR ws r) ∧ ∀ r ∈ rows, ∃ j, j < i ∧ ∃ z, r.2.1 = .k (.inr z) ∧ ws[((cell ns 3 + (0 + (j : Int))) % ((ws.length : Nat) : Int)).toNat]? = some z)
    ⟨[], none, none, none, rfl, same_new hp _, ⟨upd_same, all_nil, .nil, Nat.le_refl _⟩, all_nil, all_nil⟩ ?_ ?_
  · rintro i σ H' hi ⟨rows, w3, w4, w5, rfl, s1, hR, hT, hJ⟩
    have hS1 := s1.seq hS
    have hw1 := s1 _ _ hw
    have i0 : (0 : Int) ≤ 8 + (0 + (i : Int)) := by omega
    walk_at "go"
    rename_i p1 h1
    rw [show (10 : Int) ^ Int.toNat 30 = 10 ^ 30 from rfl]
    have m0 := Int.emod_nonneg (cell ns (8 + (0 + (i : Int)))) (show (4 : Int) ≠ 0 by decide)
    have m1 := Int.emod_lt_of_pos (cell ns (8 + (0 + (i : Int)))) (show (0 : Int) < 4 by decide)
    have hv : ∀ v ∈ [V.int 0, V.int 0, V.int (1 + (cell ns (8 + (0 + (i : Int)))).fdiv 4 % 9), V.int (10 ^ 30 - (cell ns (8 + (0 + (i : Int)))).fdiv 4 % 10 ^ 30)], ∃ n : Int, v = .int n ∧ 0 ≤ n ∧ n ≤ 10 ^ 30 := by
      generalize (cell ns (8 + (0 + (i : Int)))).fdiv 4 = y
      have a0 := Int.emod_nonneg y (show (9 : Int) ≠ 0 by decide)
      have a1 := Int.emod_lt_of_pos y (show (0 : Int) < 9 by decide)
      have b0 := Int.emod_nonneg y (show (10 : Int) ^ 30 ≠ 0 by decide)
      have b1 := Int.emod_lt_of_pos y (show (0 : Int) < 10 ^ 30 by decide)
      exact all_cons ⟨_, rfl, by decide, by decide⟩ (all_cons ⟨_, rfl, by decide, by decide⟩ (all_cons ⟨_, rfl, by omega, by omega⟩ (all_cons ⟨_, rfl, by omega, by omega⟩ all_nil)))
    generalize hce : cell ns (8 + (0 + (i : Int))) = ce at *
    have hdl : [V.int 0, V.int 0, V.int (1 + ce.fdiv 4 % 9), V.int (10 ^ 30 - ce.fdiv 4 % 10 ^ 30)].length = 4 := rfl
    generalize [V.int 0, V.int 0, V.int (1 + ce.fdiv 4 % 9), V.int (10 ^ 30 - ce.fdiv 4 % 10 ^ 30)] = dl at *
    have e1 : upd H' p1 (.lst dl) p1 = some (.lst dl) := upd_same
    have s2 := s1.trans (same_new h1 (.lst dl))
    have R1 := hR.same (same_new h1 (.lst dl))
    have hw2 := s2 _ _ hw
    have hS2 := s2.seq hS
    generalize upd H' p1 (.lst dl) = H1 at *
    refine r_pick e1 m0 (by rw [hdl]; exact m1) ?_
    intro v hv'
    obtain ⟨n, rfl, n0, n1⟩ := hv v hv'
    clear hv hv' e1 h1 hw1 hS1 hR m0 m1 s1 hdl dl
    walk_at "go"
    refine r_cut0 ?_
    walk_at "go"
    refine i_2 (fun c => ?_) (fun c => ?_)
    · clear c
      have hp1 := R1.at_
      have n0' : (0 : Int) < ((ws.map V.str).length : Int) := by rw [hl]; omega
      walk_at "go"
      rw [hl]
      have k0 := Int.emod_nonneg (cell ns 3 + (0 + (i : Int))) (show ((ws.length : Nat) : Int) ≠ 0 by omega)
      have k1 := Int.emod_lt_of_pos (cell ns 3 + (0 + (i : Int))) (show (0 : Int) < ((ws.length : Nat) : Int) by omega)
      obtain ⟨k, hk⟩ : ∃ k : Nat, (cell ns 3 + (0 + (i : Int))) % ((ws.length : Nat) : Int) = (k : Int) := ⟨_, (Int.toNat_of_nonneg k0).symm⟩
      have hkl : k < ws.length := by omega
      have hn : MK.k (.inr ws[k]) ∉ rows.map (·.2.1) := fun hm => by
        obtain ⟨r, hr, er⟩ := List.mem_map.mp hm
        obtain ⟨j, hj, z, ez, e⟩ := hJ r hr
        rw [er] at ez
        have ez2 : ws[k] = z := by injection ez with ez; injection ez
        rw [← ez2] at e
        obtain ⟨h1, h2⟩ := List.getElem?_eq_some_iff.mp e
        have h3 := (List.getElem_inj (h₀ := h1) (h₁ := hkl) nd).mp h2
        have j0 := Int.emod_nonneg (cell ns 3 + (0 + (j : Int))) (show ((ws.length : Nat) : Int) ≠ 0 by omega)
        exact mod_ne (show 0 < ws.length by omega) hj hi (show (cell ns 3 + (0 + (i : Int))) % ((ws.length : Nat) : Int) = (cell ns 3 + (0 + (j : Int))) % ((ws.length : Nat) : Int) by omega)
      clear k0 k1 n0' hl
      refine r_ixL (SqL.of hw2) (at_ws hkl hk) ?_
      walk_at "go"
      rename_i pt hpt
      have hzr : (rows.map fun r => V.ref r.1).length < sizeLine := by rw [List.length_map, sizeLine_eq]; have := R1.len; omega
      refine r_append (by rw [upd_ne (ne_of_none hp1 hpt)]; exact hp1) hzr ?_
      refine ⟨rows ++ [(pt, .k (.inr ws[k]), .str ws[k], .int n)], _, _, _, rfl, same_put (s2.trans (same_new hpt _)) hp, R1.snoc (k := .k (.inr ws[k])) (x := .str ws[k]) (y := .int n) hpt rfl hn, ?_, ?_⟩
      · intro r hr
        rcases List.mem_append.mp hr with h | h
        · exact hT r h
        · obtain rfl := List.mem_singleton.mp h
          exact ⟨_, List.getElem_mem hkl, n, rfl, rfl, rfl, n0, n1⟩
      · intro r hr
        rcases List.mem_append.mp hr with h | h
        · obtain ⟨j, hj, z⟩ := hJ r h
          exact ⟨j, Nat.lt_succ_of_lt hj, z⟩
        · obtain rfl := List.mem_singleton.mp h
          refine ⟨i, Nat.lt_succ_self i, ws[k], rfl, ?_⟩
          rw [hk]
          exact List.getElem?_eq_getElem hkl
    · walk_at "go"
      exact ⟨rows, _, _, _, rfl, s2, ⟨R1.at_, R1.ok, R1.nd, Nat.le_succ_of_le R1.len⟩, hT, fun r hr => let ⟨j, hj, z⟩ := hJ r hr; ⟨j, Nat.lt_succ_of_lt hj, z⟩⟩
  · rintro σ H' ⟨rows, w3, w4, w5, rfl, s1, hR, hT, hJ⟩
    walk_at "go"
    exact q p rows H' s1 hp ⟨hR.at_, hR.ok, hR.nd, Nat.le_trans hR.len w6⟩ hT
theorem r_slL {K : PySem.W.Frag} {H : Hp} {Q : VK} {a : Addr} {xs : List V} {lo hi : Option Int} (h : SqL K H a xs) (q : ∀ p, H p = none → Q (.ref p) (upd H p (.lst (cutV xs lo hi)))) : rSlL K (.ref a) lo hi H Q := ⟨a, xs, rfl, h, q⟩
theorem cut_pre {α : Type} {L : List α} (f : α → V) {k : Nat} (hk : k ≤ L.length) : cutV (L.map f) none (some (k : Int)) = (L.take k).map f := by
  unfold cutV
  rw [HT.sIx_none, HT.sIx_nat, List.length_map, Nat.min_eq_left hk, List.drop_zero, Nat.sub_zero, List.map_take]
theorem cut_post {α : Type} {L : List α} (f : α → V) {k : Nat} (hk : k ≤ L.length) : cutV (L.map f) (some (k : Int)) none = (L.drop k).map f := by
  unfold cutV
  rw [HT.sIx_none, HT.sIx_nat, List.length_map, Nat.min_eq_left hk, List.map_drop]
  exact List.take_of_length_le (by rw [List.length_drop, List.length_map]; omega)
def sp_put (K : PySem.W.Frag) (d : Ad) : Sp := fun vs H Q _ => ∃ (l t : Addr) (c : Int) (rows : List RwV) (r : MV) (n : Nat), vs = [.ref l, .int c, .ref t] ∧ Rws H l rows n ∧ n ≤ 50 ∧ (∀ x ∈ rows, ∃ z, x.2.1 = .k (.inr z)) ∧ H t = some (.tup [r.2.1, r.2.2]) ∧ MkV H r.1 r.2.1 ∧
  ∀ l' pre post H', Same H H' → H l' = none → pre ++ post = rows.filter (fun x => !decide (x.2.1 = r.1)) → Rws H' l' (pre ++ (t, r) :: post) (n + 1) → Q (.ref l') H'
theorem ok_put {P : Program} {w : World} {K : PySem.W.Frag} {mg : Str → Option Value} {base : Heap} {d : Ad} (T : Tx K mg d) : FnOk P w K mg base CX0 1 d.f_put d.fd_put ["_law_rows_here", "_law_cell_here", "_law_row"] (sp_put K d) := by
  refine T.F_put.ok sc_put (fun vs H Q E h => ?_) (fun cdv A outer s H vs Q E hr h => ?_)
  · obtain ⟨l, t, c, rows, r, n, rfl, _⟩ := h; rfl
  obtain ⟨l, t, c, rows, r, n, rfl, hR, n50, htx, ht, hk, q⟩ := h
  refine ⟨_, (pss_cons (My.ps_comp (j := 3) (caps := [2]) (cn := ["_law_row"]) (My.caps_of rfl rfl (by rfl) (by rfl) rfl ⟨rfl, trivial⟩ (by rfl) rfl ⟨⟨rfl, rfl, rfl, rfl, _, rfl⟩, trivial⟩ (by decide)) rfl sc_put.nd rfl rfl (pi_list (pv 0)) (fun _ _ _ _ => (My.pf_one (pt_cmpR (My.op_neS (My.hu8 hr)) (pe_ix ix_tup (pv 0) pe_int (fun _ _ => rfl)) (pe_ix ix_tup (pv 1) pe_int (fun _ _ => rfl)) (nomark _)))) (fun _ _ _ _ => (pv 0)))
    (pss_cons (ps_set (i := 4) sc_put.nd rfl (Or.inl rfl) (pe_op op_mod (pv 1) (pe_op op_add (pe_callB My.call_lenN rfl T.z_len PySem.boot_len (pa_cons (pv 3) pa_nil)) pe_int)))
    (pss_one (ps_ret (pe_op op_cat (pe_op op_cat (pe_slice sl_list (pv 3) po_none (po_some (pv 4))) (pe_lst (pa_cons (pv 2) pa_nil))) (pe_slice sl_list (pv 3) (po_some (pv 4)) po_none)))))), ?_⟩
  try dsimp only [L2.cxOf, L2.Cx.nox, L2.Cx.wish, My.xw, My.pnd, My.suite]
  try dsimp only [My.cxC]
  refine r_start (σ := [some (.ref l), some (.int c), some (.ref t), none, none]) rfl ?_
  walk_at "go"
  have hl := hR.at_
  refine r_itL (SqL.of hl) ?_
  intro C s0 H0 fp acc hacc
  have nla : l ≠ acc := ne_of_none hl hacc
  have nta : t ≠ acc := ne_of_none ht hacc
  refine c_by rows.length (fun i H' => H' = upd H acc (.lst (((rows.take i).filter (fun x => !decide (x.2.1 = r.1))).map fun x => V.ref x.1))) (by simp) ?_ ?_ ?_ ?_
  · rintro i H' hi rfl
    exact ⟨_, .ref rows[i].1, SqL.of (look_new hl hacc), by rw [List.getElem?_map, List.getElem?_eq_getElem hi]; rfl⟩
  · rintro H' rfl
    exact ⟨_, SqL.of (look_new hl hacc), by rw [List.length_map]; exact Nat.le_refl _⟩
  · rintro i H' v H'' hi rfl ⟨rfl, hy⟩
    have hv := hy _ (SqL.of (look_new hl hacc))
    rw [List.getElem?_map, List.getElem?_eq_getElem hi] at hv
    cases hv
    have tk : rows.take (i + 1) = rows.take i ++ [rows[i]] := by rw [List.take_add_one, List.getElem?_eq_getElem hi]; rfl
    have hmem := List.getElem_mem hi
    obtain ⟨ho1, ho2⟩ := hR.ok _ hmem
    obtain ⟨z, ez⟩ := htx _ hmem
    rw [tk, List.filter_append]
    generalize rows[i] = R at *
    have zl : (((rows.take i).filter (fun x => !decide (x.2.1 = r.1))).map fun x => V.ref x.1).length < sizeLine := by
      rw [List.length_map, sizeLine_eq]
      have h1 := List.length_filter_le (fun x : RwV => !decide (x.2.1 = r.1)) (rows.take i)
      rw [List.length_take] at h1
      have := hR.len
      omega
    generalize (rows.take i).filter (fun x => !decide (x.2.1 = r.1)) = L at *
    have hrow := look_new (o' := .lst (L.map fun x => V.ref x.1)) ho1 hacc
    have htt := look_new (o' := .lst (L.map fun x => V.ref x.1)) ht hacc
    have hk' : MkV (upd H acc (.lst (L.map fun x => V.ref x.1))) r.1 r.2.1 := hk.keep fun b xs e => look_new e hacc
    rw [ez] at ho2
    have ev : R.2.2.1 = .str z := ho2
    rw [ev] at hrow
    walk_at "go"
    rw [ev]
    refine r_neMk hk' ?_
    have ed : decide (r.1 = MK.k (.inr z)) = decide (R.2.1 = r.1) := by rw [ez]; exact decide_eq_decide.mpr ⟨fun e => e.symm, fun e => e.symm⟩
    rw [ed]
    by_cases c2 : R.2.1 = r.1
    · rw [decide_eq_true c2]
      walk_at "go"
      rw [List.filter_cons, if_neg (by rw [decide_eq_true c2]; exact Bool.false_ne_true), List.filter_nil, List.append_nil]
    · rw [decide_eq_false c2]
      walk_at "go"
      rw [List.filter_cons, if_pos (by rw [decide_eq_false c2]; rfl), upd_upd, List.map_append]
      rfl
  · rintro H' rfl
    rw [List.take_length]
    have h1 := List.length_filter_le (fun x : RwV => !decide (x.2.1 = r.1)) rows
    have hok : ∀ x ∈ rows.filter (fun x => !decide (x.2.1 = r.1)), x ∈ rows ∧ x.2.1 ≠ r.1 := fun x hx => by
      obtain ⟨a, b⟩ := List.mem_filter.mp hx
      exact ⟨a, fun e => by rw [decide_eq_true e] at b; cases b⟩
    generalize hL : rows.filter (fun x => !decide (x.2.1 = r.1)) = L at *
    have s1 := same_new hacc (.lst (L.map fun x => V.ref x.1))
    have ea : upd H acc (.lst (L.map fun x => V.ref x.1)) acc = some (.lst (L.map fun x => V.ref x.1)) := upd_same
    generalize upd H acc (.lst (L.map fun x => V.ref x.1)) = H1 at *
    have hlen : (L.map fun x => V.ref x.1).length = L.length := List.length_map _
    walk_at "go"
    rw [hlen]
    have m0 := Int.emod_nonneg c (show ((L.length : Nat) : Int) + 1 ≠ 0 by omega)
    have m1 := Int.emod_lt_of_pos c (show (0 : Int) < ((L.length : Nat) : Int) + 1 by omega)
    obtain ⟨k, hk0⟩ : ∃ k : Nat, c % (((L.length : Nat) : Int) + 1) = (k : Int) := ⟨_, (Int.toNat_of_nonneg m0).symm⟩
    have hkl : k ≤ L.length := by omega
    rw [hk0]
    clear m0 m1 hk0
    have ht1 := s1 _ _ ht
    have hn := hR.len
    have tl1 : ((L.take k).map fun x => V.ref x.1).length ≤ 50 := by rw [List.length_map, List.length_take]; omega
    have tl2 : ((L.drop k).map fun x => V.ref x.1).length ≤ 50 := by rw [List.length_map, List.length_drop]; omega
    refine r_slL (SqL.of ea) fun p1 g1 => ?_
    rw [cut_pre _ hkl]
    have s2 := s1.trans (same_new g1 (.lst ((L.take k).map fun x => V.ref x.1)))
    have ea2 := same_new g1 (.lst ((L.take k).map fun x => V.ref x.1)) _ _ ea
    have e2 : upd H1 p1 (.lst ((L.take k).map fun x => V.ref x.1)) p1 = some _ := upd_same
    generalize upd H1 p1 (.lst ((L.take k).map fun x => V.ref x.1)) = H2 at *
    walk_at "go"
    rename_i p2 g2
    have s3 := s2.trans (same_new g2 (.lst [V.ref t]))
    have ea3 := same_new g2 (.lst [V.ref t]) _ _ ea2
    have e3 := same_new g2 (.lst [V.ref t]) _ _ e2
    have f3 : upd H2 p2 (.lst [V.ref t]) p2 = some _ := upd_same
    generalize upd H2 p2 (.lst [V.ref t]) = H3 at *
    refine r_cat e3 f3 (by rw [sizeLine_eq]; show _ + 1 ≤ _; omega) fun p3 g3 => ?_
    have s4 := s3.trans (same_new g3 (.lst (((L.take k).map fun x => V.ref x.1) ++ [V.ref t])))
    have ea4 := same_new g3 (.lst (((L.take k).map fun x => V.ref x.1) ++ [V.ref t])) _ _ ea3
    have e4 : upd H3 p3 (.lst (((L.take k).map fun x => V.ref x.1) ++ [V.ref t])) p3 = some _ := upd_same
    generalize upd H3 p3 (.lst (((L.take k).map fun x => V.ref x.1) ++ [V.ref t])) = H4 at *
    walk_at "go"
    refine r_slL (SqL.of ea4) fun p4 g4 => ?_
    rw [cut_post _ hkl]
    have s5 := s4.trans (same_new g4 (.lst ((L.drop k).map fun x => V.ref x.1)))
    have e5 := same_new g4 (.lst ((L.drop k).map fun x => V.ref x.1)) _ _ e4
    have f5 : upd H4 p4 (.lst ((L.drop k).map fun x => V.ref x.1)) p4 = some _ := upd_same
    generalize upd H4 p4 (.lst ((L.drop k).map fun x => V.ref x.1)) = H5 at *
    refine r_cat e5 f5 (by rw [sizeLine_eq, List.length_append]; show _ + 1 + _ ≤ _; omega) fun p5 g5 => ?_
    have s6 := s5.trans (same_new g5 (.lst (((L.take k).map fun x => V.ref x.1) ++ [V.ref t] ++ (L.drop k).map fun x => V.ref x.1)))
    have e6 : upd H5 p5 (.lst (((L.take k).map fun x => V.ref x.1) ++ [V.ref t] ++ (L.drop k).map fun x => V.ref x.1)) p5 = some _ := upd_same
    generalize upd H5 p5 (.lst (((L.take k).map fun x => V.ref x.1) ++ [V.ref t] ++ (L.drop k).map fun x => V.ref x.1)) = H6 at *
    have hmem : ∀ x ∈ L.take k ++ (t, r) :: L.drop k, x ∈ L ∨ x = (t, r) := fun x hx => by
      rcases List.mem_append.mp hx with h | h
      · exact .inl (List.mem_of_mem_take h)
      · rcases List.mem_cons.mp h with h | h
        · exact .inr h
        · exact .inl (List.mem_of_mem_drop h)
    refine q p5 (L.take k) (L.drop k) H6 s6 (s5.free g5) (List.take_append_drop ..) ⟨?_, fun x hx => ?_, ?_, ?_⟩
    · rw [e6]; simp
    · rcases hmem x hx with h | h
      · have := hR.ok x (hok x h).1
        exact ⟨s6 _ _ this.1, this.2.keep fun b xs e => s6 _ _ e⟩
      · subst h
        exact ⟨s6 _ _ ht, hk.keep fun b xs e => s6 _ _ e⟩
    · have pm : (L.take k ++ (t, r) :: L.drop k).Perm ((t, r) :: L) := by
        have := (List.perm_middle (a := ((t, r) : RwV)) (l₁ := L.take k) (l₂ := L.drop k))
        rw [List.take_append_drop] at this
        exact this
      refine (pm.map (·.2.1)).nodup_iff.mpr ?_
      rw [List.map_cons]
      refine List.nodup_cons.mpr ⟨fun h => ?_, ?_⟩
      · obtain ⟨x, hx, e⟩ := List.mem_map.mp h
        exact (hok x hx).2 e
      · rw [← hL]
        exact hR.nd.sublist (List.filter_sublist.map _)
    · rw [List.length_append, List.length_cons, List.length_take, List.length_drop]; omega
def keyR (r : RwV) : Key := match r.2.1 with
  | .k k => k
  | _ => Sum.inr (Str.ofString "")
def kvsOf (rows : List RwV) : List (Key × V) := rows.map fun r => (keyR r, r.2.2.2)
def TxtR (r : RwV) : Prop := ∃ z, r.2.1 = .k (.inr z) ∧ r.2.2.1 = .str z
theorem TxtR.eq {r : RwV} (h : TxtR r) : r.2 = (MK.k (keyR r), kV (keyR r), r.2.2.2) ∧ ∃ z, keyR r = Sum.inr z ∧ r.2.1 = .k (.inr z) := by
  obtain ⟨z, h1, h2⟩ := h
  obtain ⟨a, k, x, y⟩ := r
  obtain rfl : k = .k (.inr z) := h1
  obtain rfl : x = .str z := h2
  exact ⟨rfl, z, rfl, rfl⟩
theorem kvs_eq {rows : List RwV} (h : ∀ r ∈ rows, TxtR r) : rows.map (·.2) = (kvsOf rows).map fun p => (MK.k p.1, kV p.1, p.2) := by
  unfold kvsOf
  rw [List.map_map]
  exact List.map_congr_left fun r hr => (h r hr).eq.1
theorem kvs_nd {rows : List RwV} (h : ∀ r ∈ rows, TxtR r) (nd : (rows.map (·.2.1)).Nodup) : ((kvsOf rows).map (·.1)).Nodup := by
  unfold kvsOf
  rw [List.map_map]
  have e : rows.map (·.2.1) = (rows.map ((fun x : Key × V => x.1) ∘ fun r => (keyR r, r.2.2.2))).map MK.k := by
    rw [List.map_map]
    refine List.map_congr_left fun r hr => ?_
    obtain ⟨_, z, h1, h2⟩ := (h r hr).eq
    show r.2.1 = MK.k (keyR r)
    rw [h1, h2]
  rw [e] at nd
  exact List.Pairwise.of_map MK.k (fun a b h e => h (by rw [e])) nd
theorem mk_txt {H : Hp} {z : Str} {r : RwV} (h : MkV H r.2.1 r.2.2.1) (e : r.2.1 = .k (.inr z)) : TxtR r := by
  rw [e] at h
  exact ⟨z, e, h⟩
def fR (rows : List RwV) : Str → Option Int := fun z => match valV (kvsOf rows) (Sum.inr z) with
  | some (.int i) => some i
  | _ => none
theorem TxR.txt {ws : List Str} {r : RwV} (h : TxR ws r) : TxtR r := by
  obtain ⟨z, _, i, h1, h2, _⟩ := h
  exact ⟨z, h1, h2⟩
theorem kvs_mem {ws : List Str} {rows : List RwV} (h : ∀ r ∈ rows, TxR ws r) {p : Key × V} (hp : p ∈ kvsOf rows) : ∃ z ∈ ws, ∃ i : Int, p = (Sum.inr z, .int i) ∧ 0 ≤ i ∧ i ≤ 10 ^ 30 := by
  unfold kvsOf at hp
  obtain ⟨r, hr, rfl⟩ := List.mem_map.mp hp
  obtain ⟨z, hz, i, h1, h2, h3, h4⟩ := h r hr
  refine ⟨z, hz, i, ?_, h4⟩
  show (keyR r, r.2.2.2) = _
  rw [h3]
  unfold keyR
  rw [h1]
theorem fR_iff {ws : List Str} {rows : List RwV} (h : ∀ r ∈ rows, TxR ws r) (nd : (rows.map (·.2.1)).Nodup) (z : Str) (n : Int) : fR rows z = some n ↔ (Sum.inr z, V.int n) ∈ kvsOf rows := by
  have nd' := kvs_nd (fun r hr => (h r hr).txt) nd
  constructor
  · intro e
    unfold fR at e
    cases q : valV (kvsOf rows) (Sum.inr z) with
    | none => rw [q] at e; cases e
    | some v =>
      have m := valV_mem q
      obtain ⟨z', _, i, e2, _⟩ := kvs_mem h m
      cases e2
      rw [q] at e
      cases e
      exact m
  · intro m
    unfold fR
    rw [valV_of_mem nd' m]
theorem fR_ad {ws : List Str} {rows : List RwV} (h : ∀ r ∈ rows, TxR ws r) (nd : (rows.map (·.2.1)).Nodup) : AD (kvsOf rows) (fR rows) := by
  refine ⟨kvs_nd (fun r hr => (h r hr).txt) nd, fun p hp => ?_, fun z => ?_⟩
  · obtain ⟨z, _, i, e, _⟩ := kvs_mem h hp
    exact ⟨z, i, e⟩
  · cases q : valV (kvsOf rows) (Sum.inr z) with
    | none => unfold fR; rw [q]; rfl
    | some v =>
      obtain ⟨z', _, i, e2, _⟩ := kvs_mem h (valV_mem q)
      cases e2
      unfold fR; rw [q]; rfl
def posV : V → Bool
  | .int i => decide (0 < i)
  | _ => false
theorem fR_pos {ws : List Str} {rows : List RwV} (h : ∀ r ∈ rows, TxR ws r) (nd : (rows.map (·.2.1)).Nodup) (z : Str) : fR (rows.filter fun r => posV r.2.2.2) z = posF (fR rows) z := by
  have hf : ∀ r ∈ rows.filter (fun r => posV r.2.2.2), TxR ws r := fun r hr => h r (List.mem_filter.mp hr).1
  have ndf : ((rows.filter fun r => posV r.2.2.2).map (·.2.1)).Nodup := nd.sublist (List.filter_sublist.map _)
  have pf : ∀ n, posF (fR rows) z = some n ↔ fR rows z = some n ∧ 0 < n := fun n => by
    unfold posF
    cases fR rows z with
    | none => simp
    | some m =>
      dsimp only
      by_cases c : 0 < m
      · rw [if_pos c]
        exact ⟨fun e => by cases e; exact ⟨rfl, c⟩, fun e => e.1⟩
      · rw [if_neg c]
        exact ⟨fun e => (by cases e), fun e => (by obtain ⟨e, e2⟩ := e; cases e; exact absurd e2 c)⟩
  refine Option.ext fun n => ?_
  rw [fR_iff hf ndf, pf, fR_iff h nd]
  unfold kvsOf
  constructor
  · intro m
    obtain ⟨r, hr, e⟩ := List.mem_map.mp m
    obtain ⟨h1, h2⟩ := List.mem_filter.mp hr
    have e2 : r.2.2.2 = .int n := congrArg Prod.snd e
    rw [e2] at h2
    exact ⟨List.mem_map.mpr ⟨r, h1, e⟩, of_decide_eq_true h2⟩
  · rintro ⟨m, c⟩
    obtain ⟨r, hr, e⟩ := List.mem_map.mp m
    have e2 : r.2.2.2 = .int n := congrArg Prod.snd e
    exact List.mem_map.mpr ⟨r, List.mem_filter.mpr ⟨hr, by rw [e2]; exact decide_eq_true c⟩, e⟩
inductive Wr (H : Hp) (ws : List Str) (rows0 rows : List RwV) : Str → Prop
  | ok (e : rows = rows0) : Wr H ws rows0 rows (Str.ofString "")
  | am (t : ∀ r ∈ rows, ∃ z ∈ ws, r.2.1 = .k (.inr z)) (v : ∀ r ∈ rows, AmV H r.2.2.2 ∨ Bd H r.2.2.2) (b : ∃ r ∈ rows, Bd H r.2.2.2) : Wr H ws rows0 rows (Str.ofString "amount")
  | wa (v : ∀ r ∈ rows, AmV H r.2.2.2 ∨ Bd H r.2.2.2) (b : ∃ r ∈ rows, ∀ z ∈ ws, r.2.1 ≠ .k (.inr z)) : Wr H ws rows0 rows (Str.ofString "ware")
inductive Kd (P : Program) (w : World) (K : PySem.W.Frag) (d : Ad) (ws : List Str) (f : Str → Option Int) (h : Addr) (H : Hp) : Str → Prop
  | a (g : ∀ H', Same H H' → ∀ (Q0 : VK) (E0 : XK), (∀ H'', Same H' H'' → E0 (.ref d.c_NoAmount) none H'') → Hd P w K d ws (.ref h) H' Q0 E0) : Kd P w K d ws f h H (Str.ofString "amount")
  | w (g : ∀ H', Same H H' → ∀ (Q0 : VK) (E0 : XK), (∀ H'', Same H' H'' → E0 (.ref d.c_NoWare) none H'') → Hd P w K d ws (.ref h) H' Q0 E0) : Kd P w K d ws f h H (Str.ofString "ware")
  | o (g : ∀ H', Same H H' → ∀ (Q0 : VK) (E0 : XK), (∀ l k H'', Same H' H'' → H' l = none → H'' l = some (.dK k) → AD k (posF f) → Q0 (.ref l) H'') → Hd P w K d ws (.ref h) H' Q0 E0) : Kd P w K d ws f h H (Str.ofString "")
theorem r_dictH {P : Program} {w : World} {K : PySem.W.Frag} {d : Ad} {H : Hp} {Q : VK} {l : Addr} {rows0 rows : List RwV} {n : Nat} {ws : List Str} {z : Str} (hR : Rws H l rows n) (h60 : n ≤ 60) (h0 : ∀ r ∈ rows0, TxR ws r) (hW : Wr H ws rows0 rows z)
    (q : ∀ h H1, Same H H1 → H h = none → DV P w H1 h (rows.map (·.2)) → (∀ p ∈ rows.map (·.2), okV p.2.2 = true) → Kd P w K d ws (fR rows0) h H1 z → Q (.ref h) H1) : rDictP P w [.ref l] H Q := by
  have hlen := hR.len
  have dk : (∀ r ∈ rows, TxtR r) → (∀ p ∈ rows.map (·.2), okV p.2.2 = true) → (∀ h, H h = none → Kd P w K d ws (fR rows0) h (upd H h (.dK (kvsOf rows))) z) → rDictP P w [.ref l] H Q := fun t o k =>
    ⟨l, rows, rfl, hR.at_, hR.ok, hR.nd, Nat.le_trans hlen h60, .inr ⟨kvsOf rows, kvs_eq t, fun h hh => q h _ (same_new hh _) hh (.inr ⟨_, upd_same, kvs_eq t⟩) o (k h hh)⟩⟩
  have okA : ∀ {v : V}, AmV H v ∨ Bd H v → okV v = true := fun {v} x => by
    rcases x with ⟨i, rfl, _⟩ | b
    · rfl
    · exact b.ok
  cases hW with
  | ok e =>
    subst e
    refine dk (fun r hr => (h0 r hr).txt) ?_ fun h hh => .o fun H' s' Q0 E0 g => ?_
    · intro p hp
      obtain ⟨r, hr, rfl⟩ := List.mem_map.mp hp
      obtain ⟨_, _, i, _, _, e, _⟩ := h0 r hr
      rw [e]; rfl
    · refine .ok rfl (s' _ _ upd_same) (fR_ad h0 hR.nd) (by unfold kvsOf; rw [List.length_map]; omega) (fun z n e => ?_) g
      obtain ⟨z', hz, i, e2, h4⟩ := kvs_mem h0 ((fR_iff h0 hR.nd z n).mp e)
      cases e2
      exact ⟨hz, h4⟩
  | am t v b =>
    have tt : ∀ r ∈ rows, TxtR r := fun r hr => let ⟨z, _, e⟩ := t r hr; mk_txt (hR.ok r hr).2 e
    refine dk tt ?_ fun h hh => .a fun H' s' Q0 E0 g => ?_
    · intro p hp
      obtain ⟨r, hr, rfl⟩ := List.mem_map.mp hp
      exact okA (v r hr)
    · have s0 : Same H H' := (same_new hh _).trans s'
      refine .vl rfl (s' _ _ upd_same) (kvs_nd tt hR.nd) ?_ ?_ ?_ g
      · intro p hp
        obtain ⟨r, hr, rfl⟩ := List.mem_map.mp hp
        obtain ⟨z, hz, e⟩ := t r hr
        exact ⟨z, hz, by show keyR r = _; unfold keyR; rw [e]⟩
      · intro p hp
        obtain ⟨r, hr, rfl⟩ := List.mem_map.mp hp
        rcases v r hr with am | bd
        · exact .inl am
        · exact .inr (bd.same s0)
      · obtain ⟨r, hr, bd⟩ := b
        exact ⟨_, List.mem_map.mpr ⟨r, hr, rfl⟩, bd.same s0⟩
  | wa v b =>
    have ov : ∀ p ∈ rows.map (·.2), okV p.2.2 = true := fun p hp => by
      obtain ⟨r, hr, rfl⟩ := List.mem_map.mp hp
      exact okA (v r hr)
    by_cases tt : ∀ r ∈ rows, TxtR r
    · refine dk tt ov fun h hh => .w fun H' s' Q0 E0 g => ?_
      refine .ky rfl (s' _ _ upd_same) ?_ ?_ g
      · intro p hp
        obtain ⟨r, hr, rfl⟩ := List.mem_map.mp hp
        obtain ⟨_, z, e, _⟩ := (tt r hr).eq
        exact ⟨z, e⟩
      · obtain ⟨r, hr, bd⟩ := b
        refine ⟨_, List.mem_map.mpr ⟨r, hr, rfl⟩, fun z hz e => ?_⟩
        obtain ⟨_, z', e1, e2⟩ := (tt r hr).eq
        have e : keyR r = Sum.inr z := e
        rw [e1] at e
        cases e
        exact bd z hz e2
    · refine ⟨l, rows, rfl, hR.at_, hR.ok, hR.nd, Nat.le_trans hlen h60, .inl fun h o hh m => q h _ (same_new hh _) hh (.inl m) ov (.w fun H' s' Q0 E0 g => ?_)⟩
      obtain ⟨r, hr, bd⟩ := b
      exact .mx rfl (m.same s') ⟨_, List.mem_map.mpr ⟨r, hr, rfl⟩, bd⟩ g
theorem Ak.of {P : Program} {w : World} {K : PySem.W.Frag} {d : Ad} {ws : List Str} {f : Str → Option Int} {h : Addr} {H0 H : Hp} {z : Str} {Q : VK} (k : Kd P w K d ws f h H0 z) (s : Same H0 H)
    (q : ∀ t v H', Same H H' → H t = none → H' t = some (.tup [.str z, v]) → (z ≠ Str.ofString "" ∨ (z = Str.ofString "" ∧ ∃ l k, v = .ref l ∧ H l = none ∧ t ≠ l ∧ AD k (posF f) ∧ H' l = some (.dK k))) → Q (.ref t) H') : Ak P w K d ws (.ref h) H Q := by
  cases k with
  | a g => exact .a (g H s) fun t H' s' ht e => q t _ H' s' ht e (.inl (by decide))
  | w g => exact .w (g H s) fun t H' s' ht e => q t _ H' s' ht e (.inl (by decide))
  | o g => exact .o f (g H s) fun t l k H' s' hl ht ne A e1 e2 => q t _ H' s' ht e2 (.inr ⟨rfl, l, k, rfl, hl, ne, A, e1⟩)
theorem Rws.flt {H : Hp} {l acc : Addr} {rows : List RwV} {n : Nat} (h : Rws H l rows n) (p : RwV → Bool) (hacc : H acc = none) : Rws (upd H acc (.lst ((rows.filter p).map fun x => V.ref x.1))) acc (rows.filter p) n := by
  refine ⟨upd_same, fun r hr => ?_, h.nd.sublist (List.filter_sublist.map _), Nat.le_trans (List.length_filter_le ..) h.len⟩
  have := h.ok r (List.mem_filter.mp hr).1
  exact ⟨look_new this.1 hacc, this.2.keep fun b xs e => look_new e hacc⟩
theorem mem_put {rows pre post : List RwV} {p : RwV → Bool} {x y : RwV} (e : pre ++ post = rows.filter p) (h : x ∈ pre ++ y :: post) : x ∈ rows ∨ x = y := by
  have g : x ∈ pre ++ post → x ∈ rows := fun m => by rw [e] at m; exact (List.mem_filter.mp m).1
  rcases List.mem_append.mp h with h | h
  · exact .inl (g (List.mem_append_left _ h))
  · rcases List.mem_cons.mp h with h | h
    · exact .inr h
    · exact .inl (g (List.mem_append_right _ h))
theorem Wr.same {H H' : Hp} {ws : List Str} {rows0 rows : List RwV} {z : Str} (h : Wr H ws rows0 rows z) (s : Same H H') : Wr H' ws rows0 rows z := by
  cases h with
  | ok e => exact .ok e
  | am t v b =>
    obtain ⟨r, hr, bd⟩ := b
    exact .am t (fun r hr => (v r hr).imp (fun h => h) fun h => h.same s) ⟨r, hr, bd.same s⟩
  | wa v b => exact .wa (fun r hr => (v r hr).imp (fun h => h) fun h => h.same s) b
theorem dv_same {P : Program} {w : World} {H H' : Hp} {a : Addr} {kvs : List MV} (d : DV P w H a kvs) (s : Same H H') : DV P w H' a kvs := d.elim (fun m => .inl (m.same s)) fun ⟨ks, e, x⟩ => .inr ⟨ks, s _ _ e, x⟩
theorem dv_some {P : Program} {w : World} {H : Hp} {a : Addr} {kvs : List MV} (d : DV P w H a kvs) : ∃ o, H a = some o := by
  rcases d with m | ⟨ks, e, _⟩
  · obtain ⟨o, e, _⟩ := m.ob
    exact ⟨_, e⟩
  · exact ⟨_, e⟩
theorem deqs_strs {K : PySem.W.Frag} {H : Hp} {n : Nat} : ∀ ws : List Str, DEqs K H n (ws.map V.str) (ws.map V.str)
  | [] => trivial
  | z :: ws => ⟨deq_str z, deqs_strs ws⟩
structure J1 (H : Hp) (ws : List Str) (rows0 rows : List RwV) (l : Addr) (z : Str) : Prop where
  R : Rws H l rows 7
  t : ∀ r ∈ rows, ∃ y ∈ ws, r.2.1 = .k (.inr y)
  v : ∀ r ∈ rows, AmV H r.2.2.2 ∨ Bd H r.2.2.2
  w : Wr H ws rows0 rows z
structure J2 (H : Hp) (ws : List Str) (rows0 rows : List RwV) (l : Addr) (z : Str) : Prop where
  R : Rws H l rows 8
  w : Wr H ws rows0 rows z
theorem ok_law {P : Program} {w : World} {K : PySem.W.Frag} {mg : Str → Option Value} {base : Heap} {d : Ad} (T : Tx K mg d) : FnOk P w K mg base CX0 6 d.f_law d.fd_law ["_law_script"] (sp_law K d) := by
  refine T.F_law.ok sc_law (fun vs H Q E h => ?_) (fun cdv A outer s H vs Q E hr h => ?_)
  · obtain ⟨a, ns, rfl, _⟩ := h; rfl
  obtain ⟨a, ns, rfl, hS, h63, q⟩ := h
  refine ⟨_, (pss_cons (My.ps_comp (j := 1) (caps := [0]) (cn := ["_law_script"]) (My.caps_of rfl rfl (by rfl) (by rfl) rfl ⟨rfl, trivial⟩ (by rfl) rfl ⟨⟨rfl, rfl, rfl, rfl, _, rfl⟩, trivial⟩ (by decide)) rfl sc_law.nd rfl rfl (pi_range1 rfl T.z_range (pa_cons (pe_op op_add pe_int (pe_op op_mod (pe_call ((ok_cell T).mono (by decide)) hr rfl T.m_cell T.F_cell.kp T.b_cell .nil pass0 (pa_cons (pv 0) (pa_cons pe_int pa_nil))) pe_int)) pa_nil)) (fun _ _ _ _ => My.pf_nil) (fun _ _ _ _ => (pe_call ((ok_name T).mono (by decide)) hr rfl T.m_name T.F_name.kp T.b_name .nil pass0 (pa_cons (pv 1) (pa_cons (pv 0) pa_nil)))))
    (pss_cons (ps_set (i := 2) sc_law.nd rfl (Or.inl rfl) (pe_call ((ok_rows T).mono (by decide)) hr rfl T.m_rows T.F_rows.kp T.b_rows .nil pass0 (pa_cons (pv 0) (pa_cons (pv 1) pa_nil))))
    (pss_cons (ps_set (i := 3) sc_law.nd rfl (Or.inl rfl) (pe_callTy (My.call_dictP (My.hu8 hr)) rfl T.z_dict PyProof.Rows.boot_dict (pa_cons (My.pe_comp (caps := []) (cn := []) (My.caps_of rfl rfl (by rfl) (by rfl) rfl trivial (by rfl) rfl trivial (by decide)) rfl (pi_list (pv 2)) (fun _ _ _ _ => (My.pf_one (pt_cmpR op_gt (pe_ix ix_tup (pv 0) pe_int (fun _ _ => rfl)) pe_int (nomark _)))) (fun _ _ _ _ => (pv 0))) pa_nil)))
    (pss_cons (ps_set (i := 4) sc_law.nd rfl (Or.inl rfl) (pe_op op_mod (pe_call ((ok_cell T).mono (by decide)) hr rfl T.m_cell T.F_cell.kp T.b_cell .nil pass0 (pa_cons (pv 0) (pa_cons pe_int pa_nil))) pe_int))
    (pss_cons (ps_set (i := 5) sc_law.nd rfl (Or.inl rfl) pe_str)
    (pss_cons (My.ps_cut (ps_if (pt_cmpR op_in_seq (pv 4) (pe_tup (pa_cons pe_int (pa_cons pe_int pa_nil))) (by rfl)) (pss_cons (ps_set (i := 6) sc_law.nd rfl (Or.inl rfl) (pe_ix ix_list (pv 1) (pe_op op_mod (pe_call ((ok_cell T).mono (by decide)) hr rfl T.m_cell T.F_cell.kp T.b_cell .nil pass0 (pa_cons (pv 0) (pa_cons pe_int pa_nil))) (pe_callB My.call_lenN rfl T.z_len PySem.boot_len (pa_cons (pv 1) pa_nil))) (fun _ _ => rfl)))
    (pss_cons (ps_set (i := 2) sc_law.nd rfl (Or.inl rfl) (pe_call ((ok_put T).mono (by decide)) hr rfl T.m_put T.F_put.kp T.b_put .nil pass0 (pa_cons (pv 2) (pa_cons (pe_op My.op_fdivB (pe_call ((ok_cell T).mono (by decide)) hr rfl T.m_cell T.F_cell.kp T.b_cell .nil pass0 (pa_cons (pv 0) (pa_cons pe_int pa_nil))) pe_int) (pa_cons (pe_tup (pa_cons (pv 6) (pa_cons (pe_call ((ok_bad_value T).mono (by decide)) hr rfl T.m_bad_value T.F_bad_value.kp T.b_bad_value .nil pass0 (pa_cons (pe_call ((ok_cell T).mono (by decide)) hr rfl T.m_cell T.F_cell.kp T.b_cell .nil pass0 (pa_cons (pv 0) (pa_cons pe_int pa_nil))) pa_nil)) pa_nil))) pa_nil)))))
    (pss_one (ps_set (i := 5) sc_law.nd rfl (Or.inl rfl) pe_str)))) pss_nil))
    (pss_cons (My.ps_cut (ps_if (pt_cmpR op_in_seq (pv 4) (pe_tup (pa_cons pe_int (pa_cons pe_int pa_nil))) (by rfl)) (pss_cons (ps_set (i := 7) sc_law.nd rfl (Or.inl rfl) (pe_ix ix_list (pe_lst (pa_cons pe_int (pa_cons pe_int (pa_cons (pe_call ((ok_bad_value T).mono (by decide)) hr rfl T.m_bad_value T.F_bad_value.kp T.b_bad_value .nil pass0 (pa_cons (pe_call ((ok_cell T).mono (by decide)) hr rfl T.m_cell T.F_cell.kp T.b_cell .nil pass0 (pa_cons (pv 0) (pa_cons pe_int pa_nil))) pa_nil)) (pa_cons (pe_op op_pow pe_int pe_int) pa_nil))))) (pe_op op_mod (pe_call ((ok_cell T).mono (by decide)) hr rfl T.m_cell T.F_cell.kp T.b_cell .nil pass0 (pa_cons (pv 0) (pa_cons pe_int pa_nil))) pe_int) (fun _ _ => rfl)))
    (pss_cons (ps_set (i := 2) sc_law.nd rfl (Or.inl rfl) (pe_call ((ok_put T).mono (by decide)) hr rfl T.m_put T.F_put.kp T.b_put .nil pass0 (pa_cons (pv 2) (pa_cons (pe_call ((ok_cell T).mono (by decide)) hr rfl T.m_cell T.F_cell.kp T.b_cell .nil pass0 (pa_cons (pv 0) (pa_cons pe_int pa_nil))) (pa_cons (pe_tup (pa_cons (pe_call ((ok_bad_key T).mono (by decide)) hr rfl T.m_bad_key T.F_bad_key.kp T.b_bad_key .nil pass0 (pa_cons (pv 0) (pa_cons (pe_op My.op_fdivB (pe_call ((ok_cell T).mono (by decide)) hr rfl T.m_cell T.F_cell.kp T.b_cell .nil pass0 (pa_cons (pv 0) (pa_cons pe_int pa_nil))) pe_int) pa_nil))) (pa_cons (pv 7) pa_nil))) pa_nil)))))
    (pss_one (ps_set (i := 5) sc_law.nd rfl (Or.inl rfl) pe_str)))) pss_nil))
    (pss_cons (ps_if (pt_cmpR op_eq (pv 4) pe_int (nomark _)) (pss_one (ps_ret (pe_cmpR (My.op_eqD (My.hu8 hr)) (pe_call ((ok_asked T).mono (by decide)) hr rfl T.m_asked T.F_asked.kp T.b_asked .nil pass0 (pa_cons (pe_call ((ok_no_dict T).mono (by decide)) hr rfl T.m_no_dict T.F_no_dict.kp T.b_no_dict .nil pass0 (pa_cons (pe_call ((ok_cell T).mono (by decide)) hr rfl T.m_cell T.F_cell.kp T.b_cell .nil pass0 (pa_cons (pv 0) (pa_cons pe_int pa_nil))) (pa_cons (pv 2) pa_nil))) (pa_cons (pv 1) pa_nil))) (pe_tup (pa_cons pe_str (pa_cons pe_non pa_nil))) (nomark _)))) pss_nil)
    (pss_cons (ps_set (i := 8) sc_law.nd rfl (Or.inl rfl) (pe_callTy (My.call_dictP (My.hu8 hr)) rfl T.z_dict PyProof.Rows.boot_dict (pa_cons (pv 2) pa_nil)))
    (pss_cons (ps_set (i := 9) sc_law.nd rfl (Or.inl rfl) (pe_callTy My.call_listR rfl T.z_list PyProof.Rows.boot_list (pa_cons (pv 1) pa_nil)))
    (pss_cons (ps_asg (pe_call ((ok_asked T).mono (by decide)) hr rfl T.m_asked T.F_asked.kp T.b_asked .nil pass0 (pa_cons (pv 8) (pa_cons (pv 9) pa_nil))) (pg_tup rfl (pgs_cons (pg_name (i := 10) sc_law.nd rfl (Or.inl rfl)) (pgs_cons (pg_name (i := 11) sc_law.nd rfl (Or.inl rfl)) pgs_nil))))
    (pss_cons (ps_if (PW.pt (pw_or (pt_cmpR op_ne (pv 10) (pv 5) (nomark _)) (pw_or (pt_cmpR (My.op_neM (My.hu8 hr)) (pv 8) (pe_callTy (My.call_dictP (My.hu8 hr)) rfl T.z_dict PyProof.Rows.boot_dict (pa_cons (pv 2) pa_nil)) (nomark _)) (pw_or1 (pt_cmpR (My.op_neD (My.hu8 hr)) (pv 9) (pv 1) (nomark _)))))) (pss_one (ps_ret pe_bl)) pss_nil)
    (pss_cons (ps_expr (My.pe_clrX (pv 8)))
    (pss_cons (ps_expr (pe_bm0 PySem.F.plainAttrs_list PySem.F.slot_list_clear PySem.F.type_list_clear mt_clear (pv 9)))
    (pss_one (ps_ret (pe_or (pe_cmpR op_ne (pv 5) pe_str (nomark _)) (pe_one (pe_call ((ok_alike T).mono (by decide)) hr rfl T.m_alike T.F_alike.kp T.b_alike .nil pass0 (pa_cons (pv 11) (pa_cons (pv 3) pa_nil))))))))))))))))))))), ?_⟩
  try dsimp only [L2.cxOf, L2.Cx.nox, L2.Cx.wish, My.xw, My.pnd, My.suite]
  try dsimp only [My.cxC]
  refine r_start (σ := [some (.ref a), none, none, none, none, none, none, none, none, none, none, none]) rfl ?_
  walk_at "go"
  intro C s0 H0 fp wa hwa
  have m0 := Int.emod_nonneg (cell ns 2) (show (6 : Int) ≠ 0 by decide)
  have m1 := Int.emod_lt_of_pos (cell ns 2) (show (0 : Int) < 6 by decide)
  obtain ⟨nw, hnw⟩ : ∃ nw : Nat, 1 + cell ns 2 % 6 = (nw : Int) := ⟨(1 + cell ns 2 % 6).toNat, by omega⟩
  rw [hnw, show ((nw : Nat) : Int).toNat = nw by omega]
  have n1 : 1 ≤ nw := by omega
  have n6 : nw ≤ 6 := by omega
  clear m0 m1 hnw
  refine c_by nw (fun i H' => H' = upd H wa (.lst (((List.range i).map fun (k : Nat) => nmS (cell ns 0) (cell ns 1) (0 + (k : Int))).map V.str))) (by simp) ?_ ?_ ?_ ?_
  · rintro i H' hi _; exact hi
  · rintro H' _; exact Nat.le_refl _
  · rintro i H' v H'' hi rfl ⟨rfl, rfl⟩
    have zl : (((List.range i).map fun (k : Nat) => nmS (cell ns 0) (cell ns 1) (0 + (k : Int))).map V.str).length < sizeLine := by rw [List.length_map, List.length_map, List.length_range]; show _ < 16777216; omega
    walk_at "go"
    refine ⟨a, ns, 0 + (i : Int), rfl, (same_new hwa _).seq hS, by omega, by omega, ?_⟩
    refine ⟨_, upd_same, zl, ?_⟩
    rw [upd_upd, List.range_succ, List.map_append, List.map_append]; rfl
  rintro H1 rfl
  have hnm : Nms ((List.range nw).map fun (k : Nat) => nmS (cell ns 0) (cell ns 1) (0 + (k : Int))) nw := nms_of (by decide) (by omega)
  have hbad : ∀ k : MK, (∀ m, 0 ≤ m → m ≤ 5 → k ≠ MK.k (.inr (nmS (cell ns 0) (cell ns 1) m))) → ∀ z ∈ (List.range nw).map (fun (k : Nat) => nmS (cell ns 0) (cell ns 1) (0 + (k : Int))), k ≠ MK.k (.inr z) := fun k h z hz => by
    obtain ⟨j, hj, rfl⟩ := List.mem_map.mp hz
    have := List.mem_range.mp hj
    exact h _ (by omega) (by omega)
  generalize (List.range nw).map (fun (k : Nat) => nmS (cell ns 0) (cell ns 1) (0 + (k : Int))) = ws at *
  have s1 := same_new hwa (.lst (ws.map V.str))
  have hw : upd H wa (.lst (ws.map V.str)) wa = some (.lst (ws.map V.str)) := upd_same
  have hS1 := s1.seq hS
  generalize upd H wa (.lst (ws.map V.str)) = H1 at *
  clear s1 hS hwa
  obtain ⟨wl, wnd, _⟩ := hnm
  walk_at "go"
  refine ⟨a, wa, ns, ws, rfl, hS1, hw, wnd, by omega, by omega, fun l rows0 H2 s2 hl R0 hT => ?_⟩
  have hS2 := s2.seq hS1
  have hw2 := s2 _ _ hw
  have el := R0.at_
  clear hS1 hw hl s2
  walk_at "go"
  intro C2 s02 H02 fp2 acc hacc
  refine c_by rows0.length (fun i H' => H' = upd H2 acc (.lst (((rows0.take i).filter fun r => posV r.2.2.2).map fun x => V.ref x.1))) (by simp) ?_ ?_ ?_ ?_
  · rintro i H' hi rfl
    exact ⟨_, .ref rows0[i].1, SqL.of (look_new el hacc), by rw [List.getElem?_map, List.getElem?_eq_getElem hi]; rfl⟩
  · rintro H' rfl
    exact ⟨_, SqL.of (look_new el hacc), by rw [List.length_map]; exact Nat.le_refl _⟩
  · rintro i H' v H'' hi rfl ⟨rfl, hy⟩
    have hv := hy _ (SqL.of (look_new el hacc))
    rw [List.getElem?_map, List.getElem?_eq_getElem hi] at hv
    cases hv
    have tk : rows0.take (i + 1) = rows0.take i ++ [rows0[i]] := by rw [List.take_add_one, List.getElem?_eq_getElem hi]; rfl
    have hmem := List.getElem_mem hi
    have ho1 := (R0.ok _ hmem).1
    obtain ⟨z, _, n, _, ez, en, n0, n1⟩ := hT _ hmem
    rw [tk, List.filter_append]
    generalize rows0[i] = R at *
    have zl : (((rows0.take i).filter (fun x => posV x.2.2.2)).map fun x => V.ref x.1).length < sizeLine := by
      rw [List.length_map, sizeLine_eq]
      have h1 := List.length_filter_le (fun x : RwV => posV x.2.2.2) (rows0.take i)
      rw [List.length_take] at h1
      have := R0.len
      omega
    generalize (rows0.take i).filter (fun x => posV x.2.2.2) = L at *
    rw [en] at ho1
    have hrow := look_new (o' := .lst (L.map fun x => V.ref x.1)) ho1 hacc
    clear n0 n1 ho1
    walk_at "go"
    by_cases c : 0 < n
    · rw [decide_eq_true c]
      refine iteT ?_
      walk_at "go"
      rw [List.filter_cons, if_pos (by rw [en]; exact decide_eq_true c), upd_upd, List.map_append]
      rfl
    · rw [decide_eq_false c]
      refine iteF ?_
      rw [List.filter_cons, if_neg (by rw [en]; exact fun h => c (of_decide_eq_true h)), List.filter_nil, List.append_nil]
  rintro H' rfl
  rw [List.take_length]
  have RF := R0.flt (fun r => posV r.2.2.2) hacc
  have hTF : ∀ r ∈ rows0.filter (fun r => posV r.2.2.2), TxR ws r := fun r hr => hT r (List.mem_filter.mp hr).1
  have AF := (fR_ad hTF RF.nd).cast (fR_pos hT R0.nd)
  have s3 := same_new hacc (.lst ((rows0.filter fun r => posV r.2.2.2).map fun x => V.ref x.1))
  generalize hLF : rows0.filter (fun r => posV r.2.2.2) = rF at *
  generalize upd H2 acc (.lst (rF.map fun x => V.ref x.1)) = H3 at *
  have R3 := R0.same s3
  have hS3 := s3.seq hS2
  have hw3 := s3 _ _ hw2
  clear hS2 hw2 el s3
  walk_at "go"
  refine ⟨acc, rF, rfl, RF.at_, RF.ok, RF.nd, Nat.le_trans RF.len (by decide), .inr ⟨kvsOf rF, kvs_eq fun r hr => (hTF r hr).txt, fun du hdu => ?_⟩⟩
  have s4 := same_new hdu (.dK (kvsOf rF))
  have eD : upd H3 du (.dK (kvsOf rF)) du = some (.dK (kvsOf rF)) := upd_same
  generalize upd H3 du (.dK (kvsOf rF)) = H4 at *
  have R4 := R3.same s4
  have hS4 := s4.seq hS3
  have hw4 := s4 _ _ hw3
  generalize kvsOf rF = kD at *
  clear hS3 hw3 s4 hdu RF R3 hacc R0 hTF hLF
  walk_at "go"
  generalize hwy : cell ns 4 % 8 = wy at *
  clear hwy
  refine r_cut (fun σ' H' => ∃ (l' : Addr) (rows : List RwV) (z : Str) (w6 : Option V), σ' = [some (.ref a), some (.ref wa), some (.ref l'), some (.ref du), some (.int wy), some (.str z), w6, none, none, none, none, none] ∧ Same H4 H' ∧ J1 H' ws rows0 rows l' z) ?_ ?_
  · walk_at "go"
    rename_i pt hpt
    have s5 := same_new hpt (.tup [V.int 2, V.int 3])
    have eT : upd H4 pt (.tup [V.int 2, V.int 3]) pt = some (.tup [V.int 2, V.int 3]) := upd_same
    have R5 := R4.same s5
    have hS5 := s5.seq hS4
    have hw5 := s5 _ _ hw4
    generalize upd H4 pt (.tup [V.int 2, V.int 3]) = H5 at *
    refine ⟨pt, _, rfl, .inr (SqT.of eT), rfl, rfl, ?_⟩
    walk_at "go"
    simp only [Bool.false_eq_true, if_false]
    generalize inV (V.int wy) [V.int 2, V.int 3] = bw
    refine i_b2 (fun c => ?_) (fun c => ?_)
    · clear c eT
      have hlw : (ws.map V.str).length = nw := by rw [List.length_map]; exact wl
      have n0' : (0 : Int) < ((ws.map V.str).length : Int) := by rw [hlw]; omega
      walk_at "go"
      rw [hlw]
      have k0 := Int.emod_nonneg (cell ns 5) (show ((nw : Nat) : Int) ≠ 0 by omega)
      have k1 := Int.emod_lt_of_pos (cell ns 5) (show (0 : Int) < ((nw : Nat) : Int) by omega)
      obtain ⟨k, hk⟩ : ∃ k : Nat, cell ns 5 % ((nw : Nat) : Int) = (k : Int) := ⟨_, (Int.toNat_of_nonneg k0).symm⟩
      have hkl : k < ws.length := by omega
      clear k0 k1 n0' hlw
      refine r_ixL (SqL.of hw5) (at_ws hkl hk) ?_
      have hkm := List.getElem_mem hkl
      generalize ws[k] = y at *
      clear hkl hk
      walk_at "go"
      refine ⟨_, rfl, fun v H6 s6 bd => ?_⟩
      walk_at "go"
      rename_i pr hpr
      have s7 := same_new hpr (.tup [V.str y, v])
      have e7 : upd H6 pr (.tup [V.str y, v]) pr = some (.tup [V.str y, v]) := upd_same
      generalize upd H6 pr (.tup [V.str y, v]) = H7 at *
      have R7 := (R5.same s6).same s7
      refine ⟨l, pr, _, rows0, (.k (.inr y), .str y, v), 6, rfl, R7, by decide, fun x hx => ?_, e7, rfl, fun l' pre post H8 s8 hl' ep R8 => ?_⟩
      · obtain ⟨z, _, _, e, _⟩ := hT x hx
        exact ⟨z, e⟩
      walk_at "go"
      have mm := fun x hx => mem_put (y := (pr, (.k (.inr y), .str y, v))) (x := x) ep hx
      have bd8 : Bd H8 v := (bd.same s7).same s8
      have tt : ∀ r ∈ pre ++ (pr, (MK.k (.inr y), V.str y, v)) :: post, ∃ y' ∈ ws, r.2.1 = .k (.inr y') := fun x hx => by
        rcases mm x hx with h | h
        · obtain ⟨z, hz, _, e, _⟩ := hT x h
          exact ⟨z, hz, e⟩
        · subst h
          exact ⟨y, hkm, rfl⟩
      have vv : ∀ r ∈ pre ++ (pr, (MK.k (.inr y), V.str y, v)) :: post, AmV H8 r.2.2.2 ∨ Bd H8 r.2.2.2 := fun x hx => by
        rcases mm x hx with h | h
        · obtain ⟨z, hz, i, _, _, e, h4⟩ := hT x h
          exact .inl ⟨i, e, h4⟩
        · subst h
          exact .inr bd8
      exact ⟨l', _, _, _, rfl, ((s5.trans s6).trans s7).trans s8, R8, tt, vv, .am tt vv ⟨_, List.mem_append_right _ (List.mem_cons_self ..), bd8⟩⟩
    · walk_at "go"
      refine ⟨l, rows0, _, _, rfl, s5, ⟨R5.at_, R5.ok, R5.nd, Nat.le_trans R5.len (by decide)⟩, fun x hx => ?_, fun x hx => ?_, .ok rfl⟩
      · obtain ⟨z, hz, _, e, _⟩ := hT x hx
        exact ⟨z, hz, e⟩
      · obtain ⟨z, hz, i, _, _, e, h4⟩ := hT x hx
        exact .inl ⟨i, e, h4⟩
  · rintro σ' H5 ⟨l', rows, z, w6, rfl, s5, hJ⟩
    have hS5 := s5.seq hS4
    have hw5 := s5 _ _ hw4
    have eD5 := s5 _ _ eD
    clear s5 hS4 hw4 R4 eD
    walk_at "go"
    refine r_cut (fun σ' H' => ∃ (l' : Addr) (rows : List RwV) (z : Str) (w6 w7 : Option V), σ' = [some (.ref a), some (.ref wa), some (.ref l'), some (.ref du), some (.int wy), some (.str z), w6, w7, none, none, none, none] ∧ Same H5 H' ∧ J2 H' ws rows0 rows l' z) ?_ ?_
    · walk_at "go"
      rename_i pt hpt
      have s6 := same_new hpt (.tup [V.int 1, V.int 2])
      have eT : upd H5 pt (.tup [V.int 1, V.int 2]) pt = some (.tup [V.int 1, V.int 2]) := upd_same
      have hS6 := s6.seq hS5
      have hw6 := s6 _ _ hw5
      generalize upd H5 pt (.tup [V.int 1, V.int 2]) = H6 at *
      refine ⟨pt, _, rfl, .inr (SqT.of eT), rfl, rfl, ?_⟩
      walk_at "go"
      simp only [Bool.false_eq_true, if_false]
      generalize inV (V.int wy) [V.int 1, V.int 2] = bw
      refine i_b2 (fun c => ?_) (fun c => ?_)
      · clear c eT
        walk_at "go"
        refine ⟨_, rfl, fun v H7 s7 bd => ?_⟩
        have hS7 := s7.seq hS6
        walk_at "go"
        rename_i p3 hp3
        rw [show (10 : Int) ^ Int.toNat 30 = 10 ^ 30 from rfl]
        have s8 := same_new hp3 (.lst [V.int 5, V.int 0, v, V.int (10 ^ 30)])
        have e8 : upd H7 p3 (.lst [V.int 5, V.int 0, v, V.int (10 ^ 30)]) p3 = some (.lst [V.int 5, V.int 0, v, V.int (10 ^ 30)]) := upd_same
        have hS8 := s8.seq hS7
        generalize upd H7 p3 (.lst [V.int 5, V.int 0, v, V.int (10 ^ 30)]) = H8 at *
        have hv8 : ∀ x ∈ [V.int 5, V.int 0, v, V.int (10 ^ 30)], AmV H8 x ∨ Bd H8 x := all_cons (.inl ⟨_, rfl, by decide, by decide⟩) (all_cons (.inl ⟨_, rfl, by decide, by decide⟩) (all_cons (.inr (bd.same s8)) (all_cons (.inl ⟨_, rfl, by decide, by decide⟩) all_nil)))
        have hl8 : [V.int 5, V.int 0, v, V.int (10 ^ 30)].length = 4 := rfl
        generalize [V.int 5, V.int 0, v, V.int (10 ^ 30)] = dl at *
        refine r_pick e8 (Int.emod_nonneg _ (by decide)) (by rw [hl8]; exact Int.emod_lt_of_pos _ (by decide)) ?_
        intro m hm
        have am := hv8 m hm
        clear hv8 hm e8 hl8 hS7 hS6 hp3
        walk_at "go"
        refine ⟨a, ns, _, rfl, hS8, fun kv k H9 s9 mk nb => ?_⟩
        walk_at "go"
        rename_i pr hpr
        have s10 := same_new hpr (.tup [kv, m])
        have e10 : upd H9 pr (.tup [kv, m]) pr = some (.tup [kv, m]) := upd_same
        generalize upd H9 pr (.tup [kv, m]) = H10 at *
        have sA : Same H5 H10 := (((s6.trans s7).trans s8).trans s9).trans s10
        have mk10 : MkV H10 k kv := mk.keep fun b xs e => s10 _ _ e
        refine ⟨l', pr, _, rows, (k, kv, m), 7, rfl, hJ.R.same sA, by decide, fun x hx => ?_, e10, mk10, fun l3 pre post H11 s11 hl3 ep R11 => ?_⟩
        · obtain ⟨y, _, e⟩ := hJ.t x hx
          exact ⟨y, e⟩
        walk_at "go"
        have vv : ∀ r ∈ pre ++ (pr, (k, kv, m)) :: post, AmV H11 r.2.2.2 ∨ Bd H11 r.2.2.2 := fun x hx => by
          rcases mem_put ep hx with h | h
          · rcases hJ.v x h with h | h
            · exact .inl h
            · exact .inr (h.same (sA.trans s11))
          · subst h
            rcases am with h | h
            · exact .inl h
            · exact .inr (((h.same s9).same s10).same s11)
        exact ⟨l3, _, _, _, _, rfl, sA.trans s11, R11, .wa vv ⟨_, List.mem_append_right _ (List.mem_cons_self ..), hbad k nb⟩⟩
      · walk_at "go"
        exact ⟨l', rows, z, w6, none, rfl, s6, ⟨(hJ.R.same s6).at_, (hJ.R.same s6).ok, hJ.R.nd, Nat.le_succ_of_le hJ.R.len⟩, hJ.w.same s6⟩
    · rintro σ' H6 ⟨l2, rows2, z2, w8, w7, rfl, s6, hJ2⟩
      have hS6 := s6.seq hS5
      have hw6 := s6 _ _ hw5
      have eD6 := s6 _ _ eD5
      have R6 := hJ2.R
      have W6 := hJ2.w
      have el6 := R6.at_
      clear hS5 hw5 eD5 s6 hJ hJ2 hbad
      walk_at "go"
      refine i_2 (fun c => ?_) (fun c => ?_)
      · clear c
        walk_at "go"
        refine ⟨_, l2, _, rfl, el6, fun v H7 s7 nd => ?_⟩
        walk_at "go"
        refine ⟨v, wa, ws, rfl, s7 _ _ hw6, .a (fun Q0 E0 e => .no nd e) fun t H8 s8 ht e8 => ?_⟩
        walk_at "go"
        rename_i pt hpt
        have ne : t ≠ pt := ne_of_none e8 hpt
        have e9 := look_new (o' := .tup [V.str "amount", V.non]) e8 hpt
        refine r_eqD ne (by decide) (.ts (n := 0) (e := fun _ => true) (SqT.of e9) (SqT.of upd_same) ne fun j h1 h2 => ?_) ?_
        · match j, h1, h2 with
          | 0, _, _ => exact deq_str _
          | 1, _, _ => exact DEq.flat (K := K) (x := V.non) (y := V.non) rfl rfl
          | j + 2, c, _ => exact absurd c (by show ¬ j + 2 < 2; omega)
        walk_at "go"
        exact q _
      · clear c
        walk_at "go"
        refine r_dictH (d := d) (K := K) R6 (by decide) hT W6 fun h H7 s7 hh dv okv kd => ?_
        have hw7 := s7 _ _ hw6
        walk_at "go"
        refine r_listL (SqL.of hw7) fun kn hkn => ?_
        have s8 := same_new hkn (.lst (ws.map V.str))
        have ek : upd H7 kn (.lst (ws.map V.str)) kn = some (.lst (ws.map V.str)) := upd_same
        have nkw : kn ≠ wa := (ne_of_none hw7 hkn).symm
        have nkd : du ≠ kn := ne_of_none (s7 _ _ eD6) hkn
        have nhd : du ≠ h := ne_of_none eD6 hh
        have hw8 := s8 _ _ hw7
        obtain ⟨oh, eh⟩ := dv_some dv
        have nhk : h ≠ kn := ne_of_none eh hkn
        generalize upd H7 kn (.lst (ws.map V.str)) = H8 at *
        have eh8 := s8 _ _ eh
        walk_at "go"
        refine ⟨.ref h, kn, ws, rfl, ek, Ak.of kd s8 fun t v H9 s9 ht e9 fin => ?_⟩
        have sA : Same H6 H9 := (s7.trans s8).trans s9
        have R9 := R6.same sA
        have W9 := W6.same sA
        have hw9 := s9 _ _ hw8
        have ek9 := s9 _ _ ek
        have eD9 := sA _ _ eD6
        have dv9 := dv_same dv (s8.trans s9)
        have fin : z2 ≠ Str.ofString "" ∨ (z2 = Str.ofString "" ∧ ∃ l k, v = .ref l ∧ l ≠ h ∧ l ≠ kn ∧ l ≠ du ∧ AD k (posF (fR rows0)) ∧ H9 l = some (.dK k)) := by
          rcases fin with hz | ⟨hz, l3, k3, ev, hl3, _, A3, e3⟩
          · exact .inl hz
          · exact .inr ⟨hz, l3, k3, ev, (ne_of_none eh8 hl3).symm, (ne_of_none ek hl3).symm, (ne_of_none (s8 _ _ (s7 _ _ eD6)) hl3).symm, A3, e3⟩
        clear sA R6 W6 hw6 hw7 hw8 ek eD6 dv s7 s8 s9 ht el6 hS6 kd eh eh8 hh hkn
        walk_at "go"
        refine r_dictH (d := d) (K := K) R9 (by decide) hT W9 fun h2 H10 s10 hh2 dv2 _ _ => ?_
        refine ⟨h, h2, _, rfl, rfl, dv_same dv9 s10, dv2, okv, ?_⟩
        have hw10 := s10 _ _ hw9
        have ek10 := s10 _ _ ek9
        have eD10 := s10 _ _ eD9
        have dv10 := dv_same dv9 s10
        have R10 := R9.same s10
        have fin : z2 ≠ Str.ofString "" ∨ (z2 = Str.ofString "" ∧ ∃ l k, v = .ref l ∧ l ≠ h ∧ l ≠ kn ∧ l ≠ du ∧ AD k (posF (fR rows0)) ∧ H10 l = some (.dK k)) := by
          rcases fin with hz | ⟨hz, l3, k3, ev, x1, x2, x3, A3, e3⟩
          · exact .inl hz
          · exact .inr ⟨hz, l3, k3, ev, x1, x2, x3, A3, s10 _ _ e3⟩
        clear hw9 ek9 eD9 dv9 R9 W9 dv2 s10 hh2 e9
        walk_at "go"
        refine r_neD nkw (by decide) (deq_list (n := 0) (SqL.of ek10) (SqL.of hw10) nkw (deqs_strs ws)) ?_
        walk_at "go"
        have hlr : (rows2.map (·.2)).length ≤ 60 := by rw [List.length_map]; exact Nat.le_trans R10.len (by decide)
        refine ⟨h, rows2.map (·.2), rfl, dv10, hlr, ?_⟩
        have ek11 : upd H10 h (.dK []) kn = some (.lst (ws.map V.str)) := by rw [upd_ne nhk.symm]; exact ek10
        have eD11 : upd H10 h (.dK []) du = some (.dK kD) := by rw [upd_ne nhd]; exact eD10
        have fin : z2 ≠ Str.ofString "" ∨ (z2 = Str.ofString "" ∧ ∃ l k, v = .ref l ∧ l ≠ kn ∧ l ≠ du ∧ AD k (posF (fR rows0)) ∧ upd H10 h (.dK []) l = some (.dK k)) := by
          rcases fin with hz | ⟨hz, l3, k3, ev, x1, x2, x3, A3, e3⟩
          · exact .inl hz
          · exact .inr ⟨hz, l3, k3, ev, x2, x3, A3, by rw [upd_ne x1]; exact e3⟩
        generalize upd H10 h (.dK []) = H11 at *
        clear hw10 ek10 eD10 dv10 R10
        walk_at "go"
        rcases fin with hz | ⟨hz, l3, k3, rfl, x2, x3, A3, e3⟩
        · rw [decide_eq_false hz]
          refine iteT ?_
          exact q _
        · subst hz
          walk_at "go"
          refine ⟨l3, du, k3, kD, posF (fR rows0), rfl, x3, by rw [upd_ne x2]; exact e3, .inl (by rw [upd_ne nkd]; exact eD11), A3, AF, fun H' s' => ?_⟩
          walk_at "go"
          exact q _
structure Fz (K : PySem.W.Frag) (n : Str) (s : Stmt) (f : Addr) (fd : FuncData) : Prop where
  a : PySem.W.nsIn K mainGlobals n = some (some (.ref f))
  F : Fun K n n s f fd
structure Fm (K : PySem.W.Frag) (c : Addr) (n q : Str) (s : Stmt) (f : Addr) (fd : FuncData) : Prop where
  a : PySem.W.findIn K (.ref c) n = some (some (.ref f))
  F : Fun K n q s f fd
theorem Fz.m {K : PySem.W.Frag} {n : Str} {s : Stmt} {f : Addr} {fd : FuncData} {h : Heap} {mg : Str → Option Value} (g : Fz K n s f fd) (X : K.In h) (G : h.Ns mainGlobals mg) : mg n = some (.ref f) := PySem.W.mg_of X G g.a
theorem ln0 {p : List Value → Prop} (h : p []) (us : List Value) (e : us.length = 0) : p us := by
  cases us
  · exact h
  cases e
theorem ln1 {p : List Value → Prop} (h : ∀ x0 : Value, p [x0]) (us : List Value) (e : us.length = 1) : p us := by
  cases us
  · cases e
  exact ln0 (p := fun l => p (_ :: l)) (h _) _ (Nat.succ.inj e)
theorem ln2 {p : List Value → Prop} (h : ∀ x0 x1 : Value, p [x0, x1]) (us : List Value) (e : us.length = 2) : p us := by
  cases us
  · cases e
  exact ln1 (p := fun l => p (_ :: l)) (h _) _ (Nat.succ.inj e)
theorem ln3 {p : List Value → Prop} (h : ∀ x0 x1 x2 : Value, p [x0, x1, x2]) (us : List Value) (e : us.length = 3) : p us := by
  cases us
  · cases e
  exact ln2 (p := fun l => p (_ :: l)) (h _) _ (Nat.succ.inj e)
theorem ln4 {p : List Value → Prop} (h : ∀ x0 x1 x2 x3 : Value, p [x0, x1, x2, x3]) (us : List Value) (e : us.length = 4) : p us := by
  cases us
  · cases e
  exact ln3 (p := fun l => p (_ :: l)) (h _) _ (Nat.succ.inj e)
theorem ln5 {p : List Value → Prop} (h : ∀ x0 x1 x2 x3 x4 : Value, p [x0, x1, x2, x3, x4]) (us : List Value) (e : us.length = 5) : p us := by
  cases us
  · cases e
  exact ln4 (p := fun l => p (_ :: l)) (h _) _ (Nat.succ.inj e)
theorem ln6 {p : List Value → Prop} (h : ∀ x0 x1 x2 x3 x4 x5 : Value, p [x0, x1, x2, x3, x4, x5]) (us : List Value) (e : us.length = 6) : p us := by
  cases us
  · cases e
  exact ln5 (p := fun l => p (_ :: l)) (h _) _ (Nat.succ.inj e)
theorem ln7 {p : List Value → Prop} (h : ∀ x0 x1 x2 x3 x4 x5 x6 : Value, p [x0, x1, x2, x3, x4, x5, x6]) (us : List Value) (e : us.length = 7) : p us := by
  cases us
  · cases e
  exact ln6 (p := fun l => p (_ :: l)) (h _) _ (Nat.succ.inj e)
theorem ln8 {p : List Value → Prop} (h : ∀ x0 x1 x2 x3 x4 x5 x6 x7 : Value, p [x0, x1, x2, x3, x4, x5, x6, x7]) (us : List Value) (e : us.length = 8) : p us := by
  cases us
  · cases e
  exact ln7 (p := fun l => p (_ :: l)) (h _) _ (Nat.succ.inj e)
theorem ln9 {p : List Value → Prop} (h : ∀ x0 x1 x2 x3 x4 x5 x6 x7 x8 : Value, p [x0, x1, x2, x3, x4, x5, x6, x7, x8]) (us : List Value) (e : us.length = 9) : p us := by
  cases us
  · cases e
  exact ln8 (p := fun l => p (_ :: l)) (h _) _ (Nat.succ.inj e)
theorem ln10 {p : List Value → Prop} (h : ∀ x0 x1 x2 x3 x4 x5 x6 x7 x8 x9 : Value, p [x0, x1, x2, x3, x4, x5, x6, x7, x8, x9]) (us : List Value) (e : us.length = 10) : p us := by
  cases us
  · cases e
  exact ln9 (p := fun l => p (_ :: l)) (h _) _ (Nat.succ.inj e)
theorem txt_mk {K : PySem.W.Frag} {h : Heap} {mg : Str → Option Value} {fa : Addr} {f_z0 f_z1 f_z2 f_z3 f_z4 f_z5 f_z6 f_z7 f_z8 f_z9 f_z10 f_z11 f_z12 f_z13 f_z14 f_law c_TreeError c_NoAmount c_NoWare : Addr} {d_z0 d_z1 d_z2 d_z3 d_z4 d_z5 d_z6 d_z7 d_z8 d_z9 d_z10 d_z11 d_z12 d_z13 d_z14 d_law : FuncData} (X : K.In h) (G : h.Ns mainGlobals mg) (hfa : mg "law" = some (.ref fa))
    (g_z0 : Fz K "is_whole" s_is_whole f_z0 d_z0)
    (g_z1 : Fz K "is_whole_from" s_is_whole_from f_z1 d_z1)
    (g_z2 : Fz K "is_amount" s_is_amount f_z2 d_z2)
    (g_z3 : Fz K "amounts_of" s_amounts_of f_z3 d_z3)
    (g_z4 : Fz K "above_nought" s_above_nought f_z4 d_z4)
    (g_z5 : Fz K "_law_cell" s_cell f_z5 d_z5)
    (g_z6 : Fz K "_law_whole" s_whole f_z6 d_z6)
    (g_z7 : Fz K "_law_name" s_name f_z7 d_z7)
    (g_z8 : Fz K "_law_rows" s_rows f_z8 d_z8)
    (g_z9 : Fz K "_law_put" s_put f_z9 d_z9)
    (g_z10 : Fz K "_law_bad_key" s_bad_key f_z10 d_z10)
    (g_z11 : Fz K "_law_bad_value" s_bad_value f_z11 d_z11)
    (g_z12 : Fz K "_law_no_dict" s_no_dict f_z12 d_z12)
    (g_z13 : Fz K "_law_asked" s_asked f_z13 d_z13)
    (g_z14 : Fz K "_law_alike" s_alike f_z14 d_z14)
    (g_law : Fz K "law" s_law f_law d_law)
    (a_TreeError : PySem.W.nsIn K mainGlobals "TreeError" = some (some (.ref c_TreeError)))
    (a_NoAmount : PySem.W.nsIn K mainGlobals "NoAmount" = some (some (.ref c_NoAmount)))
    (a_NoWare : PySem.W.nsIn K mainGlobals "NoWare" = some (some (.ref c_NoWare)))
    (q_NoAmount : PySem.W.excIn K c_NoAmount [.type "ValueError", .type "Exception", .type "BaseException", .type "object"] "ValueError.__new__" = true)
    (q_NoWare : PySem.W.excIn K c_NoWare [.type "ValueError", .type "Exception", .type "BaseException", .type "object"] "ValueError.__new__" = true)
    (B_NoAmount : PySem.W.kitCls K (.ref c_NoAmount) (.type "BaseException") = some true)
    (B_NoWare : PySem.W.kitCls K (.ref c_NoWare) (.type "BaseException") = some true)
    (kAA : PySem.W.kitCls K (.ref c_NoAmount) (.ref c_NoAmount) = some true)
    (kWA : PySem.W.kitCls K (.ref c_NoWare) (.ref c_NoAmount) = some false)
    (kWW : PySem.W.kitCls K (.ref c_NoWare) (.ref c_NoWare) = some true)
    (y_bool : PySem.W.nsIn K mainGlobals "bool" = some none)
    (y_dict : PySem.W.nsIn K mainGlobals "dict" = some none)
    (y_int : PySem.W.nsIn K mainGlobals "int" = some none)
    (y_isinstance : PySem.W.nsIn K mainGlobals "isinstance" = some none)
    (y_len : PySem.W.nsIn K mainGlobals "len" = some none)
    (y_list : PySem.W.nsIn K mainGlobals "list" = some none)
    (y_range : PySem.W.nsIn K mainGlobals "range" = some none)
    (y_str : PySem.W.nsIn K mainGlobals "str" = some none)
    : ∃ d : Ad, Tx K mg d ∧ fa = d.f_law ∧ ∀ (s : Shared) (v : Value), BindsTo s d.fd_law ⟨[v], []⟩ [("_law_script", v)] := by
  have e := hfa.symm.trans (g_law.m X G)
  cases e
  have Fl := g_law.F
  obtain ⟨_, _, _, _, _, _, _, _, _, rfl, _, _⟩ := Fl.ex
  refine ⟨⟨_, _, _, _, _, _, _, _, _, _, _, _, _, _, _, _, _, _, _, _, _, _, _, _, _, _, _, _, _, _, _, _, c_TreeError, c_NoAmount, c_NoWare⟩, ⟨g_z0.F, g_z0.m X G, g_z0.F.binds fun _ _ _ _ _ _ => ln1 fun _ => rfl, g_z1.F, g_z1.m X G, g_z1.F.binds fun _ _ _ _ _ _ => ln3 fun _ _ _ => rfl, g_z2.F, g_z2.m X G, g_z2.F.binds fun _ _ _ _ _ _ => ln1 fun _ => rfl, g_z3.F, g_z3.m X G, g_z3.F.binds fun _ _ _ _ _ _ => ln2 fun _ _ => rfl, g_z4.F, g_z4.m X G, g_z4.F.binds fun _ _ _ _ _ _ => ln1 fun _ => rfl, g_z5.F, g_z5.m X G, g_z5.F.binds fun _ _ _ _ _ _ => ln2 fun _ _ => rfl, g_z6.F, g_z6.m X G, g_z6.F.binds fun _ _ _ _ _ _ => ln1 fun _ => rfl, g_z7.F, g_z7.m X G, g_z7.F.binds fun _ _ _ _ _ _ => ln2 fun _ _ => rfl, g_z8.F, g_z8.m X G, g_z8.F.binds fun _ _ _ _ _ _ => ln2 fun _ _ => rfl, g_z9.F, g_z9.m X G, g_z9.F.binds fun _ _ _ _ _ _ => ln3 fun _ _ _ => rfl, g_z10.F, g_z10.m X G, g_z10.F.binds fun _ _ _ _ _ _ => ln2 fun _ _ => rfl, g_z11.F, g_z11.m X G, g_z11.F.binds fun _ _ _ _ _ _ => ln1 fun _ => rfl, g_z12.F, g_z12.m X G, g_z12.F.binds fun _ _ _ _ _ _ => ln2 fun _ _ => rfl, g_z13.F, g_z13.m X G, g_z13.F.binds fun _ _ _ _ _ _ => ln2 fun _ _ => rfl, g_z14.F, g_z14.m X G, g_z14.F.binds fun _ _ _ _ _ _ => ln2 fun _ _ => rfl, Fl, g_law.m X G, PySem.W.mg_of X G a_TreeError, PySem.W.mg_of X G a_NoAmount, PySem.W.mg_of X G a_NoWare, PySem.W.mg_none_of X G y_bool, PySem.W.mg_none_of X G y_dict, PySem.W.mg_none_of X G y_int, PySem.W.mg_none_of X G y_isinstance, PySem.W.mg_none_of X G y_len, PySem.W.mg_none_of X G y_list, PySem.W.mg_none_of X G y_range, PySem.W.mg_none_of X G y_str, kAA, kWA, kWW, My.xcls_of q_NoAmount, My.xcls_of q_NoWare, B_NoAmount, B_NoWare⟩, rfl, fun s v => .of_eq rfl⟩
theorem walk {l : PySem.W.OpenLaw} {q : Program} {loose : List Str} {XP : (Str → Option Value) → Heap → Prop} {YP : World → Heap → Prop} {e : DefRec} {K : Params → PySem.W.Frag} (hn : l.most = some 63) (hdf : e.params.defaults = []) (hlaw : e.name = "law")
    (hY : ∀ (w : World) (h : Heap), YP w h → (K w.params).In h)
    (F : ∀ (w : World) (mg : Str → Option Value) (fa : Addr) (h : Heap), (K w.params).In h → h.Ns mainGlobals mg → mg "law" = some (.ref fa) → ∃ d : Ad, Tx (K w.params) mg d ∧ fa = d.f_law ∧ ∀ (s : Shared) (v : Value), BindsTo s d.fd_law ⟨[v], []⟩ [("_law_script", v)]) :
    PySem.W.WalkO q loose XP YP l.row.toRowW e [] (fun f vs => PySem.call f vs) := by
  refine L2.walk_of (n := 63) (k := 6) (x := "_law_script") (CX := fun _ => CX0) (sp := fun w => sp_law0 (K w.params)) hn (by decide) hdf ⟨rfl, by decide, by decide⟩ hY (fun w mg fa h KX G hm => ?_) (fun _ _ a ns hl _ hS => ⟨a, ns, rfl, hS, hl, fun _ => rfl⟩) fun _ _ _ _ _ z => z
  rw [hlaw] at hm
  obtain ⟨d, T, rfl, hb⟩ := F w mg fa h KX G hm
  exact ⟨d.fd_law, hb, fun base _ _ => (ok_law (P := l.prog) (w := w) (base := base) T).imp fun vs H Q E q => q⟩
end Our
open PySem PySem.W PyProof.Rows
set_option maxRecDepth 100000 in
set_option maxHeartbeats 0 in
theorem PySem.Challenge.cw_quotatree_k06_amounts_taken_holds : PySem.Challenge.rw_quotatree_k06_amounts_taken.Holds := by
  w_on; o_law; k_head; (case hw => w_witness2)
  k_fill
  refine Our.walk (l := PySem.Challenge.rw_quotatree_k06_amounts_taken) rfl rfl rfl (fun w h Y => PySem.W.kIn_of Y) ?F
  case F =>
    intro w mg fa h KX G hmg
    refine' Our.txt_mk KX G hmg ?g_z0 ?g_z1 ?g_z2 ?g_z3 ?g_z4 ?g_z5 ?g_z6 ?g_z7 ?g_z8 ?g_z9 ?g_z10 ?g_z11 ?g_z12 ?g_z13 ?g_z14 ?g_law ?a_TreeError ?a_NoAmount ?a_NoWare ?q_NoAmount ?q_NoWare ?B_NoAmount ?B_NoWare ?kAA ?kWA ?kWW ?y_bool ?y_dict ?y_int ?y_isinstance ?y_len ?y_list ?y_range ?y_str
    (case a_TreeError => k_is)
    (case a_NoAmount => k_is)
    (case a_NoWare => k_is)
    all_goals try (refine' ⟨?a, L2.fun_mk ?l ?c ?k⟩; (case a => k_is); (case l => k_is); (case c => k_is); (case k => k_is))
    (case q_NoAmount => k_exc)
    (case q_NoWare => k_exc)
    (case B_NoAmount => kernel_rfl)
    (case B_NoWare => kernel_rfl)
    (case kAA => kernel_rfl)
    (case kWA => kernel_rfl)
    (case kWW => kernel_rfl)
    (case y_bool => k_is)
    (case y_dict => k_is)
    (case y_int => k_is)
    (case y_isinstance => k_is)
    (case y_len => k_is)
    (case y_list => k_is)
    (case y_range => k_is)
    (case y_str => k_is)
