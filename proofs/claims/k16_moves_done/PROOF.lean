import PyProof.Rows.All
import Wide.All
import OpenK.AllK
import Wide.FinOn
import Lean
import PyProof.EqAt
import PyProof.EqKinds
import PyProof.TupleCall
import PyProof.NeKinds
import KE.KEqDict
import KE.KRevIter
import PyProof.FactsAll.range_2
import PyProof.ZipIter
import PyProof.FitsReplace
import PyProof.MeetsStr
import PyProof.ListRange
import PyProof.CollectWalk
import PyProof.DictItems
import PyProof.DictItemsLoops
import PyProof.DictValues
import PyProof.DictWalks
import PyProof.StrCalls
import KE.KIsAll
import PyProof.Rows.Range3
import PyProof.Rows.MinMaxN
import PyProof.SumWalkG
import PyProof.MeetsStr2
import PyProof.StrBlockL
import PyProof.Rows.StrNews2
import PyProof.StrLawsOccR
import KE.KIntText
import PyProof.StrLawsIn
import PyProof.Rows.SeqMore2
import PyProof.ListOps
import PyProof.Rows.SeqMore
import PyProof.Rows.SeqGen
import PyProof.EnumFor
import PyProof.EnumMake
import KE.KSortTup
import PySem.Challenge.RW_quotatree_k16_moves_done
open PySem.W (Frag instObj lookIn plainGet hasDictIn isFn emptyDict specialIn keepIn kitOne fnOf codeIn excIn nsIn)
open List (all_cons all_eq_true any_cons append_assoc append_nil filter_append filter_cons find?_cons getD_eq_getElem?_getD getElem?_cons_succ getElem?_eq_getElem getElem?_map getElem_map getElem_mem length_append length_cons length_filter_le length_map length_nil length_range length_singleton length_take map_append map_cons map_map mem_append mem_append_left mem_append_right mem_cons mem_cons_of_mem mem_cons_self mem_filter mem_flatten mem_iff_getElem mem_map mem_of_getElem? mem_range mem_singleton nodup_append nodup_cons nodup_nil pairwise_iff_getElem pairwise_map range_succ size_toArray take_add_one take_length)
set_option compiler.extract_closed false
set_option Elab.async false
set_option linter.all false
set_option maxRecDepth 100000
namespace L2
open PySem PySem.Spec PyProof.Rows
abbrev Key:=Sum Int Str
def keyIs:Key->Value->Bool
 | .inl k,v=>Value.isInt k v
 | .inr x,v=>Value.isStrOf x v
def keyH (w:World):Key->Int
 | .inl k=>hashInt k
 | .inr x=>hashStr w x
theorem qb2:∀{k:Key} {v:Value},keyIs k v=true->(∃i t,k=Sum.inl i/\v=Value.int i t)\/(∃x t,k=Sum.inr x/\v=Value.str x t)
 | .inl i,v,h=>by
  obtain⟨t,e⟩:=Value.isInt_shape (k:=i) (v:=v) h
  exact .inl ⟨i,t,rfl,e⟩
 | .inr x,v,h=>by
  obtain⟨t,e⟩:=Value.isStrOf_shape (x:=x) (v:=v) h
  exact .inr ⟨x,t,rfl,e⟩
theorem keyIs_int (i:Int) (t:Tok):keyIs (.inl i) (.int i t)=true:=by simp [keyIs,Value.isInt]
theorem keyIs_str (x:Str) (t:Tok):keyIs (.inr x) (.str x t)=true:=by simp [keyIs,Value.isStrOf]
theorem key_ll (a b:Int):decide ((Sum.inl a:Key)=Sum.inl b)=(a==b):=by
 by_cases e:a=b
 .subst e;simp
 .have h:¬(Sum.inl a:Key)=Sum.inl b:=fun q=>e (Sum.inl.inj q)
  rw [decide_eq_false h]
  exact(beq_eq_false_iff_ne.mpr e).symm
theorem key_rr (a b:Str):decide ((Sum.inr a:Key)=Sum.inr b)=decide (a=b):=by
 by_cases e:a=b
 .subst e;simp
 .have h:¬(Sum.inr a:Key)=Sum.inr b:=fun q=>e (Sum.inr.inj q)
  rw [decide_eq_false h,decide_eq_false e]
theorem key_lr (a:Int) (b:Str):decide ((Sum.inl a:Key)=Sum.inr b)=false:=decide_eq_false (fun q=>nomatch q)
theorem key_rl (a:Str) (b:Int):decide ((Sum.inr a:Key)=Sum.inl b)=false:=decide_eq_false (fun q=>nomatch q)
def qb4 (prog:Program) (w:World):PySem.KeyKind prog w Key where
 is:=keyIs
 hash:=keyH w
 inj:=fun v a b ha hb=>by
  rcases qb2 ha with ⟨i,t,rfl,rfl⟩ |⟨x,t,rfl,rfl⟩
  .rcases qb2 hb with ⟨j,u,rfl,e⟩ |⟨y,u,rfl,e⟩
   .injection e with e1 _;rw [e1]
   .exact nomatch e
  .rcases qb2 hb with ⟨j,u,rfl,e⟩ |⟨y,u,rfl,e⟩
   .exact nomatch e
   .injection e with e1 _;rw [e1]
 byValue:=fun k v h=>by
  rcases qb2 h with ⟨i,t,rfl,rfl⟩ |⟨x,t,rfl,rfl⟩ <;> rfl
 pyHash:=fun hv h=>by
  rcases qb2 hv with ⟨i,t,rfl,rfl⟩ |⟨x,t,rfl,rfl⟩
  .exact wpAny_pyHash_int h
  .exact wpAny_pyHash_str h
 eqBool:=fun hu hv h=>by
  rcases qb2 hu with ⟨i,t,rfl,rfl⟩ |⟨x,t,rfl,rfl⟩
  .rcases qb2 hv with ⟨j,u,rfl,rfl⟩ |⟨y,u,rfl,rfl⟩
   .rw [key_ll] at h;exact wpAny_eqBool_int h
   .rw [key_lr] at h;exact SeqAt.EqAt.int_str i t y u _ _ _ _ h
  .rcases qb2 hv with ⟨j,u,rfl,rfl⟩ |⟨y,u,rfl,rfl⟩
   .rw [key_rl] at h;exact SeqAt.EqAt.str_int x t j u _ _ _ _ h
   .rw [key_rr] at h;exact wpAny_eqBool_str h
 «strs»:=fun k x t v h=>by
  rcases qb2 h with ⟨i,u,rfl,e⟩ |⟨y,u,rfl,e⟩
  .exact nomatch e
  .injection e with e1 _
   subst e1
   cases v <;> rfl
theorem mixKind_int (prog:Program) (w:World) (i:Int) (t:Tok):(qb4 prog w).is (.inl i) (.int i t)=true:=keyIs_int i t
theorem mixKind_str (prog:Program) (w:World) (x:Str) (t:Tok):(qb4 prog w).is (.inr x) (.str x t)=true:=keyIs_str x t
end L2
namespace L2
open PySem PySem.Spec PyProof.Rows
inductive V where
 |non|bl (b:Bool) |int (i:Int) |str (x:Str) |byt (b:Array UInt8) |flt (b:UInt64) |ref (a:Addr) |ty (n:String)
 deriving DecidableEq
def qb7:V->Value->Prop
 | .non,u=>u=Value.none
 | .bl b,u=>u=Value.bool b
 | .int i,u=>∃t,u=Value.int i t
 | .str x,u=>∃t,u=Value.str x t
 | .byt b,u=>∃t,u=Value.bytes b t
 | .flt b,u=>∃t,u=Value.float b t
 | .ref a,u=>u=Value.ref a
 | .ty n,u=>u=Value.type n
abbrev qb5:List V->List Value->Prop:=Paired qb7
theorem qb5.length {xs:List V} {us:List Value} (r:qb5 xs us):xs.length=us.length:=Paired.length r
theorem qb5.get:∀{xs:List V} {us:List Value} {i:Nat} {x:V},qb5 xs us->xs[i]?=some x->∃u,us[i]?=some u/\qb7 x u
 |_,_,_,_,.nil,e=>by simp at e
 |_,_,0,_,.cons r _,e=>by simp at e;subst e;exact⟨_,rfl,r⟩
 |_,_,i+1,x,.cons _ t,e=>by
  obtain⟨u,h1,h2⟩:=qb5.get (i:=i) (x:=x) t (by simpa using e)
  exact⟨u,by simpa using h1,h2⟩
theorem qb5.set {x:V} {u:Value} (r:qb7 x u):∀{xs:List V} {us:List Value} (i:Nat),qb5 xs us->qb5 (xs.set i x) (us.set i u)
 |_,_,_,.nil=> .nil
 |_,_,0,.cons _ t=> .cons r t
 |_,_,i+1,.cons q t=> .cons q (qb5.set r i t)
theorem qb5.append:∀{xs ys:List V} {us ws:List Value},qb5 xs us->qb5 ys ws->qb5 (xs++ys) (us++ws)
 |_,_,_,_,.nil,s=>s
 |_,_,_,_,.cons r t,s=> .cons r (qb5.append t s)
theorem qb5.take:∀{xs:List V} {us:List Value} (n:Nat),qb5 xs us->qb5 (xs.take n) (us.take n)
 |_,_,0,_=> .nil
 |_,_,_+1,.nil=> .nil
 |_,_,n+1,.cons r t=> .cons r (qb5.take n t)
theorem qb5.drop:∀{xs:List V} {us:List Value} (n:Nat),qb5 xs us->qb5 (xs.drop n) (us.drop n)
 |_,_,0,r=>r
 |_,_,_+1,.nil=> .nil
 |_,_,n+1,.cons _ t=>qb5.drop n t
def qeb:Option V->Option Value->Prop
 |some v,some u=>qb7 v u
 |none,none=>True
 |_,_=>False
def KV {κ:Type}:List (κ × V)->List (κ × Value)->Prop:=Paired fun(p:κ × V) (q:κ × Value)=>p.1=q.1/\qb7 p.2 q.2
def kV:Key->V
 | .inl i=> .int i
 | .inr x=> .str x
inductive HO where
 |lst (xs:List V)
 |tup (xs:List V)
 |dK (kvs:List (Key × V)) |dT (kvs:List (List Key × V))
 |set (S:Int->Bool) (n:Nat)
 |ins (C dx:Addr) (fs:List (Str × V))
 |own (x:Addr)
 |xd (fs:List (Str × V))
 |met (f x:Addr)
 |rng (lo hi:Int)
 |frz (o:Obj) (u:HO)
 |tbl (ps:Array Value)
 |ext (φ:Heap->Prop)
abbrev Hp:=Addr->Option HO
def upd (H:Hp) (a:Addr) (o:HO):Hp:=fun b=>if b=a then some o else H b
theorem qa1 {H:Hp} {a:Addr} {o:HO}:upd H a o a=some o:=by unfold upd;rw [if_pos rfl]
theorem qa6 {H:Hp} {a b:Addr} {o:HO} (h:b≠a):upd H a o b=H b:=by unfold upd;rw [if_neg h]
theorem qbr {H:Hp} {a:Addr} {o u:HO}:upd (upd H a o) a u=upd H a u:=by
 funext b;unfold upd;split <;> rfl
theorem ne_of {H:Hp} {a b:Addr} {o u:HO} (h:H a=some o) (h':H b=some u) (d:o≠u):a≠b:=by
 intro e;subst e;rw [h] at h';exact d (Option.some.inj h')
theorem qa4 {H:Hp} {a b:Addr} {o:HO} (h:H a=some o) (h':H b=none):a≠b:=by
 intro e;subst e;rw [h] at h';cases h'
section
variable (P: Program) (w: World)
def qbf (H:Hp) (h:Heap) (a:Addr):HO->Prop
 | .lst xs=>xs.length<=sizeLine/\∃(its:List Value) (n:Nat),qb5 xs its/\h.get? a=some {cls:=.type "list",data:=.seq its.toArray n}
 | .tup xs=>xs.length<=sizeLine/\∃its:List Value,qb5 xs its/\IsTup h a its.toArray
 | .dK kvs=>kvs.length<=sizeLine/\(a==sysModules)=false/\∃vs,KV kvs vs/\h.DictOf (qb4 P w) a vs
 | .dT kvs=>kvs.length<=sizeLine/\(a==sysModules)=false/\∃xs:List (List Key × Addr × Value),
   Paired (fun(p:List Key × V) (q:List Key × Addr × Value)=>p.1=q.1/\H q.2.1=some (.tup (p.1.map kV))/\qb7 p.2 q.2.2) kvs xs/\
   ∃o es ep,h.get? a=some o/\o.ExactDict/\o.data=.dict es ep/\es.toList=xs.map (entryOfKey (tupleKind (qb4 P w)))/\(xs.map (·.1)).Nodup
 | .set S n=>h.SetOf (intKind P w) a S n
 | .ins C dx fs=>H dx=some (.own a)/\fs.length<=1000/\dx≠a/\h.get? a=some (instObj C dx)/\
   ∃mA,h.Ns1 dx mA/\(∀f,qeb (fs.lookup f) (mA f))/\PySem.Within mA (fs.map (·.1))
 | .own _=>∃o,h.get? a=some o
 | .xd fs=>∃mA,h.Ns1 a mA/\∀f,qeb (fs.lookup f) (mA f)
 | .rng lo hi=>∃t u v,h.get? a=some {cls:=.type "range",data:=.fields #[.int lo t,.int hi u,.int 1 v]}
 | .frz o u=>h.get? a=some o/\qbf H h a u
 | .tbl ps=>h.get? a=some {cls:=.none,data:=.fields ps}
 | .met f x=>h.get? a=some (PySem.W.methodObj (.ref f) (.ref x))
 | .ext φ=>φ h/\(∃o,h.get? a=some o)/\∀h1 h2:Heap,φ h1->(∀o,h1.get? a=some o->h2.get? a=some o)->φ h2
def HOk (H:Hp) (h:Heap):Prop:=∀a o,H a=some o->qbf P w H h a o
end
section
variable {P: Program} {w: World} {H H': Hp} {h h': Heap} {a: Addr} {o: HO}
theorem qbf.lt (x:qbf P w H h a o):a < h.objs.size:=by
 cases o with
 |lst xs=>obtain⟨_,_,_,_,e⟩:=x;exact Heap.lt_size e
 |tup xs=>obtain⟨_,_,_,p⟩:=x;exact p.lt
 |dK kvs=>obtain⟨_,_,_,_,o,_,_,e,_⟩:=x;exact Heap.lt_size e
 |dT kvs=>obtain⟨_,_,_,_,o,_,_,e,_⟩:=x;exact Heap.lt_size e
 |set S n=>obtain⟨o,_,_,_,e,_⟩:=x;exact Heap.lt_size e
 |ins C dx fs=>obtain⟨_,_,_,e,_⟩:=x;exact Heap.lt_size e
 |own y=>obtain⟨_,e⟩:=x;exact Heap.lt_size e
 |xd fs=>obtain⟨_,⟨_,_,_,e,_⟩,_⟩:=x;exact Heap.lt_size e
 |rng lo hi=>obtain⟨_,_,_,e⟩:=x;exact Heap.lt_size e
 |frz ob u=>obtain⟨e,_⟩:=x;exact Heap.lt_size e
 |tbl ps=>exact Heap.lt_size (show h.get? a=some _ from x)
 |met f y=>exact Heap.lt_size (show h.get? a=some _ from x)
 |ext φ=>obtain⟨_,⟨_,e⟩,_⟩:=x;exact Heap.lt_size e
theorem Paired.mapP {α β:Type} {F G:α->β->Prop}:∀{l₁:List α} {l₂:List β},Paired F l₁ l₂->(∀a b,F a b->G a b)->Paired G l₁ l₂
 |_,_,.nil,_=> .nil
 |_,_,.cons r t,f=> .cons (f _ _ r) (Paired.mapP t f)
theorem qbf.stay (x:qbf P w H h a o) (k:∀b u,(b=a\/H b=some (.own a))->h.get? b=some u->h'.get? b=some u)
  (ho:∀b,H b=some (.own a)->H' b=some (.own a)) (ht:∀b xs,H b=some (.tup xs)->H' b=some (.tup xs)):qbf P w H' h' a o:=by
 induction o with
 |lst xs=>obtain⟨z,its,n,r,e⟩:=x;exact⟨z,its,n,r,k _ _ (.inl rfl) e⟩
 |tup xs=>obtain⟨z,its,r,ob,e,c⟩:=x;exact⟨z,its,r,ob,k _ _ (.inl rfl) e,c⟩
 |dK kvs=>obtain⟨z,y,vs,r,ob,es,ep,e,c⟩:=x;exact⟨z,y,vs,r,ob,es,ep,k _ _ (.inl rfl) e,c⟩
 |dT kvs=>
  obtain⟨z,y,xs,r,ob,es,ep,e,c⟩:=x
  exact⟨z,y,xs,Paired.mapP r fun p q z=>⟨z.1,ht _ _ z.2.1,z.2.2⟩,ob,es,ep,k _ _ (.inl rfl) e,c⟩
 |set S n=>obtain⟨ob,es,ep,t,e,c⟩:=x;exact⟨ob,es,ep,t,k _ _ (.inl rfl) e,c⟩
 |ins C dx fs=>
  obtain⟨d,z,ne,e,mA,⟨od,es,ep,e2,c⟩,r⟩:=x
  exact⟨ho _ d,z,ne,k _ _ (.inl rfl) e,mA,⟨od,es,ep,k _ _ (.inr d) e2,c⟩,r⟩
 |own y=>obtain⟨ob,e⟩:=x;exact⟨ob,k _ _ (.inl rfl) e⟩
 |xd fs=>obtain⟨mA,⟨od,es,ep,e,c⟩,r⟩:=x;exact⟨mA,⟨od,es,ep,k _ _ (.inl rfl) e,c⟩,r⟩
 |rng lo hi=>obtain⟨t,u,v,e⟩:=x;exact⟨t,u,v,k _ _ (.inl rfl) e⟩
 |frz ob u ih=>obtain⟨e,q⟩:=x;exact⟨k _ _ (.inl rfl) e,ih q⟩
 |tbl ps=>
  have e:h.get? a=some {cls:=.none,data:=.fields ps}:=x
  show h'.get? a=some {cls:=.none,data:=.fields ps}
  exact k a _ (.inl rfl) e
 |met f y=>
  have e:h.get? a=some (PySem.W.methodObj (.ref f) (.ref y)):=x
  show h'.get? a=some (PySem.W.methodObj (.ref f) (.ref y))
  exact k a _ (.inl rfl) e
 |ext φ=>obtain⟨p,⟨o,e⟩,st⟩:=x;exact⟨st _ _ p fun o q=>k _ _ (.inl rfl) q,⟨o,k _ _ (.inl rfl) e⟩,st⟩
theorem HOk.lt (x:HOk P w H h) (e:H a=some o):a < h.objs.size:=(x a o e).lt
theorem HOk.fresh (x:HOk P w H h) (e:h.objs.size<=a):H a=none:=by
 cases q:H a with
 |none=>rfl
 |some u=>exact absurd (Nat.lt_of_lt_of_le (x.lt q) e) (Nat.lt_irrefl _)
theorem HOk.kept (x:HOk P w H h) (k:∀b u,h.get? b=some u->h'.get? b=some u):HOk P w H h':=fun a o e=>
 (x a o e).stay (fun b u _ q=>k b u q) (fun _ q=>q) fun _ _ q=>q
theorem HOk.laid (x:HOk P w H h) (k:∀b u,h.get? b=some u->h'.get? b=some u) (hp:h.objs.size<=a) (new:qbf P w (upd H a o) h' a o):HOk P w (upd H a o) h':=fun b u e=>by
 have hn:=x.fresh hp
 by_cases hb:b=a
 .subst hb;rw [qa1] at e;cases e;exact new
 .rw [qa6 hb] at e
  exact(x b u e).stay (fun c v _ q=>k c v q) (fun c q=>by rw [qa6 (qa4 q hn)];exact q) fun c xs q=>by rw [qa6 (qa4 q hn)];exact q
end
def Rd (H:Hp) (a:Addr) (u:HO):Prop:=H a=some u\/∃o,H a=some (.frz o u)
theorem Rd.of {H:Hp} {a:Addr} {u:HO} (h:H a=some u):Rd H a u:=.inl h
theorem Rd.ok {P:Program} {w:World} {H:Hp} {h:Heap} {a:Addr} {u:HO} (r:Rd H a u) (x:HOk P w H h):qbf P w H h a u:=by
 rcases r with r|⟨o,r⟩
 .exact x a u r
 .obtain⟨_,q⟩:=x a _ r
  exact q
def Mut:Option HO->Prop
 |some (.lst _)=>True
 |some (.dK _)=>True
 |some (.dT _)=>True
 |some (.set _ _)=>True
 |some (.ins _ _ _)=>True
 |some (.ext _)=>True
 |_=>False
section
variable {P: Program} {w: World} {H: Hp} {h h': Heap} {x e: Addr} {o': HO}
theorem HOk.write (ok:HOk P w H h) (mu:Mut (H x)) (he:e=x\/H e=some (.own x)) (k:∀b u,b≠e->h.get? b=some u->h'.get? b=some u) (heo:∃u,h'.get? e=some u)
  (new:qbf P w (upd H x o') h' x o'):HOk P w (upd H x o') h':=fun b u q=>by
 have nown:∀c y,H c=some (.own y)->c≠x:=fun c y r z=>by subst z;rw [r] at mu;exact mu
 have ntup:∀c xs,H c=some (.tup xs)->c≠x:=fun c xs r z=>by subst z;rw [r] at mu;exact mu
 by_cases hb:b=x
 .subst hb;rw [qa1] at q;cases q;exact new
 .rw [qa6 hb] at q
  by_cases hbe:b=e
  .have q':H b=some (.own x):=by
    rcases he with z|z
    .exact absurd (hbe.trans z) hb
    .rw [hbe];exact z
   rw [q] at q';cases q'
   obtain⟨v,hv⟩:=heo
   exact⟨v,by rw [hbe];exact hv⟩
  .refine(ok b u q).stay (fun c v hc r=>k c v ?_ r) (fun c r=>by rw [qa6 (nown c b r)];exact r) fun c xs r=>by rw [qa6 (ntup c xs r)];exact r
   rcases hc with rfl|hc
   .exact hbe
   .rintro rfl
    rcases he with z|z
    .exact nown c b hc z
    .rw [hc] at z;cases z;exact hb rfl
end
structure Un (fs ex:List Addr) (H H':Hp) (h h':Heap):Prop where
 keep:∀b o,h.get? b=some o->H b=none->b∉fs->b∉ex->h'.get? b=some o
 slot:∀b o,h.get? b=some o->H b=none->b∈fs->b∉ex->∃sl,h'.get? b=some {o with slots:=sl}
 free:∀b o,h.get? b=some o->H b=none->b∉ex->H' b=none
 there:∀b o,h.get? b=some o->b∉ex->∃o',h'.get? b=some o'
 tups:∀b xs,H b=some (.tup xs)->H' b=some (.tup xs)
 frzs:∀b o u,H b=some (.frz o u)->H' b=some (.frz o u)
 tbls:∀b ps,H b=some (.tbl ps)->∃more,H' b=some (.tbl (ps++more))
section
variable {fs ex: List Addr} {H H1: Hp} {h h1 h': Heap} {a x e: Addr} {o: HO}
theorem Un.any (u:Un fs ex H H1 h h1) {b:Addr} {ob:Obj} (q:h.get? b=some ob) (n:H b=none) (hx:b∉ex):∃sl,h1.get? b=some {ob with slots:=sl}:=by
 by_cases hb:b∈fs
 .exact u.slot b ob q n hb hx
 .exact⟨ob.slots,u.keep b ob q n hb hx⟩
theorem Un.kept (k:∀b u,h.get? b=some u->h'.get? b=some u):Un fs ex H H h h':=
 ⟨fun b ob q _ _ _=>k b ob q,fun b ob q _ _ _=>⟨ob.slots,k b ob q⟩,fun _ _ _ n _=>n,fun b ob q _=>⟨ob,k b ob q⟩,fun _ _ q=>q,fun _ _ _ q=>q,fun _ ps q=>⟨#[],by rw [q];simp⟩⟩
theorem Un.refl:Un fs ex H H h h:=Un.kept fun _ _ q=>q
theorem Un.laid (k:∀b u,h.get? b=some u->h'.get? b=some u) (hp:h.objs.size<=a) (hn:H a=none):Un fs ex H (upd H a o) h h' where
 keep:=fun b u q _ _ _=>k b u q
 slot:=fun b u q _ _ _=>⟨u.slots,k b u q⟩
 free:=fun b u q n _=>by rw [qa6 (Nat.ne_of_lt (Nat.lt_of_lt_of_le (Heap.lt_size q) hp))];exact n
 there:=fun b u q _=>⟨u,k b u q⟩
 tups:=fun b xs q=>by rw [qa6 (qa4 q hn)];exact q
 frzs:=fun b u xs q=>by rw [qa6 (qa4 q hn)];exact q
 tbls:=fun b ps q=>⟨#[],by rw [qa6 (qa4 q hn),q];simp⟩
theorem Un.write (mu:Mut (H x)) (he:e=x\/H e=some (.own x)) (k:∀b u,b≠e->h.get? b=some u->h'.get? b=some u) (heo:∃u,h'.get? e=some u):Un fs ex H (upd H x o) h h':=by
 have hx:∀b,H b=none->b≠x:=fun b n z=>by subst z;rw [n] at mu;exact mu
 have hb:∀b,H b=none->b≠e:=fun b n z=>by
  subst z
  rcases he with r|r
  .exact hx b n r
  .rw [n] at r;cases r
 have hm:∀b u,H b=some u->¬Mut (some u)->b≠x:=fun b u q nm z=>by subst z;rw [q] at mu;exact nm mu
 refine⟨fun b u q n _ _=>k b u (hb b n) q,fun b u q n _ _=>⟨u.slots,k b u (hb b n) q⟩,fun b u q n _=>by rw [qa6 (hx b n)];exact n,fun b u q _=>?_,
  fun b xs q=>by rw [qa6 (hm b _ q fun z=>z)];exact q,fun b u xs q=>by rw [qa6 (hm b _ q fun z=>z)];exact q,fun b ps q=>⟨#[],by rw [qa6 (hm b _ q fun z=>z),q];simp⟩⟩
 by_cases hbe:b=e
 .subst hbe;exact heo
 .exact⟨u,k b u hbe q⟩
end
def trk (h:Heap) (H:Hp):List Addr:=(List.range h.objs.size).filter fun a=>(H a).isSome
def hidT (h:Heap) (H:Hp):Heap:=PySem.W.hideAll h (trk h H)
theorem hidT_size (h:Heap) (H:Hp):(hidT h H).objs.size=h.objs.size:=PySem.W.hideAll_size _ _
theorem hidT_get {h:Heap} {H:Hp} {b:Addr} {o:Obj} (e:h.get? b=some o) (n:H b=none):(hidT h H).get? b=some o:=
 PySem.W.hideAll_get _ e fun hm=>by
  have q:(H b).isSome=true:=(mem_filter.mp hm).2
  rw [n] at q;simp at q
theorem of_hidT {h:Heap} {H:Hp} {b:Addr} {o:Obj} (e:(hidT h H).get? b=some o):h.get? b=some o/\H b=none:=by
 have e':h.get? b=some o:=PySem.W.of_hideAll (trk h H) e
 refine⟨e',?_⟩
 cases q:H b with
 |none=>rfl
 |some x=>
  have hm:b∈trk h H:=mem_filter.mpr ⟨mem_range.mpr (Heap.lt_size e'),by simp [q]⟩
  have z:(hidT h H).get? b=none:=PySem.W.hideAll_none (trk h H) hm
  rw [z] at e;cases e
def allNews (g h:Heap) (L:Addr):List (Addr × Obj):=(List.range h.objs.size).filterMap fun a=>if a=L\/(g.get? a).isSome=true then none else (h.get? a).map fun o=>(a,o)
def rest (g h:Heap) (L d:Addr):List (Addr × Obj):=(allNews g h L).filter fun p=>decide (p.1≠d)
end L2
namespace L2
open PySem PySem.Spec PyProof.Rows
structure Mod (K:Frag) (mg:Str->Option Value) (base:Heap):Prop where
 kin:K.In base
 glob:base.Ns mainGlobals mg
 blt:∃mb,base.Ns builtinsNs mb/\∀x:Str,x≠"__name__"->mb x=bootBuiltins x
 nolimit:base.NoLimit
structure Cx where
 prog:Program
 w:World
 K:Frag
 mg:Str->Option Value
 base:Heap
 A:Around
 N:List Str
 s₀:Shared
 H₀:Hp
 env:Env
 outer:List Env
 stack:List Env
 ex:List Addr
 fn:Str->Bool
 calm:Bool
 pn:List (Addr × Obj)
 xe:Value->Shared->Prop
def frs (l:List Env):List Addr:=l.filterMap (·.frame)
abbrev Cx.fs (X:Cx):List Addr:=frs X.outer
def Vis (sc:Scope) (x:Str):Prop:=sc.names.lookup x=some .local\/sc.names.lookup x=some .cell\/sc.names.lookup x=some .free
def Loc (sc:Scope) (x:Str):Prop:=sc.names.lookup x=some .local\/sc.names.lookup x=some .cell
def Look (env:Env) (h:Heap) (m:Str->Option Value) (x:Str) (u:Value):Prop:=
 (env.kindOf x=some .local/\m x=some u)\/((env.kindOf x=some .cell\/env.kindOf x=some .free)/\∃c,env.cells.lookup x=some c/\h.IsCell c (some u))
structure Cx.Ok (X:Cx):Prop where
 mod:Mod X.K X.mg X.base
 kind:X.env.scope.kind=.function
 glob:X.env.globals=mainGlobals
 blt:X.env.builtins=builtinsNs
 above:X.s₀.heap.objs.size<=X.env.locals
 inj:∀x y c,X.env.cells.lookup x=some c->X.env.cells.lookup y=some c->x=y
 has:∀x,(X.env.kindOf x=some .cell\/X.env.kindOf x=some .free)->∃c,X.env.cells.lookup x=some c
 cab:∀x c,X.fn x=true->X.env.cells.lookup x=some c->X.s₀.heap.objs.size<=c
 hd:X.calm=true->X.A.handled=none
 frames:X.A.frames=some X.stack
 stk:X.stack=X.outer\/(X.stack=X.env :: X.outer/\X.env.frame=some X.env.locals)
 exf:∀b∈X.ex,b≠X.env.locals/\∀x c,X.env.cells.lookup x=some c->c≠b
 bs:∀b o,X.base.get? b=some o->X.s₀.heap.get? b=some o/\X.H₀ b=none
 bsz:X.base.objs.size<=X.s₀.heap.objs.size
 noex:∀b o,X.base.get? b=some o->b∉X.ex
 exfs:∀b∈X.ex,b∉X.fs
 funs:X.s₀.heap.FunFrames X.base X.outer
 frf:∀b∈X.fs,X.H₀ b=none
structure Inv (X:Cx) (pins:List (Addr × Obj)) (σ:List (Option V)) (H:Hp) (s:Shared):Prop where
 ok:X.Ok
 os:s.os=X.s₀.os
 bare:AllBare s.gens
 base:Un X.fs X.ex X.H₀ H X.s₀.heap s.heap
 loc:∃m,s.heap.Ns X.env.locals m/\∀(i:Nat) (x:Str) (v:V),X.N[i]?=some x->σ[i]?=some (some v)->Vis X.env.scope x->∃u,qb7 v u/\Look X.env s.heap m x u
 cell:∀x c,X.env.cells.lookup x=some c->∃v,s.heap.IsCell c v
 free:H X.env.locals=none
 freeC:∀x c,X.env.cells.lookup x=some c->H c=none
 pin:∀p∈X.pn++pins,s.heap.get? p.1=some p.2/\H p.1=none/\p.1≠X.env.locals/\p.1∉X.fs/\∀v,p.2.data≠ .cell v
 hok:HOk X.prog X.w H s.heap
 len:σ.length=X.N.length
section
variable {X: Cx} {pins: List (Addr × Obj)} {σ: List (Option V)} {H H': Hp} {s: Shared} {h': Heap}
theorem Cx.Ok.nofr (ok:X.Ok) {b:Addr} {o:Obj} (e:X.base.get? b=some o):b∉X.fs:=fun hb=>by
 have:=(ok.funs.mem hb).1
 rw [e] at this;cases this
theorem Inv.bs (I:Inv X pins σ H s):∀b o,X.base.get? b=some o->s.heap.get? b=some o/\H b=none:=fun b o e=>
 ⟨I.base.keep b o (I.ok.bs b o e).1 (I.ok.bs b o e).2 (I.ok.nofr e) (I.ok.noex b o e),I.base.free b o (I.ok.bs b o e).1 (I.ok.bs b o e).2 (I.ok.noex b o e)⟩
theorem Inv.bk (I:Inv X pins σ H s):∀b o,X.base.get? b=some o->s.heap.get? b=some o:=fun b o e=>(I.bs b o e).1
theorem Inv.mod (I:Inv X pins σ H s):Mod X.K X.mg X.base:=I.ok.mod
theorem Inv.kIn (I:Inv X pins σ H s):X.K.In s.heap:=I.ok.mod.kin.keeps I.bk
theorem Inv.lt (I:Inv X pins σ H s):X.env.locals < s.heap.objs.size:=let ⟨_,hn,_⟩:=I.loc;hn.lt
theorem Inv.sz (I:Inv X pins σ H s):X.s₀.heap.objs.size<=s.heap.objs.size:=Nat.le_trans I.ok.above (Nat.le_of_lt I.lt)
theorem Inv.nofs (I:Inv X pins σ H s) {a:Addr} (h:s.heap.objs.size<=a):a∉X.fs:=fun hb=>by
 obtain⟨_,o,ho,_⟩:=I.ok.funs.mem hb
 exact absurd (Nat.lt_of_lt_of_le (Heap.lt_size ho) (Nat.le_trans I.sz h)) (Nat.lt_irrefl _)
theorem Inv.cne (I:Inv X pins σ H s):∀x c,X.env.cells.lookup x=some c->c≠X.env.locals:=fun x c e z=>by
 obtain⟨v,o,ho,hd⟩:=I.cell x c e
 obtain⟨m,⟨o',es,ep,ho',hd',_⟩,_⟩:=I.loc
 rw [z,ho'] at ho;cases ho;rw [hd'] at hd;cases hd
theorem Inv.funs (I:Inv X pins σ H s):s.heap.FunFrames X.base X.outer:=by
 have all:∀(l:List Env),(∀b∈frs l,b∈X.fs)->X.s₀.heap.FunFrames X.base l->s.heap.FunFrames X.base l:=by
  intro l
  induction l with
  |nil=>intro _ _;trivial
  |cons env r ih=>
   intro hs hl
   obtain⟨hk,⟨L,o,hf,hn,ho,hd⟩,hr⟩:=hl
   have hL:L∈X.fs:=hs L (by unfold frs;rw [List.filterMap_cons,hf];exact mem_cons_self)
   obtain⟨sl,e⟩:=I.base.slot L o ho (I.ok.frf L hL) hL fun z=>I.ok.exfs L z hL
   exact⟨hk,⟨L,_,hf,hn,e,hd⟩,ih (fun b hb=>hs b (by unfold frs;rw [List.filterMap_cons,hf];exact mem_cons_of_mem _ hb)) hr⟩
 exact all X.outer (fun _ hb=>hb) I.ok.funs
theorem Inv.stack (I:Inv X pins σ H s):s.heap.FunFrames X.base X.stack:=by
 rcases I.ok.stk with e|⟨e,hf⟩
 .rw [e];exact I.funs
 .rw [e]
  obtain⟨m,hn,_⟩:=I.loc
  refine .cons (by rw [I.ok.kind];decide) hf hn ?_ I.funs
  exact Heap.get?_none_of_le (Nat.le_trans I.ok.bsz I.ok.above)
theorem Inv.stkSub (I:Inv X pins σ H s):∀b∈frs X.stack,b∈X.env.locals :: X.fs:=fun b hb=>by
 rcases I.ok.stk with e|⟨e,hf⟩
 .rw [e] at hb;exact mem_cons_of_mem _ hb
 .rw [e] at hb
  unfold frs at hb
  rw [List.filterMap_cons,hf] at hb
  exact hb
theorem Inv.stkFree (I:Inv X pins σ H s):∀b∈frs X.stack,H b=none:=fun b hb=>by
 rcases mem_cons.mp (I.stkSub b hb) with e|hb
 .rw [e];exact I.free
 .obtain⟨_,o,ho,_⟩:=I.ok.funs.mem hb
  exact I.base.free b o ho (I.ok.frf b hb) fun z=>I.ok.exfs b z hb
theorem Inv.step {g':Array GenState} {t':Nat} {d':Drawn} {ch:List Addr} (I:Inv X pins σ H s)
  (hch:∀b∈ch,(b∈X.ex\/X.s₀.heap.objs.size<=b)/\b≠X.env.locals/\(∀x c,X.env.cells.lookup x=some c->c≠b)/\∀p∈X.pn++pins,p.1≠b)
  (keep:∀b o,b≠X.env.locals->b∉X.fs->b∉ch->s.heap.get? b=some o->H b=none->h'.get? b=some o)
  (slot:∀b o,b≠X.env.locals->b∈X.fs->b∉ch->s.heap.get? b=some o->H b=none->∃sl,h'.get? b=some {o with slots:=sl}) (free:∀b o,b∉ch->s.heap.get? b=some o->H b=none->H' b=none)
  (there:∀b o,b∉ch->s.heap.get? b=some o->∃o',h'.get? b=some o')
  (tups:∀b xs,H b=some (.tup xs)->H' b=some (.tup xs)) (frzs:∀b o u,H b=some (.frz o u)->H' b=some (.frz o u)) (tbls:∀b ps,H b=some (.tbl ps)->∃more,H' b=some (.tbl (ps++more)))
  (ns:∀m,s.heap.Ns X.env.locals m->h'.Ns X.env.locals m) (hok:HOk X.prog X.w H' h') (hg:AllBare g'):
  Inv X pins σ H' {s with heap:=h',gens:=g',drawn:=d',toks:=t'}:=by
 have neL:∀b o,X.s₀.heap.get? b=some o->b≠X.env.locals:=fun b o e=>Nat.ne_of_lt (Nat.lt_of_lt_of_le (Heap.lt_size e) I.ok.above)
 have neC:∀b o,X.s₀.heap.get? b=some o->b∉X.ex->b∉ch:=fun b o e hx hb=>by
  rcases(hch b hb).1 with z|z
  .exact hx z
  .exact absurd (Nat.lt_of_lt_of_le (Heap.lt_size e) z) (Nat.lt_irrefl _)
 have cellK:∀x c,X.env.cells.lookup x=some c->∀v,s.heap.IsCell c v->h'.IsCell c v:=fun x c e v ⟨o,ho,hd⟩=>by
  have nch:c∉ch:=fun z=>(hch c z).2.2.1 x c e rfl
  by_cases hc:c∈X.fs
  .obtain⟨sl,q⟩:=slot c o (I.cne x c e) hc nch ho (I.freeC x c e)
   exact⟨_,q,hd⟩
  .exact⟨o,keep c o (I.cne x c e) hc nch ho (I.freeC x c e),hd⟩
 refine⟨I.ok,I.os,hg,⟨fun b o e n hb hx=>?_,fun b o e n hb hx=>?_,fun b o e n hx=>?_,fun b o e hx=>?_,fun b xs e=>tups b xs (I.base.tups b xs e),fun b o xs e=>frzs b o xs (I.base.frzs b o xs e),fun b ps e=>?_⟩,?_,fun x c e=>?_,?_,fun x c e=>?_,fun p hp=>?_,hok,I.len⟩
 .exact keep b o (neL b o e) hb (neC b o e hx) (I.base.keep b o e n hb hx) (I.base.free b o e n hx)
 .obtain⟨sl,e1⟩:=I.base.slot b o e n hb hx
  obtain⟨sl',e2⟩:=slot b _ (neL b o e) hb (neC b o e hx) e1 (I.base.free b o e n hx)
  exact⟨sl',e2⟩
 .obtain⟨o',e1⟩:=I.base.there b o e hx
  exact free b o' (neC b o e hx) e1 (I.base.free b o e n hx)
 .obtain⟨o',e1⟩:=I.base.there b o e hx
  exact there b o' (neC b o e hx) e1
 .obtain⟨m1,e1⟩:=I.base.tbls b ps e
  obtain⟨m2,e2⟩:=tbls b _ e1
  exact⟨m1++m2,by rw [e2,Array.append_assoc]⟩
 .obtain⟨m,hn,hl⟩:=I.loc
  refine⟨m,ns m hn,fun i x v e1 e2 e3=>?_⟩
  obtain⟨u,r,l⟩:=hl i x v e1 e2 e3
  refine⟨u,r,?_⟩
  rcases l with l|⟨k,c,e,z⟩
  .exact .inl l
  .exact .inr ⟨k,c,e,cellK x c e _ z⟩
 .obtain⟨v,z⟩:=I.cell x c e
  exact⟨v,cellK x c e v z⟩
 .obtain⟨m,⟨o,_,_,ho,_⟩,_⟩:=I.loc
  exact free _ o (fun z=>(hch _ z).2.1 rfl) ho I.free
 .obtain⟨v,o,ho,hd⟩:=I.cell x c e
  exact free c o (fun z=>(hch c z).2.2.1 x c e rfl) ho (I.freeC x c e)
 .obtain⟨e,n,ne,nf,d⟩:=I.pin p hp
  have nch:p.1∉ch:=fun z=>(hch p.1 z).2.2.2 p hp rfl
  exact⟨keep p.1 p.2 ne nf nch e n,free p.1 p.2 nch e n,ne,nf,d⟩
theorem Inv.un {t':Nat} (I:Inv X pins σ H s) (u:Un X.fs [] H H' s.heap h') (hok:HOk X.prog X.w H' h'):Inv X pins σ H' {s with heap:=h',toks:=t'}:=by
 obtain⟨m,⟨o,es,ep,ho,r⟩,_⟩:=id I.loc
 obtain⟨sl,hL⟩:=u.any ho I.free (by simp)
 exact I.step (g':=s.gens) (d':=s.drawn) (ch:=[]) (fun _ z=>nomatch z) (fun b o _ hb _ e n=>u.keep b o e n hb (by simp)) (fun b o _ hb _ e n=>u.slot b o e n hb (by simp)) (fun b o _ e n=>u.free b o e n (by simp)) (fun b o _ e=>u.there b o e (by simp)) u.tups u.frzs u.tbls (fun m' hm=>by
  obtain⟨o',es',ep',ho',r'⟩:=hm
  rw [ho] at ho';cases ho'
  exact⟨_,es',ep',hL,r'⟩) hok I.bare
theorem Inv.call {g':Array GenState} {t':Nat} {d':Drawn} {ch:List Addr} (I:Inv X pins σ H s) (u:Un (frs X.stack) ch H H' s.heap h') (hok:HOk X.prog X.w H' h') (hg:AllBare g')
  (hch:∀b∈ch,(b∈X.ex\/X.s₀.heap.objs.size<=b)/\b≠X.env.locals/\(∀x c,X.env.cells.lookup x=some c->c≠b)/\∀p∈X.pn++pins,p.1≠b):
  Inv X pins σ H' {s with heap:=h',gens:=g',drawn:=d',toks:=t'}:=by
 obtain⟨m,⟨o,es,ep,ho,r⟩,_⟩:=id I.loc
 obtain⟨sl,hL⟩:=u.any ho I.free fun z=>(hch _ z).2.1 rfl
 exact I.step (ch:=ch) hch (fun b o hL hb hc e n=>u.keep b o e n (fun z=>(mem_cons.mp (I.stkSub b z)).elim hL hb) hc) (fun b o _ _ hc e n=>u.any e n hc) (fun b o hc e n=>u.free b o e n hc) (fun b o hc e=>u.there b o e hc) u.tups u.frzs u.tbls (fun m' hm=>by
  obtain⟨o',es',ep',ho',r'⟩:=hm
  rw [ho] at ho';cases ho'
  exact⟨_,es',ep',hL,r'⟩) hok hg
theorem Inv.turned {t':Nat} {it:Addr} (I:Inv X pins σ H s) (k:∀b o,b≠it->s.heap.get? b=some o->h'.get? b=some o) (hn:H it=none) (hL:it≠X.env.locals)
  (h1:it∈X.ex\/X.s₀.heap.objs.size<=it) (h2:∀x c,X.env.cells.lookup x=some c->c≠it) (h3:∀p∈X.pn++pins,p.1≠it):Inv X pins σ H {s with heap:=h',toks:=t'}:=by
 have nit:∀b u,H b=some u->b≠it:=fun b u e z=>by rw [z,hn] at e;cases e
 refine I.step (g':=s.gens) (d':=s.drawn) (ch:=[it]) (fun b hb=>?_) (fun b o _ _ hc e _=>k b o (fun z=>hc (by simp [z])) e) (fun b o _ _ hc e _=>⟨o.slots,k b o (fun z=>hc (by simp [z])) e⟩) (fun _ _ _ _ n=>n)
  (fun b o hc e=>⟨o,k b o (fun z=>hc (by simp [z])) e⟩) (fun _ _ e=>e) (fun _ _ _ e=>e) (fun b ps e=>⟨#[],by rw [e];simp⟩) (fun m hm=>?_) (fun b u e=>?_) I.bare
 .have e:b=it:=by simpa using hb
  subst e
  exact⟨h1,hL,h2,h3⟩
 .obtain⟨o,es,ep,ho,r⟩:=hm
  exact⟨o,es,ep,k _ o (Ne.symm hL) ho,r⟩
 .refine(I.hok b u e).stay (fun c v hc q=>k c v ?_ q) (fun _ q=>q) fun _ _ q=>q
  rcases hc with z|z
  .rw [z];exact nit b u e
  .exact nit c _ z
theorem Inv.tok (I:Inv X pins σ H s) (t:Nat):Inv X pins σ H {s with toks:=t}:=I.un (h':=s.heap) (t':=t) Un.refl I.hok
theorem Inv.kept {t':Nat} (I:Inv X pins σ H s) (k:∀b u,s.heap.get? b=some u->h'.get? b=some u):Inv X pins σ H {s with heap:=h',toks:=t'}:=I.un (Un.kept k) (I.hok.kept k)
theorem Inv.laid {a:Addr} {o:HO} {t':Nat} (I:Inv X pins σ H s) (k:∀b u,s.heap.get? b=some u->h'.get? b=some u) (hp:s.heap.objs.size<=a) (new:qbf X.prog X.w (upd H a o) h' a o):
  Inv X pins σ (upd H a o) {s with heap:=h',toks:=t'}:=I.un (Un.laid k hp (I.hok.fresh hp)) (I.hok.laid k hp new)
theorem Inv.write {x e:Addr} {o:HO} {t':Nat} (I:Inv X pins σ H s) (mu:Mut (H x)) (he:e=x\/H e=some (.own x)) (k:∀b u,b≠e->s.heap.get? b=some u->h'.get? b=some u) (heo:∃u,h'.get? e=some u)
  (new:qbf X.prog X.w (upd H x o) h' x o):Inv X pins σ (upd H x o) {s with heap:=h',toks:=t'}:=I.un (Un.write mu he k heo) (I.hok.write mu he k heo new)
theorem Inv.pins_of {pins':List (Addr × Obj)} (I:Inv X pins σ H s) (h:∀p∈pins',s.heap.get? p.1=some p.2/\H p.1=none/\p.1≠X.env.locals/\p.1∉X.fs/\∀v,p.2.data≠ .cell v):Inv X pins' σ H s:=
 ⟨I.ok,I.os,I.bare,I.base,I.loc,I.cell,I.free,I.freeC,fun p hp=>(mem_append.mp hp).elim (fun z=>I.pin p (mem_append_left _ z)) (h p),I.hok,I.len⟩
theorem nodup_ix {N:List Str} (hN:N.Nodup) {i j:Nat} {x:Str} (a:N[i]?=some x) (b:N[j]?=some x):i=j:=by
 obtain⟨h1,e1⟩:=List.getElem?_eq_some_iff.mp a
 obtain⟨h2,e2⟩:=List.getElem?_eq_some_iff.mp b
 exact(List.getElem_inj hN).mp (e1.trans e2.symm)
theorem store_ok2 {M:Model} {A:Around} {E:Value->Shared->Prop} {i:Nat} {x:Str} {v:V} {u:Value} {Q:Unit->Shared->Prop} (I:Inv X pins σ H s) (hN:X.N.Nodup) (hi:X.N[i]?=some x) (hx:Loc X.env.scope x) (r:qb7 v u)
  (h:∀s',Inv X pins (σ.set i (some v)) H s'->(∃a,Heap.SameBut a s.heap s'.heap/\(a=X.env.locals\/X.env.cells.lookup x=some a))->Q () s') (hf:X.fn x=true\/X.env.scope.names.lookup x=some .local:=by first|exact .inl rfl|exact .inr rfl|assumption):wpAny M A (storeName X.env x u) Q E s:=by
 obtain⟨m,hn,hl⟩:=id I.loc
 have hcls:(X.env.scope.kind==.class ||(X.env.scope.kind==.module && X.env.locals !=X.env.globals))=false:=by rw [I.ok.kind];rfl
 have hiσ:i < σ.length:=by rw [I.len];exact(List.getElem?_eq_some_iff.mp hi).1
 have cne:=I.cne
 have tracked:∀{a:Addr} {h':Heap},(∃o,s.heap.get? a=some o/\H a=none)->Heap.SameBut a s.heap h'->HOk X.prog X.w H h':=fun {a h'} ha hs b ob e=>by
  obtain⟨_,_,hfree⟩:=ha
  refine(I.hok b ob e).stay (fun c w' hc q=>(hs.2 c ?_).trans q) (fun _ q=>q) fun _ _ q=>q
  rintro rfl
  rcases hc with rfl|hc
  .rw [hfree] at e;cases e
  .rw [hfree] at hc;cases hc
 rcases hx with hk|hk
 .refine wpAny_storeName_local hk hn (fun h' hn' hs=>?_) hcls
  obtain⟨oL,_,_,hoL,_⟩:=id hn
  refine h _ ⟨I.ok,I.os,I.bare,⟨fun b o e n hb hx=>?_,fun b o e n hb hx=>?_,I.base.free,fun b o e hx=>?_,I.base.tups,I.base.frzs,I.base.tbls⟩,⟨_,hn',fun j y v' e1 e2 e3=>?_⟩,fun y c e=>?_,I.free,I.freeC,fun p hp=>?_,tracked ⟨oL,hoL,I.free⟩ hs,by simpa using I.len⟩ ⟨_,hs,.inl rfl⟩
  .exact(hs.2 b (Nat.ne_of_lt (Nat.lt_of_lt_of_le (Heap.lt_size e) I.ok.above))).trans (I.base.keep b o e n hb hx)
  .obtain⟨sl,e1⟩:=I.base.slot b o e n hb hx
   exact⟨sl,(hs.2 b (Nat.ne_of_lt (Nat.lt_of_lt_of_le (Heap.lt_size e) I.ok.above))).trans e1⟩
  .obtain⟨o',e1⟩:=I.base.there b o e hx
   exact⟨o',(hs.2 b (Nat.ne_of_lt (Nat.lt_of_lt_of_le (Heap.lt_size e) I.ok.above))).trans e1⟩
  .by_cases hj:j=i
   .subst hj
    rw [hi] at e1;cases e1
    rw [List.getElem?_set_self hiσ] at e2
    cases e2
    exact⟨u,r,.inl ⟨hk,by simp⟩⟩
   .rw [List.getElem?_set_ne (Ne.symm hj)] at e2
    obtain⟨u',r',q⟩:=hl j y v' e1 e2 e3
    refine⟨u',r',?_⟩
    rcases q with ⟨k,e⟩ |⟨k,c,e,z⟩
    .refine .inl ⟨k,?_⟩
     have:y≠x:=fun e=>hj (nodup_ix hN e1 (e ▸ hi))
     simp [this,e]
    .exact .inr ⟨k,c,e,z.sameBut hs (cne y c e)⟩
  .obtain⟨w',z⟩:=I.cell y c e
   exact⟨w',z.sameBut hs (cne y c e)⟩
  .obtain⟨e,n,ne,nf,d⟩:=I.pin p hp
   exact⟨(hs.2 p.1 ne).trans e,n,ne,nf,d⟩
 .have hfn:X.fn x=true:=by
   rcases hf with z|z
   .exact z
   .rw [z] at hk;cases hk
  obtain⟨c,hc⟩:=I.ok.has x (.inl hk)
  obtain⟨w',z⟩:=I.cell x c hc
  refine wpAny_storeName_cell I.ok.kind hk hc z (fun h' hc' hs=>?_)
  obtain⟨oc,hoc,hocd⟩:=id z
  refine h {s with heap:=h'} ⟨I.ok,I.os,I.bare,⟨fun b o e n hb hx=>?_,fun b o e n hb hx=>?_,I.base.free,fun b o e hx=>?_,I.base.tups,I.base.frzs,I.base.tbls⟩,⟨m,hn.sameBut hs (Ne.symm (cne x c hc)),fun j y v' e1 e2 e3=>?_⟩,fun y c' e=>?_,I.free,I.freeC,fun p hp=>?_,tracked ⟨oc,hoc,I.freeC x c hc⟩ hs,by simpa using I.len⟩ ⟨c,hs,.inr hc⟩
  .exact(hs.2 b (Nat.ne_of_lt (Nat.lt_of_lt_of_le (Heap.lt_size e) (I.ok.cab x c hfn hc)))).trans (I.base.keep b o e n hb hx)
  .obtain⟨sl,e1⟩:=I.base.slot b o e n hb hx
   exact⟨sl,(hs.2 b (Nat.ne_of_lt (Nat.lt_of_lt_of_le (Heap.lt_size e) (I.ok.cab x c hfn hc)))).trans e1⟩
  .obtain⟨o',e1⟩:=I.base.there b o e hx
   exact⟨o',(hs.2 b (Nat.ne_of_lt (Nat.lt_of_lt_of_le (Heap.lt_size e) (I.ok.cab x c hfn hc)))).trans e1⟩
  .by_cases hj:j=i
   .subst hj
    rw [hi] at e1;cases e1
    rw [List.getElem?_set_self hiσ] at e2
    cases e2
    exact⟨u,r,.inr ⟨.inl hk,c,hc,hc'⟩⟩
   .rw [List.getElem?_set_ne (Ne.symm hj)] at e2
    obtain⟨u',r',q⟩:=hl j y v' e1 e2 e3
    refine⟨u',r',?_⟩
    rcases q with q|⟨k,c',e,z'⟩
    .exact .inl q
    .refine .inr ⟨k,c',e,z'.sameBut hs ?_⟩
     rintro rfl
     exact hj (nodup_ix hN e1 (I.ok.inj _ _ _ e hc ▸ hi))
  .by_cases hcc:c'=c
   .subst hcc;exact⟨_,hc'⟩
   .obtain⟨w2,z2⟩:=I.cell y c' e
    exact⟨w2,z2.sameBut hs hcc⟩
  .obtain⟨e,n,ne,nf,d⟩:=I.pin p hp
   refine⟨(hs.2 p.1 ?_).trans e,n,ne,nf,d⟩
   intro q
   rw [q,hoc] at e
   have q':oc=p.2:=Option.some.inj e
   exact d w' (by rw [<-q'];exact hocd)
theorem qdq {M:Model} {A:Around} {E:Value->Shared->Prop} {i:Nat} {x:Str} {v:V} {u:Value} {Q:Unit->Shared->Prop} (I:Inv X pins σ H s) (hN:X.N.Nodup) (hi:X.N[i]?=some x) (hx:Loc X.env.scope x) (r:qb7 v u)
  (h:∀s',Inv X pins (σ.set i (some v)) H s'->Q () s') (hf:X.fn x=true\/X.env.scope.names.lookup x=some .local:=by first|exact .inl rfl|exact .inr rfl|assumption):wpAny M A (storeName X.env x u) Q E s:=
 store_ok2 I hN hi hx r (fun s' I' _=>h s' I') hf
theorem Inv.call' {s':Shared} {ch:List Addr} (I:Inv X pins σ H s) (ho:s'.os=s.os) (u:Un (frs X.stack) ch H H' s.heap s'.heap) (hok:HOk X.prog X.w H' s'.heap) (hg:AllBare s'.gens)
  (hch:∀b∈ch,(b∈X.ex\/X.s₀.heap.objs.size<=b)/\b≠X.env.locals/\(∀x c,X.env.cells.lookup x=some c->c≠b)/\∀p∈X.pn++pins,p.1≠b):Inv X pins σ H' s':=by
 obtain⟨h',g',d',t',o'⟩:=s'
 have e:o'=s.os:=ho
 subst e
 exact I.call (g':=g') (t':=t') (d':=d') u hok hg hch
end
abbrev XK:=Value->Option Addr->Hp->Prop
abbrev St:=List (Option V)
abbrev VK:=V->Hp->Prop
abbrev TE:=St->Hp->VK->Prop
abbrev TT:=St->Hp->(Bool->Hp->Prop)->Prop
abbrev TA:=St->Hp->(List V->Hp->Prop)->Prop
structure Ends where
 nx:St->Hp->Prop
 rt:VK
 bk:St->Hp->Prop:=fun _ _=>False
 ct:St->Hp->Prop:=fun _ _=>False
abbrev TS:=Ends->St->Hp->Prop
def EP (X:Cx) (pins:List (Addr × Obj)) (σ:St) (Q:VK) (u:Value) (s':Shared):Prop:=∃v H',Inv X pins σ H' s'/\qb7 v u/\Q v H'
def TP (X:Cx) (pins:List (Addr × Obj)) (σ:St) (Q:Bool->Hp->Prop) (b:Bool) (s':Shared):Prop:=∃H',Inv X pins σ H' s'/\Q b H'
def AP (X:Cx) (pins:List (Addr × Obj)) (σ:St) (Q:List V->Hp->Prop) (us:List Value) (s':Shared):Prop:=∃vs H',Inv X pins σ H' s'/\qb5 vs us/\Q vs H'
def SP (X:Cx) (pins:List (Addr × Obj)) (D:Ends) (f:Flow) (s':Shared):Prop:=
 match f with
 | .next=>∃σ' H',Inv X pins σ' H' s'/\D.nx σ' H'
 | .brk=>∃σ' H',Inv X pins σ' H' s'/\D.bk σ' H'
 | .cont=>∃σ' H',Inv X pins σ' H' s'/\D.ct σ' H'
 | .ret u=>∃v σ' H',Inv X pins σ' H' s'/\qb7 v u/\D.rt v H'
def PE (X:Cx) (e:Expr) (t:TE):Prop:=
 ∀(pins:List (Addr × Obj)) (s:Shared) (σ:St) (H:Hp) (Q:VK),Inv X pins σ H s->t σ H Q->wpAny (model X.prog X.w) X.A (eval e X.env) (EP X pins σ Q) X.xe s
def PT (X:Cx) (e:Expr) (t:TT):Prop:=
 ∀(pins:List (Addr × Obj)) (s:Shared) (σ:St) (H:Hp) (Q:Bool->Hp->Prop),Inv X pins σ H s->t σ H Q->wpAny (model X.prog X.w) X.A (isTrue e X.env (eval e X.env)) (TP X pins σ Q) X.xe s
def PW (X:Cx) (e:Expr) (t:TT):Prop:=
 ∀(whole:Sem Value) (pins:List (Addr × Obj)) (s:Shared) (σ:St) (H:Hp) (Q:Bool->Hp->Prop),Inv X pins σ H s->t σ H Q->wpAny (model X.prog X.w) X.A (isTrue e X.env whole) (TP X pins σ Q) X.xe s
theorem PW.pt {X:Cx} {e:Expr} {t:TT} (h:PW X e t):PT X e t:=h _
def PA (X:Cx) (es:List Expr) (t:TA):Prop:=
 ∀(pos:Pos) (pins:List (Addr × Obj)) (s:Shared) (σ:St) (H:Hp) (Q:List V->Hp->Prop),Inv X pins σ H s->t σ H Q->wpAny (model X.prog X.w) X.A (spliced (backTo pos (starEach es X.env))) (AP X pins σ Q) X.xe s
def PS (X:Cx) (st:Stmt) (t:TS):Prop:=
 ∀(pins:List (Addr × Obj)) (s:Shared) (σ:St) (H:Hp) (D:Ends),Inv X pins σ H s->t D σ H->wpAny (model X.prog X.w) X.A (exec st X.env) (SP X pins D) X.xe s
def PSs (X:Cx) (st:List Stmt) (t:TS):Prop:=
 ∀(pins:List (Addr × Obj)) (s:Shared) (σ:St) (H:Hp) (D:Ends),Inv X pins σ H s->t D σ H->wpAny (model X.prog X.w) X.A (execs st X.env) (SP X pins D) X.xe s
theorem thn {α:Type} {t:Sem α} {Q Q':α->Shared->Prop} {M:Model} {A:Around} {E:Value->Shared->Prop} {s:Shared} (h:wpAny M A t Q E s) (hQ:∀a s,Q a s->Q' a s):wpAny M A t Q' E s:=wpAny_mono h hQ fun _ _ x=>x
end L2
namespace L2
open PySem PySem.Spec PyProof.Rows
section
variable {X: Cx}
theorem bin {a b:Expr} {ta tb:TE} (ha:PE X a ta) (hb:PE X b tb) {pins:List (Addr × Obj)} {s:Shared} {σ:St} {H:Hp} {R:V->V->Hp->Prop} (I:Inv X pins σ H s) (h:ta σ H fun x H1=>tb σ H1 fun y H2=>R x y H2)
  {α:Type} {Q:α->Shared->Prop} {f:Value->Value->Sem α}
  (hf:∀v u s2 x y H2,Inv X pins σ H2 s2->qb7 x v->qb7 y u->R x y H2->wpAny (model X.prog X.w) X.A (f v u) Q X.xe s2):
  wpAny (model X.prog X.w) X.A (eval a X.env) (fun v s₁=>wpAny (model X.prog X.w) X.A (eval b X.env) (fun u s₂=>wpAny (model X.prog X.w) X.A (f v u) Q X.xe s₂) X.xe s₁) X.xe s:=by
 refine thn (ha pins s σ H _ I h) fun v s1 ⟨x,H1,I1,r1,q1⟩=>?_
 refine thn (hb pins s1 σ H1 _ I1 q1) fun u s2 ⟨y,H2,I2,r2,q2⟩=>?_
 exact hf v u s2 x y H2 I2 r1 r2 q2
def tVar (i:Nat):TE:=fun σ H Q=>∃v,σ[i]?=some (some v)/\Q v H
def tC (v:V):TE:=fun _ H Q=>Q v H
theorem pe_var {i:Nat} {x:Str} {pos:Pos} (hN:X.N[i]?=some x) (hv:Vis X.env.scope x) (hd:(x==("__debug__" :Str))=false:=by decide) (hcd:(x==("__classdict__" :Str))=false:=by decide):PE X (.Name x pos) (tVar i):=by
 intro pins s σ H Q I h
 obtain⟨v,e,h⟩:=h
 obtain⟨m,hn,hl⟩:=I.loc
 obtain⟨u,r,l⟩:=hl i x v hN e hv
 have fin:EP X pins σ Q u s:=⟨v,H,I,r,h⟩
 rcases l with ⟨hk,hm⟩ |⟨hk,c,hc,hcell⟩
 .exact wpAny_Name (wpAny_loadName_local I.ok.kind hk hn hm fin) hd
 .rcases hk with hk|hk
  .exact wpAny_Name (wpAny_loadName_cell I.ok.kind hk hc hcell fin) hd
  .exact wpAny_Name (wpAny_loadName_free I.ok.kind hk hc hcell fin hcd) hd
theorem qa8 {i j pos}:PE X (.Constant (.int i) j pos) (tC (.int i)):=fun _ _ _ H _ I h=>wpAny_Constant_int ⟨.int i,H,I.tok _,⟨_,rfl⟩,h⟩
theorem qd4 {b j pos}:PE X (.Constant (.bool b) j pos) (tC (.bl b)):=fun _ _ _ H _ I h=>Constant_bool ⟨.bl b,H,I,rfl,h⟩
theorem qdg {j pos}:PE X (.Constant .none j pos) (tC .non):=fun _ _ _ H _ I h=>Constant_none ⟨.non,H,I,rfl,h⟩
theorem qc0 {x j pos}:PE X (.Constant (.str x) j pos) (tC (.str x)):=fun _ _ _ H _ I h=>Calls.Constant_str ⟨.str x,H,I.tok _,⟨_,rfl⟩,h⟩
def Gl (X:Cx) (x:Str):Prop:=X.env.kindOf x=some .globalImplicit
theorem qd8 {E:Value->Shared->Prop} {pins:List (Addr × Obj)} {s:Shared} {σ:St} {H:Hp} {x:Str} {u:Value} {pos:Pos} {Q:Value->Shared->Prop} (I:Inv X pins σ H s) (hg:Gl X x) (hm:X.mg x=some u) (h:Q u s)
  (hd:(x==("__debug__" :Str))=false:=by decide):wpAny (model X.prog X.w) X.A (eval (.Name x pos) X.env) Q E s:=
 Calls.Name_function_global I.ok.kind hg (Calls.loadGlobal_global (by rw [I.ok.glob];exact I.mod.glob.keeps I.bk) hm h) hd
theorem qfd {E:Value->Shared->Prop} {pins:List (Addr × Obj)} {s:Shared} {σ:St} {H:Hp} {x:Str} {u:Value} {pos:Pos} {Q:Value->Shared->Prop} (I:Inv X pins σ H s) (hg:Gl X x) (hm:X.mg x=none) (hv:bootBuiltins x=some u) (h:Q u s)
  (hn:x≠"__name__":=by decide) (hd:(x==("__debug__" :Str))=false:=by decide):wpAny (model X.prog X.w) X.A (eval (.Name x pos) X.env) Q E s:=by
 obtain⟨mb,h1,h2⟩:=I.mod.blt
 exact Calls.Name_function_global I.ok.kind hg (Calls.loadGlobal_builtin (by rw [I.ok.glob];exact I.mod.glob.keeps I.bk) hm (by rw [I.ok.blt];exact h1.keeps I.bk) ((h2 x hn).trans hv) h) hd
theorem qdl {x:Str} {v:V} {u:Value} {pos:Pos} (hg:Gl X x) (hm:X.mg x=some u) (r:qb7 v u) (hd:(x==("__debug__" :Str))=false:=by decide):PE X (.Name x pos) (tC v):=
 fun _ _ _ H _ I h=>qd8 I hg hm ⟨v,H,I,r,h⟩ hd
theorem qcl {x:Str} {v:V} {u:Value} {pos:Pos} (hg:Gl X x) (hm:X.mg x=none) (hv:bootBuiltins x=some u) (r:qb7 v u) (hn:x≠"__name__":=by decide) (hd:(x==("__debug__" :Str))=false:=by decide):PE X (.Name x pos) (tC v):=
 fun _ _ _ H _ I h=>qfd I hg hm hv ⟨v,H,I,r,h⟩ hn hd
variable {a b: Expr} {ta tb: TE} {pos: Pos}
def PC (X:Cx) (op:CmpOp) (a b:Expr) (t:TE):Prop:=
 ∀(pins:List (Addr × Obj)) (s:Shared) (σ:St) (H:Hp) (Q:VK),Inv X pins σ H s->t σ H Q->
  wpAny (model X.prog X.w) X.A (eval a X.env) (fun v s₁=>wpAny (model X.prog X.w) X.A (eval b X.env) (fun u s₂=>wpAny (model X.prog X.w) X.A (compareOp op v u) (EP X pins σ Q) X.xe s₂) X.xe s₁) X.xe s
def tB (t:TE):TT:=fun σ H Q=>t σ H fun x H1=>∃c,x=.bl c/\Q c H1
theorem pe_cmp {op:CmpOp} {t:TE} (h:PC X op a b t) (h1:behindInMarks op b=false:=by first|exact nobehind _ (by decide) (by decide) |rfl):PE X (.Compare a [op] [b] pos) t:=fun pins s σ H Q I hw=>wpAny_Compare1 (h pins s σ H Q I hw) h1
theorem pt_cmp {op:CmpOp} {t:TE} (h:PC X op a b t) (h1:behindInMarks op b=false:=by first|exact nobehind _ (by decide) (by decide) |rfl):PT X (.Compare a [op] [b] pos) (tB t):=by
 intro pins s σ H Q I hw
 refine wpAny_isTrue_Compare1 (thn (h pins s σ H _ I hw) fun v s1 h1=>thn h1 fun u s2 h2=>thn h2 fun c s3 ⟨x,H1,I1,r1,q1⟩=>?_) h1
 obtain⟨d,rfl,q⟩:=q1
 cases r1
 exact wpAny_truthy_bool ⟨H1,I1,q⟩
theorem qbz {e:Expr} {t:TE} (h:PE X e t) (he:∀whole,isTrue e X.env whole=(do let v<-whole;standAt e.pos;holding [v] (truthy v)):=by intro _;rfl):PT X e (tB t):=by
 intro pins s σ H Q I hw
 refine isTrue_plain (thn (h pins s σ H _ I hw) fun v s1 ⟨x,H1,I1,r1,q1⟩=>?_) (he _)
 obtain⟨d,rfl,q⟩:=q1
 cases r1
 exact wpAny_truthy_bool ⟨H1,I1,q⟩
variable {tA tB': TT} {rest: List Expr}
def tAnd (t u:TT):TT:=fun σ H Q=>t σ H fun c H1=>if c=true then u σ H1 Q else Q false H1
def tOr (t u:TT):TT:=fun σ H Q=>t σ H fun c H1=>if c=true then Q true H1 else u σ H1 Q
def tNot (t:TT):TT:=fun σ H Q=>t σ H fun c H1=>Q (!c) H1
theorem qfx (ha:PT X a tA):PW X (.BoolOp .And [a] pos) tA:=by
 intro wh pins s σ H Q I h
 refine isTrue_and (thn (ha pins s σ H Q I h) fun c s1 e=>?_)
 cases c with
 |true=>exact isTrue_and_nil e
 |false=>exact e
theorem qd3 (ha:PT X a tA):PW X (.BoolOp .Or [a] pos) tA:=by
 intro wh pins s σ H Q I h
 refine isTrue_or (thn (ha pins s σ H Q I h) fun c s1 e=>?_)
 cases c with
 |false=>exact isTrue_or_nil e
 |true=>exact e
theorem pw_and (ha:PT X a tA) (hb:PW X (.BoolOp .And (b :: rest) pos) tB'):PW X (.BoolOp .And (a :: b :: rest) pos) (tAnd tA tB'):=by
 intro wh pins s σ H Q I h
 refine isTrue_and (thn (ha pins s σ H _ I h) fun c s1 ⟨H1,I1,q1⟩=>?_)
 cases c with
 |true=>exact hb wh pins s1 σ H1 Q I1 q1
 |false=>exact⟨H1,I1,q1⟩
theorem qe8 (ha:PT X a tA) (hb:PW X (.BoolOp .Or (b :: rest) pos) tB'):PW X (.BoolOp .Or (a :: b :: rest) pos) (tOr tA tB'):=by
 intro wh pins s σ H Q I h
 refine isTrue_or (thn (ha pins s σ H _ I h) fun c s1 ⟨H1,I1,q1⟩=>?_)
 cases c with
 |true=>exact⟨H1,I1,q1⟩
 |false=>exact hb wh pins s1 σ H1 Q I1 q1
theorem qc9 (ha:PT X a tA):PT X (.UnaryOp .Not a pos) (tNot tA):=by
 intro pins s σ H Q I h
 exact isTrue_not (ha pins s σ H (fun c H1=>Q (!c) H1) I h)
def tAndV (ta tb:TE):TE:=fun σ H Q=>ta σ H fun x H1=>∃c,x=.bl c/\if c=true then tb σ H1 Q else Q (.bl false) H1
def tNotV (ta:TE):TE:=fun σ H Q=>ta σ H fun x H1=>∃c,x=.bl c/\Q (.bl (!c)) H1
theorem qe4 {op} {t:TE} (h:PE X a t):PE X (.BoolOp op [a] pos) t:=fun pins s σ H Q I hw=>BoolOp_one (h pins s σ H Q I hw)
theorem qe5 (ha:PE X a ta) (hb:PE X (.BoolOp .And (b :: rest) pos) tb):PE X (.BoolOp .And (a :: b :: rest) pos) (tAndV ta tb):=by
 intro pins s σ H Q I h
 refine BoolOp_and (thn (ha pins s σ H _ I h) fun v s1 ⟨x,H1,I1,r1,q1⟩=>?_)
 obtain⟨c,rfl,q1⟩:=q1
 cases r1
 refine wpAny_truthy_bool ?_
 cases c with
 |true=>exact hb pins s1 σ H1 Q I1 q1
 |false=>exact⟨.bl false,H1,I1,rfl,q1⟩
theorem pe_not (ha:PE X a ta):PE X (.UnaryOp .Not a pos) (tNotV ta):=by
 intro pins s σ H Q I h
 refine UnaryOp_ (thn (ha pins s σ H _ I h) fun v s1 ⟨x,H1,I1,r1,q1⟩=>?_)
 obtain⟨c,rfl,q1⟩:=q1
 cases r1
 exact not_of (wpAny_truthy_bool ⟨.bl (!c),H1,I1,rfl,q1⟩)
end
end L2
namespace L2
open PySem PySem.Spec PyProof.Rows
def SqL (K:Frag) (H:Hp) (a:Addr) (xs:List V):Prop:=
 Rd H a (.lst xs)\/
  ∃(o:Obj) (its:Array Value) (n:Nat),K.lookup a=some o/\o.cls=.type "list"/\o.dict=none/\o.data=.seq its n/\its.size<=sizeLine/\qb5 xs its.toList
def SqT (K:Frag) (H:Hp) (a:Addr) (xs:List V):Prop:=
 Rd H a (.tup xs)\/
  ∃(o:Obj) (its:Array Value) (n:Nat),K.lookup a=some o/\o.cls=.type "tuple"/\o.data=.seq its n/\its.size<=sizeLine/\qb5 xs its.toList
def absV:Value->Option V
 | .none=>some .non
 | .bool b=>some (.bl b)
 | .int i _=>some (.int i)
 | .str x _=>some (.str x)
 | .bytes b _=>some (.byt b)
 | .float b _=>some (.flt b)
 | .ref a=>some (.ref a)
 | .type n=>some (.ty n)
 |_=>none
theorem qb7.abs {x:V} {u:Value} (r:qb7 x u):absV u=some x:=by
 cases x with
 |non=>cases r;rfl
 |bl _=>cases r;rfl
 |int _=>obtain⟨t,rfl⟩:=r;rfl
 |str _=>obtain⟨t,rfl⟩:=r;rfl
 |byt _=>obtain⟨t,rfl⟩:=r;rfl
 |flt _=>obtain⟨t,rfl⟩:=r;rfl
 |ref _=>cases r;rfl
 |ty _=>cases r;rfl
theorem qb7.inj {x y:V} {u:Value} (r:qb7 x u) (q:qb7 y u):x=y:=Option.some.inj (r.abs.symm.trans q.abs)
theorem qb5.inj:∀{xs ys:List V} {us:List Value},qb5 xs us->qb5 ys us->xs=ys
 |_,_,_,.nil,.nil=>rfl
 |_,_,_,.cons r t,.cons r' t'=>by rw [r.inj r',qb5.inj t t']
section
variable {X: Cx} {pins: List (Addr × Obj)} {σ: St} {H: Hp} {s: Shared} {a: Addr} {xs ys: List V}
theorem SqL.of {K:Frag} (h:H a=some (.lst xs)):SqL K H a xs:=.inl (.inl h)
theorem SqT.of {K:Frag} (h:H a=some (.tup xs)):SqT K H a xs:=.inl (.inl h)
theorem Inv.list (I:Inv X pins σ H s) (h:SqL X.K H a xs):∃its:List Value,qb5 xs its/\PlainL s.heap a its.toArray/\xs.length<=sizeLine:=by
 rcases h with h|⟨o,its,n,hk,hc,hd,hs,hz,r⟩
 .obtain⟨z,its,n,r,e⟩:=h.ok I.hok
  exact⟨its,r,⟨_,n,e,rfl,rfl,rfl⟩,z⟩
 .refine⟨its.toList,r,⟨o,n,I.kIn a o hk,hc,hd,by simpa using hs⟩,?_⟩
  have e:=r.length
  simp only [Array.length_toList] at e
  omega
theorem Inv.tuple (I:Inv X pins σ H s) (h:SqT X.K H a xs):∃its:List Value,qb5 xs its/\IsTup s.heap a its.toArray/\xs.length<=sizeLine:=by
 rcases h with h|⟨o,its,n,hk,hc,hs,hz,r⟩
 .obtain⟨z,its,r,p⟩:=h.ok I.hok
  exact⟨its,r,p,z⟩
 .refine⟨its.toList,r,⟨o,I.kIn a o hk,hc,n,by simpa using hs⟩,?_⟩
  have e:=r.length
  simp only [Array.length_toList] at e
  omega
theorem Inv.list_inj (I:Inv X pins σ H s) (h:SqL X.K H a xs) (h':SqL X.K H a ys):xs=ys:=by
 obtain⟨its,r,⟨o,n,e,_,_,d⟩,_⟩:=I.list h
 obtain⟨its',r',⟨o',n',e',_,_,d'⟩,_⟩:=I.list h'
 rw [e] at e';cases e'
 rw [d] at d'
 injection d' with d1 _
 have:its=its':=by simpa using congrArg Array.toList d1
 subst this
 exact r.inj r'
end
abbrev Cx.wish (X:Cx) (E:Value->Shared->Prop):Cx:={X with xe:=E}
abbrev Cx.nox (X:Cx):Cx:=X.wish fun _ _=>False
theorem Cx.Ok.wish {X:Cx} (ok:X.Ok) (E:Value->Shared->Prop):(X.wish E).Ok:=
 ⟨ok.mod,ok.kind,ok.glob,ok.blt,ok.above,ok.inj,ok.has,ok.cab,ok.hd,ok.frames,ok.stk,ok.exf,ok.bs,ok.bsz,ok.noex,ok.exfs,ok.funs,ok.frf⟩
theorem Cx.Ok.unwish {X:Cx} {E:Value->Shared->Prop} (ok:(X.wish E).Ok):X.Ok:=
 ⟨ok.mod,ok.kind,ok.glob,ok.blt,ok.above,ok.inj,ok.has,ok.cab,ok.hd,ok.frames,ok.stk,ok.exf,ok.bs,ok.bsz,ok.noex,ok.exfs,ok.funs,ok.frf⟩
section
variable {X: Cx} {pins: List (Addr × Obj)} {σ: St} {H: Hp} {s: Shared} {E: Value -> Shared -> Prop}
theorem Inv.wish (I:Inv X pins σ H s) (E:Value->Shared->Prop):Inv (X.wish E) pins σ H s:=⟨I.ok.wish E,I.os,I.bare,I.base,I.loc,I.cell,I.free,I.freeC,I.pin,I.hok,I.len⟩
theorem Inv.unwish (I:Inv (X.wish E) pins σ H s):Inv X pins σ H s:=⟨I.ok.unwish,I.os,I.bare,I.base,I.loc,I.cell,I.free,I.freeC,I.pin,I.hok,I.len⟩
theorem SP.unwish {D:Ends} {f:Flow} {s':Shared} (h:SP (X.wish E) pins D f s'):SP X pins D f s':=by
 cases f with
 |next=>obtain⟨σ',H',I,q⟩:=h;exact⟨σ',H',I.unwish,q⟩
 |brk=>obtain⟨σ',H',I,q⟩:=h;exact⟨σ',H',I.unwish,q⟩
 |cont=>obtain⟨σ',H',I,q⟩:=h;exact⟨σ',H',I.unwish,q⟩
 |ret u=>obtain⟨v,σ',H',I,r,q⟩:=h;exact⟨v,σ',H',I.unwish,r,q⟩
theorem PSs.nox {st:List Stmt} {t:TS} (h:PSs X.nox st t):PSs X st t:=fun pins s σ H D I hw=>
 wpAny_mono (h pins s σ H D (I.wish _) hw) (fun _ _ q=>q.unwish) fun _ _ z=>False.elim z
end
section
variable {X: Cx} {st: Stmt} {rest: List Stmt} {t u: TS} {e: Expr} {te: TE} {pos: Pos}
def tNext:TS:=fun D σ H=>D.nx σ H
def tSeq (t u:TS):TS:=fun D σ H=>t {D with nx:=u D} σ H
theorem qam:PSs X [] tNext:=fun _ _ σ H _ I h=>wpAny_execs_nil ⟨σ,H,I,h⟩
theorem qa3 (h1:PS X st t) (h2:PSs X rest u):PSs X (st :: rest) (tSeq t u):=by
 intro pins s σ H D I h
 refine wpAny_execs_cons (thn (h1 pins s σ H {D with nx:=u D} I h) fun f s1 q=>?_)
 cases f with
 |next=>
  obtain⟨σ',H',I',q⟩:=q
  exact h2 pins s1 σ' H' D I' q
 |ret v=>exact q
 |brk=>exact q
 |cont=>exact q
theorem qa5 (h1:PS X st t):PSs X [st] t:=by
 intro pins s σ H D I h
 refine wpAny_execs_cons (thn (h1 pins s σ H D I h) fun f s1 q=>?_)
 cases f with
 |next=>exact wpAny_execs_nil q
 |ret v=>exact q
 |brk=>exact q
 |cont=>exact q
theorem Inv.quiet {pins:List (Addr × Obj)} {σ:St} {H:Hp} {s:Shared} (I:Inv X pins σ H s):interactive X.env=false:=by simp [interactive,I.ok.kind]
def tDrop (te:TE):TS:=fun D σ H=>te σ H fun _ H1=>D.nx σ H1
theorem qb3 (he:PE X e te) (hs:swapsWith e none pos.line X.env=pure false:=by rfl):PS X (.Expr e pos) (tDrop te):=by
 intro pins s σ H D I h
 exact wpAny_Expr_any (thn (he pins s σ H _ I h) fun v s1 ⟨x,H1,I1,r1,q1⟩=>⟨σ,H1,I1,q1⟩) I.quiet hs
def tRet (te:TE):TS:=fun D σ H=>te σ H D.rt
theorem qai (he:PE X e te):PS X (.Return (some e) pos) (tRet te):=by
 intro pins s σ H D I h
 exact wpAny_Return_some (thn (he pins s σ H _ I h) fun v s1 ⟨x,H1,I1,r1,q1⟩=>⟨x,σ,H1,I1,r1,q1⟩)
def tIfS (c:TT) (t u:TS):TS:=fun D σ H=>c σ H fun b H1=>if b=true then t D σ H1 else u D σ H1
theorem qb8 {c:Expr} {a b:List Stmt} {tc:TT} (hc:PT X c tc) (ha:PSs X a t) (hb:PSs X b u):PS X (.If c a b pos) (tIfS tc t u):=by
 intro pins s σ H D I h
 refine wpAny_If (thn (hc pins s σ H _ I h) fun d s1 ⟨H1,I1,q1⟩=>?_)
 cases d with
 |true=>exact ha pins s1 σ H1 D I1 q1
 |false=>exact hb pins s1 σ H1 D I1 q1
end
abbrev TG:=V->St->Hp->(St->Hp->Prop)->Prop
abbrev TGs:=List V->St->Hp->(St->Hp->Prop)->Prop
def PG (X:Cx) (target:Expr) (t:TG):Prop:=
 ∀(pins:List (Addr × Obj)) (s:Shared) (σ:St) (H:Hp) (v:V) (u:Value) (Q:St->Hp->Prop),Inv X pins σ H s->qb7 v u->t v σ H Q->
  wpAny (model X.prog X.w) X.A (assign target X.env u) (fun _ s'=>∃σ' H',Inv X pins σ' H' s'/\Q σ' H') X.xe s
def PGs (X:Cx) (ts:List Expr) (t:TGs):Prop:=
 ∀(pins:List (Addr × Obj)) (s:Shared) (σ:St) (H:Hp) (vs:List V) (us:List Value) (Q:St->Hp->Prop),Inv X pins σ H s->qb5 vs us->t vs σ H Q->
  wpAny (model X.prog X.w) X.A (assignInOrder ((assignEach ts X.env).map (·.2)) us) (fun _ s'=>∃σ' H',Inv X pins σ' H' s'/\Q σ' H') X.xe s
section
variable {X: Cx} {pos: Pos}
def gName (i:Nat):TG:=fun v σ H Q=>Q (σ.set i (some v)) H
theorem qaq {i:Nat} {x:Str} (hN:X.N.Nodup) (hi:X.N[i]?=some x) (hx:Loc X.env.scope x) (hf:X.fn x=true\/X.env.scope.names.lookup x=some .local:=by first|exact .inl rfl|exact .inr rfl|assumption):PG X (.Name x pos) (gName i):=by
 intro pins s σ H v u Q I r h
 exact wpAny_assign_Name (qdq I hN hi hx r (fun s' I'=>⟨_,H,I',h⟩) hf)
def gNil:TGs:=fun vs σ H Q=>vs=[]/\Q σ H
def gCons (t:TG) (u:TGs):TGs:=fun vs σ H Q=>∃v r,vs=v :: r/\t v σ H fun σ' H'=>u r σ' H' Q
theorem qfz:PGs X [] gNil:=by
 intro pins s σ H vs us Q I r h
 obtain⟨e,h⟩:=h
 subst e
 cases r
 exact assignInOrder_nil ⟨σ,H,I,h⟩
theorem qbg {e:Expr} {es:List Expr} {t:TG} {u:TGs} (h1:PG X e t) (h2:PGs X es u)
  (hs:(assignEach (e :: es) X.env).map (·.2)=assign e X.env ::(assignEach es X.env).map (·.2):=by rfl):PGs X (e :: es) (gCons t u):=by
 intro pins s σ H vs us Q I r h
 obtain⟨v,vr,e1,h⟩:=h
 subst e1
 cases r with
 |cons r rr=>
  rw [hs]
  refine assignInOrder_cons (thn (h1 pins s σ H _ _ _ I r h) fun _ s1 ⟨σ1,H1,I1,q1⟩=>?_)
  exact h2 pins s1 σ1 H1 _ _ Q I1 rr q1
def gTup (K:Frag) (n:Nat) (t:TGs):TG:=fun v σ H Q=>∃a xs,v=.ref a/\SqT K H a xs/\xs.length=n/\t xs σ H Q
theorem pg_tup {es:List Expr} {k:Nat} {t:TGs} {n:Nat} (hc:X.calm=true) (h:PGs X es t)
  (hn:(assignEach es X.env).length=n:=by rfl) (hst:(assignEach es X.env).findIdx? (·.1)=none:=by rfl):PG X (.Tuple es k pos) (gTup X.K n t):=by
 intro pins s σ H v u Q I r hw
 obtain⟨a,xs,e1,hq,hl,hw⟩:=hw
 subst e1
 cases r
 obtain⟨its,rv,ht,hz⟩:=I.tuple hq
 refine assign_Tuple_tuple (I.ok.hd hc) ht (by simp [hn,<-hl,rv.length]) hst fun h' hx=>?_
 have I1:Inv X pins σ H {s with heap:=h'}:=I.kept (t':=s.toks) fun b o e=>hx b o (Nat.ne_of_lt (Heap.lt_size e)) e
 exact h pins _ σ H xs _ Q I1 (by simpa using rv) hw
def tAsg (te:TE) (g:TG):TS:=fun D σ H=>te σ H fun x H1=>g x σ H1 D.nx
theorem ps_asg {tg e:Expr} {te:TE} {g:TG} (he:PE X e te) (hg:PG X tg g) (hs:swapsWithSole [tg] e pos.line X.env=pure false:=by rfl) (hw:swappedStores [tg] e X.env=pure none:=by rfl)
  (h1:(assignEach [tg] X.env).map (·.2)=[assign tg X.env]:=by rfl):PS X (.Assign [tg] e pos) (tAsg te g):=by
 intro pins s σ H D I h
 refine wpAny_Assign_stores (thn (he pins s σ H _ I h) fun v s1 ⟨x,H1,I1,r1,q1⟩=>?_) hs hw
 rw [h1]
 exact thn (hg pins s1 σ H1 x v _ I1 r1 q1) fun _ s2 q=>q
theorem qah {i:Nat} {x:Str} {e:Expr} {te:TE} {pos':Pos} (hN:X.N.Nodup) (hi:X.N[i]?=some x) (hx:Loc X.env.scope x) (he:PE X e te) (hs:swapsWith e (some (.Name x pos')) pos.line X.env=pure false:=by rfl) (hf:X.fn x=true\/X.env.scope.names.lookup x=some .local:=by first|exact .inl rfl|exact .inr rfl|assumption):
  PS X (.Assign [.Name x pos'] e pos) (tAsg te (gName i)):=by
 intro pins s σ H D I h
 refine wpAny_Assign_Name (thn (he pins s σ H _ I h) fun v s1 ⟨y,H1,I1,r1,q1⟩=>?_) hs
 exact qdq I1 hN hi hx r1 (fun s2 I2=>⟨_,H1,I2,q1⟩) hf
end
section
variable {X: Cx} {pos: Pos}
def tWhile (c:TT) (tb:TS):TS:=fun D σ H=>∃W:Nat->St->Hp->Prop,(∃m,W m σ H)/\∀m σ H,W m σ H->
 c σ H fun b H1=>if b=true then ∃N:St->Hp->Prop,(∀σ' H',N σ' H'->∃m',m' < m/\W m' σ' H')/\tb {D with nx:=N,ct:=N,bk:=D.nx} σ H1 else D.nx σ H1
theorem qfy {c:Expr} {body:List Stmt} {tc:TT} {tb:TS} (hp:PassesOwn (model X.prog X.w) X.A X.env X.xe) (hc:PT X c tc) (hb:PSs X body tb):PS X (.While c body [] pos) (tWhile tc tb):=by
 intro pins s σ H D I h
 obtain⟨W,⟨m0,w0⟩,turn⟩:=h
 refine wpAny_While (codeAny_whileLoop (fun n s'=>∃σ' H',Inv X pins σ' H' s'/\W n σ' H') ?_ m0 ⟨σ,H,I,w0⟩)
 rintro n s1 ⟨σ1,H1,I1,w1⟩
 refine wpAny_passesOwn hp (thn (hc pins s1 σ1 H1 _ I1 (turn n σ1 H1 w1)) fun b s2 ⟨H2,I2,q2⟩=>?_)
 cases b with
 |true=>
  obtain⟨N,hN,q2⟩:=q2
  rw [if_pos rfl]
  refine wpAny_passesOwn hp (thn (hb pins s2 σ1 H2 _ I2 q2) fun f s3 q3=>?_)
  cases f with
  |next=>
   obtain⟨σ3,H3,I3,n3⟩:=q3
   obtain⟨m',hm,w3⟩:=hN σ3 H3 n3
   exact⟨m',hm,σ3,H3,I3,w3⟩
  |cont=>
   obtain⟨σ3,H3,I3,n3⟩:=q3
   obtain⟨m',hm,w3⟩:=hN σ3 H3 n3
   exact⟨m',hm,σ3,H3,I3,w3⟩
  |brk=>exact q3
  |ret v=>exact q3
 |false=>
  rw [if_neg Bool.false_ne_true]
  exact wpAny_execs_nil ⟨σ1,H2,I2,q2⟩
end
structure It where
 go:Nat->Hp->Prop
 yld:Nat->Hp->V->Hp->Prop
 stop:Nat->Hp->Prop
def qgc (X:Cx) (pins:List (Addr × Obj)) (H:Hp) (b:Addr):Prop:=
 H b=none/\b≠X.env.locals/\b∉X.fs/\(b∈X.ex\/X.s₀.heap.objs.size<=b)/\(∀x c,X.env.cells.lookup x=some c->c≠b)/\∀p∈X.pn++pins,p.1≠b
theorem Inv.fpOk {X:Cx} {pins:List (Addr × Obj)} {σ:St} {H H':Hp} {s:Shared} {b:Addr} (I:Inv X pins σ H s) (hb:s.heap.objs.size<=b) (hn:H' b=none):qgc X pins H' b:=by
 refine⟨hn,Nat.ne_of_gt (Nat.lt_of_lt_of_le I.lt hb),I.nofs hb,.inr (Nat.le_trans I.sz hb),fun x c e z=>?_,fun p hp z=>?_⟩
 .obtain⟨v,q⟩:=I.cell x c e
  exact absurd (Nat.lt_of_lt_of_le q.lt (by rw [z];exact hb)) (Nat.lt_irrefl _)
 .exact absurd (Nat.lt_of_lt_of_le (Heap.lt_size (I.pin p hp).1) (by rw [z];exact hb)) (Nat.lt_irrefl _)
structure Turn (P:Program) (w:World) (K:Frag) (tg:Expr) (J:It) (fp:List Addr) (it:Addr) (tn:Nat->Heap->Prop):Prop where
 mem:it∈fp
 obj:∀i h,tn i h->∀b∈fp,∃o,h.get? b=some o/\∀v,o.data≠ .cell v
 keep:∀i h h',tn i h->(∀b∈fp,∀o,h.get? b=some o->h'.get? b=some o)->tn i h'
 item:∀(X:Cx),X.prog=P->X.w=w->X.K=K->X.calm=true->∀(i:Nat) (pins:List (Addr × Obj)) (s:Shared) (σ:St) (H:Hp) (E:Value->Shared->Prop),Inv X pins σ H s->(∀b∈fp,qgc X pins H b)->tn i s.heap->J.go i H->
  wpAny (model P w) X.A (pyNext (.ref it)) (fun r s1=>∃u,r=some u/\
   wpAny (model P w) X.A (letOwnedTupleGo tg (.ref it) u) (fun _ s2=>∃x H',Inv X pins σ H' s2/\qb7 x u/\J.yld i H x H'/\tn (i+1) s2.heap/\∀b∈fp,H' b=none) E s1) E s
 done:∀(X:Cx),X.prog=P->X.w=w->X.K=K->X.calm=true->∀(i:Nat) (pins:List (Addr × Obj)) (s:Shared) (σ:St) (H:Hp) (E:Value->Shared->Prop),Inv X pins σ H s->(∀b∈fp,qgc X pins H b)->tn i s.heap->J.stop i H->
  wpAny (model P w) X.A (pyNext (.ref it)) (fun r s1=>r=none/\Inv X pins σ H s1) E s
 self:∀(A:Around) (i:Nat) (s:Shared) (Q:Value->Shared->Prop) (E:Value->Shared->Prop),tn i s.heap->Q (.ref it) s->wpAny (model P w) A (pyIter (.ref it)) Q E s
abbrev TI:=St->Hp->(It->Hp->Prop)->Prop
def PIE (X:Cx) (pins:List (Addr × Obj)) (σ:St) (tg:Expr) (R:It->Hp->Prop) (itv:Value) (s2:Shared):Prop:=
 ∃(it:Addr) (fp:List Addr) (tn:Nat->Heap->Prop) (J:It) (H':Hp),itv=.ref it/\Inv X pins σ H' s2/\Turn X.prog X.w X.K tg J fp it tn/\tn 0 s2.heap/\(∀b∈fp,qgc X pins H' b)/\R J H'
def PI (X:Cx) (tg iter:Expr) (wi:TI):Prop:=
 ∀(pins:List (Addr × Obj)) (s:Shared) (σ:St) (H:Hp) (R:It->Hp->Prop),Inv X pins σ H s->wi σ H R->
  wpAny (model X.prog X.w) X.A (eval iter X.env) (fun v s1=>wpAny (model X.prog X.w) X.A (pyIter v) (PIE X pins σ tg R) X.xe s1) X.xe s
theorem go_of {M:Model} {A:Around} {E:Value->Shared->Prop} {s:Shared} {tg:Expr} {it:Addr} {u:Value} {o:Obj} {n:String} {vs:Array Value} {Q:Unit->Shared->Prop} (ho:s.heap.get? it=some o) (hc:o.cls=.type n) (hd:o.data=.fields vs)
  (hn: ["enumerate","zip","dict_itemiterator","dict_reverseitemiterator","odict_iterator","itertools.zip_longest","itertools.pairwise"].contains n=false) (hQ:Q () s):wpAny M A (letOwnedTupleGo tg (.ref it) u) Q E s:=by
 unfold letOwnedTupleGo
 cases tg <;> first
  |exact wpAny_pure hQ
  |(cases u <;> first
    |exact wpAny_pure hQ
    |(refine wpAny_bind (wpAny_load ho ?_)
      rw [hc,hd]
      show wpAny M A (if (["enumerate","zip","dict_itemiterator","dict_reverseitemiterator","odict_iterator","itertools.zip_longest","itertools.pairwise"].contains n && vs[0]?==some (rawInt _))=true then _ else _) Q E s
      rw [if_neg (by intro h;rw [hn,Bool.false_and] at h;cases h)]
      exact wpAny_pure hQ))
def Itl (K:Frag) (a:Addr):It:=
 ⟨fun i H=>∃xs x,SqL K H a xs/\xs[i]?=some x,fun i H x H'=>H'=H/\∀xs,SqL K H a xs->xs[i]?=some x,fun i H=>∃xs,SqL K H a xs/\xs.length<=i⟩
def Itr (lo:Int) (n:Nat):It:=⟨fun i _=>i < n,fun i H x H'=>H'=H/\x=.int (lo+i),fun i _=>n<=i⟩
theorem turn_list {P:Program} {w:World} {K:Frag} {tg:Expr} (a it:Addr):Turn P w K tg (Itl K a) [it] it (fun i h=>h.IsListIter it a i) where
 mem:=by simp
 obj:=fun i h st b hb=>by
  have e:b=it:=by simpa using hb
  subst e
  obtain⟨o,e,c,d⟩:=st
  exact⟨o,e,fun v z=>by rw [d] at z;cases z⟩
 keep:=fun i h h' st k=>st.at fun o e=>k it (by simp) o e
 item:=by
  intro X hP hw hK hc i pins s σ H E I hf st hg
  subst hP hw hK
  obtain⟨xs,x,hq,hx⟩:=hg
  obtain⟨its,rv,p,hz⟩:=I.list hq
  obtain⟨u,hu,ru⟩:=rv.get hx
  obtain⟨f0,f1,f2,f3,f4,f5⟩:=hf it (by simp)
  refine wpAny_pyNext_list_item st p.isList (x:=u) (by simpa using hu) fun h' st' sb=>?_
  have I1:Inv X pins σ H {s with heap:=h'}:=I.turned (t':=s.toks) (fun b o hb e=>(sb.2 b hb).trans e) f0 f1 f3 f4 f5
  obtain⟨o,e,c,d⟩:=id st'
  exact⟨u,rfl,go_of (s:={s with heap:=h'}) e c d (by decide) ⟨x,H,I1,ru,⟨rfl,fun ys hy=>by rw [I.list_inj hy hq];exact hx⟩,st',fun b hb=>(hf b hb).1⟩⟩
 done:=by
  intro X hP hw hK hc i pins s σ H E I hf st hg
  subst hP hw hK
  obtain⟨xs,hq,hx⟩:=hg
  obtain⟨its,rv,p,hz⟩:=I.list hq
  obtain⟨f0,f1,f2,f3,f4,f5⟩:=hf it (by simp)
  have hl:=rv.length
  exact wpAny_pyNext_list_end (I.ok.hd hc) st p.isList (by simp;omega) fun h' eb=>⟨rfl,I.turned (t':=s.toks) (fun b o hb e=>eb b o hb e) f0 f1 f3 f4 f5⟩
 self:=fun _ _ _ _ _ st h=>wpAny_pyIter_listiter st h
theorem turn_range {P:Program} {w:World} {K:Frag} {tg:Expr} (it:Addr) (lo:Int) (n:Nat):Turn P w K tg (Itr lo n) [it] it (fun i h=>IsRangeIter h it (lo+(i:Nat)*1) ((n:Int) - (i:Nat)) 1) where
 mem:=by simp
 obj:=fun i h st b hb=>by
  have e:b=it:=by simpa using hb
  subst e
  exact⟨_,st,fun v z=>by
   have z':Data.fields _=Data.cell v:=z
   cases z'⟩
 keep:=fun i h h' st k=>k it (by simp) _ st
 item:=by
  intro X hP hw hK hc i pins s σ H E I hf st hg
  subst hP hw hK
  obtain⟨f0,f1,f2,f3,f4,f5⟩:=hf it (by simp)
  have W:=Walks.range (prog:=X.prog) (w:=X.w) (I.ok.hd hc) it lo 1 n
  refine W.item i s _ _ hg st fun v h' tk hv st' kk=>?_
  obtain⟨t,rfl⟩:=hv
  have I1:Inv X pins σ H {s with heap:=h',toks:=tk}:=I.turned (fun b o hb e=>kk b o (by simpa using hb) e) f0 f1 f3 f4 f5
  refine⟨_,rfl,go_of (s:={s with heap:=h',toks:=tk}) (n:="range_iterator") st' rfl rfl (by decide) ⟨.int (lo+i),H,I1,⟨t,?_⟩,⟨rfl,rfl⟩,st',fun b hb=>(hf b hb).1⟩⟩
  rw [Int.mul_one]
 done:=by
  intro X hP hw hK hc i pins s σ H E I hf st hg
  subst hP hw hK
  obtain⟨f0,f1,f2,f3,f4,f5⟩:=hf it (by simp)
  exact wpAny_pyNext_range_end (I.ok.hd hc) st (by have:n<=i:=hg;omega) fun h' eb=>⟨rfl,I.turned (t':=s.toks) (fun b o hb e=>eb b o hb e) f0 f1 f3 f4 f5⟩
 self:=fun _ _ _ _ _ st h=>wpAny_pyIter_rangeiter st h
end L2
namespace L2
open PySem PySem.Spec PyProof.Rows
section
variable {X: Cx} {tg: Expr}
def iList (K:Frag) (tl:TE):TI:=fun σ H R=>tl σ H fun x H1=>∃a,x=.ref a/\(∃xs,SqL K H1 a xs)/\R (Itl K a) H1
theorem qbv {l:Expr} {tl:TE} (hl:PE X l tl):PI X tg l (iList X.K tl):=by
 intro pins s σ H R I h
 refine thn (hl pins s σ H _ I h) fun v s1 ⟨x,H1,I1,r1,q1⟩=>?_
 obtain⟨a,e,⟨xs,hq⟩,q⟩:=q1
 subst e
 cases r1
 obtain⟨its,rv,p,hz⟩:=I1.list hq
 refine wpAny_pyIter_list p.isList ?_
 refine⟨s1.heap.objs.size, [s1.heap.objs.size],_,_,H1,rfl,I1.kept (t':=s1.toks) fun b o e=>Heap.get?_push_of_some _ e,turn_list a _,⟨_,Heap.get?_push_size _ rfl,rfl,rfl⟩,fun b hb=>?_,q⟩
 have e:b=s1.heap.objs.size:=by simpa using hb
 subst e
 exact I1.fpOk (Nat.le_refl _) (I1.hok.fresh (Nat.le_refl _))
theorem range_it {pins:List (Addr × Obj)} {σ:St} {H:Hp} {s:Shared} {R:It->Hp->Prop} {E:Value->Shared->Prop} {lo hi:Int} {t u v:Tok} {tk:Nat} (I:Inv X pins σ H s) (h1: -(2^62)<=lo) (h2:lo < 2^62) (h3: -(2^62)<=hi) (h4:hi < 2^62)
  (q:R (Itr lo (hi - lo).toNat) H):wpAny (model X.prog X.w) X.A (pyIter (.ref s.heap.objs.size)) (PIE X pins σ tg R) E {s with heap:=s.heap.push {cls:=.type "range",data:=.fields #[.int lo t,.int hi u,.int 1 v]},toks:=tk}:=by
 refine wpAny_pyIter_range (IsRange.new ..) (small_one h1 h2 h3 h4) ?_
 have I1:Inv X pins σ H {s with heap:=s.heap.push {cls:=.type "range",data:=.fields #[.int lo t,.int hi u,.int 1 v]},toks:=tk}:=I.kept fun b o e=>Heap.get?_push_of_some _ e
 refine⟨(s.heap.push {cls:=.type "range",data:=.fields #[.int lo t,.int hi u,.int 1 v]}).objs.size, [(s.heap.push {cls:=.type "range",data:=.fields #[.int lo t,.int hi u,.int 1 v]}).objs.size],_,_,H,rfl,
  I1.kept (t':=tk) fun b o e=>Heap.get?_push_of_some _ e,turn_range _ lo (hi - lo).toNat,?_,fun b hb=>?_,q⟩
 .have e1:lo+((0:Nat):Int)*1=lo:=by simp
  have e2:(((hi - lo).toNat:Nat):Int) - ((0:Nat):Int)=Builtin.Range.rangeSize lo hi 1:=by rw [rangeSize_one];split <;> omega
  show IsRangeIter _ _ (lo+((0:Nat):Int)*1) ((((hi - lo).toNat:Nat):Int) - ((0:Nat):Int)) 1
  rw [e1,e2]
  exact Heap.get?_push_size _ rfl
 .have e:b=(s.heap.push {cls:=.type "range",data:=.fields #[.int lo t,.int hi u,.int 1 v]}).objs.size:=by simpa using hb
  subst e
  exact I1.fpOk (Nat.le_refl _) (I1.hok.fresh (Nat.le_refl _))
def iRng1 (ta:TA):TI:=fun σ H R=>ta σ H fun vs H1=>∃j:Int,vs=[.int j]/\-(2^62)<=j/\j < 2^62/\R (Itr 0 j.toNat) H1
def iRng2 (ta:TA):TI:=fun σ H R=>ta σ H fun vs H1=>∃i j:Int,vs=[.int i,.int j]/\(-(2^62)<=i/\i < 2^62/\-(2^62)<=j/\j < 2^62)/\R (Itr i (j - i).toNat) H1
theorem qav {a:Expr} {ta:TA} {p pos:Pos} (hg:Gl X "range") (hm:X.mg "range" =none) (ha:PA X [a] ta) (hs:starEach [a] X.env=[(false,eval a X.env)]:=by rfl):PI X tg (.Call (.Name "range" p) [a] [] pos) (iRng1 ta):=by
 intro pins s σ H R I h
 refine Call_ (qfd I hg hm boot_range (PyProof.Rows.callWith_type1 (thn (ha pos pins s σ H _ I h) fun us s1 ⟨vs,H1,I1,r1,q1⟩=>?_) hs rfl))
 obtain⟨j,e,q1,q2,q⟩:=q1
 subst e
 cases r1 with
 |cons r rr=>
  cases rr
  obtain⟨t,rfl⟩:=r
  exact call_range_1 (range_it I1 (by omega) (by omega) q1 q2 (by simpa using q))
theorem pi_range2 {a b:Expr} {ta:TA} {p pos:Pos} (hg:Gl X "range") (hm:X.mg "range" =none) (ha:PA X [a,b] ta) (hs:starEach [a,b] X.env=[(false,eval a X.env),(false,eval b X.env)]:=by rfl) (hs2:starEach [b] X.env=[(false,eval b X.env)]:=by rfl):
  PI X tg (.Call (.Name "range" p) [a,b] [] pos) (iRng2 ta):=by
 intro pins s σ H R I h
 refine Call_ (qfd I hg hm boot_range (PyProof.Rows.callWith_type1 (thn (ha pos pins s σ H _ I h) fun us s1 ⟨vs,H1,I1,r1,q1⟩=>?_) (by rw [hs,hs2]) (by rw [hs2];rfl)))
 obtain⟨i,j,e,⟨q1,q2,q3,q4⟩,q⟩:=q1
 subst e
 cases r1 with
 |cons r rr=>
  cases rr with
  |cons r' rr=>
   cases rr
   obtain⟨t,rfl⟩:=r
   obtain⟨t',rfl⟩:=r'
   exact call_range_2 (range_it I1 q1 q2 q3 q4 q)
def tFor (wi:TI) (g:TG) (tb:TS):TS:=fun D σ H=>wi σ H fun J H1=>∃W:Nat->Nat->St->Hp->Prop,(∃m,W 0 m σ H1)/\∀i m σ H,W i m σ H->
 (J.stop i H/\D.nx σ H)\/(J.go i H/\∃N:St->Hp->Prop,(∀σ' H',N σ' H'->∃m',m' < m/\W (i+1) m' σ' H')/\∀x H',J.yld i H x H'->g x σ H' fun σ2 H2=>tb {D with nx:=N,ct:=N,bk:=D.nx} σ2 H2)
def qbu (fp:List Addr) (h:Heap):List (Addr × Obj):=fp.filterMap fun b=>(h.get? b).map fun o=>(b,o)
theorem qbs {fp:List Addr} {h:Heap} {b:Addr} {o:Obj} (hb:b∈fp) (e:h.get? b=some o):(b,o)∈qbu fp h:=List.mem_filterMap.mpr ⟨b,hb,by rw [e];rfl⟩
theorem of_pinsAt {fp:List Addr} {h:Heap} {p:Addr × Obj} (hp:p∈qbu fp h):p.1∈fp/\h.get? p.1=some p.2:=by
 obtain⟨b,hb,e⟩:=List.mem_filterMap.mp hp
 cases q:h.get? b with
 |none=>rw [q] at e;cases e
 |some o=>
  rw [q] at e
  have e':(b,o)=p:=Option.some.inj e
  subst e'
  exact⟨hb,q⟩
theorem Inv.pinned {pins:List (Addr × Obj)} {σ:St} {H:Hp} {s:Shared} {fp:List Addr} (I:Inv X pins σ H s) (hf:∀b∈fp,qgc X pins H b) (ho:∀b∈fp,∃o,s.heap.get? b=some o/\∀v,o.data≠ .cell v):Inv X (pins++qbu fp s.heap) σ H s:=
 I.pins_of fun p hp=>(mem_append.mp hp).elim (fun z=>I.pin p (mem_append_right _ z)) fun z=>by
  obtain⟨hb,e⟩:=of_pinsAt z
  obtain⟨f0,f1,f2,_⟩:=hf p.1 hb
  obtain⟨o,e',d⟩:=ho p.1 hb
  rw [e] at e';cases e'
  exact⟨e,f0,f1,f2,d⟩
theorem Inv.unpinned {pins pl:List (Addr × Obj)} {σ:St} {H:Hp} {s:Shared} (I:Inv X (pins++pl) σ H s):Inv X pins σ H s:=I.pins_of fun p hp=>I.pin p (mem_append_right _ (mem_append_left _ hp))
theorem qbe {iter:Expr} {body:List Stmt} {wi:TI} {g:TG} {tb:TS} {pos:Pos} (hp:PassesOwn (model X.prog X.w) X.A X.env X.xe) (hc:X.calm=true) (hi:PI X tg iter wi) (hg:PG X tg g) (hb:PSs X body tb)
  (hs:∀x,foldedSetIterable iter X.env x=pure x:=by intro _;rfl):PS X (.For tg iter body [] pos) (tFor wi g tb):=by
 intro pins s σ H D I h
 refine wpAny_For (thn (hi pins s σ H _ I h) fun v s1 h1=>thn h1 fun itv s2 h2=>?_) hs
 obtain⟨it,fp,tn,J,H2,e,I2,T,st2,f2,W,⟨m0,w0⟩,turn⟩:=h2
 subst e
 have stat:∀{H':Hp},(∀b∈fp,H' b=none)->∀b∈fp,qgc X pins H' b:=fun hn b hb=>⟨hn b hb,(f2 b hb).2⟩
 refine codeAny_forLoop_any (fun n s'=>∃i σ' H',Inv X pins σ' H' s'/\tn i s'.heap/\(∀b∈fp,H' b=none)/\W i n σ' H') ?_ m0 ⟨0,σ,H2,I2,st2,fun b hb=>(f2 b hb).1,w0⟩
 rintro n s3 ⟨i,σ3,H3,I3,st3,fr3,w3⟩
 rcases turn i n σ3 H3 w3 with ⟨stop,qn⟩ |⟨go,N,hN,step⟩
 .refine wpAny_passesOwn hp (thn (T.done X rfl rfl rfl hc i pins s3 σ3 H3 X.xe I3 (stat fr3) st3 stop) fun r s4 ⟨hr,I4⟩=>?_)
  subst hr
  exact wpAny_execs_nil ⟨σ3,H3,I4,qn⟩
 .refine wpAny_passesOwn hp (thn (T.item X rfl rfl rfl hc i pins s3 σ3 H3 X.xe I3 (stat fr3) st3 go) fun r s4 ⟨u,hr,h4⟩=>?_)
  subst hr
  refine wpAny_passesOwn hp (thn h4 fun _ s5 ⟨x,H5,I5,r5,y5,st5,fr5⟩=>?_)
  have I5':=I5.pinned (stat fr5) (T.obj _ _ st5)
  refine wpAny_passesOwn hp (thn (hg _ s5 σ3 H5 x u _ I5' r5 (step x H5 y5)) fun _ s6 ⟨σ6,H6,I6,q6⟩=>?_)
  refine wpAny_passesOwn hp (thn (hb _ s6 σ6 H6 _ I6 q6) fun f s7 q7=>?_)
  have again:∀{σ7:St} {H7:Hp},Inv X (pins++qbu fp s5.heap) σ7 H7 s7->N σ7 H7->∃m,m < n/\∃i σ' H',Inv X pins σ' H' s7/\tn i s7.heap/\(∀b∈fp,H' b=none)/\W i m σ' H':=fun {σ7 H7} I7 n7=>by
   obtain⟨m',hm,w7⟩:=hN σ7 H7 n7
   refine⟨m',hm,i+1,σ7,H7,I7.unpinned,T.keep _ _ _ st5 fun b hb o e=>(I7.pin (b,o) (mem_append_right _ (mem_append_right _ (qbs hb e)))).1,fun b hb=>?_,w7⟩
   obtain⟨o,e,d⟩:=T.obj _ _ st5 b hb
   exact(I7.pin (b,o) (mem_append_right _ (mem_append_right _ (qbs hb e)))).2.1
  cases f with
  |next=>obtain⟨σ7,H7,I7,n7⟩:=q7;exact again I7 n7
  |cont=>obtain⟨σ7,H7,I7,n7⟩:=q7;exact again I7 n7
  |brk=>obtain⟨σ7,H7,I7,q7⟩:=q7;exact⟨σ7,H7,I7.unpinned,q7⟩
  |ret v=>obtain⟨x7,σ7,H7,I7,r7,q7⟩:=q7;exact⟨x7,σ7,H7,I7.unpinned,r7,q7⟩
end
theorem for_list {K:Frag} {a:Addr} {xs:List V} {g:TG} {tb:TS} {D:Ends} {σ:St} {H:Hp} (Pv:Nat->St->Hp->Prop) (h0:Pv 0 σ H) (hl:∀i σ H,i<=xs.length->Pv i σ H->SqL K H a xs)
  (hs:∀i x σ H,xs[i]?=some x->Pv i σ H->g x σ H fun σ2 H2=>tb {D with nx:=Pv (i+1),ct:=Pv (i+1),bk:=D.nx} σ2 H2) (hd:∀σ H,Pv xs.length σ H->D.nx σ H):
  ∃W:Nat->Nat->St->Hp->Prop,(∃m,W 0 m σ H)/\∀i m σ H,W i m σ H->
   ((Itl K a).stop i H/\D.nx σ H)\/((Itl K a).go i H/\∃N:St->Hp->Prop,(∀σ' H',N σ' H'->∃m',m' < m/\W (i+1) m' σ' H')/\∀x H',(Itl K a).yld i H x H'->g x σ H' fun σ2 H2=>tb {D with nx:=N,ct:=N,bk:=D.nx} σ2 H2):=by
 refine⟨fun i m σ H=>m=xs.length - i/\i<=xs.length/\Pv i σ H,⟨xs.length,by simp,Nat.zero_le _,h0⟩,?_⟩
 rintro i m σ H ⟨rfl,hi,p⟩
 have q:=hl i σ H hi p
 by_cases hlt:i < xs.length
 .refine .inr ⟨⟨xs,xs[i],q,by simp [hlt]⟩,Pv (i+1),fun σ' H' p'=>⟨xs.length - (i+1),by omega,rfl,hlt,p'⟩,fun x H' y=>?_⟩
  obtain⟨e,y⟩:=y
  subst e
  exact hs i x σ _ (y xs q) p
 .have e:i=xs.length:=by omega
  subst e
  exact .inl ⟨⟨xs,q,Nat.le_refl _⟩,hd σ H p⟩
theorem for_range {lo:Int} {n:Nat} {g:TG} {tb:TS} {D:Ends} {σ:St} {H:Hp} (Pv:Nat->St->Hp->Prop) (h0:Pv 0 σ H)
  (hs:∀i σ H,i < n->Pv i σ H->g (.int (lo+i)) σ H fun σ2 H2=>tb {D with nx:=Pv (i+1),ct:=Pv (i+1),bk:=D.nx} σ2 H2) (hd:∀σ H,Pv n σ H->D.nx σ H):
  ∃W:Nat->Nat->St->Hp->Prop,(∃m,W 0 m σ H)/\∀i m σ H,W i m σ H->
   ((Itr lo n).stop i H/\D.nx σ H)\/((Itr lo n).go i H/\∃N:St->Hp->Prop,(∀σ' H',N σ' H'->∃m',m' < m/\W (i+1) m' σ' H')/\∀x H',(Itr lo n).yld i H x H'->g x σ H' fun σ2 H2=>tb {D with nx:=N,ct:=N,bk:=D.nx} σ2 H2):=by
 refine⟨fun i m σ H=>m=n - i/\i<=n/\Pv i σ H,⟨n,by simp,Nat.zero_le _,h0⟩,?_⟩
 rintro i m σ H ⟨rfl,hi,p⟩
 by_cases hlt:i < n
 .refine .inr ⟨hlt,Pv (i+1),fun σ' H' p'=>⟨n - (i+1),by omega,rfl,hlt,p'⟩,fun x H' y=>?_⟩
  obtain⟨e,y⟩:=y
  subst e y
  exact hs i σ _ hlt p
 .have e:i=n:=by omega
  subst e
  exact .inl ⟨Nat.le_refl _,hd σ H p⟩
theorem qfm {c:TT} {tb:TS} {D:Ends} {σ:St} {H:Hp} (Pv:St->Hp->Prop) (μ:St->Hp->Nat) (h0:Pv σ H)
  (hs:∀σ H,Pv σ H->c σ H fun b H1=>if b=true then tb {D with nx:=fun σ' H'=>Pv σ' H'/\μ σ' H' < μ σ H,ct:=fun σ' H'=>Pv σ' H'/\μ σ' H' < μ σ H,bk:=D.nx} σ H1 else D.nx σ H1)
  (mono:∀σ H Q Q',(∀b H1,Q b H1->Q' b H1)->c σ H Q->c σ H Q'):tWhile c tb D σ H:=by
 refine⟨fun m σ H=>m=μ σ H/\Pv σ H,⟨_,rfl,h0⟩,?_⟩
 rintro m σ H ⟨rfl,p⟩
 refine mono σ H _ _ (fun b H1 q=>?_) (hs σ H p)
 cases b with
 |true=>exact⟨_,fun σ' H' ⟨p',l⟩=>⟨_,l,rfl,p'⟩,q⟩
 |false=>exact q
end L2
namespace L2
open PySem PySem.Spec PyProof.Rows
abbrev R2:=V->V->Hp->VK->Prop
def OpR (X:Cx) (f:Value->Value->Sem Value) (r:R2):Prop:=
 ∀(pins:List (Addr × Obj)) (s:Shared) (σ:St) (H:Hp) (x y:V) (v u:Value) (Q:VK),Inv X pins σ H s->qb7 x v->qb7 y u->r x y H Q->
  wpAny (model X.prog X.w) X.A (f v u) (EP X pins σ Q) X.xe s
def UnR (X:Cx) (f:Value->Sem Value) (r:V->Hp->VK->Prop):Prop:=
 ∀(pins:List (Addr × Obj)) (s:Shared) (σ:St) (H:Hp) (x:V) (v:Value) (Q:VK),Inv X pins σ H s->qb7 x v->r x H Q->
  wpAny (model X.prog X.w) X.A (f v) (EP X pins σ Q) X.xe s
def qc3 (X:Cx) (f:Value) (r:List V->Hp->VK->Prop):Prop:=
 ∀(pins:List (Addr × Obj)) (s:Shared) (σ:St) (H:Hp) (xs:List V) (us:List Value) (Q:VK),Inv X pins σ H s->qb5 xs us->r xs H Q->
  wpAny (model X.prog X.w) X.A (call f us) (EP X pins σ Q) X.xe s
def tOp (r:R2) (ta tb:TE):TE:=fun σ H Q=>ta σ H fun x H1=>tb σ H1 fun y H2=>r x y H2 Q
def tUn (r:V->Hp->VK->Prop) (ta:TE):TE:=fun σ H Q=>ta σ H fun x H1=>r x H1 Q
def rI (C:Int->Int->Prop) (g:Int->Int->V):R2:=fun x y H Q=>∃i j,x=.int i/\y=.int j/\C i j/\Q (g i j) H
def rI0 (g:Int->Int->V):R2:=fun x y H Q=>∃i j,x=.int i/\y=.int j/\Q (g i j) H
def rU (g:Int->V):V->Hp->VK->Prop:=fun x H Q=>∃i,x=.int i/\Q (g i) H
section
variable {X: Cx} {a b: Expr} {ta tb: TE} {pos: Pos}
theorem binT (ha:PE X a ta) (hb:PE X b tb) {pins:List (Addr × Obj)} {s:Shared} {σ:St} {H:Hp} {R:V->V->Hp->Prop} (I:Inv X pins σ H s)
  (h:ta σ H fun x H1=>tb σ H1 fun y H2=>R x y H2) {Q:Value->Shared->Prop} {f:Value->Value->Sem Value}
  (hf:∀v u s2 x y H2,Inv X pins σ H2 s2->qb7 x v->qb7 y u->R x y H2->wpAny (model X.prog X.w) X.A (f v u) Q X.xe s2):
  wpAny (model X.prog X.w) X.A (eval a X.env) (fun v s₁=>wpAny (model X.prog X.w) X.A (eval b X.env) (fun u s₂=>wpAny (model X.prog X.w) X.A (f v u) Q X.xe s₂) X.xe s₁) X.xe s:=by
 refine thn (ha pins s σ H _ I h) fun v s1 ⟨x,H1,I1,r1,q1⟩=>?_
 refine thn (hb pins s1 σ H1 _ I1 q1) fun u s2 ⟨y,H2,I2,r2,q2⟩=>?_
 exact hf v u s2 x y H2 I2 r1 r2 q2
theorem qal {op:Operator} {r:R2} (ho:OpR X (binaryOp op) r) (ha:PE X a ta) (hb:PE X b tb):PE X (.BinOp a op b pos) (tOp r ta tb):=by
 intro pins s σ H Q I h
 exact wpAny_BinOp (binT ha hb I h fun v u s2 x y H2 I2 rx ry q=>ho pins s2 σ H2 x y v u Q I2 rx ry q)
theorem pe_un {op:UnaryOp} {r:V->Hp->VK->Prop} (ho:UnR X (unaryOp op) r) (ha:PE X a ta):PE X (.UnaryOp op a pos) (tUn r ta):=by
 intro pins s σ H Q I h
 exact UnaryOp_ (thn (ha pins s σ H _ I h) fun v s1 ⟨x,H1,I1,r1,q1⟩=>ho pins s1 σ H1 x v Q I1 r1 q1)
theorem opI {f:Value->Value->Sem Value} {C:Int->Int->Prop} {g:Int->Int->Int}
  (rule:∀(i j:Int) (t u:Tok) (s:Shared) (Q:Value->Shared->Prop) (E:Value->Shared->Prop),C i j->Q (.int (g i j) s.toks) {s with toks:=s.toks+1}->wpAny (model X.prog X.w) X.A (f (.int i t) (.int j u)) Q E s):
  OpR X f (rI C fun i j=> .int (g i j)):=by
 intro pins s σ H x y v u Q I rx ry h
 obtain⟨i,j,rfl,rfl,hc,q⟩:=h
 obtain⟨t,rfl⟩:=rx
 obtain⟨t',rfl⟩:=ry
 exact rule i j t t' s _ _ hc ⟨.int (g i j),H,I.tok _,⟨_,rfl⟩,q⟩
theorem opI0 {f:Value->Value->Sem Value} {g:Int->Int->Int}
  (rule:∀(i j:Int) (t u:Tok) (s:Shared) (Q:Value->Shared->Prop) (E:Value->Shared->Prop),Q (.int (g i j) s.toks) {s with toks:=s.toks+1}->wpAny (model X.prog X.w) X.A (f (.int i t) (.int j u)) Q E s):
  OpR X f (rI0 fun i j=> .int (g i j)):=by
 intro pins s σ H x y v u Q I rx ry h
 obtain⟨i,j,rfl,rfl,q⟩:=h
 obtain⟨t,rfl⟩:=rx
 obtain⟨t',rfl⟩:=ry
 exact rule i j t t' s _ _ ⟨.int (g i j),H,I.tok _,⟨_,rfl⟩,q⟩
theorem opB0 {f:Value->Value->Sem Value} {g:Int->Int->Bool}
  (rule:∀(i j:Int) (t u:Tok) (s:Shared) (Q:Value->Shared->Prop) (E:Value->Shared->Prop),Q (.bool (g i j)) s->wpAny (model X.prog X.w) X.A (f (.int i t) (.int j u)) Q E s):
  OpR X f (rI0 fun i j=> .bl (g i j)):=by
 intro pins s σ H x y v u Q I rx ry h
 obtain⟨i,j,rfl,rfl,q⟩:=h
 obtain⟨t,rfl⟩:=rx
 obtain⟨t',rfl⟩:=ry
 exact rule i j t t' s _ _ ⟨.bl (g i j),H,I,rfl,q⟩
def CPow (i j:Int):Prop:=0<=j/\j<=1000000/\i.natAbs < 2^64
theorem qbi:OpR X (binaryOp .Add) (rI0 fun i j=> .int (i+j)):=opI0 fun _ _ _ _ _ _ _ q=>add_int q
theorem op_sub:OpR X (binaryOp .Sub) (rI0 fun i j=> .int (i - j)):=opI0 fun _ _ _ _ _ _ _ q=>sub_int q
theorem qbm:OpR X (binaryOp .Mod) (rI (fun _ j=>0 < j) fun i j=> .int (i%j)):=opI fun i j _ _ _ _ _ hc q=>by
 have h1:(0:Int) < j:=hc
 exact mod_int' (by omega) (by rw [Int.fmod_eq_emod_of_nonneg i (by omega)];exact q)
theorem op_pow:OpR X (binaryOp .Pow) (rI CPow fun i j=> .int (i^j.toNat)):=opI fun _ _ _ _ _ _ _ hc q=>pow_int_small hc.1 hc.2.1 hc.2.2 q
theorem unI {f:Value->Sem Value} {g:Int->Int}
  (rule:∀(i:Int) (t:Tok) (s:Shared) (Q:Value->Shared->Prop) (E:Value->Shared->Prop),Q (.int (g i) s.toks) {s with toks:=s.toks+1}->wpAny (model X.prog X.w) X.A (f (.int i t)) Q E s):
  UnR X f (rU fun i=> .int (g i)):=by
 intro pins s σ H x v Q I rx h
 obtain⟨i,rfl,q⟩:=h
 obtain⟨t,rfl⟩:=rx
 exact rule i t s _ _ ⟨.int (g i),H,I.tok _,⟨_,rfl⟩,q⟩
theorem un_neg:UnR X (unaryOp .USub) (rU fun i=> .int (-i)):=unI fun _ _ _ _ _ q=>neg_int q
end
def scal:V->V->Bool
 | .non,.non=>true| .non,.int _=>true| .int _,.non=>true| .non,.bl _=>true| .bl _,.non=>true| .non,.str _=>true| .str _,.non=>true
 | .int _,.int _=>true| .bl _,.bl _=>true| .str _,.str _=>true| .byt _,.byt _=>true
 | .int _,.str _=>true| .str _,.int _=>true| .bl _,.str _=>true| .str _,.bl _=>true
 |_,_=>false
def rEq:R2:=fun x y H Q=>scal x y=true/\Q (.bl (decide (x=y))) H
def rNe:R2:=fun x y H Q=>scal x y=true/\Q (.bl (!decide (x=y))) H
theorem dec_int {i j:Int}:decide (V.int i=V.int j)=(i==j):=by
 rw [Bool.eq_iff_iff]
 simp
theorem dec_bl {i j:Bool}:decide (V.bl i=V.bl j)=(i==j):=by
 rw [Bool.eq_iff_iff]
 simp
theorem dec_str {i j:Str}:decide (V.str i=V.str j)=(i==j):=by
 rw [Bool.eq_iff_iff]
 simp
theorem dec_byt {i j:Array UInt8}:decide (V.byt i=V.byt j)=(i.toList==j.toList):=by
 rw [Bool.eq_iff_iff]
 cases i
 cases j
 simp
section
variable {X: Cx} {a b c: Expr} {ta tb tc: TE} {pos: Pos}
theorem qaz {pins:List (Addr × Obj)} {σ:St} {H:Hp} {s:Shared} {Q:VK} {k k':Bool} (I:Inv X pins σ H s) (q:Q (.bl k) H) (e:k=k'):EP X pins σ Q (.bool k') s:=by
 subst e
 exact⟨.bl k,H,I,rfl,q⟩
theorem qen:OpR X (compareOp .Eq) rEq:=by
 intro pins s σ H x y v u Q I rx ry h
 obtain⟨hs,q⟩:=h
 cases x with
 |non=>
  cases rx
  cases y with
  |non=>cases ry;exact PySem.EqNone.eq_none_none (qaz I q (by simp))
  |bl j=>cases ry;exact PySem.EqNone.eq_none_bool (qaz I q (by simp))
  |int j=>obtain⟨t',rfl⟩:=ry;exact PySem.EqNone.eq_none_int (qaz I q (by simp))
  |str j=>obtain⟨t',rfl⟩:=ry;exact PySem.EqNone.eq_none_str (qaz I q (by simp))
  |_=>exact absurd (show false=true from hs) Bool.false_ne_true
 |bl i=>
  cases rx
  cases y with
  |non=>cases ry;exact PySem.EqNone.eq_bool_none (qaz I q (by simp))
  |bl j=>cases ry;exact eq_bool (qaz I q dec_bl)
  |str j=>obtain⟨t',rfl⟩:=ry;exact PySem.EqMixed.eq_bool_str (qaz I q (by simp))
  |_=>exact absurd (show false=true from hs) Bool.false_ne_true
 |int i=>
  obtain⟨t,rfl⟩:=rx
  cases y with
  |non=>cases ry;exact PySem.EqNone.eq_int_none (qaz I q (by simp))
  |int j=>obtain⟨t',rfl⟩:=ry;exact eq_int (qaz I q dec_int)
  |str j=>obtain⟨t',rfl⟩:=ry;exact PySem.EqMixed.eq_int_str (qaz I q (by simp))
  |_=>exact absurd (show false=true from hs) Bool.false_ne_true
 |str i=>
  obtain⟨t,rfl⟩:=rx
  cases y with
  |non=>cases ry;exact PySem.EqNone.eq_str_none (qaz I q (by simp))
  |bl j=>cases ry;exact PySem.EqMixed.eq_str_bool (qaz I q (by simp))
  |int j=>obtain⟨t',rfl⟩:=ry;exact PySem.EqMixed.eq_str_int (qaz I q (by simp))
  |str j=>obtain⟨t',rfl⟩:=ry;exact eq_str (qaz I q dec_str)
  |_=>exact absurd (show false=true from hs) Bool.false_ne_true
 |byt i=>
  obtain⟨t,rfl⟩:=rx
  cases y with
  |byt j=>obtain⟨t',rfl⟩:=ry;exact PySem.W.eq_bytes (qaz I q dec_byt)
  |_=>exact absurd (show false=true from hs) Bool.false_ne_true
 |_=>cases y <;> exact absurd (show false=true from hs) Bool.false_ne_true
theorem op_ne:OpR X (compareOp .NotEq) rNe:=by
 intro pins s σ H x y v u Q I rx ry h
 obtain⟨hs,q⟩:=h
 cases x with
 |non=>
  cases rx
  cases y with
  |non=>cases ry;exact PySem.EqNone.ne_none_none (qaz I q (by simp))
  |bl j=>cases ry;exact PySem.EqNone.ne_none_bool (qaz I q (by simp))
  |int j=>obtain⟨t',rfl⟩:=ry;exact PySem.EqNone.ne_none_int (qaz I q (by simp))
  |str j=>obtain⟨t',rfl⟩:=ry;exact PySem.EqNone.ne_none_str (qaz I q (by simp))
  |_=>exact absurd (show false=true from hs) Bool.false_ne_true
 |bl i=>
  cases rx
  cases y with
  |non=>cases ry;exact PySem.EqNone.ne_bool_none (qaz I q (by simp))
  |bl j=>cases ry;exact ne_bool (qaz I q (congrArg not dec_bl))
  |str j=>obtain⟨t',rfl⟩:=ry;exact PySem.EqMixed.ne_bool_str (qaz I q (by simp))
  |_=>exact absurd (show false=true from hs) Bool.false_ne_true
 |int i=>
  obtain⟨t,rfl⟩:=rx
  cases y with
  |non=>cases ry;exact PySem.EqNone.ne_int_none (qaz I q (by simp))
  |int j=>obtain⟨t',rfl⟩:=ry;exact ne_int (qaz I q (congrArg not dec_int))
  |str j=>obtain⟨t',rfl⟩:=ry;exact PySem.EqMixed.ne_int_str (qaz I q (by simp))
  |_=>exact absurd (show false=true from hs) Bool.false_ne_true
 |str i=>
  obtain⟨t,rfl⟩:=rx
  cases y with
  |non=>cases ry;exact PySem.EqNone.ne_str_none (qaz I q (by simp))
  |bl j=>cases ry;exact PySem.EqMixed.ne_str_bool (qaz I q (by simp))
  |int j=>obtain⟨t',rfl⟩:=ry;exact PySem.EqMixed.ne_str_int (qaz I q (by simp))
  |str j=>obtain⟨t',rfl⟩:=ry;exact ne_str (qaz I q (congrArg not dec_str))
  |_=>exact absurd (show false=true from hs) Bool.false_ne_true
 |byt i=>
  obtain⟨t,rfl⟩:=rx
  cases y with
  |byt j=>obtain⟨t',rfl⟩:=ry;exact PySem.W.ne_bytes (qaz I q (congrArg not dec_byt))
  |_=>exact absurd (show false=true from hs) Bool.false_ne_true
 |_=>cases y <;> exact absurd (show false=true from hs) Bool.false_ne_true
theorem op_lt:OpR X (compareOp .Lt) (rI0 fun i j=> .bl (decide (i < j))):=opB0 fun _ _ _ _ _ _ _ q=>lt_int q
theorem op_le:OpR X (compareOp .LtE) (rI0 fun i j=> .bl (decide (i<=j))):=opB0 fun _ _ _ _ _ _ _ q=>le_int q
theorem qey:OpR X (compareOp .Gt) (rI0 fun i j=> .bl (decide (j < i))):=opB0 fun _ _ _ _ _ _ _ q=>gt_int q
theorem op_ge:OpR X (compareOp .GtE) (rI0 fun i j=> .bl (decide (j<=i))):=opB0 fun _ _ _ _ _ _ _ q=>ge_int q
theorem op_in_str:OpR X (compareOp .In) (fun x y H Q=>∃i j,x=.str i/\y=.str j/\Q (.bl (!(Builtin.Str.occurrences j i 0 j.length 1).isEmpty)) H):=by
 intro pins s σ H x y v u Q I rx ry h
 obtain⟨i,j,rfl,rfl,q⟩:=h
 obtain⟨t,rfl⟩:=rx
 obtain⟨t',rfl⟩:=ry
 exact in_str (qaz I q rfl)
theorem op_notN:OpR X (compareOp .IsNot) (fun x y H Q=>y=.non/\Q (.bl (!decide (x=.non))) H):=by
 intro pins s σ H x y v u Q I rx ry h
 obtain⟨rfl,q⟩:=h
 cases ry
 refine isnot_none_gen (qaz I q ?_)
 cases x <;> first
  |(cases rx;rfl)
  |(obtain⟨t,rfl⟩:=rx;rfl)
theorem qar (b:Expr) {op:CmpOp} (h:op≠ .In:=by decide) (h2:op≠ .NotIn:=by decide):behindInMarks op b=false:=by
 have e1:(op==CmpOp.In)=false:=by cases op <;> first|rfl|exact absurd rfl h
 have e2:(op==CmpOp.NotIn)=false:=by cases op <;> first|rfl|exact absurd rfl h2
 cases b <;> simp [behindInMarks,e1,e2]
theorem qdm {op:CmpOp} {r:R2} (ho:OpR X (compareOp op) r) (ha:PE X a ta) (hb:PE X b tb) (hm:behindInMarks op b=false):PE X (.Compare a [op] [b] pos) (tOp r ta tb):=by
 intro pins s σ H Q I h
 exact wpAny_Compare1 (binT ha hb I h fun v u s2 x y H2 I2 rx ry q=>ho pins s2 σ H2 x y v u Q I2 rx ry q) hm
def tTest (t:TE):TT:=fun σ H Q=>t σ H fun x H'=>∃k,x=.bl k/\Q k H'
theorem qaj {op:CmpOp} {r:R2} (ho:OpR X (compareOp op) r) (ha:PE X a ta) (hb:PE X b tb) (hm:behindInMarks op b=false):PT X (.Compare a [op] [b] pos) (tTest (tOp r ta tb)):=by
 intro pins s σ H Q I h
 refine wpAny_isTrue_Compare1 (thn (ha pins s σ H _ I h) fun v s1 ⟨x,H1,I1,r1,q1⟩=>thn (hb pins s1 σ H1 _ I1 q1) fun u s2 ⟨y,H2,I2,r2,q2⟩=>
  thn (ho pins s2 σ H2 x y v u _ I2 r1 r2 q2) fun c s3 ⟨z,H3,I3,r3,k,e,q3⟩=>?_) hm
 subst e
 cases r3
 exact wpAny_truthy_bool ⟨H3,I3,q3⟩
def tChain (r r':R2) (ta tb tc:TE):TE:=fun σ H Q=>ta σ H fun x H1=>tb σ H1 fun y H2=>r x y H2 fun z H3=>∃k,z=.bl k/\
 (if k=true then tc σ H3 fun w' H4=>r' y w' H4 Q else Q (.bl false) H3)
theorem pe_chain {op op':CmpOp} {r r':R2} (ho:OpR X (compareOp op) r) (ho':OpR X (compareOp op') r') (ha:PE X a ta) (hb:PE X b tb) (hc:PE X c tc)
  (hm:lastMarks [op,op'] [b,c]=false:=by with_unfolding_all rfl):PE X (.Compare a [op,op'] [b,c] pos) (tChain r r' ta tb tc):=by
 intro pins s σ H Q I h
 refine Compare_chain (thn (ha pins s σ H _ I h) fun v s1 ⟨x,H1,I1,r1,q1⟩=>chain_link (thn (hb pins s1 σ H1 _ I1 q1) fun u s2 ⟨y,H2,I2,r2,q2⟩=>
  thn (ho pins s2 σ H2 x y v u _ I2 r1 r2 q2) fun d s3 ⟨z,H3,I3,r3,k,e,q3⟩=>?_)) hm
 subst e
 cases r3
 refine wpAny_truthy_bool ?_
 cases k with
 |false=>exact ite_ff ⟨.bl false,H3,I3,rfl,q3⟩
 |true=>exact ite_tt (chain_last (thn (hc pins s3 σ H3 _ I3 q3) fun w' s4 ⟨z',H4,I4,r4,q4⟩=>ho' pins s4 σ H4 y z' u w' Q I4 r2 r4 q4))
theorem line63:(sizeLine:Nat) < 2^63:=by rw [sizeLine_eq];decide
theorem op_add_str:OpR X (binaryOp .Add) (fun x y H Q=>∃i j,x=.str i/\y=.str j/\i.length+j.length<=sizeLine/\Q (.str (i++j)) H):=by
 intro pins s σ H x y v u Q I rx ry h
 obtain⟨i,j,rfl,rfl,hz,q⟩:=h
 obtain⟨t,rfl⟩:=rx
 obtain⟨t',rfl⟩:=ry
 exact add_str (fun t' tk=>⟨.str (i++j),H,I.tok _,⟨_,rfl⟩,q⟩) hz
theorem vals1 {x:V} {us:List Value} (r:qb5 [x] us):∃u,us=[u]/\qb7 x u:=by
 cases r with
 |cons r1 r2=>cases r2;exact⟨_,rfl,r1⟩
theorem vals2 {x y:V} {us:List Value} (r:qb5 [x,y] us):∃u w',us=[u,w']/\qb7 x u/\qb7 y w':=by
 cases r with
 |cons r1 r2=>
  cases r2 with
  |cons r3 r4=>cases r4;exact⟨_,_,rfl,r1,r3⟩
theorem call_max2 (hc:X.calm=true):qc3 X (.builtin "max") (fun xs H Q=>∃i j,xs=[.int i,.int j]/\Q (.int (if j > i then j else i)) H):=by
 intro pins s σ H xs us Q I r h
 obtain⟨i,j,rfl,q⟩:=h
 obtain⟨u,w',rfl,⟨t,rfl⟩,⟨t',rfl⟩⟩:=vals2 r
 refine max_two_ints (I.ok.hd hc) fun h' tk k=>⟨_,H,I.kept k,?_,q⟩
 by_cases hj:j > i
 .rw [if_pos hj,if_pos hj];exact⟨_,rfl⟩
 .rw [if_neg hj,if_neg hj];exact⟨_,rfl⟩
theorem call_min2 (hc:X.calm=true):qc3 X (.builtin "min") (fun xs H Q=>∃i j,xs=[.int i,.int j]/\Q (.int (if j < i then j else i)) H):=by
 intro pins s σ H xs us Q I r h
 obtain⟨i,j,rfl,q⟩:=h
 obtain⟨u,w',rfl,⟨t,rfl⟩,⟨t',rfl⟩⟩:=vals2 r
 refine min_two_ints (I.ok.hd hc) fun h' tk k=>⟨_,H,I.kept k,?_,q⟩
 by_cases hj:j < i
 .rw [if_pos hj,if_pos hj];exact⟨_,rfl⟩
 .rw [if_neg hj,if_neg hj];exact⟨_,rfl⟩
end
end L2
namespace L2
open PySem PySem.Spec PyProof.Rows
structure ObjM (h:Heap) (x dx C:Addr) (mA:Str->Option Value):Prop where
 obj:h.get? x=some (instObj C dx)
 ns:h.Ns1 dx mA
 ne:dx≠x
theorem lookIn_ns {h:Heap} {dx:Addr} {mA:Str->Option Value} (n:h.Ns1 dx mA):∃od,h.get? dx=some od/\∀name,lookIn name od=some (mA name):=by
 obtain⟨o,es,ep,ho,hd,hk,_,hm⟩:=n
 refine⟨o,ho,fun name=>?_⟩
 have e:=hm name
 unfold nsFind findBy at e
 rw [<-Array.find?_toList] at e
 unfold lookIn
 rw [hd]
 dsimp only
 split
 .rename_i y q
  rw [q] at e
  exact congrArg some e
 .rename_i q
  rw [q] at e
  have a:es.toList.any (·.refKey)=false:=by
   rw [List.any_eq_false]
   intro y hy
   obtain⟨z,t,hkey⟩:=hk y (Array.mem_toList_iff.mp hy)
   simp [DictEntry.refKey,hkey]
  have a':¬es.toList.any (·.refKey)=true:=by rw [a];exact Bool.false_ne_true
  rw [if_neg a']
  exact congrArg some e
theorem ObjM.look {h:Heap} {x dx C:Addr} {mA:Str->Option Value} (I:ObjM h x dx C mA):∃od,PySem.W.InstAt h x (instObj C dx) C (some od)/\∀name,lookIn name od=some (mA name):=
 let ⟨od,ho,hl⟩:=lookIn_ns I.ns
 ⟨od,⟨I.obj,rfl,rfl,ho⟩,hl⟩
section
variable {prog: Program} {w: World} {A: Around} {E: Value -> Shared -> Prop} {s: Shared} {K: Frag} {x dx C f: Addr} {mA: Str -> Option Value} {name: Str} {v: Value}
theorem get_map {expr:Bool} {Q:Value->Shared->Prop} (X:K.In s.heap) (I:ObjM s.heap x dx C mA) (hg:plainGet K C name=true) (hh:hasDictIn K C=true)
  (ha:PySem.W.findIn K (.ref C) name=some none) (hv:mA name=some v) (hv':PySem.W.handedIn v=true) (h:Q v {s with toks:=s.toks+1}):
  wpAny (model prog w) A (getAttr (.ref x) name expr) Q E s:=by
 obtain⟨od,J,hl⟩:=I.look
 exact PySem.W.get_value X J (PySem.W.plainGet_of hg).1 (PySem.W.findObj_own hh ha rfl (by rw [hl,hv])) hv' h
theorem get_meth {pl:Sem Bool} {Q:Value × List Value->Shared->Prop} (X:K.In s.heap) (I:ObjM s.heap x dx C mA) (hg:plainGet K C name=true)
  (hf:PySem.W.findIn K (.ref C) name=some (some (.ref f))) (ht:isFn K (.ref f)=true) (hv:mA name=none) (h:Q (.ref f, [.ref x]) s):
  wpAny (model prog w) A (getMethod (.ref x) name pl) Q E s:=by
 obtain⟨od,J,hl⟩:=I.look
 exact PySem.W.method_fn X J (PySem.W.plainGet_of hg).1 (PySem.W.plainGet_of hg).2 hf (beq_iff_eq.mp ht) (by show (lookIn name od).map (·.isSome)=some false;rw [hl,hv];rfl) h
theorem set_map {ns:List Str} {Q:Unit->Shared->Prop} (X:K.In s.heap) (I:ObjM s.heap x dx C mA)
  (hs:PySem.W.findIn K (.ref C) "__setattr__" =some (some (.builtin "object.__setattr__"))) (hp:PySem.W.plainOver K C=true) (ht:PySem.W.takerIn K C name=some none) (hh:hasDictIn K C=true)
  (hw:PySem.Within mA ns) (hsz:ns.length<=sizeLine)
  (h:∀h',ObjM h' x dx C (fun y=>if y=name then some v else mA y)->Heap.SameBut dx s.heap h'->Q () {s with heap:=h',toks:=s.toks+2}):
  wpAny (model prog w) A (setAttr (.ref x) name v) Q E s:=by
 obtain⟨od,J,hl⟩:=I.look
 refine PySem.W.set_plain X J hs (PySem.W.osa_open (s:={s with toks:=s.toks+1}) (r:=none) X J hp ht fun b=>?_)
 obtain⟨cd,hc,hd'⟩:=PySem.W.any_some hh
 have hx:s.heap.get? x=some ⟨.ref C,some dx,.plain,#[]⟩:=I.obj
 refine wpAny_bind (wpAny_pure (wpAny_bind (wpAny_bind (wpAny_loadPart hx (wpAny_bind (PySem.W.Looks.here (s:={s with toks:=s.toks+1}) (PySem.W.looks_clsIn X hc) ?_))))))
 rw [hd']
 refine wpAny_pure (a:=some dx) (wpAny_bind (wpAny_pure (wpAny_bind ?_)))
 refine wpAny_nsSet1 (s:={s with toks:=s.toks+1}) I.ns fun h' hn2 hs2=>?_
 obtain⟨oD,esD,epD,hoD,hdD,hcD⟩:=hn2.count (PySem.Within.cons name v hw)
 refine wpAny_bind (wpAny_lookBehind hoD (by rw [hdD];exact pastItsLine_dict (Nat.le_trans hcD (by rw [length_cons];omega))) ?_)
 exact wpAny_pure (h _ ⟨(hs2.2 _ (Ne.symm I.ne)).trans I.obj,hn2,I.ne⟩ hs2)
theorem make_map {R:Result->Shared->Prop} {vs:List Value} {kw:List (Str × Value)} (X:K.In s.heap) (hm:PySem.W.makesIn K C=true)
  (hi:PySem.W.findIn K (.ref C) "__init__" =some (some (.ref f))) (hf:PySem.W.typeIn K (.ref f)=some (.type "function"))
  (h:codeAny (model prog w) (A.under (.builtin "type.__call__" ⟨.ref C :: vs,kw⟩)) (.call (.ref f) ⟨.ref (s.heap.objs.size+1) :: vs,kw⟩) (PySem.W.InitBack (s.heap.objs.size+1) R)
   {s with heap:=(s.heap.push emptyDict).push (instObj C s.heap.objs.size)}):
  codeAny (model prog w) A (.call (.ref C) ⟨vs,kw⟩) R s:=by
 obtain⟨hh,g,d,t,os⟩:=s
 exact PySem.W.make_core (PySem.W.makes_of X hm) (PySem.W.looks_findIn X hi) (fun self=>PySem.W.bind_fn X self hf) (.inl rfl) h
end
def qdp (f:Str) (v:V):List (Str × V)->List (Str × V)
 | []=> [(f,v)]
 |(g,x) :: r=>if g=f then (g,v) :: r else (g,x) :: qdp f v r
theorem qcy (f g:Str) (v:V):∀fs:List (Str × V),(qdp f v fs).lookup g=if g=f then some v else fs.lookup g
 | []=>by
  show List.lookup g [(f,v)]=_
  by_cases h:g=f
  .have hb:(g==f)=true:=beq_iff_eq.mpr h
   simp only [List.lookup,hb,if_pos h]
  .have hb:(g==f)=false:=beq_eq_false_iff_ne.mpr h
   simp only [List.lookup,hb,if_neg h]
 |(k,x) :: r=>by
  have ih:=qcy f g v r
  rw [show qdp f v ((k,x) :: r)=(if k=f then (k,v) :: r else (k,x) :: qdp f v r) from rfl]
  by_cases hk:k=f
  .rw [if_pos hk]
   by_cases h:g=k
   .have hb:(g==k)=true:=beq_iff_eq.mpr h
    simp only [List.lookup,hb,if_pos (h.trans hk)]
   .have hb:(g==k)=false:=beq_eq_false_iff_ne.mpr h
    simp only [List.lookup,hb,if_neg (fun e:g=f=>h (e.trans hk.symm))]
  .rw [if_neg hk]
   by_cases h:g=k
   .have hb:(g==k)=true:=beq_iff_eq.mpr h
    simp only [List.lookup,hb,if_neg (fun e:g=f=>hk (h.symm.trans e))]
   .have hb:(g==k)=false:=beq_eq_false_iff_ne.mpr h
    simp only [List.lookup,hb]
    exact ih
theorem qd9 (f:Str) (v:V):∀fs:List (Str × V),f∈(qdp f v fs).map (·.1)/\∀g,g∈fs.map (·.1)->g∈(qdp f v fs).map (·.1)
 | []=>⟨by simp [qdp],fun g h=>by simp at h⟩
 |(k,x) :: r=>by
  obtain⟨i1,i2⟩:=qd9 f v r
  rw [show qdp f v ((k,x) :: r)=(if k=f then (k,v) :: r else (k,x) :: qdp f v r) from rfl]
  by_cases hk:k=f
  .rw [if_pos hk]
   subst hk
   exact⟨by simp,fun g h=>by simpa using h⟩
  .rw [if_neg hk]
   refine⟨?_,fun g h=>?_⟩
   .rw [map_cons]
    exact mem_cons_of_mem _ i1
   .rw [map_cons] at h ⊢
    rcases mem_cons.mp h with e|e
    .exact mem_cons.mpr (.inl e)
    .exact mem_cons_of_mem _ (i2 g e)
theorem qdn (f:Str) (v:V):∀fs:List (Str × V),(qdp f v fs).length<=fs.length+1
 | []=>by simp [qdp]
 |(k,x) :: r=>by
  have ih:=qdn f v r
  rw [show qdp f v ((k,x) :: r)=(if k=f then (k,v) :: r else (k,x) :: qdp f v r) from rfl]
  by_cases hk:k=f
  .rw [if_pos hk,length_cons,length_cons];omega
  .rw [if_neg hk,length_cons,length_cons];omega
theorem qeb.some_of {v:V} {o:Option Value} (r:qeb (some v) o):∃u,o=some u/\qb7 v u:=by
 cases o with
 |none=>exact(show False from r).elim
 |some u=>exact⟨u,rfl,r⟩
theorem qeb.none_of {o:Option Value} (r:qeb none o):o=none:=by
 cases o with
 |none=>rfl
 |some u=>exact(show False from r).elim
theorem handed_of {v:V} {u:Value} (r:qb7 v u):PySem.W.handedIn u=true:=by
 cases v with
 |non=>cases (show u=Value.none from r);rfl
 |bl b=>cases (show u=Value.bool b from r);rfl
 |int i=>obtain⟨t,e⟩:=(show ∃t,u=Value.int i t from r);cases e;rfl
 |str x=>obtain⟨t,e⟩:=(show ∃t,u=Value.str x t from r);cases e;rfl
 |byt b=>obtain⟨t,e⟩:=(show ∃t,u=Value.bytes b t from r);cases e;rfl
 |flt b=>obtain⟨t,e⟩:=(show ∃t,u=Value.float b t from r);cases e;rfl
 |ref a=>cases (show u=Value.ref a from r);rfl
 |ty n=>cases (show u=Value.type n from r);rfl
section
variable {P: Program} {w: World} {H: Hp} {h: Heap} {a C dx: Addr} {fs: List (Str × V)}
theorem qg3 (hok:HOk P w H h) (e:H a=some (.ins C dx fs)):∃mA,ObjM h a dx C mA/\(∀f,qeb (fs.lookup f) (mA f))/\PySem.Within mA (fs.map (·.1))/\fs.length<=1000/\H dx=some (.own a):=by
 obtain⟨d,z,ne,ob,mA,n,r,q⟩:=(show qbf P w H h a (.ins C dx fs) from hok a _ e)
 exact⟨mA,⟨ob,n,ne⟩,r,q,z,d⟩
end
structure Cls (K:Frag) (C:Addr):Prop where
 pg:plainGet K C Str.empty=true
 hd:hasDictIn K C=true
 po:PySem.W.plainOver K C=true
 sa:PySem.W.findIn K (.ref C) "__setattr__" =some (some (.builtin "object.__setattr__"))
theorem Cls.get {K:Frag} {C:Addr} (c:Cls K C) (f:Str):plainGet K C f=true:=c.pg
def qap (K:Frag) (C:Addr) (f:Str):Prop:=PySem.W.findIn K (.ref C) f=some none
theorem qap.taker {K:Frag} {C:Addr} {f:Str} (n:qap K C f):PySem.W.takerIn K C f=some none:=by
 unfold PySem.W.takerIn
 rw [show PySem.W.findIn K (.ref C) f=some none from n]
 rfl
structure Con (K:Frag) (C:Addr) (f:Str) (v:V) (u:Value):Prop where
 at_:PySem.W.findIn K (.ref C) f=some (some u)
 rel:qb7 v u
 get:specialIn K u "__get__" =some none
 cp:PySem.W.copiedNames.contains f=false
structure Meth (K:Frag) (C:Addr) (m:Str) (f:Addr):Prop where
 at_:PySem.W.findIn K (.ref C) m=some (some (.ref f))
 fn:isFn K (.ref f)=true
 kp:keepIn K (.ref f)=true
section
variable {X: Cx} {pins: List (Addr × Obj)} {σ: St} {H: Hp} {s: Shared} {a C dx: Addr} {fs: List (Str × V)} {f: Str} {v: V} {A: Around} {E: Value -> Shared -> Prop}
theorem getattr_ok {b:Bool} {Q:Value->Shared->Prop} (I:Inv X pins σ H s) (e:H a=some (.ins C dx fs)) (c:Cls X.K C) (n:qap X.K C f) (l:fs.lookup f=some v)
  (h:∀u s',Inv X pins σ H s'->qb7 v u->Q u s'):wpAny (model X.prog X.w) A (getAttr (.ref a) f b) Q E s:=by
 obtain⟨mA,O,r,_,_,_⟩:=qg3 I.hok e
 obtain⟨u,hu,ru⟩:=qeb.some_of (v:=v) (o:=mA f) (by rw [<-l];exact r f)
 exact get_map I.kIn O (c.get f) c.hd n hu (handed_of ru) (h u _ (I.tok _) ru)
theorem qco {m:Str} {g:Addr} {pl:Sem Bool} {Q:Value × List Value->Shared->Prop} (I:Inv X pins σ H s) (e:H a=some (.ins C dx fs)) (c:Cls X.K C) (k:Meth X.K C m g) (l:fs.lookup m=none)
  (h:Q (.ref g, [.ref a]) s):wpAny (model X.prog X.w) A (getMethod (.ref a) m pl) Q E s:=by
 obtain⟨mA,O,r,_,_,_⟩:=qg3 I.hok e
 have hn:mA m=none:=qeb.none_of (by rw [<-l];exact r m)
 exact get_meth I.kIn O (c.get m) k.at_ k.fn hn h
theorem setattr_ok {y:V} {u:Value} {Q:Unit->Shared->Prop} (I:Inv X pins σ H s) (e:H a=some (.ins C dx fs)) (c:Cls X.K C) (n:qap X.K C f) (hl:fs.length < 1000) (ry:qb7 y u)
  (h:∀s',Inv X pins σ (upd H a (.ins C dx (qdp f y fs))) s'->Q () s'):wpAny (model X.prog X.w) A (setAttr (.ref a) f u) Q E s:=by
 obtain⟨mA,O,r,wi,_,ho⟩:=qg3 I.hok e
 have hz:(fs.map (·.1)).length<=sizeLine:=by rw [length_map,sizeLine_eq];omega
 refine set_map I.kIn O c.sa c.po n.taker c.hd wi hz fun h' O' sb=>h _ ?_
 have hd:∃o,h'.get? dx=some o:=let ⟨o,_,_,e',_⟩:=O'.ns;⟨o,e'⟩
 refine I.write (x:=a) (e:=dx) (by rw [e];exact True.intro) (.inr ho) (fun b q hb z=>(sb.2 b hb).trans z) hd ?_
 refine⟨by rw [qa6 O.ne];exact ho,?_,O.ne,O'.obj,_,O'.ns,fun g=>?_,fun g hg=>?_⟩
 .have:=qdn f y fs;omega
 .show qeb ((qdp f y fs).lookup g) (if g=f then some u else mA g)
  rw [qcy]
  by_cases q:g=f
  .rw [if_pos q,if_pos q];exact ry
  .rw [if_neg q,if_neg q];exact r g
 .by_cases q:g=f
  .rw [q];exact(qd9 f y fs).1
  .refine(qd9 f y fs).2 g (wi g fun z=>hg ?_)
   show (if g=f then some u else mA g)=none
   rw [if_neg q];exact z
theorem Inv.made (I:Inv X pins σ H s):Inv X pins σ (upd (upd H s.heap.objs.size (.own (s.heap.objs.size+1))) (s.heap.objs.size+1) (.ins C s.heap.objs.size []))
  {s with heap:=(s.heap.push emptyDict).push (instObj C s.heap.objs.size)}:=by
 have e1:(s.heap.push emptyDict).get? s.heap.objs.size=some emptyDict:=Heap.get?_push_size s.heap rfl
 have e2:((s.heap.push emptyDict).push (instObj C s.heap.objs.size)).get? (s.heap.objs.size+1)=some (instObj C s.heap.objs.size):=by
  have:=Heap.get?_push_size (s.heap.push emptyDict) (o:=instObj C s.heap.objs.size) rfl
  rwa [Heap.size_push] at this
 have e3:(s.heap.push emptyDict).Ns s.heap.objs.size (fun _=>none):=⟨emptyDict,#[],_,e1,rfl,(fun e he=>absurd he (by simp)),fun _=>rfl⟩
 have I1:=I.laid (a:=s.heap.objs.size) (o:=.own (s.heap.objs.size+1)) (h':=s.heap.push emptyDict) (t':=s.toks) (fun b u q=>Heap.get?_push_of_some _ q) (Nat.le_refl _) ⟨_,e1⟩
 refine I1.laid (a:=s.heap.objs.size+1) (o:=.ins C s.heap.objs.size []) (t':=s.toks) (fun b u q=>Heap.get?_push_of_some _ q) (Nat.le_of_eq (Heap.size_push _ _)) ?_
 have ne:s.heap.objs.size≠s.heap.objs.size+1:=Nat.ne_of_lt (Nat.lt_succ_self _)
 refine⟨by rw [qa6 ne,qa1],Nat.zero_le _,ne,e2,fun _=>none,(Heap.Ns1.of_empty e3).at fun o q=>Heap.get?_push_of_some _ q,fun _=>True.intro,fun y hy=>absurd rfl hy⟩
theorem attr_of {prog:Program} {w:World} {env:Env} {e:Expr} {f:Str} {pos:Pos} {s:Shared} {Q:Value->Shared->Prop} (hb:attributeBase e f env (eval e env)=eval e env)
  (h:wpAny (model prog w) A (eval e env) (fun o s₁=>wpAny (model prog w) A (getAttr o f true) Q E s₁) E s):wpAny (model prog w) A (eval (.Attribute e f pos) env) Q E s:=
 Attribute_any_ h (by rw [arm_eval_Attribute,hb])
end
def tFld (K:Frag) (ta:TE) (f:Str):TE:=fun σ H Q=>ta σ H fun x H1=>∃a C dx fs v,x=.ref a/\H1 a=some (.ins C dx fs)/\Cls K C/\qap K C f/\fs.lookup f=some v/\Q v H1
def sFld (K:Frag) (ta tv:TE) (f:Str):TS:=fun D σ H=>tv σ H fun y H1=>ta σ H1 fun x H2=>∃a C dx fs,x=.ref a/\H2 a=some (.ins C dx fs)/\Cls K C/\qap K C f/\fs.length < 1000/\
 D.nx σ (upd H2 a (.ins C dx (qdp f y fs)))
section
variable {X: Cx} {o e value: Expr} {f: Str} {pos pos': Pos} {ta tv: TE}
theorem qbj (he:PE X e ta) (hb:attributeBase e f X.env (eval e X.env)=eval e X.env):PE X (.Attribute e f pos) (tFld X.K ta f):=by
 intro pins s σ H Q I h
 refine attr_of hb (thn (he pins s σ H _ I h) fun u s1 ⟨x,H1,I1,rx,a,C,dx,fs,v,ex,ea,c,n,l,q⟩=>?_)
 subst ex
 obtain rfl:u=Value.ref a:=rx
 exact getattr_ok I1 ea c n l fun u' s2 I2 ru=>⟨v,H1,I2,ru,q⟩
theorem qei (ha:PE X o ta) (hv:PE X value tv) (hs:swapsWith value (some (.Attribute o f pos')) pos.line X.env=pure false):PS X (.Assign [.Attribute o f pos'] value pos) (sFld X.K ta tv f):=by
 intro pins s σ H D I h
 refine plainObj_wpAny_Assign_Attribute (thn (hv pins s σ H _ I h) fun u s1 ⟨y,H1,I1,ry,q⟩=>thn (ha pins s1 σ H1 _ I1 q) fun ov s2 ⟨x,H2,I2,rx,a,C,dx,fs,ex,ea,c,n,l,q2⟩=>?_) hs
 subst ex
 obtain rfl:ov=Value.ref a:=rx
 exact setattr_ok I2 ea c n l ry fun s3 I3=>⟨σ,_,I3,q2⟩
theorem methcall_of {pl:Sem Bool} {m:Str} {apos:Pos} {args:List Expr} {pins:List (Addr × Obj)} {s:Shared} {σ:St} {H:Hp} {Q:Value->Shared->Prop} {te:TE} (he:PE X e te) (I:Inv X pins σ H s)
  (h:te σ H fun x H1=>∃a C dx fs g,x=.ref a/\H1 a=some (.ins C dx fs)/\Cls X.K C/\Meth X.K C m g/\fs.lookup m=none/\
   ∀s1,Inv X pins σ H1 s1->wpAny (model X.prog X.w) X.A (callWith pos (.ref g) [.ref a] (backTo pos (starEach args X.env)) (backToKw pos (keywordEach [] X.env))) Q X.xe s1)
  (ht:eval (.Call (.Attribute e m apos) args [] pos) X.env=(do
   let ov<-eval e X.env
   standAt apos.atName
   let (f,first)<-holding [ov] (getMethod ov m pl)
   callWith pos f first (backTo pos (starEach args X.env)) (backToKw pos (keywordEach [] X.env)))):
  wpAny (model X.prog X.w) X.A (eval (.Call (.Attribute e m apos) args [] pos) X.env) Q X.xe s:=by
 refine PySem.W.methodCall_KW (pl:=pl) (thn (he pins s σ H _ I h) fun u s1 ⟨x,H1,I1,rx,a,C,dx,fs,g,ex,ea,c,k,l,q⟩=>?_) ht
 subst ex
 obtain rfl:u=Value.ref a:=rx
 exact qco I1 ea c k l (q s1 I1)
end
section
variable {X: Cx} {pins: List (Addr × Obj)} {σ: St} {H: Hp} {s: Shared} {A: Around} {E: Value -> Shared -> Prop} {Q: Value -> Shared -> Prop} {c: Value} {b: Bool}
inductive TyOf (K:Frag) (H:Hp):V->Value->Prop where
 |non:TyOf K H .non (.type "NoneType")
 |bl (x:Bool):TyOf K H (.bl x) (.type "bool")
 |int (i:Int):TyOf K H (.int i) (.type "int")
 |str (x:Str):TyOf K H (.str x) (.type "str")
 |flt (x:UInt64):TyOf K H (.flt x) (.type "float")
 |lst {a:Addr} {xs:List V} (e:H a=some (.lst xs)):TyOf K H (.ref a) (.type "list")
 |frz {a:Addr} {o:Obj} {xs:List V} (e:H a=some (.frz o (.lst xs))):TyOf K H (.ref a) (.type "list")
 |tup {a:Addr} {xs:List V} (e:H a=some (.tup xs)):TyOf K H (.ref a) (.type "tuple")
 |dK {a:Addr} {kvs:List (Key × V)} (e:H a=some (.dK kvs)):TyOf K H (.ref a) (.type "dict")
 |dT {a:Addr} {kvs:List (List Key × V)} (e:H a=some (.dT kvs)):TyOf K H (.ref a) (.type "dict")
 |ins {a C dx:Addr} {fs:List (Str × V)} (e:H a=some (.ins C dx fs)) (cl:Cls K C) (ha:PySem.W.findIn K (.ref C) "__class__" =some (some (.builtin "object.__class__")))
   (hn:specialIn K (.builtin "object.__class__") "__get__" =some (some (.builtin "getset_descriptor.__get__"))) (htk:PySem.W.takesIn K (.builtin "object.__class__")=some true)
   (hm:PySem.W.mroIn K C (.type "object")=some true):TyOf K H (.ref a) (.ref C)
theorem isinst_ok {x:V} {u t:Value} (I:Inv X pins σ H s) (rx:qb7 x u) (ty:TyOf X.K H x t) (e:kitOne X.K t c=some b) (h:∀tk,Q (.bool b) {s with toks:=tk}):
  wpAny (model X.prog X.w) A (call (.builtin "isinstance") [u,c]) Q E s:=by
 cases ty with
 |non=>cases (show u=Value.none from rx);exact PySem.W.kia_one PySem.W.kitx_none I.kIn True.intro e (fun z=>nomatch z) h
 |bl y=>cases (show u=Value.bool y from rx);exact PySem.W.kia_one PySem.W.kitx_bool I.kIn True.intro e (fun z=>nomatch z) h
 |int i=>obtain⟨t,q⟩:=(show ∃t,u=Value.int i t from rx);cases q;exact PySem.W.kia_one PySem.W.kitx_int I.kIn True.intro e (fun z=>nomatch z) h
 |str y=>obtain⟨t,q⟩:=(show ∃t,u=Value.str y t from rx);cases q;exact PySem.W.kia_one PySem.W.kitx_str I.kIn True.intro e (fun z=>nomatch z) h
 |flt y=>obtain⟨t,q⟩:=(show ∃t,u=Value.float y t from rx);cases q;exact PySem.W.kia_one PySem.W.kitx_float I.kIn True.intro e (fun z=>nomatch z) h
 | @lst a xs ea=>
  cases (show u=Value.ref a from rx)
  obtain⟨_,_,n,_,h1⟩:=(show qbf X.prog X.w H s.heap a (.lst xs) from I.hok a _ ea)
  exact PySem.W.kia_one PySem.W.kitx_list I.kIn ⟨_,h1,rfl⟩ e (fun z=>nomatch z) h
 | @frz a ob xs ea=>
  cases (show u=Value.ref a from rx)
  obtain⟨_,_,_,n,_,h1⟩:=(show qbf X.prog X.w H s.heap a (.frz ob (.lst xs)) from I.hok a _ ea)
  exact PySem.W.kia_one PySem.W.kitx_list I.kIn ⟨_,h1,rfl⟩ e (fun z=>nomatch z) h
 | @tup a xs ea=>
  cases (show u=Value.ref a from rx)
  obtain⟨_,_,_,p⟩:=(show qbf X.prog X.w H s.heap a (.tup xs) from I.hok a _ ea)
  obtain⟨o,h1,h2,_⟩:=p
  exact PySem.W.kia_one PySem.W.kitx_tuple I.kIn ⟨o,h1,h2⟩ e (fun z=>nomatch z) h
 | @dK a kvs ea=>
  cases (show u=Value.ref a from rx)
  obtain⟨_,_,vs,_,p⟩:=(show qbf X.prog X.w H s.heap a (.dK kvs) from I.hok a _ ea)
  obtain⟨o,es,ep,h1,h2,_⟩:=p
  exact PySem.W.kia_one PySem.W.kitx_dict I.kIn ⟨o,h1,h2.1⟩ e (fun z=>nomatch z) h
 | @dT a kvs ea=>
  cases (show u=Value.ref a from rx)
  obtain⟨_,_,xs,_,o,es,ep,h1,h2,_⟩:=(show qbf X.prog X.w H s.heap a (.dT kvs) from I.hok a _ ea)
  exact PySem.W.kia_one PySem.W.kitx_dict I.kIn ⟨o,h1,h2.1⟩ e (fun z=>nomatch z) h
 | @ins a C dx fs ea cl ha hn htk hm=>
  cases (show u=Value.ref a from rx)
  obtain⟨mA,O,_⟩:=qg3 I.hok ea
  obtain⟨od,J,_⟩:=O.look
  exact PySem.W.kia_one (PySem.W.kitx_own (cl.get _) cl.hd ha hn htk hm) I.kIn J e (fun z=>nomatch z) h
end
end L2
namespace L2
open PySem PySem.Spec PyProof.Rows
structure Room (k:Nat) (A:Around):Prop where
 hd:A.handled=none
 dp:A.depth+3*k+5 < recursionLimit
 un:A.units+16*k+200 < cLine
theorem Room.mono {j k:Nat} {A:Around} (r:Room k A) (h:j<=k):Room j A:=⟨r.hd,by have:=r.dp;omega,by have:=r.un;omega⟩
theorem Room.deeper {k:Nat} {A:Around} (r:Room (k+1) A) (env:Env):Room k (A.deeper env):=
 ⟨r.hd,by have:=r.dp;show A.depth+1+3*k+5 < _;omega,by have:=r.un;show A.units+3+16*k+200 < _;omega⟩
theorem make_depth {A:Around} {C:Addr} {us:List Value} {kw:List (Str × Value)}:(A.under (.builtin "type.__call__" ⟨.ref C :: us,kw⟩)).depth=A.depth+1:=by
 first|rfl|simp [Around.under,Code.weight,Code.isCreation,Code.isGuard,Code.isCaller,Code.frames,Code.isFrame,guardIds]
theorem make_units {A:Around} {C:Addr} {us:List Value} {kw:List (Str × Value)}:(A.under (.builtin "type.__call__" ⟨.ref C :: us,kw⟩)).units=A.units+1:=by
 first|rfl|simp [Around.under,Code.cUnits,Code.frames,Code.isFrame]
theorem Room.make {k:Nat} {A:Around} (r:Room (k+1) A) (C:Addr) (us:List Value) (kw:List (Str × Value)):Room k (A.under (.builtin "type.__call__" ⟨.ref C :: us,kw⟩)):=
 ⟨r.hd,by have:=r.dp;rw [make_depth];omega,by have:=r.un;rw [make_units];omega⟩
theorem Room.depth {k:Nat} {A:Around} (r:Room k A):A.depth < recursionLimit:=by have:=r.dp;omega
theorem Room.units {k:Nat} {A:Around} (r:Room k A):A.units+64 < cLine:=by have:=r.un;omega
def tNil:TA:=fun _ H Q=>Q [] H
def tCons (ta:TE) (tr:TA):TA:=fun σ H Q=>ta σ H fun x H1=>tr σ H1 fun xs H2=>Q (x :: xs) H2
section
variable {X: Cx} {e: Expr} {es: List Expr} {te: TE} {t: TA} {pos: Pos}
theorem qa2:PA X [] tNil:=fun _ _ _ _ H Q I h=>Calls.spliced_nil ⟨[],H,I,.nil,h⟩
theorem qa0 (ha:PE X e te) (hr:PA X es t) (hs:starEach (e :: es) X.env=(false,eval e X.env) :: starEach es X.env:=by rfl):PA X (e :: es) (tCons te t):=by
 intro pos pins s σ H Q I h
 rw [hs]
 show wpAny _ _ (spliced ((false,eval e X.env) :: backTo pos (starEach es X.env))) _ _ s
 refine Calls.spliced_cons (thn (ha pins s σ H _ I h) fun u s1 ⟨x,H1,I1,r1,q1⟩=>?_)
 exact thn (hr pos pins s1 σ H1 _ I1 q1) fun us s2 ⟨xs,H2,I2,r2,q2⟩=>⟨x :: xs,H2,I2,.cons r1 r2,q2⟩
def tLst (t:TA):TE:=fun σ H Q=>t σ H fun xs H1=>xs.length<=sizeLine/\∀p,H1 p=none->Q (.ref p) (upd H1 p (.lst xs))
theorem qc1 (h:PA X es t):PE X (.List es pos) (tLst t):=by
 intro pins s σ H Q I hq
 refine wpAny_List_spliced (thn (h pos pins s σ H _ I hq) fun us s1 ⟨xs,H1,I1,r,z,q⟩=>⟨by rw [<-r.length];exact z,?_⟩)
 have hf:H1 s1.heap.objs.size=none:=I1.hok.fresh (Nat.le_refl _)
 refine⟨.ref s1.heap.objs.size,upd H1 s1.heap.objs.size (.lst xs),I1.laid (t':=s1.toks) (fun b u e=>Heap.get?_push_of_some _ e) (Nat.le_refl _) ?_,rfl,q _ hf⟩
 exact⟨z,us,0,r,Heap.get?_push_size _ rfl⟩
end
abbrev Sp:=List V->Hp->VK->XK->Prop
abbrev CXT:=List Env->Hp->Shared->XK->Value->Shared->Prop
structure Env0 (P:Program) (w:World) (K:Frag) (mg:Str->Option Value) (base:Heap) (A:Around) (outer:List Env) (s:Shared) (H:Hp):Prop where
 frames:A.frames=some outer
 mod:Mod K mg base
 bs:∀b o,base.get? b=some o->s.heap.get? b=some o/\H b=none
 bsz:base.objs.size<=s.heap.objs.size
 funs:s.heap.FunFrames base outer
 frf:∀b∈frs outer,H b=none
 hok:HOk P w H s.heap
 bare:AllBare s.gens
def CE (outer:List Env) (P:Program) (w:World) (H:Hp) (s:Shared) (Q:VK) (u:Value) (s':Shared):Prop:=
 ∃v H',s'.os=s.os/\AllBare s'.gens/\Un (frs outer) [] H H' s.heap s'.heap/\HOk P w H' s'.heap/\qb7 v u/\Q v H'
def CR (CX:CXT) (outer:List Env) (P:Program) (w:World) (H:Hp) (s:Shared) (Q:VK) (E:XK) (r:Result) (s':Shared):Prop:=
 match r with
 | .ok (.ret u)=>CE outer P w H s Q u s'
 | .ok _=>False
 | .error e=>CX outer H s E e s'
structure FnOk (P:Program) (w:World) (K:Frag) (mg:Str->Option Value) (base:Heap) (CX:CXT) (k:Nat) (f:Addr) (fd:FuncData) (ps:List Str) (sp:Sp):Prop where
 len:∀vs H Q E,sp vs H Q E->vs.length=ps.length
 run:∀(A:Around) (outer:List Env) (s:Shared) (H:Hp) (args:Args) (us:List Value) (vs:List V) (Q:VK) (E:XK),Room k A->Env0 P w K mg base A outer s H->BindsTo s fd args (ps.zip us)->qb5 vs us->sp vs H Q E->
  codeAny (model P w) A (.call (.ref f) args) (CR CX outer P w H s Q E) s
theorem FnOk.mono {P:Program} {w:World} {K:Frag} {mg:Str->Option Value} {base:Heap} {CX:CXT} {j k:Nat} {f:Addr} {fd:FuncData} {ps:List Str} {sp:Sp} (F:FnOk P w K mg base CX j f fd ps sp) (h:j<=k):
  FnOk P w K mg base CX k f fd ps sp:=⟨F.len,fun A outer s H args us vs Q E hr=>F.run A outer s H args us vs Q E (hr.mono h)⟩
theorem FnOk.imp {P:Program} {w:World} {K:Frag} {mg:Str->Option Value} {base:Heap} {CX:CXT} {k:Nat} {f:Addr} {fd:FuncData} {ps:List Str} {sp sp':Sp} (F:FnOk P w K mg base CX k f fd ps sp)
  (h:∀vs H Q E,sp' vs H Q E->sp vs H Q E):FnOk P w K mg base CX k f fd ps sp':=
 ⟨fun vs H Q E q=>F.len vs H Q E (h _ _ _ _ q),fun A outer s H args us vs Q E hr he hb hv hs=>F.run A outer s H args us vs Q E hr he hb hv (h _ _ _ _ hs)⟩
theorem Env0.make {P:Program} {w:World} {K:Frag} {mg:Str->Option Value} {base:Heap} {A:Around} {outer:List Env} {s:Shared} {H:Hp} (e:Env0 P w K mg base A outer s H) (C:Addr) (us:List Value) (kw:List (Str × Value)):
  Env0 P w K mg base (A.under (.builtin "type.__call__" ⟨.ref C :: us,kw⟩)) outer s H:=⟨by first|exact e.frames|(simpa [Around.under,Code.envs,Code.isFrame,pushEnvs] using e.frames),e.mod,e.bs,e.bsz,e.funs,e.frf,e.hok,e.bare⟩
section
variable {X: Cx} {pins: List (Addr × Obj)} {σ: St} {H: Hp} {s s': Shared}
theorem Inv.env0 (I:Inv X pins σ H s):Env0 X.prog X.w X.K X.mg X.base X.A X.stack s H:=
 ⟨I.ok.frames,I.ok.mod,I.bs,Nat.le_trans I.ok.bsz I.sz,I.stack,I.stkFree,I.hok,I.bare⟩
theorem Inv.after {Q:VK} {u:Value} (I:Inv X pins σ H s) (h:CE X.stack X.prog X.w H s Q u s'):EP X pins σ Q u s':=by
 obtain⟨v,H',os,bare,un,hok,r,q⟩:=h
 obtain⟨hh,g,d,t,os'⟩:=s'
 obtain rfl:os'=s.os:=os
 exact⟨v,H',I.call (h':=hh) (g':=g) (d':=d) (t':=t) (ch:=[]) un hok bare (fun b z=>absurd z (by simp)),r,q⟩
end
def tCall (sp:Sp) (dvs:List V) (E:XK) (t:TA):TE:=fun σ H Q=>t σ H fun vs H1=>sp (vs++dvs) H1 Q E
def tMeth (C:Addr) (m:Str) (sp:Sp) (dvs:List V) (E:XK) (ta:TE) (t:TA):TE:=fun σ H Q=>ta σ H fun x H1=>∃a dx fs,x=.ref a/\H1 a=some (.ins C dx fs)/\fs.lookup m=none/\
 t σ H1 fun vs H2=>sp (x ::(vs++dvs)) H2 Q E
def tMake (C:Addr) (sp:Sp) (dvs:List V) (E:XK) (t:TA):TE:=fun σ H Q=>t σ H fun vs H1=>∀x dx,H1 x=none->H1 dx=none->dx≠x->
 sp (.ref x ::(vs++dvs)) (upd (upd H1 dx (.own x)) x (.ins C dx [])) (fun v H2=>v=.non/\Q (.ref x) H2) E
def qao (K:Frag) (fd:FuncData) (ps:List Str) (ds:List Value):Prop:=
 ∀(s:Shared) (us:List Value),K.In s.heap->(us++ds).length=ps.length->BindsTo s fd ⟨us, []⟩ (ps.zip (us++ds))
theorem qao.all {K:Frag} {fd:FuncData} {ps:List Str} (h:∀us:List Value,us.length=ps.length->bindArgs fd ⟨us, []⟩=pure (ps.zip us)):qao K fd ps []:=fun s us _ hl=>by
 rw [append_nil] at hl ⊢
 exact .of_eq (h us hl)
def qeu (CX:CXT) (X:Cx) (E:XK):Prop:=∀(pins:List (Addr × Obj)) (σ:St) (H:Hp) (s:Shared) (e:Value) (s':Shared),Inv X pins σ H s->CX X.stack H s E e s'->X.xe e s'
section
variable {X: Cx} {CX: CXT} {k: Nat} {f C: Addr} {fd: FuncData} {ps: List Str} {sp: Sp} {dvs: List V} {ds: List Value} {E: XK} {x m: Str} {p pos apos: Pos} {e o: Expr} {es: List Expr} {ta: TE} {t: TA}
theorem run_fn {pins:List (Addr × Obj)} {σ:St} {H:Hp} {s:Shared} {Q:VK} {us:List Value} {vs:List V} (F:FnOk X.prog X.w X.K X.mg X.base CX k f fd ps sp) (hr:Room k X.A) (hb:qao X.K fd ps ds) (hd:qb5 dvs ds) (hx:qeu CX X E)
  (I:Inv X pins σ H s) (r:qb5 vs us) (h:sp (vs++dvs) H Q E):wpAny (model X.prog X.w) X.A (call (.ref f) us) (EP X pins σ Q) X.xe s:=by
 have r2:qb5 (vs++dvs) (us++ds):=r.append hd
 have hl:(us++ds).length=ps.length:=by rw [<-r2.length];exact F.len _ _ _ _ h
 refine wpAny_call (codeAny_mono (F.run X.A X.stack s H ⟨us, []⟩ (us++ds) (vs++dvs) Q E hr I.env0 (hb s us I.kIn hl) r2 h) fun r s' hq=>?_)
 cases r with
 |error e=>exact hx pins σ H s e s' I hq
 |ok fl=>
  cases fl with
  |ret u=>exact I.after hq
  |next=>exact False.elim hq
  |brk=>exact False.elim hq
  |cont=>exact False.elim hq
theorem qag (F:FnOk X.prog X.w X.K X.mg X.base CX k f fd ps sp) (hr:Room k X.A) (hg:Gl X x) (hm:X.mg x=some (.ref f)) (hk:keepIn X.K (.ref f)=true) (hb:qao X.K fd ps ds) (hd:qb5 dvs ds) (hx:qeu CX X E)
  (ha:PA X (e :: es) t) (hdb:(x==("__debug__" :Str))=false:=by decide) (he:starEach (e :: es) X.env=(false,eval e X.env) :: starEach es X.env:=by rfl) (hpl:(backTo pos (starEach es X.env)).any (·.1)=false:=by rfl):
  PE X (.Call (.Name x p) (e :: es) [] pos) (tCall sp dvs E t):=by
 intro pins s σ H Q I h
 refine wpAny_Call_Name_kw (qd8 I hg hm ?_ hdb)
 refine PySem.W.callWith_K (h₀:=X.base) I.ok.mod.kin hk (thn (ha pos pins s σ H _ I h) fun us s1 ⟨vs,H1,I1,r,q⟩=>⟨I1.kIn,?_⟩) he hpl
 exact run_fn F hr hb hd hx I1 r q
theorem pe_meth {pl:Sem Bool} (he:PE X o ta) (c:Cls X.K C) (hm:Meth X.K C m f) (F:FnOk X.prog X.w X.K X.mg X.base CX k f fd ps sp) (hr:Room k X.A) (hb:qao X.K fd ps ds) (hd:qb5 dvs ds) (hx:qeu CX X E) (ha:PA X (e :: es) t)
  (hst:starEach (e :: es) X.env=(false,eval e X.env) :: starEach es X.env:=by rfl) (hpl:(backTo pos (starEach es X.env)).any (·.1)=false:=by rfl)
  (ht:eval (.Call (.Attribute o m apos) (e :: es) [] pos) X.env=(do
   let ov<-eval o X.env
   standAt apos.atName
   let (f,first)<-holding [ov] (getMethod ov m pl)
   callWith pos f first (backTo pos (starEach (e :: es) X.env)) (backToKw pos (keywordEach [] X.env))):=by rfl):
  PE X (.Call (.Attribute o m apos) (e :: es) [] pos) (tMeth C m sp dvs E ta t):=by
 intro pins s σ H Q I h
 refine PySem.W.methodCall_KW (pl:=pl) (thn (he pins s σ H _ I h) fun u s1 ⟨x,H1,I1,rx,a,dx,fs,ex,ea,l,q⟩=>?_) ht
 subst ex
 obtain rfl:u=Value.ref a:=rx
 refine qco I1 ea c hm l ?_
 refine PySem.W.callWith_K (first:=[.ref a]) (h₀:=X.base) I.ok.mod.kin hm.kp (thn (ha pos pins s1 σ H1 _ I1 q) fun us s2 ⟨vs,H2,I2,r,q2⟩=>⟨I2.kIn,?_⟩) hst hpl
 exact run_fn (us:=.ref a :: us) (vs:=.ref a :: vs) F hr hb hd hx I2 (.cons rfl r) q2
theorem pe_meth0 {pl:Sem Bool} (he:PE X o ta) (c:Cls X.K C) (hm:Meth X.K C m f) (F:FnOk X.prog X.w X.K X.mg X.base CX k f fd ps sp) (hr:Room k X.A) (hb:qao X.K fd ps ds) (hd:qb5 dvs ds) (hx:qeu CX X E)
  (ht:eval (.Call (.Attribute o m apos) [] [] pos) X.env=(do
   let ov<-eval o X.env
   standAt apos.atName
   let (f,first)<-holding [ov] (getMethod ov m pl)
   callWith pos f first (backTo pos (starEach [] X.env)) (backToKw pos (keywordEach [] X.env))):=by rfl):
  PE X (.Call (.Attribute o m apos) [] [] pos) (tMeth C m sp dvs E ta tNil):=by
 intro pins s σ H Q I h
 refine PySem.W.methodCall_KW (pl:=pl) (thn (he pins s σ H _ I h) fun u s1 ⟨x,H1,I1,rx,a,dx,fs,ex,ea,l,q⟩=>?_) ht
 subst ex
 obtain rfl:u=Value.ref a:=rx
 refine qco I1 ea c hm l ?_
 exact PySem.W.callWith_K0 (first:=[.ref a]) I1.kIn hm.kp (run_fn (us:=[.ref a]) (vs:=[.ref a]) F hr hb hd hx I1 (.cons rfl .nil) q)
structure Mk (K:Frag) (C f:Addr):Prop where
 makes:PySem.W.makesIn K C=true
 init:PySem.W.findIn K (.ref C) "__init__" =some (some (.ref f))
 fn:isFn K (.ref f)=true
 kp:keepIn K (.ref C)=true
theorem run_make {pins:List (Addr × Obj)} {σ:St} {H:Hp} {s:Shared} {Q:VK} {us:List Value} {vs:List V} (M:Mk X.K C f) (F:FnOk X.prog X.w X.K X.mg X.base CX k f fd ps sp) (hr:Room (k+1) X.A) (hb:qao X.K fd ps ds) (hd:qb5 dvs ds)
  (hx:qeu CX X E) (I:Inv X pins σ H s) (r:qb5 vs us)
  (h:∀x dx,H x=none->H dx=none->dx≠x->sp (.ref x ::(vs++dvs)) (upd (upd H dx (.own x)) x (.ins C dx [])) (fun v H2=>v=.non/\Q (.ref x) H2) E):
  wpAny (model X.prog X.w) X.A (call (.ref C) us) (EP X pins σ Q) X.xe s:=by
 have hq:=h (s.heap.objs.size+1) s.heap.objs.size (I.hok.fresh (Nat.le_succ _)) (I.hok.fresh (Nat.le_refl _)) (Nat.ne_of_lt (Nat.lt_succ_self _))
 have I2:=Inv.made (C:=C) I
 have r2:qb5 (V.ref (s.heap.objs.size+1) ::(vs++dvs)) (Value.ref (s.heap.objs.size+1) ::(us++ds)):=.cons rfl (r.append hd)
 have hl:(Value.ref (s.heap.objs.size+1) :: us++ds).length=ps.length:=by
  have e:=r2.length
  rw [F.len _ _ _ _ hq] at e
  exact e.symm
 refine wpAny_call (make_map (f:=f) I.kIn M.makes M.init (beq_iff_eq.mp M.fn) (codeAny_mono (F.run _ X.stack _ _ ⟨Value.ref (s.heap.objs.size+1) :: us, []⟩ (Value.ref (s.heap.objs.size+1) ::(us++ds)) _ _ E (hr.make C us [])
  (I2.env0.make C us []) (hb _ (Value.ref (s.heap.objs.size+1) :: us) I2.kIn hl) r2 hq) fun r s' hq'=>?_))
 cases r with
 |error e=>exact hx pins σ _ _ e s' I2 hq'
 |ok fl=>
  cases fl with
  |ret u=>
   obtain⟨v,H',I3,rv,ev,q3⟩:=I2.after hq'
   subst ev
   exact⟨rv,⟨V.ref (s.heap.objs.size+1),H',I3,rfl,q3⟩⟩
  |next=>exact False.elim hq'
  |brk=>exact False.elim hq'
  |cont=>exact False.elim hq'
theorem pe_make (M:Mk X.K C f) (F:FnOk X.prog X.w X.K X.mg X.base CX k f fd ps sp) (hr:Room (k+1) X.A) (hg:Gl X x) (hm:X.mg x=some (.ref C)) (hb:qao X.K fd ps ds) (hd:qb5 dvs ds) (hx:qeu CX X E)
  (ha:PA X (e :: es) t) (hdb:(x==("__debug__" :Str))=false:=by decide) (he:starEach (e :: es) X.env=(false,eval e X.env) :: starEach es X.env:=by rfl) (hpl:(backTo pos (starEach es X.env)).any (·.1)=false:=by rfl):
  PE X (.Call (.Name x p) (e :: es) [] pos) (tMake C sp dvs E t):=by
 intro pins s σ H Q I h
 refine wpAny_Call_Name_kw (qd8 I hg hm ?_ hdb)
 refine PySem.W.callWith_K (h₀:=X.base) I.ok.mod.kin M.kp (thn (ha pos pins s σ H _ I h) fun us s1 ⟨vs,H1,I1,r,q⟩=>⟨I1.kIn,?_⟩) he hpl
 exact run_make M F hr hb hd hx I1 r q
end
section
variable {fd: FuncData} {ps ks: List Str}
structure KBinds (K:Frag) (fd:FuncData) (ps ks:List Str) (g:List Value->List Value->List Value) (gV:List V->List V->List V):Prop where
 to:∀(s:Shared) (us ws:List Value),K.In s.heap->(g us ws).length=ps.length->BindsTo s fd ⟨us,ks.zip ws⟩ (ps.zip (g us ws))
 rel:∀{vs:List V} {us:List Value} {zs:List V} {ws:List Value},qb5 vs us->qb5 zs ws->qb5 (gV vs zs) (g us ws)
end
structure FnScope (N P:List Str) (sc:Scope):Prop where
 kind:sc.kind=.function
 co:sc.isCoroutine=false
 gen:sc.isGenerator=false
 nd:N.Nodup
 pre:N.take P.length=P
 par:∀x∈P,sc.names.lookup x=some .local\/sc.names.lookup x=some .cell
 nofree:∀y∈sc.names,y.2≠ .free
theorem bindL_out {kindOf:Str->Option NameKind} {x:Str}:∀{binds:List (Str × Value)} {m:Str->Option Value},(∀v,(x,v)∉binds)->bindL kindOf binds m x=m x
 | [],_,_=>rfl
 |(n,v) :: r,m,h=>by
  unfold bindL
  rw [bindL_out fun w hw=>h w (mem_cons_of_mem _ hw)]
  split
  .have:x≠n:=by rintro rfl;exact h v mem_cons_self
   simp [this]
  .rfl
theorem bindC_out {kindOf:Str->Option NameKind} {x:Str}:∀{binds:List (Str × Value)} {m:Str->Option Value},(∀v,(x,v)∉binds)->bindC kindOf binds m x=m x
 | [],_,_=>rfl
 |(n,v) :: r,m,h=>by
  unfold bindC
  rw [bindC_out fun w hw=>h w (mem_cons_of_mem _ hw)]
  split
  .rfl
  .have:x≠n:=by rintro rfl;exact h v mem_cons_self
   simp [this]
theorem bindL_get {kindOf:Str->Option NameKind} {x:Str} {v:Value}:∀{P:List Str} {vs:List Value} {i:Nat} {m:Str->Option Value},P.Nodup->P[i]?=some x->vs[i]?=some v->kindOf x=some .local->
  bindL kindOf (P.zip vs) m x=some v
 | [],_,_,_,_,h,_,_=>by simp at h
 |_ :: _, [],_,_,_,_,h,_=>by simp at h
 |p :: P,w :: vs,0,m,nd,h1,h2,hk=>by
  simp at h1 h2;subst h1;subst h2
  show bindL kindOf ((p,w) :: P.zip vs) m p=_
  unfold bindL
  rw [bindL_out fun v hv=>(nodup_cons.mp nd).1 (List.of_mem_zip hv).1,if_pos hk]
  simp
 |p :: P,w :: vs,i+1,m,nd,h1,h2,hk=>by
  show bindL kindOf ((p,w) :: P.zip vs) m x=_
  unfold bindL
  exact bindL_get (i:=i) (nodup_cons.mp nd).2 (by simpa using h1) (by simpa using h2) hk
theorem bindC_get {kindOf:Str->Option NameKind} {x:Str} {v:Value}:∀{P:List Str} {vs:List Value} {i:Nat} {m:Str->Option Value},P.Nodup->P[i]?=some x->vs[i]?=some v->kindOf x≠some .local->
  bindC kindOf (P.zip vs) m x=some v
 | [],_,_,_,_,h,_,_=>by simp at h
 |_ :: _, [],_,_,_,_,h,_=>by simp at h
 |p :: P,w :: vs,0,m,nd,h1,h2,hk=>by
  simp at h1 h2;subst h1;subst h2
  show bindC kindOf ((p,w) :: P.zip vs) m p=_
  unfold bindC
  rw [bindC_out fun v hv=>(nodup_cons.mp nd).1 (List.of_mem_zip hv).1,if_neg hk]
  simp
 |p :: P,w :: vs,i+1,m,nd,h1,h2,hk=>by
  show bindC kindOf ((p,w) :: P.zip vs) m x=_
  unfold bindC
  exact bindC_get (i:=i) (nodup_cons.mp nd).2 (by simpa using h1) (by simpa using h2) hk
def qe7 (N:List Str) (vs:List V):St:=vs.map some++List.replicate (N.length - vs.length) none
def cxOf (CX:CXT) (P:Program) (w:World) (K:Frag) (mg:Str->Option Value) (base:Heap) (N:List Str) (qual:Str) (scope:Scope) (f:Addr) (cd:Value) (A:Around) (outer:List Env) (s:Shared) (H:Hp) (E:XK):Cx where
 prog:=P
 w:=w
 K:=K
 mg:=mg
 base:=base
 A:=A.deeper (envOfC qual scope s.heap.objs.size f cd)
 N:=N
 s₀:=s
 H₀:=H
 env:=envOfC qual scope s.heap.objs.size f cd
 outer:=outer
 stack:=envOfC qual scope s.heap.objs.size f cd :: outer
 ex:=[]
 calm:=true
 fn:=fun _=>true
 pn:=[]
 xe:=fun e s'=>wpAny (model P w) (A.deeper (envOfC qual scope s.heap.objs.size f cd)) (leaving (envOfC qual scope s.heap.objs.size f cd) e) (fun _ s''=>CX outer H s E e s'') (fun e' s''=>CX outer H s E e' s'') s'
theorem cell_has {sc:Scope} {n:Nat} {x:Str} (h:sc.names.lookup x=some .cell):∃c,(cellsFrom n sc.names []).lookup x=some c:=by
 have q:=PySem.W.cellsFrom_some sc.names n [] (.inl h)
 exact Option.isSome_iff_exists.mp q
theorem inv_start {CX:CXT} {P:Program} {w:World} {K:Frag} {mg:Str->Option Value} {base:Heap} {N ps:List Str} {qual:Str} {scope:Scope} {f:Addr} {cd:Value} {A:Around} {outer:List Env} {s s1:Shared} {H:Hp} {E:XK} {us:List Value} {vs:List V}
  (S:FnScope N ps scope) (hd:A.handled=none) (e0:Env0 P w K mg base A outer s H) (hl:vs.length=ps.length) (r:qb5 vs us)
  (x:InCallC s s.heap.objs.size (bindL (envOfC qual scope s.heap.objs.size f cd).kindOf (ps.zip us) fun _=>none) (cellsFrom (s.heap.objs.size+1) scope.names []) (bindC (envOfC qual scope s.heap.objs.size f cd).kindOf (ps.zip us) fun _=>none) s1):
  Inv (cxOf CX P w K mg base N qual scope f cd A outer s H E) [] (qe7 N vs) H s1:=by
 have hpl:ps.length<=N.length:=by have:=congrArg List.length S.pre;rw [length_take] at this;omega
 obtain⟨h1,tk,rfl,hk⟩:=x.done
 have noA:∀b:Addr,b∉(cxOf CX P w K mg base N qual scope f cd A outer s H E).ex:=fun b z=>absurd (show b∈([]:List Addr) from z) (by simp)
 refine⟨⟨e0.mod,S.kind,rfl,rfl,Nat.le_refl _,fun y z c h1 h2=>?_,fun y hy=>?_,fun y c _ h=>?_,fun _=>hd,Around.frames_deeper e0.frames,.inr ⟨rfl,rfl⟩,fun b z=>absurd z (noA b),e0.bs,e0.bsz,fun b _ _=>noA b,fun b z=>absurd z (noA b),e0.funs,e0.frf⟩,
  rfl,e0.bare,Un.kept hk,⟨_,x.toInCall.ns,fun i y v h1 h2 h3=>?_⟩,fun y c h=>⟨_,x.cell y c h⟩,e0.hok.fresh (Nat.le_refl _),fun y c h=>?_,fun p hp=>absurd (show p∈([]:List (Addr × Obj)) from hp) (by simp),e0.hok.kept hk,?_⟩
 .exact name_of_addr x.apart (PySem.mem_of_lookup h1) (PySem.mem_of_lookup h2)
 .have hy:scope.names.lookup y=some .cell\/scope.names.lookup y=some .free:=hy
  rcases hy with hy|hy
  .exact cell_has hy
  .exact absurd rfl (S.nofree _ (PySem.mem_of_lookup hy))
 .exact Nat.le_of_lt (x.above y c (PySem.mem_of_lookup h))
 .have hi:i < vs.length:=by
   unfold qe7 at h2
   by_cases hi:i < vs.length
   .exact hi
   .rw [List.getElem?_append_right (by simpa using hi)] at h2
    rw [List.getElem?_replicate] at h2
    split at h2 <;> cases h2
  have ha:vs[i]?=some v:=by
   unfold qe7 at h2
   rw [List.getElem?_append_left (by simpa using hi),getElem?_map] at h2
   cases e:vs[i]? with
   |none=>rw [e] at h2;cases h2
   |some a=>rw [e] at h2;cases h2;rfl
  obtain⟨u,hu,rv⟩:=r.get ha
  have hp:ps[i]?=some y:=by
   rw [<-S.pre,List.getElem?_take_of_lt (by omega)];exact h1
  have ndP:ps.Nodup:=by rw [<-S.pre];exact S.nd.sublist (List.take_sublist _ _)
  refine⟨u,rv,?_⟩
  rcases S.par y (mem_of_getElem? hp) with k|k
  .exact .inl ⟨k,bindL_get ndP hp hu k⟩
  .obtain⟨c,e⟩:=cell_has (n:=s.heap.objs.size+1) k
   refine .inr ⟨.inl k,c,e,?_⟩
   have q:=x.cell y c e
   rw [bindC_get ndP hp hu (by show scope.names.lookup y≠_;rw [k];decide)] at q
   exact q
 .exact e0.hok.fresh (Nat.le_of_lt (x.above y c (PySem.mem_of_lookup h)))
 .unfold qe7
  show _=N.length
  rw [length_append,length_map,List.length_replicate]
  omega
theorem fn_of {CX:CXT} {P:Program} {w:World} {K:Frag} {mg:Str->Option Value} {base:Heap} {k:Nat} {f:Addr} {name qual:Str} {params:Arguments} {body:List Stmt} {scope:Scope} {dV kV doc pm cdv ct oc:Value} {an od:Option Addr}
  {osl:Array (Option Value)} {N ps:List Str} {sp:Sp} (lk:K.lookup f=some ⟨oc,od,.func (fnOf name qual params body scope dV kV doc pm an cdv ct),osl⟩) (hcd:codeIn K cdv qual=true) (S:FnScope N ps scope)
  (len:∀vs H Q E,sp vs H Q E->vs.length=ps.length)
  (hbody:∀(A:Around) (outer:List Env) (s:Shared) (H:Hp) (vs:List V) (Q:VK) (E:XK),Room k (A.deeper (envOfC qual scope s.heap.objs.size f cdv))->sp vs H Q E->
   ∃t,PSs (cxOf CX P w K mg base N qual scope f cdv A outer s H E) body t/\t {nx:=fun _ H'=>Q .non H',rt:=Q} (qe7 N vs) H):
  FnOk P w K mg base CX (k+1) f (fnOf name qual params body scope dV kV doc pm an cdv ct) ps sp:=by
 refine⟨len,fun A outer s H args us vs Q E hr e0 hb r hsp=>?_⟩
 have hl:=len _ _ _ _ hsp
 have KX:K.In s.heap:=e0.mod.kin.keeps fun b o e=>(e0.bs b o e).1
 have lim:s.heap.NoLimit:=e0.mod.nolimit.keeps fun b o e=>(e0.bs b o e).1
 have hkind:∀y∈ps.zip us,scope.names.lookup y.1=some .local\/(scope.names.lookup y.1=some .cell/\((cellsFrom (s.heap.objs.size+1) scope.names []).lookup y.1).isSome=true):=fun⟨n,v⟩ hy=>by
  rcases S.par n (List.of_mem_zip hy).1 with q|q
  .exact .inl q
  .exact .inr ⟨q,PySem.W.cellsFrom_some _ _ _ (.inl q)⟩
 refine codeAny_call_function hr.depth (KX _ _ lk) rfl S.co S.gen rfl (PySem.W.codeRec_of KX hcd) (hb _ _ _ _ ?_)
 refine wpAny_newFunctionEnv_cells S.kind hkind fun env he s1 x=>?_
 subst he
 refine⟨lim.keeps x.toInCall.keep,codeAny_func ?_⟩
 obtain⟨t,ht,hq⟩:=hbody A outer s H vs Q E (hr.deeper _) hsp
 have I:Inv (cxOf CX P w K mg base N qual scope f cdv A outer s H E) [] (qe7 N vs) H s1:=inv_start S hr.hd e0 hl r x
 refine wpAny_mono (ht [] s1 (qe7 N vs) H _ I hq) (fun fl s' hs=>?_) fun e s' hs=>hs
 have fin:∀{σ':St} {H':Hp} {v:V} {u:Value},Inv (cxOf CX P w K mg base N qual scope f cdv A outer s H E) [] σ' H' s'->qb7 v u->Q v H'->CE outer P w H s Q u s':=
  fun {σ' H' v u} J rv q=>⟨v,H',J.os,J.bare,J.base,J.hok,rv,q⟩
 cases fl with
 |ret u=>
  obtain⟨v,σ',H',J,rv,q⟩:=hs
  exact fin J rv q
 |next=>
  obtain⟨σ',H',J,q⟩:=hs
  exact fin (v:=V.non) (u:=Value.none) J rfl q
 |brk=>
  obtain⟨_,_,_,q⟩:=hs
  exact False.elim q
 |cont=>
  obtain⟨_,_,_,q⟩:=hs
  exact False.elim q
end L2
namespace L2
open PySem PySem.Spec PyProof.Rows
section
variable {X: Cx} {x: Str} {p pos: Pos} {e: Expr} {es: List Expr} {t: TA} {id T: String} {r: List V -> Hp -> VK -> Prop}
def tCB (r:List V->Hp->VK->Prop) (t:TA):TE:=fun σ H Q=>t σ H fun vs H1=>r vs H1 Q
theorem qac (hc:qc3 X (.builtin id) r) (hg:Gl X x) (hm:X.mg x=none) (hv:bootBuiltins x=some (.builtin id)) (ha:PA X (e :: es) t) (hn:x≠"__name__":=by decide) (hdb:(x==("__debug__" :Str))=false:=by decide)
  (he:starEach (e :: es) X.env=(false,eval e X.env) :: starEach es X.env:=by rfl) (hpl:(backTo pos (starEach es X.env)).any (·.1)=false:=by rfl):PE X (.Call (.Name x p) (e :: es) [] pos) (tCB r t):=by
 intro pins s σ H Q I h
 refine wpAny_Call_Name_kw (qfd I hg hm hv ?_ hn hdb)
 exact PyProof.Rows.callWith_builtin1 (thn (ha pos pins s σ H _ I h) fun us s1 ⟨vs,H1,I1,r1,q1⟩=>hc pins s1 σ H1 vs us Q I1 r1 q1) he hpl
theorem qb6 (hc:qc3 X (.type T) r) (hg:Gl X x) (hm:X.mg x=none) (hv:bootBuiltins x=some (.type T)) (ha:PA X (e :: es) t) (hn:x≠"__name__":=by decide) (hdb:(x==("__debug__" :Str))=false:=by decide)
  (he:starEach (e :: es) X.env=(false,eval e X.env) :: starEach es X.env:=by rfl) (hpl:(backTo pos (starEach es X.env)).any (·.1)=false:=by rfl):PE X (.Call (.Name x p) (e :: es) [] pos) (tCB r t):=by
 intro pins s σ H Q I h
 refine wpAny_Call_Name_kw (qfd I hg hm hv ?_ hn hdb)
 exact PyProof.Rows.callWith_type1 (thn (ha pos pins s σ H _ I h) fun us s1 ⟨vs,H1,I1,r1,q1⟩=>hc pins s1 σ H1 vs us Q I1 r1 q1) he hpl
end
end L2
namespace HT
open PySem PyProof.Rows
section
def sIx (n d:Nat):Option Int->Nat
 |none=>d
 |some v=>if v < 0 then (v+(n:Int)).toNat else min v.toNat n
end
end HT
namespace L2
open PySem PySem.Spec PyProof.Rows
abbrev TO:=St->Hp->(Option Int->Hp->Prop)->Prop
def PO (X:Cx) (e:Option Expr) (t:TO):Prop:=
 ∀(pins:List (Addr × Obj)) (s:Shared) (σ:St) (H:Hp) (Q:Option Int->Hp->Prop),Inv X pins σ H s->t σ H Q->
  wpAny (model X.prog X.w) X.A (evalPart e X.env) (fun u s'=>∃o H',Inv X pins σ H' s'/\IsPart u o/\Q o H') X.xe s
def tNoPart:TO:=fun _ H Q=>Q none H
def tPart (t:TE):TO:=fun σ H Q=>t σ H fun x H1=>∃i,x=.int i/\Q (some i) H1
section
variable {X: Cx} {e: Expr} {te: TE} {lo hi: Option Expr} {tl th: TO} {pos p2: Pos}
theorem po_none:PO X none tNoPart:=by
 intro pins s σ H Q I h
 rw [evalPart_none]
 exact wpAny_pure ⟨none,H,I,.none,h⟩
theorem po_some (h:PE X e te):PO X (some e) (tPart te):=by
 intro pins s σ H Q I hw
 rw [evalPart_some]
 refine thn (h pins s σ H _ I hw) fun u s1 ⟨x,H1,I1,r1,q1⟩=>?_
 obtain⟨i,rfl,q⟩:=q1
 obtain⟨t,rfl⟩:=r1
 exact⟨some i,H1,I1,.int i t,q⟩
def SlR (X:Cx) (r:V->Option Int->Option Int->Hp->VK->Prop):Prop:=
 ∀(pins:List (Addr × Obj)) (s:Shared) (σ:St) (H:Hp) (x:V) (v vl vu:Value) (lo hi:Option Int) (sl:Addr) (Q:VK),Inv X pins σ H s->qb7 x v->s.heap.IsSliceOf sl vl vu .none->IsPart vl lo->IsPart vu hi->r x lo hi H Q->
  ∃T id,typeLookup (.type T) "__getitem__" =pure (some (.builtin id))/\s.TypeIs v T/\wpAny (model X.prog X.w) X.A (getItem v (.ref sl)) (EP X pins σ Q) X.xe s
def tSl (r:V->Option Int->Option Int->Hp->VK->Prop) (te:TE) (tl th:TO):TE:=fun σ H Q=>te σ H fun x H1=>tl σ H1 fun l H2=>th σ H2 fun u H3=>r x l u H3 Q
theorem pe_slice {r:V->Option Int->Option Int->Hp->VK->Prop} (hr:SlR X r) (he:PE X e te) (hl:PO X lo tl) (hu:PO X hi th):PE X (.Subscript e (.Slice lo hi none p2) pos) (tSl r te tl th):=by
 intro pins s σ H Q I h
 refine Subscript_ (thn (he pins s σ H _ I h) fun v s1 ⟨x,H1,I1,r1,q1⟩=>?_)
 refine wpAny_Slice (thn (hl pins s1 σ H1 _ I1 q1) fun vl s2 ⟨l,H2,I2,pl,q2⟩=>thn (hu pins s2 σ H2 _ I2 q2) fun vu s3 ⟨u,H3,I3,pu,q3⟩=>?_)
 rw [evalPart_none]
 refine wpAny_pure ?_
 have I4:Inv X pins σ H3 {s3 with heap:=s3.heap.push {cls:=.type "slice",data:=.fields #[vl,vu,.none]}}:=I3.kept (t':=s3.toks) fun b ob q=>Heap.get?_push_of_some _ q
 obtain⟨T,id,hT,ht,hg⟩:=hr pins {s3 with heap:=s3.heap.push {cls:=.type "slice",data:=.fields #[vl,vu,.none]}} σ H3 x v vl vu l u s3.heap.objs.size Q I4 r1 (Heap.IsSliceOf.new ..) pl pu q3
 show wpAny (model X.prog X.w) X.A (subscriptTail e (.Slice lo hi none p2) v (.ref s3.heap.objs.size)) (EP X pins σ Q) X.xe {s3 with heap:=s3.heap.push {cls:=.type "slice",data:=.fields #[vl,vu,.none]}}
 exact tail_any (ops:=[.ref s3.heap.objs.size,v]) ht hT hg (by with_unfolding_all rfl)
def cutV (xs:List V) (lo hi:Option Int):List V:=(xs.drop (HT.sIx xs.length 0 lo)).take (HT.sIx xs.length xs.length hi - HT.sIx xs.length 0 lo)
theorem cutV_length (xs:List V) (lo hi:Option Int):(cutV xs lo hi).length<=xs.length:=by
 unfold cutV
 rw [length_take,List.length_drop]
 omega
end
end L2
namespace L2
open PySem PySem.Spec PyProof.Rows
def ixN (n:Nat) (i:Int):Option Nat:=if 0<=i then (if i < n then some i.toNat else none) else if -(n:Int)<=i then some (i+n).toNat else none
def atI {α:Type} (xs:List α) (i:Int):Option α:=(ixN xs.length i).bind fun j=>xs[j]?
theorem ixN_seq {n:Nat} {i:Int} {j:Nat} (h:ixN n i=some j):seqIndex? i n=some j/\j < n/\-(n:Int)<=i/\i < n:=by
 unfold ixN at h
 by_cases h0:0<=i
 .rw [if_pos h0] at h
  by_cases h1:i < n
  .rw [if_pos h1] at h
   have e:i.toNat=j:=Option.some.inj h
   exact⟨by rw [seqIndex_of h0 h1,e],by omega,by omega,h1⟩
  .rw [if_neg h1] at h;cases h
 .rw [if_neg h0] at h
  by_cases h1: -(n:Int)<=i
  .rw [if_pos h1] at h
   have e:(i+n).toNat=j:=Option.some.inj h
   exact⟨by rw [seqIndex_neg (by omega) h1,e],by omega,h1,by omega⟩
  .rw [if_neg h1] at h;cases h
theorem atI_get {α:Type} {xs:List α} {i:Int} {v:α} (h:atI xs i=some v):∃j,seqIndex? i xs.length=some j/\xs[j]?=some v/\j < xs.length/\-(xs.length:Int)<=i/\i < xs.length:=by
 unfold atI at h
 cases e:ixN xs.length i with
 |none=>rw [e] at h;cases h
 |some j=>
  rw [e] at h
  obtain⟨h1,h2,h3,h4⟩:=ixN_seq e
  exact⟨j,h1,h,h2,h3,h4⟩
theorem qat {α:Type} {xs:List α} {j:Nat} {v:α} (h:xs[j]?=some v):atI xs (j:Int)=some v:=by
 have hj:j < xs.length:=(List.getElem?_eq_some_iff.mp h).1
 have e:ixN xs.length (j:Int)=some j:=by
  unfold ixN
  rw [if_pos (by omega),if_pos (by omega)];simp
 unfold atI;rw [e];exact h
def PlainIx (b:Expr):Prop:=∀o i,subscripted b false o i=operate [o,i] (getItem o i)
def IxR (X:Cx) (r:R2):Prop:=
 ∀(value slice:Expr) (pins:List (Addr × Obj)) (s:Shared) (σ:St) (H:Hp) (x y:V) (v u:Value) (Q:VK),Inv X pins σ H s->qb7 x v->qb7 y u->r x y H Q->
  subscripted slice false v u=operate [v,u] (getItem v u)->wpAny (model X.prog X.w) X.A (subscriptTail value slice v u) (EP X pins σ Q) X.xe s
def MtR (X:Cx) (id:String) (r:V->List V->Hp->VK->Prop):Prop:=
 ∀(pins:List (Addr × Obj)) (s:Shared) (σ:St) (H:Hp) (x:V) (xs:List V) (v:Value) (us:List Value) (Q:VK),Inv X pins σ H s->qb7 x v->qb5 xs us->r x xs H Q->
  wpAny (model X.prog X.w) X.A (call (.builtin id) (v :: us)) (EP X pins σ Q) X.xe s
section
variable {X: Cx} {a b: Expr} {ta tb: TE} {pos: Pos}
theorem qak {r:R2} (hr:IxR X r) (ha:PE X a ta) (hb:PE X b tb) (hs:PlainIx b):PE X (.Subscript a b pos) (tOp r ta tb):=by
 intro pins s σ H Q I h
 exact Subscript_ (binT ha hb I h fun v u s2 x y H2 I2 rx ry q=>hr a b pins s2 σ H2 x y v u Q I2 rx ry q (hs _ _))
def rIxL (K:Frag):R2:=fun x y H Q=>∃p xs i v,x=.ref p/\y=.int i/\SqL K H p xs/\atI xs i=some v/\Q v H
def rIxT (K:Frag):R2:=fun x y H Q=>∃p xs i v,x=.ref p/\y=.int i/\SqT K H p xs/\atI xs i=some v/\Q v H
def rIxS:R2:=fun x y H Q=>∃z i c,x=.str z/\y=.int i/\z.length<=sizeLine/\atI z.cps.toList i=some c/\Q (.str ⟨#[c]⟩) H
theorem qab:IxR X (rIxL X.K):=by
 intro value slice pins s σ H x y v u Q I rx ry h hs
 obtain⟨p,xs,i,z,rfl,rfl,hq,he,q⟩:=h
 cases rx
 obtain⟨t,rfl⟩:=ry
 obtain⟨its,r,pl,hz⟩:=I.list hq
 obtain⟨j,h1,h2,h3,h4,h5⟩:=atI_get he
 obtain⟨w,ew,rw'⟩:=r.get h2
 have hl:=r.length
 have hn:=line63
 have fin:EP X pins σ Q w s:=⟨z,H,I,rw',q⟩
 by_cases h0:0<=i
 .have hj:i.toNat=j:=by
   rw [seqIndex_of h0 h5] at h1
   exact Option.some.inj h1
  exact item_listR pl.isList h0 (by omega) (by rw [hj];simpa using ew) fin hs
 .have hj:(i+(its.toArray.size:Int)).toNat=j:=by
   rw [seqIndex_neg (by omega) h4] at h1
   rw [size_toArray,<-hl]
   exact Option.some.inj h1
  exact subscriptTail_builtinR (x:=w) pl.isList.typeIs slot_list_getitem.lookup
   (wpAny_getItem_list_neg (Q:=fun r s'=>r=w/\EP X pins σ Q r s') pl.isList (by omega) (by rw [size_toArray] <;> omega) (by omega) (by rw [hj];simpa using ew) ⟨rfl,fin⟩) hs
theorem ix_tup:IxR X (rIxT X.K):=by
 intro value slice pins s σ H x y v u Q I rx ry h hs
 obtain⟨p,xs,i,z,rfl,rfl,hq,he,q⟩:=h
 cases rx
 obtain⟨t,rfl⟩:=ry
 obtain⟨its,r,pl,hz⟩:=I.tuple hq
 obtain⟨j,h1,h2,h3,h4,h5⟩:=atI_get he
 obtain⟨w,ew,rw'⟩:=r.get h2
 have hl:=r.length
 have hn:=line63
 have fin:EP X pins σ Q w s:=⟨z,H,I,rw',q⟩
 exact subscriptTail_builtinR (x:=w) pl.typeIs slot_tuple_getitem.lookup
  (getItem_tuple (j:=j) (Q:=fun r s'=>r=w/\EP X pins σ Q r s') pl (by omega) (by omega) (by rw [size_toArray,<-hl];exact h1) (by simpa using ew) ⟨rfl,fin⟩) hs
theorem ix_str:IxR X rIxS:=by
 intro value slice pins s σ H x y v u Q I rx ry h hs
 obtain⟨z,i,c,rfl,rfl,hz,he,q⟩:=h
 obtain⟨t,rfl⟩:=rx
 obtain⟨t',rfl⟩:=ry
 obtain⟨j,h1,h2,h3,h4,h5⟩:=atI_get he
 have hl:z.cps.toList.length=z.length:=by simp [Str.length]
 rw [hl] at h1 h4 h5
 have hn:=line63
 exact tail_any (typeIs_str s z t) slot_str_getitem.lookup (getItem_str (c:=c) (by
  have e1:decide (i < -(2^63:Int))=false:=decide_eq_false (by omega)
  have e2:decide (i≥2^63)=false:=decide_eq_false (by omega)
  rw [e1,e2,Bool.or_false]) (by rw [h1];simpa using h2) ⟨.str ⟨#[c]⟩,H,I.tok _,⟨_,rfl⟩,q⟩) hs
theorem slice_bounds (lo hi:Option Int) (n:Nat):(sliceBounds lo hi none n).1=((HT.sIx n 0 lo:Nat):Int)/\(sliceBounds lo hi none n).2.1=((HT.sIx n n hi:Nat):Int)/\(sliceBounds lo hi none n).2.2=1:=by
 refine⟨?_,?_,rfl⟩
 .cases lo with
  |none=>simp [sliceBounds,HT.sIx]
  |some i=>
   simp only [sliceBounds,HT.sIx,Option.getD_none,show (1:Int) > 0 by decide,if_true]
   by_cases h:i < 0
   .simp only [h,if_true] <;> omega
   .simp only [h,if_false] <;> omega
 .cases hi with
  |none=>simp [sliceBounds,HT.sIx]
  |some i=>
   simp only [sliceBounds,HT.sIx,Option.getD_none,show (1:Int) > 0 by decide,if_true]
   by_cases h:i < 0
   .simp only [h,if_true] <;> omega
   .simp only [h,if_false] <;> omega
theorem qfv (its:List Value) (lo hi:Option Int):slicePick its.toArray lo hi none=((its.drop (HT.sIx its.length 0 lo)).take (HT.sIx its.length its.length hi - HT.sIx its.length 0 lo)).toArray:=by
 obtain⟨h1,h2,h3⟩:=slice_bounds lo hi its.toArray.size
 unfold slicePick
 rw [h1,h2,h3]
 simp only [sliceRange_one,pick_run,size_toArray] <;> rfl
def rSlL (K:Frag):V->Option Int->Option Int->Hp->VK->Prop:=fun x lo hi H Q=>∃a xs,x=.ref a/\SqL K H a xs/\∀p,H p=none->Q (.ref p) (upd H p (.lst (cutV xs lo hi)))
theorem sl_list:SlR X (rSlL X.K):=by
 intro pins s σ H x v vl vu lo hi sl Q I rx hs pl pu h
 obtain⟨a,xs,rfl,hx,q⟩:=h
 cases rx
 obtain⟨its,r,ht,hz⟩:=I.list hx
 have hlen:=r.length
 refine⟨"list",_,slot_list_getitem.lookup,ht.isList.typeIs,?_⟩
 refine wpAny_getItem_list_slice ht.isList hs pl pu .none (by simp) ?_ (by rw [size_toArray] <;> omega)
 rw [qfv,<-hlen]
 refine⟨.ref s.heap.objs.size,_,I.laid (t':=s.toks) (o:=.lst (cutV xs lo hi)) (fun b ob q=>Heap.get?_push_of_some _ q) (Nat.le_refl _) ?_,rfl,q _ (I.hok.fresh (Nat.le_refl _))⟩
 exact⟨Nat.le_trans (cutV_length xs lo hi) hz,_,0,(r.drop (HT.sIx xs.length 0 lo)).take (HT.sIx xs.length xs.length hi - HT.sIx xs.length 0 lo),Heap.get?_push_size _ rfl⟩
def qd0:V->Bool
 | .non=>true
 | .bl _=>true
 | .int _=>true
 | .str _=>true
 |_=>false
def eqV:V->V->Bool
 | .non,.non=>true
 | .bl a,.bl b=>a==b
 | .bl a,.int b=>(if a then 1 else 0)==b
 | .int a,.bl b=>a==(if b then 1 else 0)
 | .int a,.int b=>a==b
 | .str a,.str b=>a==b
 |_,_=>false
theorem eqAt_V {A:Around} {s:Shared} {y x:V} {u v:Value} (ry:qb7 y u) (rx:qb7 x v) (fy:qd0 y=true) (fx:qd0 x=true):SeqAt.EqAt A s u v (eqV y x):=by
 cases y with
 |non=>
  cases ry
  cases x with
  |non=>cases rx;exact SeqAt.EqAt.same _
  |bl b=>cases rx;exact SeqAt.EqAt.none_bool b
  |int b=>obtain⟨t,rfl⟩:=rx;exact SeqAt.EqAt.none_int b t
  |str b=>obtain⟨t,rfl⟩:=rx;exact SeqAt.EqAt.none_str b t
  |_=>exact absurd (show false=true from fx) Bool.false_ne_true
 |bl a=>
  cases ry
  cases x with
  |non=>cases rx;exact SeqAt.EqAt.bool_none a
  |bl b=>cases rx;exact SeqAt.EqAt.bool_bool a b
  |int b=>obtain⟨t,rfl⟩:=rx;exact SeqAt.EqAt.bool_int a b t
  |str b=>obtain⟨t,rfl⟩:=rx;exact SeqAt.EqAt.bool_str a b t
  |_=>exact absurd (show false=true from fx) Bool.false_ne_true
 |int a=>
  obtain⟨t',rfl⟩:=ry
  cases x with
  |non=>cases rx;exact SeqAt.EqAt.int_none a t'
  |bl b=>cases rx;exact SeqAt.EqAt.int_bool a t' b
  |int b=>obtain⟨t,rfl⟩:=rx;exact SeqAt.EqAt.int_int a t' b t
  |str b=>obtain⟨t,rfl⟩:=rx;exact SeqAt.EqAt.int_str a t' b t
  |_=>exact absurd (show false=true from fx) Bool.false_ne_true
 |str a=>
  obtain⟨t',rfl⟩:=ry
  cases x with
  |non=>cases rx;exact SeqAt.EqAt.str_none a t'
  |bl b=>cases rx;exact SeqAt.EqAt.str_bool a t' b
  |int b=>obtain⟨t,rfl⟩:=rx;exact SeqAt.EqAt.str_int a t' b t
  |str b=>obtain⟨t,rfl⟩:=rx;exact SeqAt.EqAt.str_str a t' b t
  |_=>exact absurd (show false=true from fx) Bool.false_ne_true
 |_=>exact absurd (show false=true from fy) Bool.false_ne_true
def eqU (x:V) (u:Value):Bool:=match u with
 | .none=>eqV .non x
 | .bool b=>eqV (.bl b) x
 | .int i _=>eqV (.int i) x
 | .str z _=>eqV (.str z) x
 |_=>false
theorem eqU_of {x y:V} {u:Value} (r:qb7 y u) (f:qd0 y=true):eqU x u=eqV y x:=by
 cases y with
 |non=>cases r;rfl
 |bl b=>cases r;rfl
 |int i=>obtain⟨t,rfl⟩:=r;rfl
 |str z=>obtain⟨t,rfl⟩:=r;rfl
 |_=>exact absurd (show false=true from f) Bool.false_ne_true
theorem qes {x:V}:∀{xs:List V} {us:List Value},qb5 xs us->xs.all qd0=true->us.any (eqU x)=xs.any fun y=>eqV y x
 |_,_,.nil,_=>rfl
 |y :: xs,u :: us,.cons r t,f=>by
  rw [all_cons,Bool.and_eq_true] at f
  rw [any_cons,any_cons,eqU_of r f.1,qes t f.2]
theorem qdt {A:Around} {s:Shared} {x:V} {v:Value} (rx:qb7 x v) (fx:qd0 x=true):∀{xs:List V} {us:List Value},qb5 xs us->xs.all qd0=true->∀u∈us,SeqAt.EqAt A s u v (eqU x u)
 |_,_,.nil,_=>fun u hu=>by cases hu
 |y :: xs,u :: us,.cons r t,f=>fun u' hu=>by
  rw [all_cons,Bool.and_eq_true] at f
  rcases mem_cons.mp hu with rfl|hu
  .rw [eqU_of r f.1];exact eqAt_V r rx f.1 fx
  .exact qdt rx fx t f.2 u' hu
def inV (x:V) (xs:List V):Bool:=xs.any fun y=>eqV y x
def rIn (K:Frag) (neg:Bool):R2:=fun x y H Q=>∃p xs,y=.ref p/\(SqL K H p xs\/SqT K H p xs)/\qd0 x=true/\xs.all qd0=true/\Q (.bl (if neg then !inV x xs else inV x xs)) H
theorem op_in_seq:OpR X (compareOp .In) (rIn X.K false):=by
 intro pins s σ H x y v u Q I rx ry h
 obtain⟨p,xs,rfl,hq,fx,fs,q⟩:=h
 cases ry
 rcases hq with hq|hq
 .obtain⟨its,r,pl,hz⟩:=I.list hq
  refine SeqAt.in_listAt (eqU x) pl.isList (fun w hw=>qdt rx fx r fs w (by simpa using hw)) ⟨.bl _,H,I,rfl,?_⟩
  rw [show its.toArray.any (eqU x)=its.any (eqU x) by simp,qes r fs]
  exact q
 .obtain⟨its,r,pl,hz⟩:=I.tuple hq
  refine SeqAt.in_tupleAt (eqU x) pl (fun w hw=>qdt rx fx r fs w (by simpa using hw)) ⟨.bl _,H,I,rfl,?_⟩
  rw [show its.toArray.any (eqU x)=its.any (eqU x) by simp,qes r fs]
  exact q
theorem qd5:OpR X (compareOp .NotIn) (rIn X.K true):=by
 intro pins s σ H x y v u Q I rx ry h
 obtain⟨p,xs,rfl,hq,fx,fs,q⟩:=h
 cases ry
 rcases hq with hq|hq
 .obtain⟨its,r,pl,hz⟩:=I.list hq
  refine SeqAt.notIn_listAt (eqU x) pl.isList (fun w hw=>qdt rx fx r fs w (by simpa using hw)) ⟨.bl _,H,I,rfl,?_⟩
  rw [show its.toArray.any (eqU x)=its.any (eqU x) by simp,qes r fs]
  exact q
 .obtain⟨its,r,pl,hz⟩:=I.tuple hq
  refine SeqAt.notIn_tupleAt (eqU x) pl (fun w hw=>qdt rx fx r fs w (by simpa using hw)) ⟨.bl _,H,I,rfl,?_⟩
  rw [show its.toArray.any (eqU x)=its.any (eqU x) by simp,qes r fs]
  exact q
theorem call_len_seq:qc3 X (.builtin "len") (fun xs H Q=>∃p ys,xs=[.ref p]/\(SqL X.K H p ys\/SqT X.K H p ys)/\Q (.int ys.length) H):=by
 intro pins s σ H xs us Q I r h
 obtain⟨p,ys,rfl,hq,q⟩:=h
 obtain⟨u,rfl,rx⟩:=vals1 r
 cases rx
 have hn:=line63
 rcases hq with hq|hq
 .obtain⟨its,r',pl,hz⟩:=I.list hq
  have hlen:=r'.length
  exact Calls.call_len_list pl.isList (by simp only [size_toArray] <;> omega) ⟨.int ys.length,H,I.tok _,⟨s.toks+1,by rw [size_toArray,hlen]⟩,q⟩
 .obtain⟨its,r',pl,hz⟩:=I.tuple hq
  have hlen:=r'.length
  exact len_tuple pl (by simp only [size_toArray] <;> omega) ⟨.int ys.length,H,I.tok _,⟨s.toks+1,by rw [size_toArray,hlen]⟩,q⟩
theorem call_len_str:qc3 X (.builtin "len") (fun xs H Q=>∃z,xs=[.str z]/\z.length<=sizeLine/\Q (.int z.length) H):=by
 intro pins s σ H xs us Q I r h
 obtain⟨z,rfl,hz,q⟩:=h
 obtain⟨u,rfl,t,rfl⟩:=vals1 r
 have hn:=line63
 exact len_str (by omega) ⟨.int z.length,H,I.tok _,⟨_,rfl⟩,q⟩
theorem call_list_of:qc3 X (.type "list") (fun xs H Q=>∃p ys,xs=[.ref p]/\(SqL X.K H p ys\/SqT X.K H p ys)/\∀l,H l=none->Q (.ref l) (upd H l (.lst ys))):=by
 intro pins s σ H xs us Q I r h
 obtain⟨p,ys,rfl,hq,q⟩:=h
 obtain⟨u,rfl,rx⟩:=vals1 r
 cases rx
 have fin:∀(its:List Value),qb5 ys its->ys.length<=sizeLine->∀(h':Heap) (c':Nat),(∀b o',s.heap.get? b=some o'->h'.get? b=some o')->
   h'.get? s.heap.objs.size=some {cls:=.type "list",dict:=none,data:=.seq its.toArray c',slots:=#[]}->EP X pins σ Q (.ref s.heap.objs.size) {s with heap:=h'}:=fun its r' hz h' c' kp e=>
  ⟨.ref s.heap.objs.size,_,I.laid (t':=s.toks) kp (Nat.le_refl _) (show qbf X.prog X.w _ h' _ (.lst ys) from⟨hz,its,c',r',e⟩),rfl,q _ (I.hok.fresh (Nat.le_refl _))⟩
 rcases hq with hq|hq
 .obtain⟨its,r',pl,hz⟩:=I.list hq
  have hlen:=r'.length
  obtain⟨o,ho,hc,n,hd⟩:=pl.isList
  exact call_list_seq p (.inl rfl) ho hc hd (fun h' c' kp e=>fin its r' hz h' c' kp e) (by simp only [size_toArray] <;> omega)
 .obtain⟨its,r',pl,hz⟩:=I.tuple hq
  have hlen:=r'.length
  obtain⟨o,ho,hc,n,hd⟩:=pl
  exact call_list_seq p (.inr rfl) ho hc hd (fun h' c' kp e=>fin its r' hz h' c' kp e) (by simp only [size_toArray] <;> omega)
theorem qg7:qc3 X (.type "tuple") (fun xs H Q=>∃p ys,xs=[.ref p]/\((SqL X.K H p ys/\∀l,H l=none->Q (.ref l) (upd H l (.tup ys)))\/(SqT X.K H p ys/\Q (.ref p) H))):=by
 intro pins s σ H xs us Q I r h
 obtain⟨p,ys,rfl,h⟩:=h
 obtain⟨u,rfl,rx⟩:=vals1 r
 cases rx
 rcases h with ⟨hq,q⟩ |⟨hq,q⟩
 .obtain⟨its,r',pl,hz⟩:=I.list hq
  have hlen:=r'.length
  refine call_tuple_list pl.isList (fun h' kp=>?_) (by simp only [size_toArray] <;> omega)
  have I1:Inv X pins σ H {s with heap:=h'}:=I.kept (t':=s.toks) kp
  have I2:Inv X pins σ (upd H h'.objs.size (.tup ys)) {s with heap:=h'.push {cls:=.type "tuple",data:=.seq its.toArray}}:=
   I1.laid (t':=s.toks) (fun b o e=>Heap.get?_push_of_some _ e) (Nat.le_refl _) (show qbf X.prog X.w _ _ _ (.tup ys) from⟨hz,its,r',IsTup.new _ _⟩)
  exact⟨.ref h'.objs.size,_,I2,rfl,q _ (I1.hok.fresh (Nat.le_refl _))⟩
 .obtain⟨its,r',pl,hz⟩:=I.tuple hq
  exact call_tuple_same pl ⟨.ref p,H,I,rfl,q⟩
def tyV (K:Frag) (T:String) (x:V) (H:Hp):Prop:=match x with
 | .str _=>T= "str"
 | .int _=>T= "int"
 | .ref p=>(T= "list"/\∃xs,SqL K H p xs)\/(T= "tuple"/\∃o,K.lookup p=some o/\o.cls=.type "tuple"/\o.dict=none)\/
   (T= "dict"/\((∃kvs,H p=some (.dK kvs))\/∃kvs,H p=some (.dT kvs)))\/(T= "set"/\∃S n,H p=some (.set S n))
 |_=>False
theorem tyV_is {pins:List (Addr × Obj)} {σ:St} {H:Hp} {s:Shared} {T:String} {x:V} {v:Value} (I:Inv X pins σ H s) (r:qb7 x v) (ty:tyV X.K T x H):
  s.TypeIs v T/\∀a,v=.ref a->∃ob,s.heap.get? a=some ob/\ob.dict=none:=by
 cases x with
 |str z=>
  obtain⟨t,rfl⟩:=r
  cases (show T= "str" from ty)
  exact⟨typeIs_str s z t,fun _ e=>nomatch e⟩
 |int i=>
  obtain⟨t,rfl⟩:=r
  cases (show T= "int" from ty)
  exact⟨typeIs_int s i t,fun _ e=>nomatch e⟩
 |ref p=>
  cases r
  rcases ty with ⟨rfl,xs,hq⟩ |⟨rfl,o,hk,hc,hd⟩ |⟨rfl,hk⟩ |⟨rfl,S,n,hk⟩
  .obtain⟨its,_,pl,_⟩:=I.list hq
   refine⟨pl.isList.typeIs,fun a e=>?_⟩
   cases e
   obtain⟨o,n,e,c,hd,_⟩:=pl
   exact⟨o,e,hd⟩
  .refine⟨⟨o,I.kIn p o hk,hc⟩,fun a e=>?_⟩
   cases e
   exact⟨o,I.kIn _ o hk,hd⟩
  .have z:∃o,s.heap.get? p=some o/\o.ExactDict:=by
    rcases hk with ⟨kvs,hk⟩ |⟨kvs,hk⟩
    .obtain⟨_,_,_,_,o,_,_,e,ex,_⟩:=I.hok p _ hk
     exact⟨o,e,ex⟩
    .obtain⟨_,_,_,_,o,_,_,e,ex,_⟩:=I.hok p _ hk
     exact⟨o,e,ex⟩
   obtain⟨o,e,ex⟩:=z
   refine⟨⟨o,e,ex.1⟩,fun a e2=>?_⟩
   cases e2
   exact⟨o,e,ex.2.1⟩
  .obtain⟨o,_,_,_,e,ex,_⟩:=I.hok p _ hk
   refine⟨⟨o,e,ex.1⟩,fun a e2=>?_⟩
   cases e2
   exact⟨o,e,ex.2.1⟩
 |_=>exact False.elim ty
def tBM0 (K:Frag) (T:String) (r:V->List V->Hp->VK->Prop) (to:TE):TE:=fun σ H Q=>to σ H fun x H1=>tyV K T x H1/\r x [] H1 Q
def tBM (K:Frag) (T:String) (r:V->List V->Hp->VK->Prop) (to:TE) (t:TA):TE:=fun σ H Q=>to σ H fun x H1=>tyV K T x H1/\t σ H1 fun xs H2=>r x xs H2 Q
variable {o e: Expr} {es: List Expr} {to: TE} {t: TA} {name: Str} {apos cpos: Pos} {T id: String} {r: V -> List V -> Hp -> VK -> Prop}
theorem pe_bm0 (pa:PlainAttrs T) (slot:Slot T name id) (hty:typeOf (.builtin id)=pure (.type "method_descriptor")) (hm:MtR X id r) (ho:PE X o to)
  (hbase:attributeBase o name X.env (eval o X.env)=eval o X.env:=by rfl) (hline:(apos.endLine==cpos.line)=true:=by rfl):PE X (.Call (.Attribute o name apos) [] [] cpos) (tBM0 X.K T r to):=by
 intro pins s σ H Q I h
 refine wpAny_Call_method0_late hbase hline (thn (ho pins s σ H _ I h) fun v s1 ⟨x,H1,I1,r1,ty,q1⟩=>?_)
 obtain⟨h1,h2⟩:=tyV_is I1 r1 ty
 exact⟨T,id,pa,slot,hty,h1,h2,Calls.callWith_builtin rfl (PySem.evalArgs_none (hm pins s1 σ H1 x [] v [] Q I1 r1 .nil q1))⟩
theorem qg1 (pa:PlainAttrs T) (slot:Slot T name id) (hty:typeOf (.builtin id)=pure (.type "method_descriptor")) (hm:MtR X id r) (ho:PE X o to) (ha:PA X (e :: es) t)
  (hbase:attributeBase o name X.env (eval o X.env)=eval o X.env:=by rfl)
  (hfew:((backTo cpos (starEach (e :: es) X.env)).all (fun x=>!x.1) && (backToKw cpos (keywordEach [] X.env)).all (fun x=>x.1.isSome)
   && decide ((e :: es).length+([]:List Keyword).length+(if ([]:List Keyword).isEmpty then 0 else 1) < 30))=true:=by rfl)
  (hline:(apos.endLine==cpos.line)=true:=by rfl) (hs:starEach (e :: es) X.env=(false,eval e X.env) :: starEach es X.env:=by rfl) (hplain:(backTo cpos (starEach es X.env)).any (·.1)=false:=by rfl):
  PE X (.Call (.Attribute o name apos) (e :: es) [] cpos) (tBM X.K T r to t):=by
 intro pins s σ H Q I h
 refine wpAny_Call_method_late hbase hfew hline rfl (thn (ho pins s σ H _ I h) fun v s1 ⟨x,H1,I1,r1,ty,q1⟩=>?_)
 obtain⟨h1,h2⟩:=tyV_is I1 r1 ty
 refine⟨T,id,pa,slot,hty,h1,h2,?_⟩
 have hA:=ha cpos pins s1 σ H1 _ I1 q1
 rw [hs] at hA ⊢
 refine Calls.callWith_builtin (by show (false ||(backTo cpos (starEach es X.env)).any (·.1))=false;rw [hplain] <;> rfl) (Calls.evalArgs_plain ?_)
 exact thn hA fun us s2 ⟨vs,H2,I2,r2,q2⟩=>hm pins s2 σ H2 x vs v us Q I2 r1 r2 q2
end
end L2
namespace L2
open PySem PySem.Spec PyProof.Rows
def MtM (X:Cx) (id:String) (r:V->List V->Hp->VK->Prop):Prop:=
 ∀(pins:List (Addr × Obj)) (s:Shared) (σ:St) (H:Hp) (x:V) (xs:List V) (v:Value) (us:List Value) (Q:VK),Inv X pins σ H s->qb7 x v->qb5 xs us->r x xs H Q->
  wpAny (model X.prog X.w) X.A (call (.builtin id) (v :: us)) (EP X pins σ Q) X.xe s
theorem qb5.one:∀{x:V} {us:List Value},qb5 [x] us->∃u,us=[u]/\qb7 x u
 |_,_,.cons r .nil=>⟨_,rfl,r⟩
theorem qb5.zero:∀{us:List Value},qb5 [] us->us=[]
 |_,.nil=>rfl
section
variable {X: Cx} {pins: List (Addr × Obj)} {σ: St} {H: Hp} {s: Shared} {l: Addr} {xs ys: List V}
theorem Inv.lset {its its':List Value} {n:Nat} {f:Array Value->Array Value} {t':Nat} (I:Inv X pins σ H s) (hH:H l=some (.lst xs))
  (e:s.heap.get? l=some {cls:=.type "list",data:=.seq its.toArray n}) (hf:f its.toArray=its'.toArray) (hv:qb5 ys its') (hz:ys.length<=sizeLine):
  Inv X pins σ (upd H l (.lst ys)) {s with heap:=s.heap.update l (Obj.mapSeq f),toks:=t'}:=by
 have q:=PySem.IsL.update e f
 rw [hf] at q
 refine I.write (x:=l) (e:=l) (by rw [hH];exact trivial) (.inl rfl) (fun b' u hb hu=>(Heap.get?_update_other s.heap (Obj.mapSeq f) (Ne.symm hb)).trans hu) ⟨_,q⟩ ?_
 exact⟨hz,its',_,hv,q⟩
theorem Inv.lnew {its:List Value} {t':Nat} (I:Inv X pins σ H s) (hv:qb5 ys its) (hz:ys.length<=sizeLine):
  Inv X pins σ (upd H s.heap.objs.size (.lst ys)) {s with heap:=s.heap.push {cls:=.type "list",data:=.seq its.toArray},toks:=t'}:=
 I.laid (fun _ _ q=>Heap.get?_push_of_some _ q) (Nat.le_refl _) ⟨hz,its,0,hv,Heap.get?_push_size _ rfl⟩
theorem Inv.fresh (I:Inv X pins σ H s):H s.heap.objs.size=none:=I.hok.fresh (Nat.le_refl _)
theorem Inv.lstM (I:Inv X pins σ H s) (hH:H l=some (.lst xs)):xs.length<=sizeLine/\∃(its:List Value) (n:Nat),qb5 xs its/\xs.length=its.length/\s.heap.get? l=some {cls:=.type "list",data:=.seq its.toArray n}:=by
 obtain⟨z,its,n,r,e⟩:=I.hok l _ hH
 exact⟨z,its,n,r,r.length,e⟩
theorem notLongL {n:Nat} (h:n<=sizeLine):Builtin.List.listTooLong n=false:=by
 unfold Builtin.List.listTooLong
 exact decide_eq_false (by omega)
end
section
variable {X: Cx}
def rAppend:V->List V->Hp->VK->Prop:=fun x vs H Q=>∃l xs y,x=.ref l/\vs=[y]/\H l=some (.lst xs)/\xs.length < sizeLine/\Q .non (upd H l (.lst (xs++ [y])))
theorem qbk:MtM X "list.append" rAppend:=by
 intro pins s σ H x vs v us Q I rx rv h
 obtain⟨l,xs,y,rfl,rfl,hH,hz,q⟩:=h
 cases rx
 obtain⟨u,rfl,ru⟩:=rv.one
 obtain⟨z,its,n,r,hl,e⟩:=I.lstM hH
 refine call_meets F.slot_list_append ⟨_,e,rfl⟩ F.entry_list_append (F.args_list_append_2 _ _) (PySem.list_append l its.toArray n u (by rw [size_toArray];omega)) ⟨e,?_⟩
 refine⟨.non,_,I.lset (its':=its++ [u]) hH e (by simp) (r.append (.cons ru .nil)) ?_,rfl,q⟩
 rw [length_append,length_singleton]
 omega
def rExtend:V->List V->Hp->VK->Prop:=fun x vs H Q=>∃l b xs zs,x=.ref l/\vs=[.ref b]/\H l=some (.lst xs)/\H b=some (.lst zs)/\xs.length+zs.length<=sizeLine/\Q .non (upd H l (.lst (xs++zs)))
theorem mt_extend:MtM X "list.extend" rExtend:=by
 intro pins s σ H x vs v us Q I rx rv h
 obtain⟨l,b,xs,zs,rfl,rfl,hH,hB,hz,q⟩:=h
 cases rx
 obtain⟨u,rfl,ru⟩:=rv.one
 cases ru
 obtain⟨z,its,n,r,hl,e⟩:=I.lstM hH
 obtain⟨z2,its2,n2,r2,hl2,e2⟩:=I.lstM hB
 have hsz:its.toArray.size+its2.toArray.size<=sizeLine:=by rw [size_toArray,size_toArray];omega
 have hlong:¬(!its.toArray.isEmpty && Builtin.List.listTooLong (its.toArray.size+its2.toArray.size))=true:=by
  rw [notLongL hsz,Bool.and_false]
  exact Bool.false_ne_true
 refine call_meets F.slot_list_extend ⟨_,e,rfl⟩ F.entry_list_extend (F.args_list_extend_2 _ _)
  (AutoSeq1.list_extend_list_list_0 l its.toArray n b its2.toArray n2 hlong (by rw [size_toArray];omega) (by omega)) ⟨e,e2,?_⟩
 refine⟨.non,_,I.lset (its':=its++its2) hH e (by simp) (r.append r2) ?_,rfl,q⟩
 rw [length_append]
 omega
def rCat:R2:=fun x y H Q=>∃l b xs zs,x=.ref l/\y=.ref b/\H l=some (.lst xs)/\H b=some (.lst zs)/\xs.length+zs.length<=sizeLine/\∀p,H p=none->Q (.ref p) (upd H p (.lst (xs++zs)))
theorem op_cat:OpR X (binaryOp .Add) rCat:=by
 intro pins s σ H x y v u Q I rx ry h
 obtain⟨l,b,xs,zs,rfl,rfl,hH,hB,hz,q⟩:=h
 cases rx
 cases ry
 obtain⟨z,its,n,r,hl,e⟩:=I.lstM hH
 obtain⟨z2,its2,n2,r2,hl2,e2⟩:=I.lstM hB
 refine PySem.P.add_list e e2 ?_ (by rw [size_toArray,size_toArray];omega)
 have ea:its.toArray++its2.toArray=(its++its2).toArray:=by simp
 rw [ea]
 exact⟨.ref _,_,I.lnew (t':=s.toks) (r.append r2) (by rw [length_append];omega),rfl,q _ I.fresh⟩
def rRep:R2:=fun x y H Q=>∃l k xs,x=.ref l/\y=.int k/\H l=some (.lst xs)/\-(2^63)<=k/\k < 2^63/\xs.length*k.toNat<=sizeLine/\
 ∀p,H p=none->Q (.ref p) (upd H p (.lst (List.replicate k.toNat xs).flatten))
end
end L2
namespace Att
open PySem PySem.W PySem.Calls PyProof.Rows
theorem qep {P:Params} {h:Heap}:∀(ns:List Int) (vs:List Value),WellAll P h vs (ns.map WData.int)->IntsAre vs ns:=by
 intro ns
 induction ns with
 |nil=>
  intro vs w
  rw [List.map_nil] at w
  cases w
  exact .nil
 |cons n ns ih=>
  intro vs w
  rw [map_cons] at w
  cases w with
  |cons a b=>
   cases a
   exact .cons _ _ (ih _ b)
theorem script_of {l:OpenLaw} {n:Nat} (hn:l.most=some n) {P:Params} {h:Heap} {args:List WData} {vals:List Value}
  (hpre:l.row.toRowW.claim.pre args=true) (hwl:WellAll P h vals args):
  ∃a vs ns,vals=[Value.ref a]/\args=[WData.list (ns.map WData.int)]/\h.get? a=some {cls:=.type "list",data:=.seq vs.toArray}/\IntsAre vs ns/\ns.length<=n:=by
 have hsh:WShape.hasAll [] args [.list .int]=true:=(pre_splitW hpre).1
 have hc:l.pre.holds [] {args:=args}=true:=(pre_splitW hpre).2
 obtain⟨d,r,rfl,h1,h2⟩:=hasAllW_cons hsh
 obtain rfl:=hasAllW_nil h2
 obtain⟨xs,rfl,h3⟩:=hasW_list h1
 obtain⟨ns,rfl⟩:=items_int h3
 have hlen:ns.length<=n:=by
  unfold OpenLaw.pre at hc
  have h4:(WTm.not (.lt (.lit (.int (n:Int))) (.len (.arg 0)))).holds [] {args:=[.list (ns.map .int)]}=true:=by
   have h4:=(holds_andW hc).1
   rw [hn] at h4
   exact h4
  have h5:=condW_of h4 (w_not (w_lt w_lit (w_len_list (w_arg rfl))))
  rw [length_map] at h5
  refine Nat.le_of_not_lt fun q=>?_
  have q':(n:Int) <((ns.length:Nat):Int):=by omega
  first
   |(rw [decide_eq_true q'] at h5;exact absurd h5 (by decide))
   |(simp at h5;omega)
 cases hwl with
 |cons w1 w2=>
  cases w2
  cases w1 with
  |list ho hall=>exact⟨_,_,ns,rfl,rfl,ho,qep ns _ hall,hlen⟩
theorem post_true (l:OpenLaw) (args:List WData):l.row.toRowW.claim.post args (.bool true) args=true:=
 postW_of (r:=l.row.toRowW) (X:=(true==true))
  (show WShape.has [] (.bool true) .bool=true by first|rfl|decide|simp [WShape.has,WShape.arms,WShape.armsAll])
  (show (WTm.eq .res (.lit (.bool true))).value [] {args:=args,res:=some (.bool true),after:=args}=some (.bool (true==true)) from w_eq_bool (w_res rfl) w_lit) rfl
theorem attach_call {l:OpenLaw} {n:Nat} {q:Program} {loose:List Str} {XP:(Str->Option Value)->Heap->Prop} {YP:World->Heap->Prop} {d:DefRec}
  (hn:l.most=some n) (hdf:d.params.defaults=[])
  (call:∀(w:World) (s₀ s₁:Shared) (mg mb:Str->Option Value) (fa:Addr) (o:Obj) (pm cd doc:Value) (a:Addr) (vs:List Value) (ns:List Int),
   Ground q loose [] XP w s₀ mg mb s₁.heap->YP w s₁.heap->
   s₁.heap.get? fa=some o->o.data=.func (docDef d.name d.params d.body d.scope pm cd doc)->s₁.heap.CodeRec cd d.name->mg d.name=some (.ref fa)->
   s₁.heap.get? a=some {cls:=.type "list",data:=.seq vs.toArray}->IntsAre vs ns->ns.length<=n->s₁.gens= #[]->
   codeAny (model l.prog w) callerA (.call (.ref fa) ⟨[.ref a], []⟩) (fun r s'=>r=.ok (.ret (.bool true))/\OldK s₁.heap s'.heap/\s'.os=s₁.os/\AllBare s'.gens) s₁):
  WalkO q loose XP YP l.row.toRowW d [] (fun f vs=>PySem.call f vs):=by
 intro w s₀ s₁ mg mb G Y fa o pm cd doc dV kV ho hd hcd hD hmg hg args vals as hpre hlay hrd hwl hlo
 obtain rfl:dV=.none:=Dflts.none hD hdf
 obtain rfl:kV=.none:=Dflts.noKw hD
 obtain⟨a,vs,ns,rfl,rfl,hobj,hints,hlen⟩:=script_of hn hpre hwl
 refine enter_call (codeAny_mono (call w s₀ s₁ mg mb fa o pm cd doc a vs ns G Y ho (fd_plain hd) hcd hmg hobj hints hlen hg) fun r s' hq=>?_)
 obtain⟨rfl,h2,h3,h4⟩:=hq
 exact⟨.inl ⟨.bool true,.bool true, [],rfl,fun _=>rfl,.bool true,post_true l _,fun _=>⟨List.Pairwise.nil,fun _ hm=>(nomatch hm)⟩⟩,h2,h3,h4⟩
end Att
namespace L2
open PySem PySem.Spec PyProof.Rows
theorem vals_ints:∀{vs:List Value} {ns:List Int},IntsAre vs ns->qb5 (ns.map V.int) vs
 |_,_,.nil=> .nil
 |_,_,.cons n t h=> .cons ⟨t,rfl⟩ (vals_ints h)
def Only (H:Hp):Prop:=∀b,H b=none\/∃o xs,H b=some (.frz o (.lst xs))
theorem law_call {P:Program} {w:World} {K:Frag} {mg mb:Str->Option Value} {CX:CXT} {k:Nat} {fa a:Addr} {fd:FuncData} {x:Str} {sp:Sp} {s₁:Shared} {vs:List Value} {ns:List Int}
  (KX:K.In s₁.heap) (hns:s₁.heap.Ns mainGlobals mg) (hb:s₁.heap.Ns builtinsNs mb) (hbb:∀x:Str,x≠"__name__"->mb x=bootBuiltins x) (hlim:s₁.heap.NoLimit) (hg:s₁.gens= #[])
  (ha:s₁.heap.get? a=some {cls:=.type "list",data:=.seq vs.toArray}) (hi:IntsAre vs ns) (hl:ns.length<=sizeLine) (hr:Room k callerA)
  (F:∀base:Heap,K.In base->base.Ns mainGlobals mg->FnOk P w K mg base CX k fa fd [x] sp) (hbind:∀(s:Shared) (u:Value),BindsTo s fd ⟨[u], []⟩ [(x,u)])
  (hsp:∀H:Hp,Only H->SqL K H a (ns.map V.int)->sp [.ref a] H (fun v _=>v=.bl true) fun _ _ _=>False)
  (hCX:∀H e s',CX [] H s₁ (fun _ _ _=>False) e s'->False):
  codeAny (model P w) callerA (.call (.ref fa) ⟨[.ref a], []⟩) (fun r s'=>r=.ok (.ret (.bool true))/\OldK s₁.heap s'.heap/\s'.os=s₁.os/\AllBare s'.gens) s₁:=by
 have rv:=vals_ints hi
 have lenV:=hi.length
 have core:∀H:Hp,Only H->SqL K H a (ns.map V.int)->HOk P w H s₁.heap->(∀b,H b≠none->b=a)->(H a≠none->K.lookup a=none)->
   codeAny (model P w) callerA (.call (.ref fa) ⟨[.ref a], []⟩) (fun r s'=>r=.ok (.ret (.bool true))/\OldK s₁.heap s'.heap/\s'.os=s₁.os/\AllBare s'.gens) s₁:=by
  intro H hO hS hok hA hK
  have base_of:∀{b:Addr} {o:Obj},s₁.heap.get? b=some o->H b=none->(hidT s₁.heap H).get? b=some o:=fun e n=>hidT_get e n
  have noA:∀{b:Addr} {o:Obj} {es:Array DictEntry} {ep:Nat},s₁.heap.get? b=some o->o.data=.dict es ep->H b=none:=fun {b o es ep} e d=>by
   cases q:H b with
   |none=>rfl
   |some u=>
    have e':b=a:=hA b (by rw [q];simp)
    subst e'
    rw [ha] at e;cases e
    have d':Data.seq vs.toArray _=Data.dict es ep:=d
    cases d'
  have nsK:∀{b:Addr} {m:Str->Option Value},s₁.heap.Ns b m->(hidT s₁.heap H).Ns b m:=fun {b m} ⟨o,es,ep,e,d,r⟩=>⟨o,es,ep,base_of e (noA e d),d,r⟩
  have hKb:K.In (hidT s₁.heap H):=fun b o e=>base_of (KX b o e) (by
   cases q:H b with
   |none=>rfl
   |some u=>
    have e':b=a:=hA b (by rw [q];simp)
    subst e'
    rw [hK (by rw [q];simp)] at e;cases e)
  have hM:Mod K mg (hidT s₁.heap H):=⟨hKb,nsK hns,⟨mb,nsK hb,hbb⟩,let ⟨mc,h1,h2⟩:=hlim;⟨mc,nsK h1,h2⟩⟩
  have e0:Env0 P w K mg (hidT s₁.heap H) callerA [] s₁ H:=⟨rfl,hM,fun b o e=>of_hidT e,Nat.le_of_eq (hidT_size _ _),trivial,fun b hb=>absurd (show b∈([]:List Addr) from hb) (by simp),hok,.of_eq hg⟩
  refine codeAny_mono ((F _ hKb (nsK hns)).run callerA [] s₁ H ⟨[.ref a], []⟩ [.ref a] [.ref a] _ _ hr e0 (hbind s₁ (.ref a)) (.cons rfl .nil) (hsp H hO hS)) fun r s' h=>?_
  cases r with
  |error e=>exact(hCX H e s' h).elim
  |ok fl=>
   cases fl with
   |next=>exact False.elim h
   |brk=>exact False.elim h
   |cont=>exact False.elim h
   |ret u=>
    obtain⟨v,H',os,bare,un,hok',r',q⟩:=h
    have q':v=.bl true:=q
    subst q'
    obtain rfl:u=Value.bool true:=r'
    refine⟨rfl,OldK.of_keep fun b o e=>?_,os,bare⟩
    cases q:H b with
    |none=>exact un.keep b o e q (by intro z;exact absurd (show b∈([]:List Addr) from z) (by simp)) (by simp)
    |some u=>
     rcases hO b with z|⟨ob,xs,z⟩
     .rw [q] at z;cases z
     .have z2:=un.frzs b ob _ z
      obtain⟨e1,_⟩:=hok b _ z
      obtain⟨e2,_⟩:=hok' b _ z2
      rw [e] at e1;cases e1
      exact e2
 cases hk:K.lookup a with
 |some o=>
  have e:=KX a o hk
  rw [ha] at e
  cases e
  refine core (fun _=>none) (fun _=> .inl rfl) (.inr ⟨_,vs.toArray,_,hk,rfl,rfl,rfl,by rw [size_toArray,lenV];exact hl,by simpa using rv⟩) (fun b u z=>by have z':(none:Option HO)=some u:=z;cases z') (fun b z=>absurd rfl z) fun z=>absurd rfl z
 |none=>
  refine core (fun b=>if b=a then some (.frz {cls:=.type "list",data:=.seq vs.toArray} (.lst (ns.map V.int))) else none) (fun b=>?_) (.inl (.inr ⟨{cls:=.type "list",data:=.seq vs.toArray},if_pos rfl⟩)) (fun b u z=>?_) (fun b z=>?_) fun _=>hk
  .by_cases hb:b=a
   .exact .inr ⟨_,_,if_pos hb⟩
   .exact .inl (if_neg hb)
  .by_cases hb:b=a
   .have z':=(if_pos hb).symm.trans z
    cases z'
    subst hb
    exact⟨ha,by rw [length_map];exact hl,vs,_,rv,ha⟩
   .have z':=(if_neg hb).symm.trans z
    cases z'
  .by_cases hb:b=a
   .exact hb
   .exact absurd (if_neg hb) z
end L2
namespace L2
open PySem PySem.Spec PyProof.Rows
theorem walk_of {l:PySem.W.OpenLaw} {n k:Nat} {q:Program} {loose:List Str} {XP:(Str->Option Value)->Heap->Prop} {YP:World->Heap->Prop} {d:DefRec} {K:Params->Frag} {CX:World->CXT} {sp:World->Sp} {x:Str}
  (hn:l.most=some n) (hn2:n<=sizeLine) (hdf:d.params.defaults=[]) (hr:Room k callerA)
  (hY:∀(w:World) (h:Heap),YP w h->(K w.params).In h)
  (F:∀(w:World) (mg:Str->Option Value) (fa:Addr) (h:Heap),(K w.params).In h->h.Ns mainGlobals mg->mg d.name=some (.ref fa)->
   ∃fd:FuncData,(∀(s:Shared) (u:Value),BindsTo s fd ⟨[u], []⟩ [(x,u)])/\
    ∀base:Heap,(K w.params).In base->base.Ns mainGlobals mg->FnOk l.prog w (K w.params) mg base (CX w) k fa fd [x] (sp w))
  (hsp:∀(w:World) (H:Hp) (a:Addr) (ns:List Int),ns.length<=n->Only H->SqL (K w.params) H a (ns.map V.int)->sp w [.ref a] H (fun v _=>v=.bl true) fun _ _ _=>False)
  (hCX:∀(w:World) (H:Hp) (s:Shared) (e:Value) (s':Shared),CX w [] H s (fun _ _ _=>False) e s'->False):
  PySem.W.WalkO q loose XP YP l.row.toRowW d [] (fun f vs=>PySem.call f vs):=by
 refine Att.attach_call hn hdf fun w s₀ s₁ mg mb fa o pm cd doc a vs ns G Y ho hd hcd hmg hobj hints hlen hg=>?_
 have KX:=hY w _ Y
 obtain⟨fd,hb,hF⟩:=F w mg fa _ KX G.T.g hmg
 exact law_call KX G.T.g G.T.b G.T.builtins G.T.nolimit hg hobj hints (Nat.le_trans hlen hn2) hr hF hb (fun H hO hS=>hsp w H a ns hlen hO hS) fun H e s'=>hCX w H s₁ e s'
end L2
namespace L2
open PySem PySem.Spec PyProof.Rows
def qcd (s:Stmt):Arguments:=match s with
 | .FunctionDef _ a _ _ _ _ _ _ _ _=>a
 |_=>{posonlyargs:=[],args:=[],vararg:=none,kwonlyargs:=[],kw_defaults:=[],kwarg:=none,defaults:=[]}
def qbw (s:Stmt):List Stmt:=match s with
 | .FunctionDef _ _ b _ _ _ _ _ _ _=>b
 |_=> []
def qaa (s:Stmt):Scope:=match s with
 | .FunctionDef _ _ _ _ _ _ sc _ _ _=>sc
 |_=>{kind:=.function,names:=[],isGenerator:=false,isCoroutine:=false}
abbrev CX0:CXT:=fun _ _ _ _ _ _=>False
abbrev E0:XK:=fun _ _ _=>False
theorem qaw {X:Cx}:qeu CX0 X E0:=fun _ _ _ _ _ _ _ h=>h.elim
structure Fun (K:Frag) (x qual:Str) (st:Stmt) (f:Addr) (fd:FuncData):Prop where
 ex:∃(oc:Value) (od:Option Addr) (kV doc pm:Value) (an:Option Addr) (cdv ct:Value) (osl:Array (Option Value)),
  fd=fnOf x qual (qcd st) (qbw st) (qaa st) .none kV doc pm an cdv ct/\K.lookup f=some ⟨oc,od,.func fd,osl⟩/\codeIn K cdv qual=true
 kp:keepIn K (.ref f)=true
section
variable {P: Program} {w: World} {K: Frag} {mg: Str -> Option Value} {base: Heap}
theorem Fun.ok {x qual:Str} {st:Stmt} {f:Addr} {fd:FuncData} {N ps:List Str} {k:Nat} {sp:Sp} (F:Fun K x qual st f fd) (S:FnScope N ps (qaa st)) (len:∀vs H Q E,sp vs H Q E->vs.length=ps.length)
  (hbody:∀(cdv:Value) (A:Around) (outer:List Env) (s:Shared) (H:Hp) (vs:List V) (Q:VK) (E:XK),Room k (A.deeper (envOfC qual (qaa st) s.heap.objs.size f cdv))->sp vs H Q E->
   ∃t,PSs (cxOf CX0 P w K mg base N qual (qaa st) f cdv A outer s H E).nox (qbw st) t/\t {nx:=fun _ H'=>Q .non H',rt:=Q} (qe7 N vs) H):FnOk P w K mg base CX0 (k+1) f fd ps sp:=by
 obtain⟨oc,od,kV,doc,pm,an,cdv,ct,osl,rfl,lk,hcd⟩:=F.ex
 refine fn_of lk hcd S len fun A outer s H vs Q E hr hsp=>?_
 obtain⟨t,h,q⟩:=hbody cdv A outer s H vs Q E hr hsp
 exact⟨t,h.nox,q⟩
theorem Fun.binds {x qual:Str} {st:Stmt} {f:Addr} {fd:FuncData} {ps:List Str} (F:Fun K x qual st f fd)
  (h:∀(kV doc pm:Value) (an:Option Addr) (cdv ct:Value) (us:List Value),us.length=ps.length->bindArgs (fnOf x qual (qcd st) (qbw st) (qaa st) .none kV doc pm an cdv ct) ⟨us, []⟩=pure (ps.zip us)):qao K fd ps []:=by
 obtain⟨oc,od,kV,doc,pm,an,cdv,ct,osl,rfl,lk,hcd⟩:=F.ex
 exact .all (h kV doc pm an cdv ct)
theorem fun_mk {x qual:Str} {st:Stmt} {f:Addr} {oc:Value} {od an:Option Addr} {osl:Array (Option Value)} {kV doc pm cdv ct:Value} (l:K.lookup f=some ⟨oc,od,.func (fnOf x qual (qcd st) (qbw st) (qaa st) .none kV doc pm an cdv ct),osl⟩)
  (c:codeIn K cdv qual=true) (k:keepIn K (.ref f)=true):Fun K x qual st f (fnOf x qual (qcd st) (qbw st) (qaa st) .none kV doc pm an cdv ct):=⟨⟨oc,od,kV,doc,pm,an,cdv,ct,osl,rfl,l,c⟩,k⟩
end
theorem qcc {A:Around} {k:Nat} (hr:Room k A):A.units+1 < cLine:=Nat.lt_of_le_of_lt (Nat.add_le_add_left (by decide:1<=64) _) hr.units
section
variable {X: Cx}
theorem pv (i:Nat) {x:Str} {pos:Pos} (hN:X.N[i]?=some x:=by rfl) (hv:Vis X.env.scope x:=by first|exact Or.inl rfl|exact Or.inr (Or.inl rfl) |exact Or.inr (Or.inr rfl)) (hd:(x==("__debug__" :Str))=false:=by decide)
  (hcd:(x==("__classdict__" :Str))=false:=by decide):PE X (.Name x pos) (tVar i):=pe_var hN hv hd hcd
end
theorem iteF {A B:Prop} (h:B):if false=true then A else B:=by
 rw [if_neg Bool.false_ne_true]
 exact h
theorem iteT {A B:Prop} (h:A):if true=true then A else B:=by
 rw [if_pos rfl]
 exact h
def qb0 (H H':Hp):Prop:=∀b o,H b=some o->H' b=some o
theorem qb0.refl (H:Hp):qb0 H H:=fun _ _ h=>h
theorem qb0.trans {H H1 H2:Hp} (a:qb0 H H1) (b:qb0 H1 H2):qb0 H H2:=fun c o h=>b c o (a c o h)
theorem qb0.free {H H':Hp} (e:qb0 H H') {l:Addr} (h:H' l=Option.none):H l=Option.none:=by
 cases q:H l with
 |none=>rfl
 |some o=>
  rw [e l o q] at h
  cases h
theorem qb0.seq {K:Frag} {H H':Hp} {a:Addr} {xs:List V} (e:qb0 H H') (h:SqL K H a xs):SqL K H' a xs:=by
 rcases h with (h|⟨o,h⟩) |h
 .exact .inl (.inl (e _ _ h))
 .exact .inl (.inr ⟨o,e _ _ h⟩)
 .exact .inr h
end L2
namespace My
open PySem PySem.Spec PyProof.Rows L2
section
variable {X: Cx}
theorem bits600 {k:Int} (h:k.natAbs < 2^600):Builtin.Int.intBits k<=2^20:=
 Nat.le_trans (PyProof.Rows.intBits_le (k:=600) h) (by decide)
def CBig (i j:Int):Prop:=i.natAbs < 2^600/\j.natAbs < 2^600
theorem qca:OpR X (binaryOp .Mult) (rI CBig fun i j=> .int (i*j)):=opI fun _ _ _ _ _ _ _ hc q=>mul_int q (IntMulOk.of_bits (bits600 hc.1) (bits600 hc.2))
def CDivB (i j:Int):Prop:=j≠0/\j.natAbs < 2^600
theorem noPy {x y:Int} (h:y.natAbs < 2^600):Builtin.divisionGoesByPylong x y=false:=by
 refine PyProof.noPylong_of_log2 ?_
 by_cases h0:y.natAbs=0
 .rw [h0];decide+kernel
 .have h30:y.natAbs.log2 < 600:=(Nat.log2_lt h0).mpr h
  omega
theorem qbh:OpR X (binaryOp .FloorDiv) (rI CDivB fun i j=> .int (i.fdiv j)):=opI fun _ _ _ _ _ _ _ hc q=>floordiv_int hc.1 q (.inl (noPy hc.2))
end
theorem qa7 {H:Hp} {p:Addr} (h:H p=none) (o:HO):qb0 H (upd H p o):=fun b u q=>by rw [qa6 (qa4 q h)];exact q
def cell (ns:List Int) (k:Int):Int:=(ns[k.toNat]?).getD 0
theorem qg6 {ns:List Int} {k:Int} (h0:0<=k) (h:k <(ns.length:Int)):atI (ns.map V.int) k=some (.int (cell ns k)):=by
 have hk:k.toNat < ns.length:=by omega
 have ek:k=((k.toNat:Nat):Int):=by omega
 have q:atI (ns.map V.int) ((k.toNat:Nat):Int)=some (.int ns[k.toNat]):=qat (by rw [getElem?_map,getElem?_eq_getElem hk] <;> rfl)
 rw [<-ek] at q
 rw [q]
 unfold cell
 rw [getElem?_eq_getElem hk]
 rfl
theorem cell_out {ns:List Int} {k:Int} (h:¬k <(ns.length:Int)) (h0:0<=k):cell ns k=0:=by
 unfold cell
 rw [List.getElem?_eq_none (by omega)]
 rfl
end My
namespace My
open PySem PySem.Spec PyProof.Rows L2
end My
set_option maxHeartbeats 1000000
namespace My
open PySem PySem.Spec PyProof.Rows L2
section
variable {X: Cx} {pins: List (Addr × Obj)} {σ: L2.St} {H: Hp} {s: Shared} {h': Heap}
structure Rec (X:Cx) (pins:List (Addr × Obj)) (H:Hp) (h:Heap) (b:Addr):Prop where
 nw:X.s₀.heap.get? b=none
 un:H b=none
 pin:∀p∈X.pn++pins,p.1≠b
 ob:∃o vs,h.get? b=some o/\o.data=.fields vs
theorem Rec.loc (I:Inv X pins σ H s) {b:Addr} (r:Rec X pins H s.heap b):b≠X.env.locals:=fun z=>by
 obtain⟨o,vs,e,d⟩:=r.ob
 obtain⟨m,⟨o',es,ep,e',d',_⟩,_⟩:=I.loc
 rw [z,e'] at e;cases e;rw [d'] at d;cases d
theorem Rec.cel (I:Inv X pins σ H s) {b:Addr} (r:Rec X pins H s.heap b):∀x c,X.env.cells.lookup x=some c->c≠b:=fun x c hc z=>by
 obtain⟨o,vs,e,d⟩:=r.ob
 obtain⟨v,o',e',d'⟩:=I.cell x c hc
 rw [z,e] at e';cases e';rw [d] at d';cases d'
theorem Rec.frs (I:Inv X pins σ H s) {b:Addr} (r:Rec X pins H s.heap b):b∉frs X.stack:=fun z=>by
 obtain⟨o,vs,e,d⟩:=r.ob
 obtain⟨_,o',e',d'⟩:=I.stack.mem z
 rw [e] at e';cases e';exact d' vs d
theorem Inv.marks {ch:List Addr} {t':Nat} (I:Inv X pins σ H s) (hch:∀b∈ch,Rec X pins H s.heap b)
  (k1:∀b o,b∉frs X.stack->b∉ch->s.heap.get? b=some o->h'.get? b=some o)
  (k2:∀b o,b∉ch->s.heap.get? b=some o->∃sl,h'.get? b=some {o with slots:=sl}):Inv X pins σ H {s with heap:=h',toks:=t'}:=by
 have sub:∀b,b≠X.env.locals->b∉X.fs->b∉frs X.stack:=fun b h1 h2 z=>(mem_cons.mp (I.stkSub b z)).elim h1 h2
 have neL:∀b o,X.s₀.heap.get? b=some o->b≠X.env.locals:=fun b o e=>Nat.ne_of_lt (Nat.lt_of_lt_of_le (Heap.lt_size e) I.ok.above)
 have neC:∀b o,X.s₀.heap.get? b=some o->b∉ch:=fun b o e z=>by rw [(hch b z).nw] at e;cases e
 have cel:∀x c,X.env.cells.lookup x=some c->∀v,s.heap.IsCell c v->h'.IsCell c v:=fun x c e v ⟨o,ho,hd⟩=>by
  obtain⟨sl,q⟩:=k2 c o (fun z=>(hch c z).cel I x c e rfl) ho
  exact⟨_,q,hd⟩
 refine⟨I.ok,I.os,I.bare,⟨fun b o e n hb hx=>k1 b o (sub b (neL b o e) hb) (neC b o e) (I.base.keep b o e n hb hx),fun b o e n hb hx=>?_,I.base.free,fun b o e hx=>?_,I.base.tups,I.base.frzs,I.base.tbls⟩,
  ?_,fun x c e=>?_,I.free,I.freeC,fun p hp=>?_,fun a o e=>?_,I.len⟩
 .obtain⟨sl,e1⟩:=I.base.slot b o e n hb hx
  obtain⟨sl',e2⟩:=k2 b _ (neC b o e) e1
  exact⟨sl',e2⟩
 .obtain⟨o',e1⟩:=I.base.there b o e hx
  obtain⟨sl',e2⟩:=k2 b _ (neC b o e) e1
  exact⟨_,e2⟩
 .obtain⟨m,hm,hl⟩:=I.loc
  have hm':h'.Ns X.env.locals m:=by
   obtain⟨o,es,ep,e,r⟩:=hm
   obtain⟨sl,q⟩:=k2 _ o (fun z=>(hch _ z).loc I rfl) e
   exact⟨_,es,ep,q,r⟩
  refine⟨m,hm',fun i x v e1 e2 e3=>?_⟩
  obtain⟨u,r,l⟩:=hl i x v e1 e2 e3
  refine⟨u,r,?_⟩
  rcases l with l|⟨k,c,e,z⟩
  .exact .inl l
  .exact .inr ⟨k,c,e,cel x c e _ z⟩
 .obtain⟨v,z⟩:=I.cell x c e
  exact⟨v,cel x c e v z⟩
 .obtain⟨e,n,ne,nf,d⟩:=I.pin p hp
  exact⟨k1 p.1 p.2 (sub p.1 ne nf) (fun z=>(hch p.1 z).pin p hp rfl) e,n,ne,nf,d⟩
 .refine(I.hok a o e).stay (fun b u hb q=>k1 b u ?_ ?_ q) (fun _ q=>q) fun _ _ q=>q
  .intro z
   have n:=I.stkFree b z
   rcases hb with rfl|hb
   .rw [n] at e;cases e
   .rw [n] at hb;cases hb
  .intro z
   have n:=(hch b z).un
   rcases hb with rfl|hb
   .rw [n] at e;cases e
   .rw [n] at hb;cases hb
theorem obj_there {P:Program} {w:World} {H:Hp} {h:Heap} {a:Addr} {o:HO} (x:qbf P w H h a o):∃ob,h.get? a=some ob:=by
 cases o with
 |lst xs=>obtain⟨_,_,_,_,e⟩:=x;exact⟨_,e⟩
 |tup xs=>obtain⟨_,_,_,ob,e,_⟩:=x;exact⟨_,e⟩
 |dK kvs=>obtain⟨_,_,_,_,o,_,_,e,_⟩:=x;exact⟨_,e⟩
 |dT kvs=>obtain⟨_,_,_,_,o,_,_,e,_⟩:=x;exact⟨_,e⟩
 |set S n=>obtain⟨o,_,_,_,e,_⟩:=x;exact⟨_,e⟩
 |ins C dx fs=>obtain⟨_,_,_,e,_⟩:=x;exact⟨_,e⟩
 |own y=>exact x
 |xd fs=>obtain⟨_,⟨_,_,_,e,_⟩,_⟩:=x;exact⟨_,e⟩
 |rng lo hi=>obtain⟨_,_,_,e⟩:=x;exact⟨_,e⟩
 |frz ob u=>obtain⟨e,_⟩:=x;exact⟨_,e⟩
 |tbl ps=>exact⟨_,(show h.get? a=some _ from x)⟩
 |met f y=>exact⟨_,(show h.get? a=some _ from x)⟩
 |ext φ=>obtain⟨_,e,_⟩:=x;exact e
theorem un_of {P:Program} {w:World} {H:Hp} {h:Heap} {a:Addr} (x:HOk P w H h) (e:h.get? a=none):H a=none:=by
 cases q:H a with
 |none=>rfl
 |some o=>obtain⟨ob,z⟩:=obj_there (x a o q);rw [e] at z;cases z
theorem qf8 (I:Inv X pins σ H s) (hex:X.ex=[]) {b:Addr} (e:s.heap.get? b=none):X.s₀.heap.get? b=none:=by
 cases q:X.s₀.heap.get? b with
 |none=>rfl
 |some o=>obtain⟨o',z⟩:=I.base.there b o q (by rw [hex];simp);rw [e] at z;cases z
def XNew (h:Heap) (e:Addr) (C:Value) (d:Option Addr):Prop:=
 ∃oe vs,h.get? e=some oe/\oe.cls=C/\oe.dict=d/\oe.data=.fields vs/\vs[1]?=some .none
def XTr (h:Heap) (e:Addr) (C:Value) (d:Option Addr) (fl:Value) (T:Addr):Prop:=
 ∃oe vs oT ts,h.get? e=some oe/\oe.cls=C/\oe.dict=d/\oe.data=.fields vs/\vs[1]?=some (.ref T)/\T≠e/\h.get? T=some oT/\oT.data=.fields ts/\ts[3]?=some fl
def XIn (X:Cx) (pins:List (Addr × Obj)) (H:Hp) (h:Heap) (e:Addr) (C:Value) (d:Option Addr):Prop:=
 Rec X pins H h e/\(XNew h e C d\/∃T,Rec X pins H h T/\∃fl,XTr h e C d fl T)
def qea (X:Cx) (pins:List (Addr × Obj)) (H:Hp) (h:Heap) (e:Addr) (C:Value) (d:Option Addr) (fl:Value):Prop:=
 Rec X pins H h e/\∃T,Rec X pins H h T/\XTr h e C d fl T
theorem dict_mapF (f:Array Value->Array Value) (o:Obj):(o.mapFields f).dict=o.dict:=by
 obtain⟨c,d,dt,sl⟩:=o
 cases dt <;> rfl
theorem entry_x {M:Model} {A:Around} {E:Value->Shared->Prop} {e:Addr} {C:Value} {d:Option Addr} {head:Value} {hadNext:Bool} {Q:Unit->Shared->Prop}
  (I:Inv X pins σ H s) (hA:A.frames=some X.stack) (hst:X.stack=X.env :: X.outer) (hf:X.env.frame=some X.env.locals) (r:Rec X pins H s.heap e)
  (ho:∃oe vs,s.heap.get? e=some oe/\oe.cls=C/\oe.dict=d/\oe.data=.fields vs/\1 < vs.size)
  (h:∀s',Inv X pins σ H s'->qea X pins H s'.heap e C d (rawInt X.env.locals)->Q () s'):
  wpAny M A (do let a<-frameOf X.env;let pl<-entryPlaceOf X.env.locals hadNext;let b<-EntryCells.newEntry head a .none (rawInt X.env.locals) .none pl;setField (.ref e) 1 b) Q E s:=by
 obtain⟨oe,vs,he,hc,hdd,hd,hsz⟩:=ho
 have hl:=I.stack
 rw [hst] at hl hA
 have ne:e∉L2.frs X.stack:=r.frs I
 refine wpAny_bind (wpAny_frameOf_fun hA hl hf fun h₁ hs₁=>wpAny_bind (wpAny_entryPlaceOf fun pl hpl=>?_))
 unfold EntryCells.newEntry newFields
 refine wpAny_bind (wpAny_newObj_type ?_ (hpl.sizeOk5 _ _ _ _ _))
 rw [<-hst] at hs₁
 have he1:h₁.get? e=some oe:=(hs₁.2.1 e ne).trans he
 generalize hN:({cls:=.type "traceback",dict:=none,data:=.fields ([head,.ref X.env.locals,.none,rawInt X.env.locals,.none]++(if pl.isEmpty then List.replicate 6 Value.none else pl)).toArray}:Obj)=N
 have he2:(h₁.push N).get? e=some oe:=Heap.get?_push_of_some _ he1
 refine wpAny_setField he2 hd hsz (h _ ?_ ?_)
 .refine Inv.marks (s:=s) (ch:=[e]) (t':=s.toks) I (fun b hb=>by rw [mem_singleton.mp hb];exact r) (fun b o h1 h2 q=>?_) fun b o h2 q=>?_
  .have hb:b≠e:=fun z=>h2 (by simp [z])
   rw [Heap.get?_update_other _ _ (Ne.symm hb)]
   exact Heap.get?_push_of_some _ ((hs₁.2.1 b h1).trans q)
  .have hb:b≠e:=fun z=>h2 (by simp [z])
   obtain⟨sl,q1⟩:=hs₁.2.2 b o q
   exact⟨sl,by rw [Heap.get?_update_other _ _ (Ne.symm hb)];exact Heap.get?_push_of_some _ q1⟩
 .have sz1:h₁.objs.size=s.heap.objs.size:=hs₁.1
  have hTe:h₁.objs.size≠e:=Nat.ne_of_gt (Heap.lt_size he1)
  have d3:=Obj.data_mapFields hd (·.setIfInBounds 1 (Value.ref h₁.objs.size))
  have e3:=Heap.get?_update_self (Obj.mapFields (·.setIfInBounds 1 (Value.ref h₁.objs.size))) he2 (Obj.isFreed_of_fields d3)
  have nf:N.isFreed=false:=by rw [<-hN];rfl
  have t3:=(Heap.get?_update_other (h₁.push N) (Obj.mapFields (·.setIfInBounds 1 (Value.ref h₁.objs.size))) (Ne.symm hTe)).trans (Heap.get?_push_size h₁ nf)
  have rT:Rec X pins H ((h₁.push N).update e (Obj.mapFields (·.setIfInBounds 1 (Value.ref h₁.objs.size)))) h₁.objs.size:=by
   refine⟨Heap.get?_none_of_le (by rw [sz1];exact I.sz),I.hok.fresh (by rw [sz1];exact Nat.le_refl _),fun p hp z=>?_,⟨N,_,t3,by rw [<-hN]⟩⟩
   obtain⟨q,_⟩:=I.pin p hp
   have w:=Heap.lt_size q
   rw [z,sz1] at w
   exact absurd w (Nat.lt_irrefl _)
  refine⟨⟨r.nw,r.un,r.pin,⟨_,_,e3,d3⟩⟩,h₁.objs.size,rT,_,_,N,_,e3,(Obj.cls_mapFields _ _).trans hc,?_,d3,by simp [hsz],hTe,t3,by rw [<-hN],?_⟩
  .rw [<-hdd];exact dict_mapF _ _
  .first|(simp;done) |(rcases hpl with rfl|⟨_,_,_,_,_,_,_,rfl⟩ <;> simp)
theorem note_x {M:Model} {A:Around} {E:Value->Shared->Prop} {e:Addr} {C:Value} {d:Option Addr} {Q:Unit->Shared->Prop}
  (I:Inv X pins σ H s) (hA:A.frames=some X.stack) (hst:X.stack=X.env :: X.outer) (hf:X.env.frame=some X.env.locals) (x:XIn X pins H s.heap e C d)
  (h:∀s',Inv X pins σ H s'->qea X pins H s'.heap e C d (rawInt X.env.locals)->Q () s'):wpAny M A (noteFrame (.ref e) X.env) Q E s:=by
 obtain⟨r,x⟩:=x
 unfold noteFrame
 simp only [hf]
 rcases x with ⟨oe,vs,he,hc,hdd,hd,h1⟩ |⟨T,rT,fl,oe,vs,oT,ts,he,hc,hdd,hd,h1,hTe,hT,hdT,h3⟩
 .refine wpAny_bind (wpAny_field he hd h1 ?_)
  rw [if_neg (by decide)]
  exact entry_x I hA hst hf r ⟨oe,vs,he,hc,hdd,hd,(Array.getElem?_eq_some_iff.mp h1).1⟩ h
 .refine wpAny_bind (wpAny_field he hd h1 ?_)
  rw [if_pos (show (Value.ref T !=Value.none)=true from by simp)]
  refine wpAny_bind (wpAny_field hT hdT h3 ?_)
  by_cases qf:(fl==rawInt X.env.locals)=true
  .rw [if_pos qf]
   have ef:fl=rawInt X.env.locals:=eq_of_beq qf
   rw [ef] at h3
   exact wpAny_pure (h s I ⟨r,T,rT,oe,vs,oT,ts,he,hc,hdd,hd,h1,hTe,hT,hdT,h3⟩)
  .rw [if_neg qf]
   refine wpAny_bind (wpAny_setField hT hdT (Array.getElem?_eq_some_iff.mp h3).1 ?_)
   have oth:∀b,b≠T->(s.heap.update T (Obj.mapFields (·.setIfInBounds 3 Value.none))).get? b=s.heap.get? b:=fun b hb=>Heap.get?_update_other _ _ (Ne.symm hb)
   have J:Inv X pins σ H {s with heap:=s.heap.update T (Obj.mapFields (·.setIfInBounds 3 Value.none))}:=
    Inv.marks (s:=s) (ch:=[T]) (t':=s.toks) I (fun b hb=>by rw [mem_singleton.mp hb];exact rT) (fun b o _ h2 q=>(oth b fun z=>h2 (by simp [z])).trans q) fun b o h2 q=>⟨o.slots,(oth b fun z=>h2 (by simp [z])).trans q⟩
   have he':=(oth e (Ne.symm hTe)).trans he
   exact entry_x J hA hst hf ⟨r.nw,r.un,r.pin,⟨oe,vs,he',hd⟩⟩ ⟨oe,vs,he',hc,hdd,hd,(Array.getElem?_eq_some_iff.mp h1).1⟩ h
theorem qg4 (fr:Option Addr) {M:Model} {A:Around} {E:Value->Shared->Prop} {e:Addr} {C fl:Value} {d:Option Addr} {Q:Unit->Shared->Prop}
  (I:Inv X pins σ H s) (x:qea X pins H s.heap e C d fl)
  (h:∀s',Inv X pins σ H s'->qea X pins H s'.heap e C d (fr.elim Value.none fun f=>rawInt f)->Q () s'):wpAny M A (setFlight (.ref e) fr) Q E s:=by
 obtain⟨r,T,rT,oe,vs,oT,ts,he,hc,hdd,hd,h1,hTe,hT,hdT,h3⟩:=x
 have hsz:=(Array.getElem?_eq_some_iff.mp h3).1
 unfold setFlight
 refine wpAny_bind (wpAny_field he hd h1 ?_)
 rw [if_pos (show (Value.ref T !=Value.none)=true from by simp)]
 refine wpAny_setField hT hdT hsz (h _ ?_ ?_)
 all_goals have oth:∀b,b≠T->(s.heap.update T (Obj.mapFields (·.setIfInBounds 3 (fr.elim Value.none fun f=>rawInt f)))).get? b=s.heap.get? b:=fun b hb=>Heap.get?_update_other _ _ (Ne.symm hb)
 .exact Inv.marks (s:=s) (ch:=[T]) (t':=s.toks) I (fun b hb=>by rw [mem_singleton.mp hb];exact rT) (fun b o _ h2 q=>(oth b fun z=>h2 (by simp [z])).trans q) fun b o h2 q=>⟨o.slots,(oth b fun z=>h2 (by simp [z])).trans q⟩
 .have he':=(oth e (Ne.symm hTe)).trans he
  have d3:=Obj.data_mapFields hdT (·.setIfInBounds 3 (fr.elim Value.none fun f=>rawInt f))
  have hT':=Heap.get?_update_self (Obj.mapFields (·.setIfInBounds 3 (fr.elim Value.none fun f=>rawInt f))) hT (Obj.isFreed_of_fields d3)
  exact⟨⟨r.nw,r.un,r.pin,⟨oe,vs,he',hd⟩⟩,T,⟨rT.nw,rT.un,rT.pin,⟨_,_,hT',d3⟩⟩,oe,vs,_,_,he',hc,hdd,hd,h1,hTe,hT',d3,by simp [hsz]⟩
theorem flight_x {M:Model} {A:Around} {E:Value->Shared->Prop} {e:Addr} {C fl:Value} {d:Option Addr} {Q:Unit->Shared->Prop}
  (I:Inv X pins σ H s) (x:qea X pins H s.heap e C d fl)
  (h:∀s',Inv X pins σ H s'->qea X pins H s'.heap e C d .none->Q () s'):wpAny M A (setFlight (.ref e) none) Q E s:=qg4 none I x h
theorem qea.xin {h:Heap} {e:Addr} {C fl:Value} {d:Option Addr} (x:qea X pins H h e C d fl):XIn X pins H h e C d:=
 let ⟨r,T,rT,q⟩:=x
 ⟨r,.inr ⟨T,rT,_,q⟩⟩
theorem qea.xinL {h:Heap} {e:Addr} {C:Value} {d:Option Addr} (x:qea X pins H h e C d (rawInt X.env.locals)):XIn X pins H h e C d:=x.xin
def CX1 (P:Program) (w:World):CXT:=fun outer H s E e s'=>∃(a:Addr) (C:Value) (d:Option Addr) (H':Hp),e=.ref a/\s'.os=s.os/\AllBare s'.gens/\Un (L2.frs outer) [] H H' s.heap s'.heap/\HOk P w H' s'.heap/\
 s.heap.get? a=none/\H' a=none/\(∃T,s.heap.get? T=none/\H' T=none/\XTr s'.heap a C d .none T)/\E C d H'
def Xes (X:Cx) (W:L2.St->XK):Prop:=∀(pins:List (Addr × Obj)) (σ:L2.St) (H:Hp) (s:Shared) (a:Addr) (C:Value) (d:Option Addr),Inv X pins σ H s->XIn X pins H s.heap a C d->W σ C d H->X.xe (.ref a) s
theorem xes_call {W:L2.St->XK} (h:Xes X W) (hex:X.ex=[]) {e:Value} {s':Shared} (I:Inv X pins σ H s) (q:CX1 X.prog X.w X.stack H s (W σ) e s'):X.xe e s':=by
 obtain⟨a,C,d,H',rfl,os,bare,un,hok,la,na,⟨T,lT,nT,x⟩,w⟩:=q
 have J:Inv X pins σ H' s':=I.call' (ch:=[]) os un hok bare (fun b z=>absurd z (by simp))
 have pn:∀b,s.heap.get? b=none->∀p∈X.pn++pins,p.1≠b:=fun b lb p hp z=>by
  have w:=(I.pin p hp).1
  rw [z,lb] at w
  cases w
 obtain⟨oe,vs,oT,ts,he,hc,hdd,hd,h1,hTe,hT,hdT,h3⟩:=id x
 exact h pins σ H' s' a C d J ⟨⟨qf8 I hex la,na,pn a la,⟨oe,vs,he,hd⟩⟩,.inr ⟨T,⟨qf8 I hex lT,nT,pn T lT,⟨oT,ts,hT,hdT⟩⟩,_,x⟩⟩ w
end
end My
namespace My
open PySem PySem.Spec PyProof.Rows L2
section
variable {X: Cx} {pins: List (Addr × Obj)} {σ: L2.St} {H: Hp} {s: Shared} {W: L2.St -> XK}
def XSt (X:Cx) (W:L2.St->XK) (e:Value) (s:Shared):Prop:=∃(a:Addr) (C:Value) (d:Option Addr) (σ:L2.St) (H:Hp),e=.ref a/\Inv X [] σ H s/\XIn X [] H s.heap a C d/\W σ C d H
abbrev xw (X:Cx) (W:L2.St->XK):Cx:=X.wish (XSt X W)
theorem Rec.less {h:Heap} {b:Addr} (r:Rec X pins H h b):Rec X [] H h b:=⟨r.nw,r.un,fun p hp=>r.pin p (by rw [append_nil] at hp;exact mem_append_left _ hp),r.ob⟩
theorem XIn.less {h:Heap} {a:Addr} {C:Value} {d:Option Addr} (x:XIn X pins H h a C d):XIn X [] H h a C d:=by
 obtain⟨r,x⟩:=x
 rcases x with x|⟨T,rT,x⟩
 .exact⟨r.less,.inl x⟩
 .exact⟨r.less,.inr ⟨T,rT.less,x⟩⟩
theorem Rec.unwish {E:Value->Shared->Prop} {h:Heap} {b:Addr} (r:Rec (X.wish E) pins H h b):Rec X pins H h b:=⟨r.nw,r.un,r.pin,r.ob⟩
theorem XIn.unwish {E:Value->Shared->Prop} {h:Heap} {a:Addr} {C:Value} {d:Option Addr} (x:XIn (X.wish E) pins H h a C d):XIn X pins H h a C d:=by
 obtain⟨r,x⟩:=x
 rcases x with x|⟨T,rT,x⟩
 .exact⟨r.unwish,.inl x⟩
 .exact⟨r.unwish,.inr ⟨T,rT.unwish,x⟩⟩
theorem qas:Xes (xw X W) W:=fun pins σ H s a C d I x w=>⟨a,C,d,σ,H,rfl,I.unwish.pins_of (fun _ z=>nomatch z),x.unwish.less,w⟩
theorem qel (hst:X.stack=X.env :: X.outer) (hf:X.env.frame=some X.env.locals):PassesOwn (model X.prog X.w) X.A X.env (XSt X W):=by
 rintro e s' ⟨a,C,d,σ,H,rfl,I,x,w⟩
 show wpAny _ _ (noteFrame (.ref a) X.env) _ _ s'
 refine note_x I I.ok.frames hst hf x fun s2 I2 x2=>?_
 obtain⟨r,T,rT,oe,vs,oT,ts,he,hc,hdd,hd,h1,r2⟩:=id x2
 unfold cameBackBy
 refine wpAny_bind (wpAny_field he hd h1 ?_)
 have fin:wpAny (model X.prog X.w) X.A (setFlight (.ref a) X.env.frame) (fun _ s''=>XSt X W (.ref a) s'') (XSt X W) s2:=by
  rw [hf]
  exact qg4 (some X.env.locals) I2 x2 fun s3 I3 x3=>⟨a,C,d,σ,H,rfl,I3,qea.xinL x3,w⟩
 first
  |(rw [if_neg (show ¬((Value.ref T==Value.none)=true) from by simp)];exact fin)
  |(rw [if_neg (show ¬((Value.ref T==Value.none)=true) from by simp)];exact wpAny_bind (wpAny_pure fin))
  |(refine wpAny_bind ?_;rw [if_neg (show ¬((Value.ref T==Value.none)=true) from by simp)];exact wpAny_pure fin)
theorem PSs.xes {st:List Stmt} {t:TS} (hx:Xes X W) (h:PSs (xw X W) st t):PSs X st t:=fun pins s σ H D I hw=>
 wpAny_mono (h pins s σ H D (I.wish _) hw) (fun _ _ q=>q.unwish) fun _ _ ⟨a,C,d,σ',H',e,I',x,w⟩=>by subst e;exact hx [] σ' H' _ a C d I' x w
end
section
variable {P: Program} {w: World} {K: Frag} {mg: Str -> Option Value} {base: Heap}
theorem xes_fn {N:List Str} {qual:Str} {scope:Scope} {f:Addr} {cd:Value} {A:Around} {outer:List Env} {s:Shared} {H:Hp} {E:XK}:
  Xes (cxOf (CX1 P w) P w K mg base N qual scope f cd A outer s H E) (fun _=>E):=by
 intro pins σ H1 s1 a C d I x wE
 show wpAny _ _ (leaving _ _) _ _ s1
 unfold leaving
 refine wpAny_bind (note_x I I.ok.frames rfl rfl x fun s2 I2 x2=>flight_x I2 x2 fun s3 I3 x3=>?_)
 obtain⟨r,T,rT,xt⟩:=x3
 exact⟨a,C,d,H1,rfl,I3.os,I3.bare,I3.base,I3.hok,r.nw,r.un,⟨T,rT.nw,rT.un,xt⟩,wE⟩
theorem okX {x qual:Str} {st:Stmt} {f:Addr} {fd:FuncData} {N ps:List Str} {k:Nat} {sp:Sp} (F:Fun K x qual st f fd) (S:FnScope N ps (qaa st)) (len:∀vs H Q E,sp vs H Q E->vs.length=ps.length)
  (hbody:∀(cdv:Value) (A:Around) (outer:List Env) (s:Shared) (H:Hp) (vs:List V) (Q:VK) (E:XK),Room k (A.deeper (envOfC qual (qaa st) s.heap.objs.size f cdv))->sp vs H Q E->
   ∃t,PSs (xw (cxOf (CX1 P w) P w K mg base N qual (qaa st) f cdv A outer s H E) (fun _=>E)) (qbw st) t/\t {nx:=fun _ H'=>Q .non H',rt:=Q} (qe7 N vs) H):FnOk P w K mg base (CX1 P w) (k+1) f fd ps sp:=by
 obtain⟨oc,od,kV,doc,pm,an,cdv,ct,osl,rfl,lk,hcd⟩:=F.ex
 refine fn_of lk hcd S len fun A outer s H vs Q E hr hsp=>?_
 obtain⟨t,ht,q⟩:=hbody cdv A outer s H vs Q E hr hsp
 exact⟨t,PSs.xes xes_fn ht,q⟩
end
section
variable {X: Cx} {k: Nat} {f: Addr} {fd: FuncData} {ps: List Str} {sp: Sp} {dvs: List V} {ds: List Value} {W: L2.St -> XK} {x: Str} {p pos: Pos} {e: Expr} {es: List Expr} {t: TA}
def tCallX (sp:Sp) (dvs:List V) (W:L2.St->XK) (t:TA):TE:=fun σ H Q=>t σ H fun vs H1=>sp (vs++dvs) H1 Q (W σ)
theorem run_fnX {pins:List (Addr × Obj)} {σ:L2.St} {H:Hp} {s:Shared} {Q:VK} {us:List Value} {vs:List V} (F:FnOk X.prog X.w X.K X.mg X.base (CX1 X.prog X.w) k f fd ps sp) (hr:Room k X.A) (hb:qao X.K fd ps ds) (hd:qb5 dvs ds) (hx:Xes X W) (hex:X.ex=[])
  (I:Inv X pins σ H s) (r:qb5 vs us) (h:sp (vs++dvs) H Q (W σ)):wpAny (model X.prog X.w) X.A (call (.ref f) us) (EP X pins σ Q) X.xe s:=by
 have r2:qb5 (vs++dvs) (us++ds):=r.append hd
 have hl:(us++ds).length=ps.length:=by rw [<-r2.length];exact F.len _ _ _ _ h
 refine wpAny_call (codeAny_mono (F.run X.A X.stack s H ⟨us, []⟩ (us++ds) (vs++dvs) Q (W σ) hr I.env0 (hb s us I.kIn hl) r2 h) fun r s' hq=>?_)
 match r,hq with
 | .error e,hq=>exact xes_call hx hex I hq
 | .ok (.ret u),hq=>exact I.after hq
 | .ok .next,hq=>exact False.elim hq
 | .ok .brk,hq=>exact False.elim hq
 | .ok .cont,hq=>exact False.elim hq
theorem qc7 (F:FnOk X.prog X.w X.K X.mg X.base (CX1 X.prog X.w) k f fd ps sp) (hr:Room k X.A) (hg:Gl X x) (hm:X.mg x=some (.ref f)) (hk:keepIn X.K (.ref f)=true) (hb:qao X.K fd ps ds) (hd:qb5 dvs ds) (hx:Xes X W)
  (ha:PA X (e :: es) t) (hex:X.ex=[]:=by rfl) (hdb:(x==("__debug__" :Str))=false:=by decide) (he:starEach (e :: es) X.env=(false,eval e X.env) :: starEach es X.env:=by rfl) (hpl:(backTo pos (starEach es X.env)).any (·.1)=false:=by rfl):
  PE X (.Call (.Name x p) (e :: es) [] pos) (tCallX sp dvs W t):=by
 intro pins s σ H Q I h
 refine wpAny_Call_Name_kw (qd8 I hg hm ?_ hdb)
 refine PySem.W.callWith_K (h₀:=X.base) I.ok.mod.kin hk (thn (ha pos pins s σ H _ I h) fun us s1 ⟨vs,H1,I1,r,q⟩=>⟨I1.kIn,?_⟩) he hpl
 exact run_fnX F hr hb hd hx hex I1 r q
end
structure XCls (K:Frag) (C:Addr):Prop where
 ob:∃(nm q:Str) (N:Addr) (bs bm:List Value) (hdct:Bool) (sn:List Str) (sub:List Value) (ab:Bool) (col:Option Bool) (dd:Option Addr) (k0 k1 k2 k3 k5:Option Value) (mN:Str->Option Value),
  K.lookup C=some (excClassObj nm q C N bs bm hdct sn sub ab col dd k0 k1 k2 k3 k5 "ValueError.__new__")/\(∀h:Heap,K.In h->h.Ns N mN)/\mN "__init__" =none/\
  ∀h:Heap,K.In h->OwnTail h [.type "ValueError",.type "Exception",.type "BaseException",.type "object"] bm
section
variable {X: Cx} {x: Str} {C: Addr} {W: L2.St -> XK} {np cpos pos: Pos} {e: Expr} {es: List Expr} {t: TA}
def tRaise (t:TA) (C:Addr) (W:L2.St->XK):TS:=fun _ σ H=>t σ H fun xs H1=>xs.length<=sizeLine/\W σ (.ref C) none H1
theorem qbq (hc:X.calm=true) (M:XCls X.K C) (hg:Gl X x) (hm:X.mg x=some (.ref C)) (hx:Xes X W) (ha:PA X (e :: es) t) (hex:X.ex=[]:=by rfl) (hdb:(x==("__debug__" :Str))=false:=by decide)
  (he:starEach (e :: es) X.env=(false,eval e X.env) :: starEach es X.env:=by rfl) (hpl:(backTo cpos (starEach es X.env)).any (·.1)=false:=by rfl):
  PS X (.Raise (some (.Call (.Name x np) (e :: es) [] cpos)) none pos) (tRaise t C W):=by
 intro pins s σ H D I h
 obtain⟨nm,q,N,bs,bm,hdct,sn,sub,ab,col,dd,k0,k1,k2,k3,k5,mN,hC,hN,hni,T⟩:=M.ob
 refine wpAny_Raise_call_subU (C:=C) (nm:=nm) (q:=q) (N:=N) (bs:=bs) (bm:=bm) (hdct:=hdct) (sn:=sn) (sub:=sub) (ab:=ab) (col:=col) (dd:=dd) (k0:=k0) (k1:=k1) (k2:=k2) (k3:=k3) (k5:=k5)
  PySem.F.excBase_ValueError (by decide) PySem.F.excBase_ValueError (mN:=mN) ((T _ I.kIn).hasType PySem.F.excBase_ValueError.hasBase) (I.ok.hd hc) ?_ hni ?_
 .rw [he];show (false ||(backTo cpos (starEach es X.env)).any (·.1))=false;rw [hpl];rfl
 .refine qd8 I hg hm ⟨rfl,?_⟩ hdb
  have z:=ha cpos pins s σ H _ I h
  rw [he] at z ⊢
  refine Calls.evalArgs_plain (wpAny_mono z (fun us s2 ⟨vs,H2,I2,r,hl,q⟩=>⟨rfl,by rw [<-r.length];exact hl,I2.kIn _ _ hC,hN _ I2.kIn,T _ I2.kIn,fun h' a m=>?_⟩) fun _ _ y=>y)
  obtain⟨tp,ea,_,_⟩:=m.there
  have J:Inv X pins σ H2 {s2 with heap:=h'}:=I2.kept (t':=s2.toks) m.keeps
  refine hx pins σ H2 _ a (.ref C) none J ⟨⟨qf8 I2 hex m.new,un_of I2.hok m.new,fun p hp y=>?_,⟨_,_,ea,rfl⟩⟩,.inl ⟨_,_,ea,rfl,rfl,rfl,rfl⟩⟩ q
  have w:=(I2.pin p hp).1
  rw [y,m.new] at w
  cases w
end
end My
namespace My
open PySem PySem.Spec PyProof.Rows L2
section
variable {X: Cx} {pins: List (Addr × Obj)}
abbrev pnd (X:Cx) (pins:List (Addr × Obj)):Cx:={X with pn:=X.pn++pins}
abbrev suite (X:Cx) (a:Addr):Cx:={X with A:=X.A.mark (some (.ref a)),calm:=false,xe:=fun _ _=>False}
def XO (a:Addr) (C:Value) (d:Option Addr):HO:=.ext fun h=>∃(oe:Obj) (vs:Array Value),h.get? a=some oe/\oe.cls=C/\oe.dict=d/\oe.data=.fields vs
end
section
variable {X: Cx}
def tCut (t:TS):TS:=fun D σ H=>∃J:L2.St->Hp->Prop,t {D with nx:=J} σ H/\∀σ' H',J σ' H'->D.nx σ' H'
theorem qej {st:Stmt} {t:TS} (h:PS X st t):PS X st (tCut t):=by
 intro pins s σ H D I ⟨J,hw,k⟩
 refine wpAny_mono (h pins s σ H _ I hw) (fun f s' q=>?_) fun _ _ z=>z
 cases f with
 |next=>obtain⟨σ',H',I',z⟩:=q;exact⟨σ',H',I',k _ _ z⟩
 |brk=>exact q
 |cont=>exact q
 |ret u=>exact q
end
theorem qcs {K:Frag} {C:Addr} (q:excIn K C [.type "ValueError",.type "Exception",.type "BaseException",.type "object"] "ValueError.__new__" =true):XCls K C:=by
 unfold excIn at q
 split at q
 .rename_i dd cd sl ho
  split at q
  .rename_i C' bm k0 k1 k2 k3 n k5 hm hs
   simp only [Bool.and_eq_true,beq_iff_eq,Bool.not_eq_true'] at q
   obtain⟨⟨⟨⟨⟨rfl,rfl⟩,hdel⟩,ht⟩,hok⟩,hni⟩:=q
   obtain⟨nm,bs,mro,ns,qn,hd,sn,sub,ab,col,del⟩:=cd
   dsimp only at hm hdel hok hni
   subst hm hdel
   have hsl:sl= #[k0,k1,k2,k3,some (.builtin "ValueError.__new__"),k5]:=by
    obtain⟨l⟩:=sl
    simp only at hs
    rw [hs]
   subst hsl
   unfold PySem.W.nsOkIn at hok
   split at hok
   .rename_i c1 d1 es ep sl1 hN
    have hSK:StrKeys es:=fun e he=>by
     have z:=Array.all_eq_true_iff_forall_mem.mp hok e he
     split at z
     .rename_i n t q;exact⟨n,t,q⟩
     .cases z
    have hNs:∀h:Heap,K.In h->h.Ns ns (fun x=>nsFind es x):=fun h X=>⟨_,es,ep,X _ _ hN,rfl,hSK,fun _=>rfl⟩
    refine⟨nm,qn,ns,bs,bm,hd,sn,sub,ab,col,dd,k0,k1,k2,k3,k5,fun x=>nsFind es x,ho,hNs,?_,fun h X=>PySem.W.tail_of_in X ht⟩
    unfold nsIn at hni
    rw [hN] at hni
    dsimp only at hni
    split at hni
    .cases hni
    .rename_i hf
     show nsFind es "__init__" =none
     unfold nsFind findBy
     rw [<-Array.find?_toList,hf]
     rfl
   .cases hok
  .cases q
 .cases q
def TyX (K:Frag) (H:Hp) (x:V) (t:Value) (b:Bool):Prop:=TyOf K H x t\/∃(a:Addr) (d:Option Addr),x=.ref a/\H a=some (XO a t d)/\b=true
def rIsi (K:Frag):List V->Hp->VK->Prop:=fun xs H Q=>∃(x c:V) (u t:Value) (b:Bool),xs=[x,c]/\qb7 c u/\(∀u',qb7 c u'->u'=u)/\TyX K H x t b/\kitOne K t u=some b/\Q (.bl b) H
end My
namespace My
open PySem PySem.Spec PyProof.Rows L2
theorem isi_yes {prog:Program} {w:World} {A:Around} {E:Value->Shared->Prop} {s:Shared} {Q:Value->Shared->Prop} {K:Frag} {a:Addr} {t c:Value} (KX:K.In s.heap) (hp:∃o,s.heap.get? a=some o/\o.cls=t) (e:kitOne K t c=some true)
  (h:Q (.bool true) s):wpAny (model prog w) A (call (.builtin "isinstance") [.ref a,c]) Q E s:=by
 refine call_isinstance_of ?_ (by intro q;cases q)
 obtain⟨h0,g,d,tt,os⟩:=s
 obtain⟨o,ho,hc⟩:=hp
 have LT:PySem.W.Looks (model prog w) h0 (typeOf (.ref a)) t:=hc ▸ (PySem.W.Looks.ld ho).andThen .now
 unfold kitOne at e
 unfold Builtin.«isinstance.nested»
 refine wpAny_bind (LT.at ?_)
 by_cases q:(t==c)=true
 .rw [if_pos q]
  first
   |exact wpAny_bind (wpAny_rule (wpAny_pure h))
   |exact wpAny_bind (wpAny_rule h)
 .rw [if_neg q] at e
  rw [if_neg q]
  obtain⟨hty,his,hsub⟩:=PySem.W.kit_cls (M:=model prog w) KX e
  have LI:PySem.W.Looks (model prog w) h0 (isInstance (.ref a) c) true:=LT.andThen hsub
  refine wpAny_bind (hty.at ?_)
  rw [if_pos (by decide)]
  k_delta "plainIsInstance"
  refine wpAny_bind (wpAny_bind (his.at ?_))
  simp only [Bool.not_true,Bool.false_eq_true,if_false]
  refine wpAny_bind (LI.at ?_)
  first
   |exact wpAny_pure (wpAny_pure h)
   |(simp only [if_true];first|exact wpAny_pure (wpAny_pure h) |exact wpAny_pure h|exact wpAny_bind (wpAny_pure (wpAny_pure h)))
theorem qbl {X:Cx}:Xes X (fun _ _ _ _=>False):=fun _ _ _ _ _ _ _ _ _ w=>w.elim
section
variable {X: Cx}
theorem qbn:qc3 X (.builtin "isinstance") (rIsi X.K):=by
 intro pins s σ H xs us Q I hv h
 obtain⟨x,c,u,t,b,rfl,hu,hu',ty,e,q⟩:=h
 cases hv with
 |cons r1 hv=>
  cases hv with
  |cons r2 hv=>
   cases hv
   rename_i v1 v2
   rw [hu' v2 r2]
   rcases ty with ty|⟨a,d,rfl,ea,rfl⟩
   .exact isinst_ok I r1 ty e fun tk=>⟨.bl b,H,I.tok tk,rfl,q⟩
   .cases r1
    obtain⟨⟨oe,vs,h1,h2,_⟩,_⟩:=(show qbf X.prog X.w H s.heap a (XO a t d) from I.hok a _ ea)
    exact isi_yes I.kIn ⟨oe,h1,h2⟩ e ⟨.bl true,H,I,rfl,q⟩
def rNotN:R2:=fun x y H Q=>y=.non/\Q (.bl (!decide (x=.non))) H
def rLen (K:Frag):List V->Hp->VK->Prop:=fun xs H Q=>∃p ys,xs=[.ref p]/\(SqL K H p ys\/SqT K H p ys)/\Q (.int ys.length) H
theorem qan:qc3 X (.builtin "len") (rLen X.K):=call_len_seq
theorem qcx:OpR X (compareOp .IsNot) rNotN:=op_notN
end
section
variable {K: Frag} {H: Hp} {Q: VK}
theorem r_isi {x:V} {T:String} {t:Value} {b:Bool} (ty:TyOf K H x t) (e:kitOne K t (.type T)=some b) (h:Q (.bl b) H):rIsi K [x,.ty T] H Q:=⟨x,_,_,t,b,rfl,rfl,fun _ z=>z,.inl ty,e,h⟩
end
section
variable {K: Frag}
theorem kit_int_int:kitOne K (.type "int") (.type "int")=some true:=by rfl
theorem kit_int_bool:kitOne K (.type "int") (.type "bool")=some false:=by rfl
theorem kit_str_str:kitOne K (.type "str") (.type "str")=some true:=by rfl
theorem kit_lst_lst:kitOne K (.type "list") (.type "list")=some true:=by rfl
theorem kit_dct_dct:kitOne K (.type "dict") (.type "dict")=some true:=by rfl
end
end My
namespace My
open PySem PySem.Spec PyProof.Rows L2
section
variable {K: Frag} {σ σ': L2.St} {H H1: Hp} {Q: VK} {D: Ends} {ta tb te: TE} {t u: TS} {c c': TT} {ar: TA} {v x y: V} {i j: Nat}
theorem qaf {N:List Str} {vs:List V} (e:qe7 N vs=σ) (h:t D σ H):t D (qe7 N vs) H:=e ▸ h
theorem r_var (e:σ[i]?=some (some v)) (h:Q v H):tVar i σ H Q:=⟨v,e,h⟩
theorem r_c (h:Q v H):tC v σ H Q:=h
theorem r_op {r:R2} (h:ta σ H fun x H1=>tb σ H1 fun y H2=>r x y H2 Q):tOp r ta tb σ H Q:=h
theorem r_un {r:V->Hp->VK->Prop} (h:ta σ H fun x H1=>r x H1 Q):tUn r ta σ H Q:=h
theorem r_I0 {g:Int->Int->V} {i j:Int} (h:Q (g i j) H):rI0 g (.int i) (.int j) H Q:=⟨i,j,rfl,rfl,h⟩
theorem r_I {C:Int->Int->Prop} {g:Int->Int->V} {i j:Int} (hc:C i j) (h:Q (g i j) H):rI C g (.int i) (.int j) H Q:=⟨i,j,rfl,rfl,hc,h⟩
theorem r_U {g:Int->V} {i:Int} (h:Q (g i) H):rU g (.int i) H Q:=⟨i,rfl,h⟩
theorem r_eqI {i j:Int} (h:Q (.bl (decide (i=j))) H):rEq (.int i) (.int j) H Q:=⟨rfl,by
 have e:decide (V.int i=V.int j)=decide (i=j):=by by_cases z:i=j <;> simp [z]
 rw [e];exact h⟩
theorem r_neI {i j:Int} (h:Q (.bl (!decide (i=j))) H):rNe (.int i) (.int j) H Q:=⟨rfl,by
 have e:decide (V.int i=V.int j)=decide (i=j):=by by_cases z:i=j <;> simp [z]
 rw [e];exact h⟩
theorem r_eqS {i j:Str} (h:Q (.bl (decide (i=j))) H):rEq (.str i) (.str j) H Q:=⟨rfl,by
 have e:decide (V.str i=V.str j)=decide (i=j):=by by_cases z:i=j <;> simp [z]
 rw [e];exact h⟩
theorem r_neS {i j:Str} (h:Q (.bl (!decide (i=j))) H):rNe (.str i) (.str j) H Q:=⟨rfl,by
 have e:decide (V.str i=V.str j)=decide (i=j):=by by_cases z:i=j <;> simp [z]
 rw [e];exact h⟩
theorem r_exb {b:Bool} {Q:Bool->Prop} (h:Q b):∃k,V.bl b=.bl k/\Q k:=⟨b,rfl,h⟩
theorem r_test {Q:Bool->Hp->Prop} (h:te σ H fun x H'=>∃k,x=.bl k/\Q k H'):tTest te σ H Q:=h
theorem r_tB {Q:Bool->Hp->Prop} (h:te σ H fun x H'=>∃k,x=.bl k/\Q k H'):tB te σ H Q:=h
theorem r_and {Q:Bool->Hp->Prop} (h:c σ H fun b H1=>if b=true then c' σ H1 Q else Q false H1):tAnd c c' σ H Q:=h
theorem r_or {Q:Bool->Hp->Prop} (h:c σ H fun b H1=>if b=true then Q true H1 else c' σ H1 Q):tOr c c' σ H Q:=h
theorem r_not {Q:Bool->Hp->Prop} (h:c σ H fun b H1=>Q (!b) H1):tNot c σ H Q:=h
theorem r_andV (h:ta σ H fun x H1=>∃k,x=.bl k/\if k=true then tb σ H1 Q else Q (.bl false) H1):tAndV ta tb σ H Q:=h
theorem r_notV (h:ta σ H fun x H1=>∃k,x=.bl k/\Q (.bl (!k)) H1):tNotV ta σ H Q:=h
theorem r_next (h:D.nx σ H):tNext D σ H:=h
theorem r_seq (h:t {nx:=u D,rt:=D.rt,bk:=D.bk,ct:=D.ct} σ H):tSeq t u D σ H:=h
theorem r_drop (h:te σ H fun _ H1=>D.nx σ H1):tDrop te D σ H:=h
theorem r_ret (h:te σ H D.rt):tRet te D σ H:=h
theorem r_if (h:c σ H fun b H1=>if b=true then t D σ H1 else u D σ H1):tIfS c t u D σ H:=h
theorem r_asg {g:TG} (h:te σ H fun x H1=>g x σ H1 D.nx):tAsg te g D σ H:=h
theorem r_name {Q:L2.St->Hp->Prop} (e:σ.set i (some v)=σ') (h:Q σ' H):gName i v σ H Q:=by subst e;exact h
theorem r_gnil {Q:L2.St->Hp->Prop} (h:Q σ H):gNil [] σ H Q:=⟨rfl,h⟩
theorem r_gcons {g:TG} {gs:TGs} {vs:List V} {Q:L2.St->Hp->Prop} (h:g v σ H fun σ' H'=>gs vs σ' H' Q):gCons g gs (v :: vs) σ H Q:=⟨v,vs,rfl,h⟩
theorem r_gtup {n:Nat} {gs:TGs} {a:Addr} {xs:List V} {Q:L2.St->Hp->Prop} (hS:SqT K H a xs) (hn:xs.length=n) (h:gs xs σ H Q):gTup K n gs (.ref a) σ H Q:=⟨a,xs,rfl,hS,hn,h⟩
theorem r_nx {f b c:L2.St->Hp->Prop} {r:VK} (h:f σ H):Ends.nx {nx:=f,rt:=r,bk:=b,ct:=c} σ H:=h
theorem r_rt {f b c:L2.St->Hp->Prop} {r:VK} (h:r v H):Ends.rt {nx:=f,rt:=r,bk:=b,ct:=c} v H:=h
theorem r_nil {Q:List V->Hp->Prop} (h:Q [] H):tNil σ H Q:=h
theorem r_cons {Q:List V->Hp->Prop} (h:te σ H fun x H1=>ar σ H1 fun xs H2=>Q (x :: xs) H2):tCons te ar σ H Q:=h
theorem r_lst (h:ar σ H fun xs H1=>xs.length<=sizeLine/\∀p,H1 p=none->Q (.ref p) (upd H1 p (.lst xs))):tLst ar σ H Q:=h
theorem r_new {xs:List V} {A:Prop} (hn:xs.length<=sizeLine) (h:A):xs.length<=sizeLine/\A:=⟨hn,h⟩
theorem r_call {sp:Sp} {E:XK} (h:ar σ H fun vs H1=>sp vs H1 Q E):tCall sp [] E ar σ H Q:=by
 have e:(fun vs H1=>sp (vs++ []) H1 Q E)=fun vs H1=>sp vs H1 Q E:=by funext vs H1;rw [append_nil]
 show ar σ H fun vs H1=>sp (vs++ []) H1 Q E
 rw [e];exact h
theorem r_callX {sp:Sp} {W:L2.St->XK} (h:ar σ H fun vs H1=>sp vs H1 Q (W σ)):tCallX sp [] W ar σ H Q:=by
 have e:(fun vs H1=>sp (vs++ []) H1 Q (W σ))=fun vs H1=>sp vs H1 Q (W σ):=by funext vs H1;rw [append_nil]
 show ar σ H fun vs H1=>sp (vs++ []) H1 Q (W σ)
 rw [e];exact h
theorem r_cb {r:List V->Hp->VK->Prop} (h:ar σ H fun vs H1=>r vs H1 Q):tCB r ar σ H Q:=h
theorem r_raise {C:Addr} {W:L2.St->XK} (h:ar σ H fun xs H1=>xs.length<=sizeLine/\W σ (.ref C) none H1):tRaise ar C W D σ H:=h
theorem qau {p:Addr} {xs:List V} {k:Int} (hS:SqL K H p xs) (e:atI xs k=some v) (h:Q v H):rIxL K (.ref p) (.int k) H Q:=⟨p,xs,k,v,rfl,rfl,hS,e,h⟩
theorem r_ixT {p:Addr} {xs:List V} {k:Int} (hS:SqT K H p xs) (e:atI xs k=some v) (h:Q v H):rIxT K (.ref p) (.int k) H Q:=⟨p,xs,k,v,rfl,rfl,hS,e,h⟩
theorem r_fresh {R:Addr->Prop} (h:∀p,H p=none->R p):∀p,H p=none->R p:=h
theorem r_menu {p:Addr} {xs:List Int} {r:Int} (hS:SqL K H p (xs.map V.int)) (h0:0<=r) (h1:r < xs.length) (h:∀m,m∈xs->Q (.int m) H):rIxL K (.ref p) (.int r) H Q:=by
 have hk:r.toNat < xs.length:=by omega
 have ek:r=((r.toNat:Nat):Int):=by omega
 have q:atI (xs.map V.int) ((r.toNat:Nat):Int)=some (.int xs[r.toNat]):=qat (by rw [getElem?_map,getElem?_eq_getElem hk] <;> rfl)
 rw [<-ek] at q
 exact⟨p,_,r,_,rfl,rfl,hS,q,h _ (getElem_mem hk)⟩
theorem r_cut0 (h:t {nx:=D.nx,rt:=D.rt,bk:=D.bk,ct:=D.ct} σ H):tCut t D σ H:=⟨D.nx,h,fun _ _ z=>z⟩
theorem r_cut (J:L2.St->Hp->Prop) (h:t {nx:=J,rt:=D.rt,bk:=D.bk,ct:=D.ct} σ H) (k:∀σ' H',J σ' H'->D.nx σ' H'):tCut t D σ H:=⟨J,h,k⟩
theorem r_lenL {p:Addr} {ys:List V} (hS:SqL K H p ys) (h:Q (.int ys.length) H):rLen K [.ref p] H Q:=⟨p,ys,rfl,.inl hS,h⟩
theorem r_notNn (h:Q (.bl false) H):rNotN .non .non H Q:=⟨rfl,h⟩
theorem r_notNi {a:Int} (h:Q (.bl true) H):rNotN (.int a) .non H Q:=⟨rfl,h⟩
end
section
variable {K: Frag} {σ: L2.St} {H: Hp} {D: Ends} {wi: TI} {g: TG} {tb: TS} {tl: TE} {ta: TA}
def FOR (J:It) (g:TG) (tb:TS) (D:Ends) (σ:L2.St) (H:Hp):Prop:=∃W:Nat->Nat->L2.St->Hp->Prop,(∃m,W 0 m σ H)/\∀i m σ H,W i m σ H->
 (J.stop i H/\D.nx σ H)\/(J.go i H/\∃N:L2.St->Hp->Prop,(∀σ' H',N σ' H'->∃m',m' < m/\W (i+1) m' σ' H')/\∀x H',J.yld i H x H'->g x σ H' fun σ2 H2=>tb {D with nx:=N,ct:=N,bk:=D.nx} σ2 H2)
def rItL (K:Frag) (x:V) (H:Hp) (R:It->Hp->Prop):Prop:=∃a,x=.ref a/\(∃xs,SqL K H a xs)/\R (Itl K a) H
def rItR (vs:List V) (H:Hp) (R:It->Hp->Prop):Prop:=∃j:Int,vs=[.int j]/\-(2^62)<=j/\j < 2^62/\R (Itr 0 j.toNat) H
theorem r_for (h:wi σ H fun J H1=>FOR J g tb D σ H1):tFor wi g tb D σ H:=h
theorem r_iL {R:It->Hp->Prop} (h:tl σ H fun x H1=>rItL K x H1 R):iList K tl σ H R:=h
theorem r_iR {R:It->Hp->Prop} (h:ta σ H fun vs H1=>rItR vs H1 R):iRng1 ta σ H R:=h
theorem r_itL {a:Addr} {xs:List V} {R:It->Hp->Prop} (hS:SqL K H a xs) (h:R (Itl K a) H):rItL K (.ref a) H R:=⟨a,rfl,⟨xs,hS⟩,h⟩
theorem r_itR {j:Int} {R:It->Hp->Prop} (h0: -(2^62)<=j) (h1:j < 2^62) (h:R (Itr 0 j.toNat) H):rItR [.int j] H R:=⟨j,rfl,h0,h1,h⟩
theorem qfh {a:Addr} {xs:List V} (Pv:Nat->L2.St->Hp->Prop) (h0:Pv 0 σ H) (hl:∀i σ H,i<=xs.length->Pv i σ H->SqL K H a xs)
  (hs:∀i x σ H,xs[i]?=some x->Pv i σ H->g x σ H fun σ2 H2=>tb {nx:=Pv (i+1),rt:=D.rt,bk:=D.nx,ct:=Pv (i+1)} σ2 H2) (hd:∀σ H,Pv xs.length σ H->D.nx σ H):FOR (Itl K a) g tb D σ H:=for_list Pv h0 hl hs hd
theorem qbx {lo:Int} {n:Nat} (Pv:Nat->L2.St->Hp->Prop) (h0:Pv 0 σ H)
  (hs:∀(i:Nat) σ H,i < n->Pv i σ H->g (.int (lo+i)) σ H fun σ2 H2=>tb {nx:=Pv (i+1),rt:=D.rt,bk:=D.nx,ct:=Pv (i+1)} σ2 H2) (hd:∀σ H,Pv n σ H->D.nx σ H):FOR (Itr lo n) g tb D σ H:=for_range Pv h0 hs hd
end
theorem qad {H:Hp} {a p:Addr} {o o':HO} (h:H a=some o) (n:H p=none):upd H p o' a=some o:=by rw [qa6 (qa4 h n)];exact h
theorem qdx {K:Frag} {H:Hp} {a p:Addr} {o:HO} {xs:List V} (h:SqL K H a xs) (n:H p=none):SqL K (upd H p o) a xs:=(qa7 n o).seq h
theorem same_upd {H0 H:Hp} {p:Addr} {o:HO} (h:qb0 H0 H) (n:H p=none):qb0 H0 (upd H p o):=h.trans (qa7 n o)
theorem i_t {c A B:Prop} [Decidable c] (h:c) (hA:A):if decide c=true then A else B:=by rw [decide_eq_true h];exact iteT hA
theorem i_f {c A B:Prop} [Decidable c] (h:¬c) (hB:B):if decide c=true then A else B:=by rw [decide_eq_false h];exact iteF hB
theorem i_2 {c A B:Prop} [Decidable c] (h1:c->A) (h2:¬c->B):if decide c=true then A else B:=by
 by_cases h:c
 .exact i_t h (h1 h)
 .exact i_f h (h2 h)
theorem i_nf {c A B:Prop} [Decidable c] (h:c) (hB:B):if (!decide c)=true then A else B:=by rw [decide_eq_true h];exact iteF hB
theorem i_nT {A B:Prop} (h:B):if (!true)=true then A else B:=h
theorem i_nF {A B:Prop} (h:A):if (!false)=true then A else B:=iteT h
end My
namespace My
open PySem PySem.Spec PyProof.Rows L2
def AllC {α:Type} (f:α->Prop):List α->Prop
 | []=>True
 |a :: l=>f a/\AllC f l
theorem AllC.mem {α:Type} {f:α->Prop}:∀{l:List α},AllC f l->∀a∈l,f a
 | [],_,_,h=>absurd h (by simp)
 |b :: l,h,a,m=>by
  rcases mem_cons.mp m with rfl|m
  .exact h.1
  .exact AllC.mem h.2 a m
def qay (caps:List Nat) (σ:L2.St):L2.St:=caps.map fun j=>(σ[j]?).getD none
def rApp (acc:Addr) (N:Hp->Prop) (y:V) (H:Hp):Prop:=∃ys,H acc=some (.lst ys)/\ys.length < sizeLine/\N (upd H acc (.lst (ys++ [y])))
def COMP (J:It) (caps:List Nat) (tt:TT) (te:TE) (acc:Addr) (σ:L2.St) (H:Hp) (Q:VK):Prop:=∃W:Nat->Nat->Hp->Prop,(∃m,W 0 m H)/\∀i m H,W i m H->
 (J.stop i H/\Q (.ref acc) H)\/(J.go i H/\∃N:Hp->Prop,(∀H',N H'->∃m',m' < m/\W (i+1) m' H')/\∀v H',J.yld i H v H'->tt (some v :: qay caps σ) H' fun b H2=>
  if b=true then te (some v :: qay caps σ) H2 fun y H3=>rApp acc N y H3 else N H2)
abbrev CT (α:Type):=Addr->Shared->Hp->List Addr->α
def tComp (wi:TI) (caps:List Nat) (tt:CT TT) (te:CT TE):TE:=fun σ H Q=>wi σ H fun J H1=>∀(C:Addr) (s:Shared) (H0:Hp) (fp:List Addr) (acc:Addr),H1 acc=none->COMP J caps (tt C s H0 fp) (te C s H0 fp) acc σ (upd H1 acc (.lst [])) Q
def tTrue:TT:=fun _ H Q=>Q true H
def PIfs (X:Cx) (ifs:List Expr) (t:TT):Prop:=
 ∀(pins:List (Addr × Obj)) (s:Shared) (σ:L2.St) (H:Hp) (Q:Bool->Hp->Prop),Inv X pins σ H s->t σ H Q->
  wpAny (model X.prog X.w) X.A (forIn ifs true fun c r=>if r=true then do let ok<-isTrue c X.env (eval c X.env);pure (ForInStep.yield ok) else pure (ForInStep.yield r)) (TP X pins σ Q) X.xe s
theorem qcg {X:Cx}:PIfs X [] tTrue:=fun pins s σ H Q I h=>wpAny_tests_nil ⟨H,I,h⟩
theorem pf_one {X:Cx} {c:Expr} {t:TT} (h:PT X c t):PIfs X [c] t:=fun pins s σ H Q I hw=>wpAny_tests_one (h pins s σ H Q I hw)
def cxC (X:Cx) (N:List Str) (scope:Scope) (cl:List (Str × Addr)) (C:Addr) (s:Shared) (H:Hp) (fp:List Addr):Cx where
 prog:=X.prog
 w:=X.w
 K:=X.K
 mg:=X.mg
 base:=X.base
 A:=X.A
 N:=N
 s₀:=s
 H₀:=H
 env:=compEnvC scope cl C X.env
 outer:=X.stack
 stack:=X.stack
 ex:=fp
 fn:=fun _=>false
 calm:=X.calm
 pn:=[]
 xe:=fun _ _=>False
structure Caps (X:Cx) (x:Str) (scope:Scope) (cl:List (Str × Addr)) (caps:List Nat) (cn:List Str):Prop where
 clos:closureFor scope X.env=pure cl
 kind:scope.kind=.function
 cell:∀y∈scope.names,y.2≠ .cell
 names:∀y∈scope.names,y.2=.local->scope.names.lookup y.1=some .local
 tg:scope.names.lookup x=some .local
 sub:∀y c,cl.lookup y=some c->X.env.cells.lookup y=some c
 has:∀y,((relabel scope X.env).names.lookup y=some .cell\/(relabel scope X.env).names.lookup y=some .free)->∃c,cl.lookup y=some c
 len:caps.length=cn.length
 cap:∀(k:Nat) (y:Str) (j:Nat),cn[k]?=some y->caps[k]?=some j->X.N[j]?=some y/\X.env.kindOf y=some .cell/\(relabel scope X.env).names.lookup y=some .cell/\X.env.scope.names.lookup y=some .cell/\∃c,cl.lookup y=some c
 nd:(x :: cn).Nodup
section
variable {X: Cx} {pins: List (Addr × Obj)} {σ: L2.St} {H: Hp} {s: Shared}
theorem Inv.comp {x:Str} {scope:Scope} {cl:List (Str × Addr)} {caps:List Nat} {cn:List Str} (Cp:Caps X x scope cl caps cn) (I:Inv X pins σ H s) {fp:List Addr} (hf:∀b∈fp,qgc X pins H b) (hlt:∀b∈fp,b < s.heap.objs.size) {h₁:Heap} {t':Nat}
  (hns:h₁.Ns s.heap.objs.size (fun _=>none)) (k:∀b o,s.heap.get? b=some o->h₁.get? b=some o):
  Inv (cxC X (x :: cn) scope cl s.heap.objs.size s H fp) [] (none :: qay caps σ) H {s with heap:=h₁,toks:=t'}:=by
 have cne:∀y c,cl.lookup y=some c->∃v,s.heap.IsCell c v:=fun y c e=>I.cell y c (Cp.sub y c e)
 have ltC:∀y c,cl.lookup y=some c->c < s.heap.objs.size:=fun y c e=>let ⟨v,q⟩:=cne y c e;q.lt
 have isC:∀c v,s.heap.IsCell c v->h₁.IsCell c v:=fun c v ⟨o,e,d⟩=>⟨o,k c o e,d⟩
 refine⟨⟨I.ok.mod,Cp.kind,I.ok.glob,I.ok.blt,Nat.le_refl _,fun y z c e1 e2=>I.ok.inj y z c (Cp.sub y c e1) (Cp.sub z c e2),fun y hy=>Cp.has y hy,fun y c z=>(Bool.false_ne_true z).elim,I.ok.hd,I.ok.frames,.inl rfl,
  fun b hb=>⟨Nat.ne_of_lt (hlt b hb),fun y c e z=>?_⟩,I.bs,Nat.le_trans I.ok.bsz I.sz,fun b o e hb=>?_,fun b hb z=>?_,I.stack,I.stkFree⟩,
  rfl,I.bare,Un.kept k,⟨_,hns,fun i y v e1 e2 e3=>?_⟩,fun y c e=>?_,I.hok.fresh (Nat.le_refl _),fun y c e=>I.freeC y c (Cp.sub y c e),fun p hp=>absurd (show p∈([]:List (Addr × Obj)) from hp) (by simp),I.hok.kept k,?_⟩
 .exact(hf b hb).2.2.2.2.1 y c (Cp.sub y c e) z
 .rcases(hf b hb).2.2.2.1 with z|z
  .exact I.ok.noex b o e z
  .exact absurd (Nat.lt_of_lt_of_le (Heap.lt_size e) (Nat.le_trans I.ok.bsz z)) (Nat.lt_irrefl _)
 .rcases mem_cons.mp (I.stkSub b z) with z|z
  .exact(hf b hb).2.1 z
  .exact(hf b hb).2.2.1 z
 .cases i with
  |zero=>cases e2
  |succ i=>
   have e1':cn[i]?=some y:=by simpa [cxC] using e1
   have e2':(qay caps σ)[i]?=some (some v):=by simpa using e2
   unfold qay at e2'
   rw [getElem?_map] at e2'
   obtain⟨j,hj,ej⟩:=Option.map_eq_some_iff.mp e2'
   obtain⟨c1,c2,c3,c5,c,c4⟩:=Cp.cap i y j e1' hj
   cases hs:σ[j]? with
   |none=>rw [hs] at ej;cases ej
   |some w=>
    rw [hs] at ej
    have ej':w=some v:=ej
    subst ej'
    obtain⟨m,hn,hl⟩:=I.loc
    obtain⟨u,r,l⟩:=hl j y v c1 hs (.inr (.inl c5))
    refine⟨u,r,.inr ⟨.inl c3,c,c4,?_⟩⟩
    rcases l with ⟨l,_⟩ |⟨_,c',e',q⟩
    .rw [c2] at l;cases l
    .rw [Cp.sub y c c4] at e'
     cases e'
     exact isC _ _ q
 .obtain⟨v,q⟩:=cne y c e
  exact⟨v,isC c v q⟩
 .show (none :: qay caps σ).length=(x :: cn).length
  rw [length_cons,length_cons]
  unfold qay
  rw [length_map,Cp.len]
theorem Inv.uncomp {N:List Str} {scope:Scope} {cl:List (Str × Addr)} {C:Addr} {σ':L2.St} {H':Hp} {s':Shared} {fp:List Addr} (I:Inv X pins σ H s) (hf:∀b∈fp,qgc X pins H b) (hC:C=s.heap.objs.size)
  (J:Inv (cxC X N scope cl C s H fp) [] σ' H' s') {h':Heap} (sb:Heap.SameBut C s'.heap h'):Inv X pins σ H' {s' with heap:=h'}:=by
 have ne:∀b o,s.heap.get? b=some o->b≠C:=fun b o e=>by rw [hC];exact Nat.ne_of_lt (Heap.lt_size e)
 have u:Un (frs X.stack) fp H H' s.heap s'.heap:=J.base
 have hok:HOk X.prog X.w H' h':=fun b o e=>by
  refine(J.hok b o e).stay (fun c u' hc q=>(sb.2 c ?_).trans q) (fun _ q=>q) fun _ _ q=>q
  intro z
  have n:H' C=none:=J.free
  rcases hc with hc|hc
  .rw [<-hc,z,n] at e;cases e
  .rw [z,n] at hc;cases hc
 refine I.call' (s':={s' with heap:=h'}) (ch:=fp) J.os ⟨fun b o e n hb hx=>(sb.2 b (ne b o e)).trans (u.keep b o e n hb hx),fun b o e n hb hx=>?_,u.free,fun b o e hx=>?_,u.tups,u.frzs,u.tbls⟩ hok J.bare fun b hb=>?_
 .obtain⟨sl,q⟩:=u.slot b o e n hb hx
  exact⟨sl,(sb.2 b (ne b o e)).trans q⟩
 .obtain⟨o',q⟩:=u.there b o e hx
  exact⟨o',(sb.2 b (ne b o e)).trans q⟩
 .obtain⟨f0,f1,f2,f3,f4,f5⟩:=hf b hb
  exact⟨f3,f1,f4,f5⟩
end
section
variable {X: Cx}
theorem qc4 {elt iter:Expr} {x:Str} {px:Pos} {ifs:List Expr} {scope:Scope} {cl:List (Str × Addr)} {pos:Pos} {caps:List Nat} {cn:List Str} {wi:TI} {tt:CT TT} {te:CT TE} (Cp:Caps X x scope cl caps cn) (hc:X.calm=true)
  (hi:PI X (.Name x px) iter wi) (ht:∀C s H fp,PIfs (cxC X (x :: cn) scope cl C s H fp) ifs (tt C s H fp)) (he:∀C s H fp,PE (cxC X (x :: cn) scope cl C s H fp) elt (te C s H fp))
  (hs:∀x,foldedSetIterable iter X.env x=pure x:=by intro _;rfl):
  PE X (.ListComp elt [⟨.Name x px,iter,ifs,0⟩] scope pos) (tComp wi caps tt te):=by
 intro pins s σ H Q I h
 rw [eval_ListComp]
 refine wpAny_comprehension_free (use:=none) rfl hs Cp.clos Cp.kind Cp.names (thn (hi pins s σ H _ I h) fun v s1 h1=>thn h1 fun itv s2 h2=>?_)
 obtain⟨it,fp,tn,J,H2,e,I2,T,st2,f2,R⟩:=h2
 subst e
 have hacc:H2 s2.heap.objs.size=none:=I2.hok.fresh (Nat.le_refl _)
 refine wpAny_newObj_type ?_
 have I3:Inv X pins σ (upd H2 s2.heap.objs.size (.lst [])) {s2 with heap:=s2.heap.push {cls:=.type "list",dict:=none,data:=.seq ([]:List Value).toArray}}:=Inv.lnew (its:=[]) (t':=s2.toks) I2 .nil (Nat.zero_le _)
 have lt2:∀b∈fp,b < s2.heap.objs.size:=fun b hb=>let ⟨o,e,_⟩:=T.obj _ _ st2 b hb;Heap.lt_size e
 have f3:∀b∈fp,qgc X pins (upd H2 s2.heap.objs.size (.lst [])) b:=fun b hb=>⟨by rw [qa6 (Nat.ne_of_lt (lt2 b hb))];exact(f2 b hb).1,(f2 b hb).2⟩
 have st3:tn 0 (s2.heap.push {cls:=.type "list",dict:=none,data:=.seq ([]:List Value).toArray}):=T.keep _ _ _ st2 fun b _ o e=>Heap.get?_push_of_some _ e
 generalize hs3:({s2 with heap:=s2.heap.push {cls:=.type "list",dict:=none,data:=.seq ([]:List Value).toArray}}:Shared)=s3 at I3 ⊢
 have st3':tn 0 s3.heap:=by rw [<-hs3];exact st3
 generalize s2.heap.objs.size=acc at hacc I3 f3 ⊢
 obtain⟨W,⟨m0,w0⟩,turn⟩:=R s3.heap.objs.size s3 (upd H2 acc (.lst [])) fp acc hacc
 have lt3:∀b∈fp,b < s3.heap.objs.size:=fun b hb=>let ⟨o,e,_⟩:=T.obj _ _ st3' b hb;Heap.lt_size e
 clear st3 hs3
 refine wpAny_newFunctionEnv Cp.cell (by intro y hy;simp at hy) (fun h₁ hns hsb=>?_) Cp.kind
 have k1:∀b o,s3.heap.get? b=some o->h₁.get? b=some o:=fun b o e=>hsb.extBut b o (Nat.ne_of_lt (Heap.lt_size e)) (Heap.get?_push_of_some _ e)
 have I4:Inv (cxC X (x :: cn) scope cl s3.heap.objs.size s3 (upd H2 acc (.lst [])) fp) [] (none :: qay caps σ) (upd H2 acc (.lst [])) {s3 with heap:=h₁,toks:=s3.toks+([]:List (Str × Value)).length}:=
  Inv.comp Cp I3 f3 lt3 hns k1
 have st4:tn 0 h₁:=T.keep _ _ _ st3' fun b _ o e=>k1 b o e
 generalize hX:cxC X (x :: cn) scope cl s3.heap.objs.size s3 (upd H2 acc (.lst [])) fp=X' at I4
 have stat:∀{H':Hp},(∀b∈fp,H' b=none)->∀b∈fp,qgc X' [] H' b:=fun hn b hb=>by
  subst hX
  obtain⟨g0,g1,g2,g3,g4,g5⟩:=f3 b hb
  refine⟨hn b hb,Nat.ne_of_lt (lt3 b hb),fun z=>?_,.inl hb,fun y c e=>g4 y c (Cp.sub y c e),fun p hp=>absurd (show p∈([]:List (Addr × Obj)) from hp) (by simp)⟩
  rcases mem_cons.mp (I3.stkSub b z) with z|z
  .exact g1 z
  .exact g2 z
 have core:codeAny (model X.prog X.w) X.A (.compLoop (.ListComp elt [⟨.Name x px,iter,ifs,0⟩] scope pos) 0 (.ref it) (.ref acc) (compEnvC scope cl s3.heap.objs.size X.env))
   (compPost (model X.prog X.w) X.A X.xe none (EP X pins σ Q) (.ref acc) s3.heap.objs.size) {s3 with heap:=h₁,toks:=s3.toks+([]:List (Str × Value)).length}:=by
  refine codeAny_loop rfl (fun n s'=>∃i a H',Inv X' [] (a :: qay caps σ) H' s'/\tn i s'.heap/\(∀b∈fp,H' b=none)/\W i n H') (fun n s5 hI=>?_) m0 ⟨0,none,_,I4,st4,fun b hb=>(f3 b hb).1,w0⟩
  obtain⟨i,a0,H5,I5,st5,fr5,w5⟩:=hI
  show wpAny _ _ ((compTurn _ 0 _ _ _).onRaise _) _ _ s5
  refine wpAny_noted ?_
  rw [compTurn_list]
  refine wpAny_bind (wpAny_standAt (wpAny_bind ?_))
  have aX:X'.A=X.A:=by subst hX;rfl
  have pX:X'.prog=X.prog:=by subst hX;rfl
  have wX:X'.w=X.w:=by subst hX;rfl
  have kX:X'.K=X.K:=by subst hX;rfl
  have cX:X'.calm=true:=by subst hX;exact hc
  have eX:X'.env=compEnvC scope cl s3.heap.objs.size X.env:=by subst hX;rfl
  rcases turn i n H5 w5 with ⟨stop,qn⟩ |⟨go,N,hN,step⟩
  .have z:=T.done X' pX wX kX cX i [] s5 _ H5 (fun _ _=>False) I5 (stat fr5) st5 stop
   rw [aX] at z
   refine wpAny_mono z (fun r s6 ⟨hr,I6⟩=>?_) fun _ _ q=>q.elim
   subst hr
   subst hX
   obtain⟨m,hm,_⟩:=id I6.loc
   exact wpAny_pure ⟨m,hm,fun h' sb=>⟨.ref acc,H5,Inv.uncomp I3 f3 rfl I6 sb,rfl,qn⟩⟩
  .have z:=T.item X' pX wX kX cX i [] s5 _ H5 (fun _ _=>False) I5 (stat fr5) st5 go
   rw [aX] at z
   refine wpAny_mono z (fun r s6 ⟨u,hr,h6⟩=>?_) fun _ _ q=>q.elim
   subst hr
   refine wpAny_bind (wpAny_mono h6 (fun _ s7 ⟨v,H7,I7,r7,y7,st7,fr7⟩=>?_) fun _ _ q=>q.elim)
   have I7':=I7.pinned (stat fr7) (T.obj _ _ st7)
   have asg:wpAny (model X.prog X.w) X.A (assign (.Name x px) (compEnvC scope cl s3.heap.objs.size X.env) u) (fun _ s8=>Inv X' ([]++qbu fp s7.heap) (some v :: qay caps σ) H7 s8) (fun _ _=>False) s7:=by
    subst hX
    exact wpAny_assign_Name (qdq (X:=cxC X (x :: cn) scope cl s3.heap.objs.size s3 (upd H2 acc (.lst [])) fp) (i:=0) I7' Cp.nd rfl (.inl (lookup_relabel_local Cp.tg)) r7 (fun s' I'=>I') (.inr (lookup_relabel_local Cp.tg)))
   refine wpAny_bind (wpAny_mono asg (fun _ s8 I8=>?_) fun _ _ q=>q.elim)
   have tst:wpAny (model X.prog X.w) X.A (forIn ifs true fun c r=>if r=true then do let ok<-isTrue c (compEnvC scope cl s3.heap.objs.size X.env) (eval c (compEnvC scope cl s3.heap.objs.size X.env));pure (ForInStep.yield ok) else pure (ForInStep.yield r))
     (TP X' ([]++qbu fp s7.heap) (some v :: qay caps σ) (fun b H9=>if b=true then te s3.heap.objs.size s3 (upd H2 acc (.lst [])) fp (some v :: qay caps σ) H9 (fun y H3=>rApp acc N y H3) else N H9)) (fun _ _=>False) s8:=by
    subst hX
    exact ht _ _ _ _ _ s8 _ H7 _ I8 (step v H7 y7)
   refine wpAny_bind (wpAny_mono tst (fun b s9 ⟨H9,I9,q9⟩=>?_) fun _ _ q=>q.elim)
   have fin:∀{a:Option V} {H10:Hp} {s10:Shared},Inv X' ([]++qbu fp s7.heap) (a :: qay caps σ) H10 s10->N H10->∃m',m' < n/\∃i a H',Inv X' [] (a :: qay caps σ) H' s10/\tn i s10.heap/\(∀b∈fp,H' b=none)/\W i m' H':=fun {a H10 s10} I10 n10=>
    let ⟨m',hm,w10⟩:=hN _ n10
    ⟨m',hm,i+1,a,H10,I10.unpinned,T.keep _ _ _ st7 fun b hb o e=>(I10.pin (b,o) (mem_append_right _ (mem_append_right _ (qbs hb e)))).1,fun b hb=>by
     obtain⟨o,e,d⟩:=T.obj _ _ st7 b hb
     exact(I10.pin (b,o) (mem_append_right _ (mem_append_right _ (qbs hb e)))).2.1,w10⟩
   cases b with
   |false=>exact wpAny_pure ⟨rfl,fin I9 q9⟩
   |true=>
    have elt':wpAny (model X.prog X.w) X.A (eval elt (compEnvC scope cl s3.heap.objs.size X.env)) (EP X' ([]++qbu fp s7.heap) (some v :: qay caps σ) (fun y H3=>rApp acc N y H3)) (fun _ _=>False) s9:=by
     subst hX
     exact he _ _ _ _ _ s9 _ H9 _ I9 q9
    refine wpAny_bind (wpAny_bind (wpAny_mono elt' (fun y s10 ⟨w,H10,I10,r10,ys,ha,hz,q10⟩=>?_) fun _ _ q=>q.elim))
    have app:wpAny (model X.prog X.w) X.A (call (.builtin "list.append") [.ref acc,y]) (EP X' ([]++qbu fp s7.heap) (some v :: qay caps σ) fun _ H11=>H11=upd H10 acc (.lst (ys++ [w]))) (fun _ _=>False) s10:=by
     subst hX
     exact qbk (X:=cxC X (x :: cn) scope cl s3.heap.objs.size s3 (upd H2 acc (.lst [])) fp) _ s10 _ H10 (.ref acc) [w] (.ref acc) [y] _ I10 rfl (.cons r10 .nil) ⟨acc,ys,w,rfl,rfl,ha,hz,rfl⟩
    refine wpAny_bind (wpAny_mono app (fun _ s11 ⟨_,H11,I11,_,e11⟩=>?_) fun _ _ q=>q.elim)
    subst e11
    exact wpAny_pure (wpAny_pure ⟨rfl,fin I11 q10⟩)
 exact codeAny_compStart_list core (T.self _ 0 _ _ _ st4 core)
def Its (x:Str):It:=⟨fun i _=>i < x.cps.size,fun i H v H'=>H'=H/\∃c,x.cps[i]?=some c/\v=.str ⟨#[c]⟩,fun i _=>i=x.cps.size⟩
theorem turn_str {P:Program} {w:World} {K:Frag} {y:Str} {py:Pos} (x:Str) (t:Tok) (it:Addr) (ty:String) (W:∀A:Around,A.handled=none->Walks P w A it [it] [it] x.cps.size (SignAt x) (fun i h=>h.IsStrIter it ty x t i))
  (hself:∀(A:Around) (i:Nat) (s:Shared) (Q:Value->Shared->Prop) (E:Value->Shared->Prop),s.heap.IsStrIter it ty x t i->Q (.ref it) s->wpAny (model P w) A (pyIter (.ref it)) Q E s):
  Turn P w K (.Name y py) (Its x) [it] it (fun i h=>h.IsStrIter it ty x t i) where
 mem:=by simp
 obj:=fun i h st b hb=>by
  have e:b=it:=by simpa using hb
  subst e
  obtain⟨o,e,c,d⟩:=st
  exact⟨o,e,fun v z=>by rw [d] at z;cases z⟩
 keep:=fun i h h' ⟨o,e,r⟩ k=>⟨o,k it (by simp) o e,r⟩
 item:=by
  intro X hP hw hK hc i pins s σ H E I hf st hg
  subst hP hw hK
  obtain⟨f0,f1,f2,f3,f4,f5⟩:=hf it (by simp)
  refine(W X.A (I.ok.hd hc)).item i s _ _ hg st fun v h' tk hv st' k=>?_
  have I1:Inv X pins σ H {s with heap:=h',toks:=tk}:=I.turned (t':=tk) (fun b o hb e=>k b o (fun z=>hb (by simpa using z)) e) f0 f1 f3 f4 f5
  obtain⟨c,u,hx,rfl⟩:=hv
  exact⟨_,rfl,wpAny_pure ⟨.str ⟨#[c]⟩,H,I1,⟨_,rfl⟩,⟨rfl,c,hx,rfl⟩,st',fun b hb=>(hf b hb).1⟩⟩
 done:=by
  intro X hP hw hK hc i pins s σ H E I hf st hg
  subst hP hw hK
  have hg':i=x.cps.size:=hg
  subst hg'
  obtain⟨f0,f1,f2,f3,f4,f5⟩:=hf it (by simp)
  exact(W X.A (I.ok.hd hc)).done s _ _ st fun h' tk k=>⟨rfl,I.turned (t':=tk) (fun b o hb e=>k b o (fun z=>hb (by simpa using z)) e) f0 f1 f3 f4 f5⟩
 self:=hself
def rItS (v:V) (H:Hp) (R:It->Hp->Prop):Prop:=∃x,v=.str x/\R (Its x) H
def iStr (tl:TE):TI:=fun σ H R=>tl σ H fun v H1=>rItS v H1 R
end
end My
namespace L2
open PySem PySem.Spec PyProof.Rows
section
variable {κ: Type} [DecidableEq κ]
def qcq (kvs:List (κ × V)) (k:κ):Option V:=(kvs.find? fun kv=>decide (kv.1=k)).map (·.2)
def qdj (kvs:List (κ × V)) (k:κ) (v:V):List (κ × V):=
 if (kvs.any fun kv=>decide (kv.1=k))=true then kvs.map (fun kv=>if kv.1=k then (kv.1,v) else kv) else kvs++ [(k,v)]
theorem qbo {p:κ × V} {r:List (κ × V)} {k:κ} (e:p.1=k):qcq (p :: r) k=some p.2:=by simp [qcq,find?_cons,e]
theorem qbp {p:κ × V} {r:List (κ × V)} {k:κ} (e:¬p.1=k):qcq (p :: r) k=qcq r k:=by simp [qcq,find?_cons,e]
theorem qcf (k:κ):∀kvs:List (κ × V),(kvs.any fun kv=>decide (kv.1=k))=(qcq kvs k).isSome
 | []=>rfl
 |p :: r=>by
  rw [any_cons]
  by_cases e:p.1=k
  .simp only [qbo e,decide_eq_true e,Bool.true_or,Option.isSome_some]
  .rw [qbp e,decide_eq_false e,Bool.false_or];exact qcf k r
theorem valV_map (k j:κ) (y:V):∀kvs:List (κ × V),qcq (kvs.map fun kv=>if kv.1=k then (kv.1,y) else kv) j=(qcq kvs j).map fun x=>if j=k then y else x
 | []=>rfl
 |p :: r=>by
  have ih:=valV_map k j y r
  rw [map_cons]
  by_cases h:p.1=k
  .rw [if_pos h]
   by_cases e:p.1=j
   .rw [qbo (p:=(p.1,y)) e,qbo e,Option.map_some,if_pos (e.symm.trans h)]
   .rw [qbp (p:=(p.1,y)) e,qbp e,ih]
  .rw [if_neg h]
   by_cases e:p.1=j
   .rw [qbo (p:=p) e,qbo e,Option.map_some,if_neg (fun z=>h (e.trans z))]
   .rw [qbp (p:=p) e,qbp e,ih]
theorem valV_snoc (k j:κ) (y:V):∀kvs:List (κ × V),qcq kvs k=none->qcq (kvs++ [(k,y)]) j=if j=k then some y else qcq kvs j
 | [],_=>by
  by_cases e:k=j
  .rw [if_pos e.symm];exact qbo (p:=(k,y)) e
  .rw [if_neg (fun z=>e z.symm)];exact qbp (p:=(k,y)) e
 |p :: r,hn=>by
  rw [List.cons_append]
  have hk:¬p.1=k:=fun z=>by rw [qbo z] at hn;cases hn
  rw [qbp hk] at hn
  have ih:=valV_snoc k j y r hn
  by_cases e:p.1=j
  .rw [qbo e,qbo e,if_neg (fun z=>hk (e.trans z))]
  .rw [qbp e,qbp e,ih]
theorem valV_put (kvs:List (κ × V)) (k j:κ) (y:V):qcq (qdj kvs k y) j=if j=k then some y else qcq kvs j:=by
 unfold qdj
 by_cases a:(kvs.any fun kv=>decide (kv.1=k))=true
 .rw [if_pos a,valV_map]
  rw [qcf] at a
  by_cases e:j=k
  .obtain⟨x,hx⟩:=Option.isSome_iff_exists.mp a
   rw [if_pos e,e,hx,Option.map_some,if_pos rfl]
  .rw [if_neg e]
   cases qcq kvs j with
   |none=>rfl
   |some x=>rw [Option.map_some,if_neg e]
 .rw [if_neg a]
  refine valV_snoc k j y kvs ?_
  rw [qcf] at a
  cases q:qcq kvs k with
  |none=>rfl
  |some x=>rw [q] at a;exact(a rfl).elim
theorem qbc (kvs:List (κ × V)) (k:κ) (v:V):(qdj kvs k v).length<=kvs.length+1:=by
 unfold qdj
 split
 .rw [length_map];omega
 .rw [length_append,length_cons,length_nil];omega
theorem putK_new {kvs:List (κ × V)} {k:κ} (v:V) (h:qcq kvs k=none):qdj kvs k v=kvs++ [(k,v)]:=by
 unfold qdj
 rw [qcf,h]
 exact if_neg (by decide)
theorem qeb.isSome_eq {o:Option V} {u:Option Value} (r:qeb o u):o.isSome=u.isSome:=by
 cases o with
 |none=>cases u with
  |none=>rfl
  |some _=>exact(show False from r).elim
 |some _=>cases u with
  |none=>exact(show False from r).elim
  |some _=>rfl
theorem qeb.getD {o:Option V} {u:Option Value} {d:V} {d':Value} (r:qeb o u) (rd:qb7 d d'):qb7 (o.getD d) (u.getD d'):=by
 cases o with
 |none=>cases u with
  |none=>exact rd
  |some _=>exact(show False from r).elim
 |some _=>cases u with
  |none=>exact(show False from r).elim
  |some _=>exact r
theorem KV.val {kvs:List (κ × V)} {vs:List (κ × Value)} (r:KV kvs vs) (k:κ):qeb (qcq kvs k) (valueAt vs k):=by
 unfold KV at r
 induction r with
 |nil=>exact True.intro
 | @cons p q ps qs h t ih=>
  obtain⟨h1,h2⟩:=h
  by_cases e:p.1=k
  .have e':q.1=k:=h1.symm.trans e
   have b:valueAt (q :: qs) k=some q.2:=by simp [valueAt,find?_cons,e']
   rw [qbo e,b];exact h2
  .have e':¬q.1=k:=fun z=>e (h1.trans z)
   have b:valueAt (q :: qs) k=valueAt qs k:=by simp [valueAt,find?_cons,e']
   rw [qbp e,b];exact ih
theorem KV.any {kvs:List (κ × V)} {vs:List (κ × Value)} (r:KV kvs vs) (k:κ):(kvs.any fun kv=>decide (kv.1=k))=vs.any fun kv=>decide (kv.1=k):=by
 unfold KV at r
 induction r with
 |nil=>rfl
 |cons h t ih=>rw [any_cons,any_cons,ih,h.1]
theorem KV.repl {kvs:List (κ × V)} {vs:List (κ × Value)} (r:KV kvs vs) (k:κ) {y:V} {u:Value} (ry:qb7 y u):
  KV (kvs.map fun kv=>if kv.1=k then (kv.1,y) else kv) (vs.map fun kv=>if kv.1=k then (kv.1,u) else kv):=by
 unfold KV at r ⊢
 induction r with
 |nil=>exact .nil
 | @cons p q ps qs h t ih=>
  rw [map_cons,map_cons]
  refine .cons ?_ ih
  obtain⟨h1,h2⟩:=h
  by_cases e:p.1=k
  .rw [if_pos e,if_pos (h1.symm.trans e)];exact⟨h1,ry⟩
  .rw [if_neg e,if_neg (fun z=>e (h1.trans z))];exact⟨h1,h2⟩
theorem KV.put {kvs:List (κ × V)} {vs:List (κ × Value)} (r:KV kvs vs) (k:κ) {y:V} {u:Value} (ry:qb7 y u):KV (qdj kvs k y) (stored vs k u):=by
 unfold qdj stored
 rw [r.any k]
 by_cases e:(vs.any fun kv=>decide (kv.1=k))=true
 .rw [if_pos e,if_pos e];exact r.repl k ry
 .rw [if_neg e,if_neg e];exact Paired.snoc r ⟨rfl,ry⟩
theorem KV.keys {kvs:List (κ × V)} {vs:List (κ × Value)} (r:KV kvs vs):kvs.map (·.1)=vs.map (·.1):=by
 unfold KV at r
 induction r with
 |nil=>rfl
 |cons h t ih=>rw [map_cons,map_cons,ih,h.1]
theorem KV.length {kvs:List (κ × V)} {vs:List (κ × Value)} (r:KV kvs vs):kvs.length=vs.length:=Paired.length r
end
theorem kV_is {P:Program} {w:World} {k:Key} {u:Value} (r:qb7 (kV k) u):(qb4 P w).is k u=true:=by
 cases k with
 |inl i=>obtain⟨t,e⟩:=(show ∃t,u=Value.int i t from r);subst e;exact mixKind_int P w i t
 |inr x=>obtain⟨t,e⟩:=(show ∃t,u=Value.str x t from r);subst e;exact mixKind_str P w x t
theorem items_are {P:Program} {w:World}:∀{ks:List Key} {us:List Value},qb5 (ks.map kV) us->ItemsAre (qb4 P w) ks us
 | [],_,r=>by rw [List.map_nil] at r;cases r;exact .nil
 |k :: ks,_,r=>by
  rw [map_cons] at r
  cases r with
  |cons h t=>exact .cons (kV_is h) (items_are t)
abbrev KT (H:Hp):List (List Key × V)->List (List Key × Addr × Value)->Prop:=Paired fun p q=>p.1=q.1/\H q.2.1=some (.tup (p.1.map kV))/\qb7 p.2 q.2.2
theorem KT.val {H:Hp} {kvs:List (List Key × V)} {xs:List (List Key × Addr × Value)} (r:KT H kvs xs) (k:List Key):qeb (qcq kvs k) ((atKey xs k).map (·.2)):=by
 induction r with
 |nil=>exact True.intro
 | @cons p q ps qs h t ih=>
  obtain⟨h1,_,h2⟩:=h
  by_cases e:p.1=k
  .have e':q.1=k:=h1.symm.trans e
   have b:atKey (q :: qs) k=some q.2:=by simp [atKey,find?_cons,e']
   rw [qbo e,b];exact h2
  .have e':¬q.1=k:=fun z=>e (h1.trans z)
   have b:atKey (q :: qs) k=atKey qs k:=by simp [atKey,find?_cons,e']
   rw [qbp e,b];exact ih
theorem KT.repl {H:Hp} {kvs:List (List Key × V)} {xs:List (List Key × Addr × Value)} (r:KT H kvs xs) (k:List Key) {y:V} {u:Value} (ry:qb7 y u):
  KT H (kvs.map fun kv=>if kv.1=k then (kv.1,y) else kv) (xs.map (putAt k u)):=by
 induction r with
 |nil=>exact .nil
 | @cons p q ps qs h t ih=>
  rw [map_cons,map_cons]
  refine .cons ?_ ih
  obtain⟨h1,h2,h3⟩:=h
  unfold putAt
  by_cases e:p.1=k
  .rw [if_pos e,if_pos (h1.symm.trans e)];exact⟨h1,h2,ry⟩
  .rw [if_neg e,if_neg (fun z=>e (h1.trans z))];exact⟨h1,h2,h3⟩
theorem KT.put {H:Hp} {kvs:List (List Key × V)} {xs:List (List Key × Addr × Value)} (r:KT H kvs xs) (k:List Key) {b:Addr} {y:V} {u:Value} (hb:H b=some (.tup (k.map kV))) (ry:qb7 y u):
  KT H (qdj kvs k y) (storedH xs k b u):=by
 have e:(kvs.any fun kv=>decide (kv.1=k))=(atKey xs k).isSome:=by
  rw [qcf,(r.val k).isSome_eq,Option.isSome_map]
 unfold qdj storedH
 rw [e]
 by_cases q:(atKey xs k).isSome=true
 .rw [if_pos q,if_pos q];exact r.repl k ry
 .rw [if_neg q,if_neg q];exact Paired.snoc r ⟨rfl,hb,ry⟩
theorem KT.keeps {H H':Hp} {kvs:List (List Key × V)} {xs:List (List Key × Addr × Value)} (r:KT H kvs xs) (ht:∀b ys,H b=some (.tup ys)->H' b=some (.tup ys)):KT H' kvs xs:=
 Paired.mapP r fun _ _ z=>⟨z.1,ht _ _ z.2.1,z.2.2⟩
section
variable {P: Program} {w: World} {H: Hp} {h: Heap} {a: Addr}
theorem rd_of {u:HO} (ok:HOk P w H h) (e:Rd H a u):qbf P w H h a u:=e.ok ok
theorem qe9 {kvs:List (Key × V)} (ok:HOk P w H h) (e:Rd H a (.dK kvs)):kvs.length<=sizeLine/\(a==sysModules)=false/\∃vs,KV kvs vs/\h.DictOf (qb4 P w) a vs:=
 show qbf P w H h a (.dK kvs) from rd_of ok e
theorem dk_of {kvs:List (Key × V)} (ok:HOk P w H h) (e:H a=some (.dK kvs)):kvs.length<=sizeLine/\(a==sysModules)=false/\∃vs,KV kvs vs/\h.DictOf (qb4 P w) a vs:=qe9 ok (.inl e)
theorem key_of {ks:List Key} (ok:HOk P w H h) (e:H a=some (.tup (ks.map kV))):(tupleKind (qb4 P w)).is h ks a:=by
 obtain⟨_,its,r,o,h1,h2,n,h3⟩:=(show qbf P w H h a (.tup (ks.map kV)) from ok a _ e)
 exact⟨o,its.toArray,n,h1,h2,h3,by simpa using items_are r⟩
theorem dt_rd {kvs:List (List Key × V)} (ok:HOk P w H h) (e:Rd H a (.dT kvs)):kvs.length<=sizeLine/\(a==sysModules)=false/\
  ∃xs,KT H kvs xs/\h.DictOfH (tupleKind (qb4 P w)) a xs:=by
 obtain⟨z,y,xs,r,o,es,ep,h1,h2,h3,h4,h5⟩:=(show qbf P w H h a (.dT kvs) from rd_of ok e)
 refine⟨z,y,xs,r,o,es,ep,h1,h2,h3,h4,fun x hx=>?_,h5⟩
 have all:∀{l:List (List Key × V)} {m:List (List Key × Addr × Value)},KT H l m->∀x∈m,(tupleKind (qb4 P w)).is h x.1 x.2.1:=by
  intro l m q
  induction q with
  |nil=>intro x hx;exact nomatch hx
  | @cons p q ps qs hq t ih=>
   intro x hx
   rcases mem_cons.mp hx with e|hx
   .subst e
    exact key_of ok (by rw [<-hq.1];exact hq.2.1)
   .exact ih x hx
 exact all r x hx
theorem dt_of {kvs:List (List Key × V)} (ok:HOk P w H h) (e:H a=some (.dT kvs)):kvs.length<=sizeLine/\(a==sysModules)=false/\
  ∃xs,KT H kvs xs/\h.DictOfH (tupleKind (qb4 P w)) a xs:=dt_rd ok (.inl e)
end
def DGet (H:Hp) (a:Addr) (y:V) (r:Option V):Prop:=
 (∃kvs k,Rd H a (.dK kvs)/\y=kV k/\r=qcq kvs k)\/∃kvs k b,Rd H a (.dT kvs)/\y=.ref b/\H b=some (.tup (k.map kV))/\r=qcq kvs k
def DPut (H:Hp) (a:Addr) (y v:V) (H':Hp):Prop:=
 (∃kvs k,H a=some (.dK kvs)/\y=kV k/\kvs.length < sizeLine/\H'=upd H a (.dK (qdj kvs k v)))\/
 ∃kvs k b,H a=some (.dT kvs)/\y=.ref b/\H b=some (.tup (k.map kV))/\kvs.length < sizeLine/\H'=upd H a (.dT (qdj kvs k v))
theorem DPut.k {H:Hp} {a:Addr} {kvs:List (Key × V)} {k:Key} {v:V} (e:H a=some (.dK kvs)) (hl:kvs.length < sizeLine):DPut H a (kV k) v (upd H a (.dK (qdj kvs k v))):=.inl ⟨kvs,k,e,rfl,hl,rfl⟩
section
variable {X: Cx} {pins: List (Addr × Obj)} {σ: St} {H: Hp} {s: Shared} {a: Addr} {y v: V} {u r: Value} {o: Option V} {A: Around} {E: Value -> Shared -> Prop}
theorem Inv.big (I:Inv X pins σ H s):sysModules < s.heap.objs.size:=by
 have h:mainGlobals < s.heap.objs.size:=(I.mod.glob.keeps I.bk).lt
 exact Nat.lt_trans (by decide) h
theorem d_getItem {Q:Value->Shared->Prop} (hu:A.units+1 < cLine) (I:Inv X pins σ H s) (g:DGet H a y (some v)) (ry:qb7 y u) (h:∀w' s',Inv X pins σ H s'->qb7 v w'->Q w' s'):
  wpAny (model X.prog X.w) A (getItem (.ref a) u) Q E s:=by
 rcases g with ⟨kvs,k,e,ey,l⟩ |⟨kvs,k,b,e,ey,eb,l⟩
 .subst ey
  obtain⟨z,hd,vs,rel,dd⟩:=qe9 I.hok e
  obtain⟨w',hw,rw'⟩:=qeb.some_of (v:=v) (o:=valueAt vs k) (by rw [l];exact rel.val k)
  exact wpAny_getItem_of (kV_is ry) dd.mapOf hw (h w' _ (I.tok _) rw')
 .subst ey
  cases (show u=Value.ref b from ry)
  obtain⟨z,hd,xs,rel,dd⟩:=dt_rd I.hok e
  obtain⟨w',hw,rw'⟩:=qeb.some_of (v:=v) (o:=(atKey xs k).map (·.2)) (by rw [l];exact rel.val k)
  obtain⟨p,hp,hp2⟩:=Option.map_eq_some_iff.mp hw
  refine wpAny_getItem_heap (tupleKind_room_in1 hu) (key_of I.hok eb) dd hp ?_
  rw [hp2]
  exact h w' _ (I.tok _) rw'
theorem d_in {Q:Value->Shared->Prop} (hu:A.units+1 < cLine) (I:Inv X pins σ H s) (g:DGet H a y o) (ry:qb7 y u) (h:∀s',Inv X pins σ H s'->Q (.bool o.isSome) s'):
  wpAny (model X.prog X.w) A (compareOp .In u (.ref a)) Q E s:=by
 rcases g with ⟨kvs,k,e,ey,l⟩ |⟨kvs,k,b,e,ey,eb,l⟩
 .subst ey
  obtain⟨z,hd,vs,rel,dd⟩:=qe9 I.hok e
  refine wpAny_in_of (kV_is ry) hd dd.mapOf ?_
  rw [<-(rel.val k).isSome_eq,<-l]
  exact h _ (I.tok _)
 .subst ey
  cases (show u=Value.ref b from ry)
  obtain⟨z,hd,xs,rel,dd⟩:=dt_rd I.hok e
  refine wpAny_in_heap (tupleKind_room_in1 hu) (key_of I.hok eb) hd dd ?_
  have q:=(rel.val k).isSome_eq
  rw [Option.isSome_map] at q
  rw [<-q,<-l]
  exact h _ (I.tok _)
theorem d_write {h':Heap} {t':Nat} {ob:HO} (I:Inv X pins σ H s) (mu:Mut (H a)) (hs:Heap.SameBut a s.heap h') (he:∃q,h'.get? a=some q) (new:qbf X.prog X.w (upd H a ob) h' a ob):
  Inv X pins σ (upd H a ob) {s with heap:=h',toks:=t'}:=
 I.write (x:=a) (e:=a) mu (.inl rfl) (fun b q hb z=>(hs.2 b hb).trans z) he new
theorem dk_new {P:Program} {w:World} {H':Hp} {h':Heap} {kvs:List (Key × V)} {vs:List (Key × Value)} (z:kvs.length<=sizeLine) (hd:(a==sysModules)=false) (rel:KV kvs vs) (dd:h'.DictOf (qb4 P w) a vs):
  qbf P w H' h' a (.dK kvs):=⟨z,hd,vs,rel,dd⟩
theorem d_setItem {H':Hp} {Q:Unit->Shared->Prop} (hu:A.units+1 < cLine) (I:Inv X pins σ H s) (g:DPut H a y v H') (ry:qb7 y u) (rv:qb7 v r) (h:∀s',Inv X pins σ H' s'->Q () s'):
  wpAny (model X.prog X.w) A (setItem (.ref a) u r) Q E s:=by
 rcases g with ⟨kvs,k,e,ey,l,eH⟩ |⟨kvs,k,b,e,ey,eb,l,eH⟩
 .subst ey eH
  obtain⟨z,hd,vs,rel,dd⟩:=dk_of I.hok e
  have hz:vs.length<=sizeLine:=by rw [<-rel.length];exact z
  have hl:(qdj kvs k v).length<=sizeLine:=by have:=qbc kvs k v;omega
  refine wpAny_setItem_pairs (hsz:=hz) (kV_is ry) dd fun h' dd' hs=>h _ ?_
  have he:∃q,h'.get? a=some q:=let ⟨q,_,_,hq,_⟩:=dd';⟨q,hq⟩
  exact d_write I (by rw [e];exact True.intro) hs he (dk_new hl hd (rel.put k rv) dd')
 .subst ey eH
  cases (show u=Value.ref b from ry)
  obtain⟨z,hd,xs,rel,dd⟩:=dt_of I.hok e
  have hz:xs.length<=sizeLine:=by rw [<-Paired.length rel];exact z
  have hl:(qdj kvs k v).length<=sizeLine:=by have:=qbc kvs k v;omega
  refine wpAny_setItem_heap (hsz:=hz) (tupleKind_room_in1 hu) (key_of I.hok eb) dd fun h' dd' hs=>h _ ?_
  obtain⟨q,es,ep,hq,h2,h3,h4,_,h5⟩:=dd'
  refine d_write I (by rw [e];exact True.intro) hs ⟨q,hq⟩ ⟨hl,hd,_,(rel.put k eb rv).keeps fun c ys ec=>?_,q,es,ep,hq,h2,h3,h4,h5⟩
  rw [qa6 (ne_of ec e (fun z=>nomatch z))]
  exact ec
end
section
variable {X: Cx} {pins: List (Addr × Obj)} {σ: St} {H: Hp} {s: Shared} {a: Addr} {kvs: List (Key × V)} {A: Around} {E: Value -> Shared -> Prop}
theorem d_len {Q:Value->Shared->Prop} (I:Inv X pins σ H s) (e:Rd H a (.dK kvs)) (h:∀t s',Inv X pins σ H s'->Q (.int kvs.length t) s'):wpAny (model X.prog X.w) A (call (.builtin "len") [.ref a]) Q E s:=by
 obtain⟨z,hd,vs,rel,dd⟩:=qe9 I.hok e
 refine call_len_dict hd dd (by rw [<-rel.length];rw [sizeLine_eq] at z;omega) ?_
 rw [<-rel.length]
 exact h _ _ (I.tok _)
end
def NoSl (i:Expr):Prop:=∀ov iv,subscripted i false ov iv=operate [ov,iv] (getItem ov iv)
theorem subD_of {prog:Program} {w:World} {A:Around} {E:Value->Shared->Prop} {s:Shared} {env:Env} {value slice:Expr} {pos:Pos} {T id:String} {Q:Value->Shared->Prop}
  (hl:typeLookup (.type T) "__getitem__" =pure (some (.builtin id))) (hs:NoSl slice)
  (h:wpAny (model prog w) A (eval value env) (fun o s₁=>wpAny (model prog w) A (eval slice env) (fun i s₂=>s₂.TypeIs o T/\wpAny (model prog w) A (getItem o i) Q E s₂) E s₁) E s):
  wpAny (model prog w) A (eval (.Subscript value slice pos) env) Q E s:=by
 refine Subscript_ (wpAny_mono h (fun o s₁ h₁=>wpAny_mono h₁ (fun i s₂ h₂=>?_) fun _ _ x=>x) fun _ _ x=>x)
 obtain⟨hT,h₂⟩:=h₂
 unfold subscriptTail
 refine wpAny_bind ?_
 rw [getitemInPython_of_ne hT.not_modules]
 refine wpAny_bind (wpAny_specialOf hT hl ?_)
 have fin:wpAny (model prog w) A (subscripted slice false o i) (fun r s₃=>wpAny (model prog w) A (letTemporaryGo value o r >>= fun _=>pure r) Q E s₃) E s₂:=by
  rw [hs o i]
  exact wpAny_operating (wpAny_mono h₂ (fun r s₃ h₃=>wpAny_bind (wpAny_letTemporaryGo (wpAny_pure h₃))) fun _ _ x=>x)
 first
  |exact wpAny_pure (wpAny_bind fin)
  |exact wpAny_bind (wpAny_pure (wpAny_bind fin))
  |exact wpAny_bind fin
theorem dict_typeIs {X:Cx} {pins:List (Addr × Obj)} {σ:St} {H:Hp} {s:Shared} {a:Addr} {y:V} {o:Option V} (I:Inv X pins σ H s) (g:DGet H a y o):s.TypeIs (.ref a) "dict":=by
 rcases g with ⟨kvs,k,e,_,_⟩ |⟨kvs,k,b,e,_,_,_⟩
 .obtain⟨_,_,vs,_,dd⟩:=qe9 I.hok e
  exact dd.typeIs
 .obtain⟨_,_,xs,_,dd⟩:=dt_rd I.hok e
  exact dd.typeIs
def tDGet (td ty:TE):TE:=fun σ H Q=>td σ H fun x H1=>ty σ H1 fun y H2=>∃a v,x=.ref a/\DGet H2 a y (some v)/\Q v H2
def tDIn (ty td:TE):TE:=fun σ H Q=>ty σ H fun y H1=>td σ H1 fun x H2=>∃a o,x=.ref a/\DGet H2 a y o/\Q (.bl o.isSome) H2
def sDPut (td ty tv:TE):TS:=fun D σ H=>tv σ H fun v H1=>td σ H1 fun x H2=>ty σ H2 fun y H3=>∃a H4,x=.ref a/\DPut H3 a y v H4/\D.nx σ H4
section
variable {X: Cx} {o i value: Expr} {pos pos': Pos} {td ty tv: TE}
theorem qck (hu:X.A.units+1 < cLine) (ho:PE X o td) (hi:PE X i ty) (hs:NoSl i):PE X (.Subscript o i pos) (tDGet td ty):=by
 intro pins s σ H Q I h
 refine subD_of PySem.F.slot_dict_getitem.lookup hs (thn (ho pins s σ H _ I h) fun u s1 ⟨x,H1,I1,rx,q1⟩=>thn (hi pins s1 σ H1 _ I1 q1) fun iv s2 ⟨y,H2,I2,ry,a,v,ex,g,q2⟩=>?_)
 subst ex
 obtain rfl:u=Value.ref a:=rx
 exact⟨dict_typeIs I2 g,d_getItem hu I2 g ry fun w' s3 I3 rw'=>⟨v,H2,I3,rw',q2⟩⟩
theorem pc_din (hu:X.A.units+1 < cLine) (hi:PE X i ty) (ho:PE X o td):PC X .In i o (tDIn ty td):=by
 intro pins s σ H Q I h
 refine thn (hi pins s σ H _ I h) fun iv s1 ⟨y,H1,I1,ry,q1⟩=>thn (ho pins s1 σ H1 _ I1 q1) fun u s2 ⟨x,H2,I2,rx,a,ov,ex,g,q2⟩=>?_
 subst ex
 obtain rfl:u=Value.ref a:=rx
 exact d_in hu I2 g ry fun s3 I3=>⟨.bl ov.isSome,H2,I3,rfl,q2⟩
theorem qcv (hu:X.A.units+1 < cLine) (ho:PE X o td) (hi:PE X i ty) (hv:PE X value tv) (hs:swapsWith value (some (.Subscript o i pos')) pos.line X.env=pure false):
  PS X (.Assign [.Subscript o i pos'] value pos) (sDPut td ty tv):=by
 intro pins s σ H D I h
 refine wpAny_Assign_Subscript (thn (hv pins s σ H _ I h) fun r s1 ⟨v,H1,I1,rv,q1⟩=>thn (ho pins s1 σ H1 _ I1 q1) fun u s2 ⟨x,H2,I2,rx,q2⟩=>thn (hi pins s2 σ H2 _ I2 q2) fun iv s3 ⟨y,H3,I3,ry,a,H4,ex,g,q3⟩=>?_) hs
 subst ex
 obtain rfl:u=Value.ref a:=rx
 exact d_setItem hu I3 g ry rv fun s4 I4=>⟨σ,H4,I4,q3⟩
end
theorem dk_empty {P:Program} {w:World} {H:Hp} (h:Heap) (hb:sysModules < h.objs.size):qbf P w H (h.push {cls:=.type "dict",data:=.dict #[]}) h.objs.size (.dK []):=
 ⟨Nat.zero_le _,beq_eq_false_iff_ne.mpr (Ne.symm (Nat.ne_of_lt hb)), [],.nil,Heap.DictOf.new h⟩
def tDNewK:TE:=fun _ H Q=>∀p,H p=none->Q (.ref p) (upd H p (.dK []))
section
variable {X: Cx} {pos: Pos}
theorem qcw:PE X (.Dict [] [] pos) tDNewK:=fun pins s σ H Q I h=>
 wpAny_Dict_empty ⟨.ref s.heap.objs.size,_,I.laid (a:=s.heap.objs.size) (o:=.dK []) (t':=s.toks) (fun _ _ q=>Heap.get?_push_of_some _ q) (Nat.le_refl _) (dk_empty s.heap I.big),rfl,h _ (I.hok.fresh (Nat.le_refl _))⟩
end
def tPairs:List (TE × TE)->St->Hp->(List (V × V)->Hp->Prop)->Prop
 | [],_,H,Q=>Q [] H
 |(tk,tv) :: r,σ,H,Q=>tk σ H fun x H1=>tv σ H1 fun y H2=>tPairs r σ H2 fun ps H3=>Q ((x,y) :: ps) H3
abbrev VV:List (V × V)->List (Value × Value)->Prop:=Paired fun p q=>qb7 p.1 q.1/\qb7 p.2 q.2
def PPs (X:Cx) (pos:Pos) (keys:List (Option Expr)) (values:List Expr) (trs:List (TE × TE)):Prop:=
 ∀(pins:List (Addr × Obj)) (s:Shared) (σ:St) (H:Hp) (Q:List (V × V)->Hp->Prop),Inv X pins σ H s->tPairs trs σ H Q->
  wpAny (model X.prog X.w) X.A (evalPairs (pairTrees keys values X.env pos)) (fun vs s'=>∃ps H',Inv X pins σ H' s'/\VV ps vs/\Q ps H') X.xe s
theorem pps_nil {X:Cx} {pos:Pos}:PPs X pos [] [] []:=fun pins s σ H Q I h=>pairTrees_nil_walk ⟨[],H,I,.nil,h⟩
theorem pps_cons {X:Cx} {pos:Pos} {k v:Expr} {ks:List (Option Expr)} {vs:List Expr} {tk tv:TE} {trs:List (TE × TE)} (hk:PE X k tk) (hv:PE X v tv) (hr:PPs X pos ks vs trs):
  PPs X pos (some k :: ks) (v :: vs) ((tk,tv) :: trs):=fun pins s σ H Q I h=>
 pairTrees_cons_walk (thn (hk pins s σ H _ I h) fun u s1 ⟨x,H1,I1,rx,q1⟩=>thn (hv pins s1 σ H1 _ I1 q1) fun w2 s2 ⟨y,H2,I2,ry,q2⟩=>
  thn (hr pins s2 σ H2 _ I2 q2) fun ws s3 ⟨ps,H3,I3,rel,q3⟩=>⟨(x,y) :: ps,H3,I3,.cons ⟨rx,ry⟩ rel,q3⟩)
def qfa (kvs more:List (Key × V)):List (Key × V):=more.foldl (fun acc kv=>qdj acc kv.1 kv.2) kvs
theorem KV.merge:∀{more:List (Key × V)} {rs:List (Key × Value)} {kvs:List (Key × V)} {vs:List (Key × Value)},KV more rs->KV kvs vs->KV (qfa kvs more) (merged vs rs):=by
 intro more rs kvs vs r
 unfold KV at r
 induction r generalizing kvs vs with
 |nil=>intro q;exact q
 | @cons p q ps qs h t ih=>
  intro r0
  have e:KV (qdj kvs p.1 p.2) (stored vs q.1 q.2):=by
   have:=r0.put p.1 h.2
   rw [<-h.1];exact this
  exact ih e
theorem qdu:∀(more kvs:List (Key × V)),(qfa kvs more).length<=kvs.length+more.length
 | [],kvs=>by show kvs.length<=kvs.length+0;omega
 |p :: r,kvs=>by
  have h1:=qdu r (qdj kvs p.1 p.2)
  have h2:=qbc kvs p.1 p.2
  show (qfa (qdj kvs p.1 p.2) r).length<=_
  rw [length_cons];omega
theorem qfj {P:Program} {w:World}:∀{kvs:List (Key × V)} {ws:List (Value × Value)},VV (kvs.map fun kv=>(kV kv.1,kv.2)) ws->∃rs,Carries (qb4 P w) ws rs/\KV kvs rs
 | [],_,r=>by rw [List.map_nil] at r;cases r;exact⟨[],True.intro,.nil⟩
 |p :: kvs,_,r=>by
  rw [map_cons] at r
  cases r with
  | @cons a b as bs h t=>
   obtain⟨rs,c,q⟩:=qfj (P:=P) (w:=w) t
   obtain⟨b1,b2⟩:=b
   exact⟨(p.1,b2) :: rs,⟨kV_is h.1,rfl,c⟩,.cons ⟨rfl,h.2⟩ q⟩
def tDisp (trs:List (TE × TE)):TE:=fun σ H Q=>∀p,H p=none->tPairs trs σ (upd H p (.dK [])) fun ps H2=>H2 p=some (.dK [])/\∃kvs:List (Key × V),ps=kvs.map (fun kv=>(kV kv.1,kv.2))/\kvs.length<=15/\Q (.ref p) (upd H2 p (.dK (qfa [] kvs)))
theorem pe_disp {X:Cx} {pos:Pos} {keys:List (Option Expr)} {values:List Expr} {trs:List (TE × TE)} (h:PPs X pos keys values trs) (hall:keys.all (·.isSome)=true) (hl:keys.length=values.length) (h0:keys≠ [])
  (h15:keys.length<=15):PE X (.Dict keys values pos) (tDisp trs):=by
 intro pins s σ H Q I q
 have hn:=I.hok.fresh (Nat.le_refl s.heap.objs.size)
 have I1:=I.laid (a:=s.heap.objs.size) (o:=.dK []) (h':=s.heap.push {cls:=.type "dict",data:=.dict #[]}) (t':=s.toks) (fun _ _ q=>Heap.get?_push_of_some _ q) (Nat.le_refl _) (dk_empty s.heap I.big)
 refine wpAny_Dict_walk (knd:=qb4 X.prog X.w) hall hl h0 h15 (thn (h pins _ σ _ _ I1 (q _ hn)) fun ws s2 ⟨ps,H2,I2,rel,e,kvs,ep,lk,q2⟩=>?_)
 subst ep
 obtain⟨rs,c,rk⟩:=qfj (P:=X.prog) (w:=X.w) rel
 obtain⟨z,hd,vs0,r0,dd⟩:=dk_of I2.hok e
 cases r0
 refine⟨rs,c,dd,fun h' dd' hs=>⟨.ref s.heap.objs.size,_,?_,rfl,q2⟩⟩
 have hz:(qfa [] kvs).length<=sizeLine:=by
  have h1:=qdu kvs []
  rw [length_nil] at h1
  rw [sizeLine_eq];omega
 have he:∃q,h'.get? s.heap.objs.size=some q:=let ⟨q,_,_,hq,_⟩:=dd';⟨q,hq⟩
 exact d_write I2 (by rw [e];exact True.intro) hs he (dk_new hz hd (rk.merge .nil) dd')
structure M1 (X:Cx) (o:Expr) (m:Str) (apos:Pos) (e:Expr) (cpos:Pos):Prop where
 base:attributeBase o m X.env (eval o X.env)=eval o X.env
 few:((backTo cpos (starEach [e] X.env)).all (fun x=>!x.1) && (backToKw cpos (keywordEach [] X.env)).all (fun x=>x.1.isSome)
  && decide (([e]:List Expr).length+([]:List Keyword).length+(if ([]:List Keyword).isEmpty then 0 else 1) < 30))=true
 line:(apos.endLine==cpos.line)=true
 trees:backTo cpos (starEach [e] X.env)=[(false,eval e X.env)]
structure M2 (X:Cx) (o:Expr) (m:Str) (apos:Pos) (e f:Expr) (cpos:Pos):Prop where
 base:attributeBase o m X.env (eval o X.env)=eval o X.env
 few:((backTo cpos (starEach [e,f] X.env)).all (fun x=>!x.1) && (backToKw cpos (keywordEach [] X.env)).all (fun x=>x.1.isSome)
  && decide (([e,f]:List Expr).length+([]:List Keyword).length+(if ([]:List Keyword).isEmpty then 0 else 1) < 30))=true
 line:(apos.endLine==cpos.line)=true
 trees:backTo cpos (starEach [e,f] X.env)=[(false,eval e X.env),(false,eval f X.env)]
def IsD (H:Hp) (a:Addr):Prop:=(∃kvs,Rd H a (.dK kvs))\/∃kvs,Rd H a (.dT kvs)
theorem isD_at {X:Cx} {pins:List (Addr × Obj)} {σ:St} {H:Hp} {s:Shared} {a:Addr} (I:Inv X pins σ H s) (d:IsD H a):
  s.TypeIs (.ref a) "dict"/\(∀b,Value.ref a=.ref b->∃ob,s.heap.get? b=some ob/\ob.dict=none)/\(a==sysModules)=false:=by
 rcases d with ⟨kvs,e⟩ |⟨kvs,e⟩
 .obtain⟨_,hd,vs,_,dd⟩:=qe9 I.hok e
  refine⟨dd.typeIs,fun b q=>?_,hd⟩
  cases q
  obtain⟨ob,_,_,h1,h2,_⟩:=dd
  exact⟨ob,h1,h2.2.1⟩
 .obtain⟨_,hd,xs,_,dd⟩:=dt_rd I.hok e
  refine⟨dd.typeIs,fun b q=>?_,hd⟩
  cases q
  obtain⟨ob,_,_,h1,h2,_⟩:=dd
  exact⟨ob,h1,h2.2.1⟩
section
variable {X: Cx} {pins: List (Addr × Obj)} {σ: St} {H: Hp} {s: Shared} {a: Addr} {y d: V} {u r: Value} {o: Option V} {A: Around} {E: Value -> Shared -> Prop}
theorem d_get2 {Q:Value->Shared->Prop} (hu:A.units+1 < cLine) (I:Inv X pins σ H s) (g:DGet H a y o) (ry:qb7 y u) (rd:qb7 d r) (h:∀w' s',Inv X pins σ H s'->qb7 (o.getD d) w'->Q w' s'):
  wpAny (model X.prog X.w) A (call (.builtin "dict.get") [.ref a,u,r]) Q E s:=by
 rcases g with ⟨kvs,k,e,ey,l⟩ |⟨kvs,k,b,e,ey,eb,l⟩
 .subst ey
  obtain⟨z,hd,vs,rel,dd⟩:=qe9 I.hok e
  refine call_meetsIn PySem.F.slot_dict_get dd.typeIs PySem.F.entry_dict_get (PySem.F.args_dict_get_3 _ _ _) (meets_dict_get_default (qb4 X.prog X.w) a (kV_is ry) hd r) ⟨_,dd.mapOf,h _ _ (I.tok _) ?_⟩
  rw [l]
  exact(rel.val k).getD rd
 .subst ey
  cases (show u=Value.ref b from ry)
  obtain⟨z,hd,xs,rel,dd⟩:=dt_rd I.hok e
  refine call_meetsIn PySem.F.slot_dict_get dd.typeIs PySem.F.entry_dict_get (PySem.F.args_dict_get_3 _ _ _) (meetsH_dict_get_default (tupleKind (qb4 X.prog X.w)) a b hd r) ⟨tupleKind_room_in1 hu,k,xs,key_of I.hok eb,dd,h _ _ (I.tok _) ?_⟩
  rw [l]
  exact(rel.val k).getD rd
end
def tDGet2 (td ty tx:TE):TE:=fun σ H Q=>td σ H fun x H1=>∃a,x=.ref a/\IsD H1 a/\ty σ H1 fun y H2=>tx σ H2 fun z H3=>∃o,DGet H3 a y o/\Q (o.getD z) H3
section
variable {X: Cx} {o e f: Expr} {apos cpos: Pos} {td ty tx: TE}
theorem qg0 (hu:X.A.units+1 < cLine) (ho:PE X o td) (he:PE X e ty) (hf:PE X f tx) (m:M2 X o "get" apos e f cpos):PE X (.Call (.Attribute o "get" apos) [e,f] [] cpos) (tDGet2 td ty tx):=by
 intro pins s σ H Q I h
 refine wpAny_Call_method m.base m.few m.line PySem.F.plainAttrs_dict PySem.F.slot_dict_get PySem.F.type_dict_get (thn (ho pins s σ H _ I h) fun u s1 ⟨x,H1,I1,rx,a,ex,d,q1⟩=>?_)
 subst ex
 obtain rfl:u=Value.ref a:=rx
 obtain⟨t1,t2,_⟩:=isD_at I1 d
 refine⟨t1,t2,?_⟩
 rw [m.trees]
 refine Calls.callWith_builtin rfl (Calls.evalArgs_plain (Calls.spliced_cons (thn (he pins s1 σ H1 _ I1 q1) fun iv s2 ⟨y,H2,I2,ry,q2⟩=>
  Calls.spliced_cons (thn (hf pins s2 σ H2 _ I2 q2) fun fv s3 ⟨z,H3,I3,rz,ov,g,q3⟩=>Calls.spliced_nil ?_))))
 exact d_get2 hu I3 g ry rz fun w' s4 I4 rw'=>⟨_,H3,I4,rw',q3⟩
end
section
variable {X: Cx} {pins: List (Addr × Obj)} {σ: St} {H: Hp} {s: Shared} {a: Addr} {kvs: List (Key × V)} {A: Around} {E: Value -> Shared -> Prop}
theorem d_copyOf {Q:Value->Shared->Prop} (I:Inv X pins σ H s) (e:Rd H a (.dK kvs)) (h:∀p s',H p=none->Inv X pins σ (upd H p (.dK kvs)) s'->Q (.ref p) s'):wpAny (model X.prog X.w) A (call (.type "dict") [.ref a]) Q E s:=by
 obtain⟨z,hd,vs,rel,dd⟩:=qe9 I.hok e
 refine kt_call_dict hd dd (by rw [<-rel.length];exact z) fun h' dd' hs=>?_
 refine h _ _ (I.hok.fresh (Nat.le_refl _)) (I.laid (a:=s.heap.objs.size) (o:=.dK kvs) (t':=s.toks) (fun b q hq=>?_) (Nat.le_refl _) (dk_new z (beq_eq_false_iff_ne.mpr (Ne.symm (Nat.ne_of_lt I.big))) rel dd'))
 exact(hs.2 b (Nat.ne_of_lt (Heap.lt_size hq))).trans (Heap.get?_push_of_some _ hq)
end
section
variable {X: Cx}
theorem call_lenD:qc3 X (.builtin "len") (fun xs H Q=>∃a kvs,xs=[V.ref a]/\H a=some (.dK kvs)/\Q (.int kvs.length) H):=by
 intro pins s σ H xs us Q I r h
 obtain⟨a,kvs,rfl,ha,q⟩:=h
 obtain⟨u,rfl,ru⟩:=vals1 r
 cases ru
 exact d_len I (.inl ha) fun t s' I'=>⟨.int kvs.length,H,I',⟨t,rfl⟩,q⟩
end
section
variable {κ: Type} [DecidableEq κ]
theorem valV_not {kvs:List (κ × V)} {k:κ} (h:qcq kvs k=none):¬k∈kvs.map (·.1):=by
 intro m
 obtain⟨p,hp,e⟩:=mem_map.mp m
 have q:(kvs.any fun kv=>decide (kv.1=k))=true:=List.any_eq_true.mpr ⟨p,hp,decide_eq_true e⟩
 rw [qcf,h] at q
 exact absurd q (by simp)
theorem valV_in {kvs:List (κ × V)} {k:κ} {v:V} (h:qcq kvs k=some v):k∈kvs.map (·.1):=by
 have q:(kvs.any fun kv=>decide (kv.1=k))=true:=by
  rw [qcf,h]
  all_goals rfl
 obtain⟨p,hp,e⟩:=List.any_eq_true.mp q
 exact mem_map.mpr ⟨p,hp,of_decide_eq_true e⟩
theorem nd_snoc:∀{l:List κ} {k:κ},l.Nodup->¬k∈l->(l++ [k]).Nodup
 | [],k,_,_=>by simp
 |a :: r,k,h,hk=>by
  obtain⟨h1,h2⟩:=nodup_cons.mp h
  show (a ::(r++ [k])).Nodup
  refine nodup_cons.mpr ⟨fun m=>?_,nd_snoc h2 fun m=>hk (mem_cons.mpr (Or.inr m))⟩
  rcases mem_append.mp m with q|q
  .exact h1 q
  .exact hk (mem_cons.mpr (Or.inl (mem_singleton.mp q).symm))
theorem nd_putK {kvs:List (κ × V)} {k:κ} (v:V) (hn:(kvs.map (·.1)).Nodup) (h:qcq kvs k=none):((qdj kvs k v).map (·.1)).Nodup:=by
 rw [putK_new v h,map_append]
 exact nd_snoc hn (valV_not h)
end
end L2
namespace My
open PySem PySem.Spec PyProof.Rows L2
theorem qdc {α:Type} {β:Type} [BEq α] [LawfulBEq α]:∀{l:List (α × β)} {x:α} {v:β},l.lookup x=some v->(x,v)∈l
 |(a,b) :: l,x,v,h=>by
  rw [List.lookup_cons] at h
  cases e:x==a with
  |true=>rw [e] at h;have e':=eq_of_beq e;have h':b=v:=Option.some.inj h;subst e' h';exact mem_cons_self
  |false=>rw [e] at h;exact mem_cons_of_mem _ (qdc h)
theorem qbd {X:Cx} {x:Str} {scope:Scope} {cl:List (Str × Addr)} {caps:List Nat} {cn:List Str} (h1:closureFor scope X.env=pure cl) (h2:scope.kind=.function) (h3:scope.names.all (fun p=>p.2 !=.cell)=true)
  (h4:scope.names.all (fun p=>p.2 !=.local || scope.names.lookup p.1==some .local)=true) (h5:scope.names.lookup x=some .local) (h6:AllC (fun p=>X.env.cells.lookup p.1=some p.2) cl)
  (h7:(relabel scope X.env).names.all (fun p=>!(p.2==.cell || p.2==.free) ||(cl.lookup p.1).isSome)=true) (h8:caps.length=cn.length)
  (h9:AllC (fun p=>X.N[p.1]?=some p.2/\X.env.kindOf p.2=some .cell/\(relabel scope X.env).names.lookup p.2=some .cell/\X.env.scope.names.lookup p.2=some .cell/\∃c,cl.lookup p.2=some c) (caps.zip cn)) (h10:(x :: cn).Nodup):Caps X x scope cl caps cn:=by
 refine⟨h1,h2,fun y hy z=>?_,fun y hy z=>?_,h5,fun y c e=>AllC.mem h6 _ (qdc e),fun y hy=>?_,h8,fun k y j e1 e2=>?_,h10⟩
 .have q:=all_eq_true.mp h3 y hy
  rw [z] at q
  cases q
 .have q:=all_eq_true.mp h4 y hy
  rw [z] at q
  simpa using q
 .have m:∃k,(y,k)∈(relabel scope X.env).names/\(k=.cell\/k=.free):=by
   rcases hy with hy|hy
   .exact⟨_,qdc hy,.inl rfl⟩
   .exact⟨_,qdc hy,.inr rfl⟩
  obtain⟨k,hm,hk⟩:=m
  have q:=all_eq_true.mp h7 _ hm
  have hk':(k==NameKind.cell || k==NameKind.free)=true:=by rcases hk with rfl|rfl <;> decide
  rw [hk'] at q
  exact Option.isSome_iff_exists.mp (by simpa using q)
 .refine AllC.mem h9 (j,y) ?_
  have hz:(caps.zip cn)[k]?=some (j,y):=by rw [List.getElem?_zip_eq_some];exact⟨e2,e1⟩
  exact mem_of_getElem? hz
section
variable {X: Cx}
theorem pi_str {l:Expr} {tl:TE} {y:Str} {py:Pos} (hl:PE X l tl):PI X (.Name y py) l (iStr tl):=by
 intro pins s σ H R I h
 refine thn (hl pins s σ H _ I h) fun u s1 ⟨v,H1,I1,r,x,ev,q⟩=>?_
 subst ev
 obtain⟨t,rfl⟩:=r
 have hn:H1 s1.heap.objs.size=none:=I1.hok.fresh (Nat.le_refl _)
 have fp:∀b∈ [s1.heap.objs.size],qgc X pins H1 b:=fun b hb=>by
  have e:b=s1.heap.objs.size:=by simpa using hb
  subst e
  exact I1.fpOk (Nat.le_refl _) hn
 cases ha:x.cps.all (·< 128)
 .exact wpAny_pyIter_wide ha ⟨_, [s1.heap.objs.size],fun i h=>h.IsStrIter s1.heap.objs.size "str_iterator" x t i,Its x,H1,rfl,I1.kept (t':=s1.toks) (fun _ _ e=>Heap.get?_push_of_some _ e),
   turn_str x t _ _ (fun A hA=>Walks.strWide hA _ x t) fun A i s' Q' E' st hq=>wpAny_pyIter_striter_wide st hq,⟨_,Heap.get?_push_size _ rfl,rfl,rfl⟩,fp,q⟩
 .exact wpAny_pyIter_ascii ha ⟨_, [s1.heap.objs.size],fun i h=>h.IsStrIter s1.heap.objs.size "str_ascii_iterator" x t i,Its x,H1,rfl,I1.kept (t':=s1.toks) (fun _ _ e=>Heap.get?_push_of_some _ e),
   turn_str x t _ _ (fun A hA=>Walks.strAscii hA _ x t) fun A i s' Q' E' st hq=>wpAny_pyIter_striter_ascii st hq,⟨_,Heap.get?_push_size _ rfl,rfl,rfl⟩,fp,q⟩
def rAll (K:Frag):List V->Hp->VK->Prop:=fun xs H Q=>∃(p:Addr) (bs:List Bool),xs=[.ref p]/\SqL K H p (bs.map V.bl)/\Q (.bl (bs.all id)) H
theorem all_range (bs:List Bool):((List.range bs.length).all fun i=>(bs[i]?).getD true)=bs.all id:=by
 rw [Bool.eq_iff_iff,all_eq_true,all_eq_true]
 constructor
 .intro h b hb
  obtain⟨i,hi,e⟩:=mem_iff_getElem.mp hb
  have q:=h i (mem_range.mpr hi)
  rw [getElem?_eq_getElem hi,e] at q
  exact q
 .intro h i hi
  have hi':=mem_range.mp hi
  rw [getElem?_eq_getElem hi']
  exact h _ (getElem_mem hi')
theorem call_allB (hc:X.calm=true):qc3 X (.builtin "all") (rAll X.K):=by
 intro pins s σ H xs us Q I hv h
 obtain⟨p,bs,rfl,hS,q⟩:=h
 obtain⟨u,rfl,ru⟩:=hv.one
 cases ru
 obtain⟨its,rv,pl,hz⟩:=I.list hS
 have hl:=pl.isList
 have hlt:p < s.heap.objs.size:=by obtain⟨_,e,_⟩:=hl;exact Heap.lt_size e
 have hlen:=rv.length
 rw [length_map] at hlen
 refine call_all_walk (wpAny_pyIter_list hl ?_)
 refine⟨s.heap.objs.size, [s.heap.objs.size,p], [s.heap.objs.size],its.toArray.size,_,_,fun i=>(bs[i]?).getD true,rfl,Walks.list (A:=X.A.in1) (I.ok.hd hc) _ p (Nat.ne_of_lt hlt) its.toArray,⟨⟨_,Heap.get?_push_size _ rfl,rfl,rfl⟩,hl.push _⟩,fun i v s' Q' E' hP hQ=>?_,fun h' tk hk=>?_⟩
 .have hi:its[i]?=some v:=by simpa using hP
  have hb:i < bs.length:=by rw [hlen];exact(List.getElem?_eq_some_iff.mp hi).1
  have hx:(bs.map V.bl)[i]?=some (.bl bs[i]):=by rw [getElem?_map,getElem?_eq_getElem hb];rfl
  obtain⟨u,e,r⟩:=rv.get hx
  rw [hi] at e
  cases e
  cases r
  dsimp only at hQ
  rw [getElem?_eq_getElem hb] at hQ
  exact wpAny_truthy_bool hQ
 .have e:((List.range its.toArray.size).all fun i=>(bs[i]?).getD true)=bs.all id:=by
   rw [size_toArray,<-hlen];exact all_range bs
  rw [e]
  exact⟨.bl _,H,I.kept (t':=tk) (fun b o eb=>hk b o (fun hm=>by have z:=Heap.lt_size eb;rw [mem_singleton.mp hm] at z;exact Nat.lt_irrefl _ z) (Heap.get?_push_of_some _ eb)),rfl,q⟩
def rCatS:R2:=fun x y H Q=>∃i j,x=.str i/\y=.str j/\i.length+j.length<=sizeLine/\Q (.str (i++j)) H
theorem op_catS:OpR X (binaryOp .Add) rCatS:=op_add_str
def rInS:R2:=fun x y H Q=>∃i j,x=.str i/\y=.str j/\Q (.bl (!(Builtin.Str.occurrences j i 0 j.length 1).isEmpty)) H
theorem op_inS:OpR X (compareOp .In) rInS:=op_in_str
def rLenS:List V->Hp->VK->Prop:=fun xs H Q=>∃z,xs=[.str z]/\z.length<=sizeLine/\Q (.int z.length) H
theorem call_lenS:qc3 X (.builtin "len") rLenS:=call_len_str
end
section
variable {K: Frag} {H: Hp} {Q: VK} {σ: L2.St}
theorem r_sl {r:V->Option Int->Option Int->Hp->VK->Prop} {te:TE} {tl th:TO} (h:te σ H fun x H1=>tl σ H1 fun l H2=>th σ H2 fun u H3=>r x l u H3 Q):tSl r te tl th σ H Q:=h
theorem r_noPart {Q:Option Int->Hp->Prop} (h:Q none H):tNoPart σ H Q:=h
theorem r_part {te:TE} {Q:Option Int->Hp->Prop} (h:te σ H fun x H1=>∃i,x=.int i/\Q (some i) H1):tPart te σ H Q:=h
theorem r_exi {i:Int} {Q:Int->Prop} (h:Q i):∃j,V.int i=.int j/\Q j:=⟨i,rfl,h⟩
theorem r_chain {r r':R2} {ta tb tc:TE} (h:ta σ H fun x H1=>tb σ H1 fun y H2=>r x y H2 fun z H3=>∃k,z=.bl k/\(if k=true then tc σ H3 fun w' H4=>r' y w' H4 Q else Q (.bl false) H3)):tChain r r' ta tb tc σ H Q:=h
theorem r_all {p:Addr} {bs:List Bool} (hS:SqL K H p (bs.map V.bl)) (h:Q (.bl (bs.all id)) H):rAll K [.ref p] H Q:=⟨p,bs,rfl,hS,h⟩
theorem r_catS {i j:Str} (hn:i.length+j.length<=sizeLine) (h:Q (.str (i++j)) H):rCatS (.str i) (.str j) H Q:=⟨i,j,rfl,rfl,hn,h⟩
theorem r_inS {i j:Str} (h:Q (.bl (!(Builtin.Str.occurrences j i 0 j.length 1).isEmpty)) H):rInS (.str i) (.str j) H Q:=⟨i,j,rfl,rfl,h⟩
theorem r_lenS {z:Str} (hn:z.length<=sizeLine) (h:Q (.int z.length) H):rLenS [.str z] H Q:=⟨z,rfl,hn,h⟩
theorem r_ixS {z:Str} {i:Int} {c:Nat} (hn:z.length<=sizeLine) (e:atI z.cps.toList i=some c) (h:Q (.str ⟨#[c]⟩) H):rIxS (.str z) (.int i) H Q:=⟨z,i,c,rfl,rfl,hn,e,h⟩
theorem r_iS {tl:TE} {R:It->Hp->Prop} (h:tl σ H fun v H1=>rItS v H1 R):iStr tl σ H R:=h
theorem r_itS {x:Str} {R:It->Hp->Prop} (h:R (Its x) H):rItS (.str x) H R:=⟨x,rfl,h⟩
theorem r_comp {wi:TI} {caps:List Nat} {tt:CT TT} {te:CT TE} (h:wi σ H fun J H1=>∀(C:Addr) (s:Shared) (H0:Hp) (fp:List Addr) (acc:Addr),H1 acc=none->COMP J caps (tt C s H0 fp) (te C s H0 fp) acc σ (upd H1 acc (.lst [])) Q):tComp wi caps tt te σ H Q:=h
theorem r_true {Q:Bool->Hp->Prop} (h:Q true H):tTrue σ H Q:=h
theorem r_app {acc:Addr} {N:Hp->Prop} {y:V} {ys:List V} (ha:H acc=some (.lst ys)) (hz:ys.length < sizeLine) (h:N (upd H acc (.lst (ys++ [y])))):rApp acc N y H:=⟨ys,ha,hz,h⟩
theorem qg9 {J:It} {caps:List Nat} {tt:TT} {te:TE} {acc:Addr} (n:Nat) (Pv:Nat->Hp->Prop) (h0:Pv 0 H) (hgo:∀i H,i < n->Pv i H->J.go i H) (hst:∀H,Pv n H->J.stop n H)
  (hs:∀i H v H',i < n->Pv i H->J.yld i H v H'->tt (some v :: qay caps σ) H' fun b H2=>if b=true then te (some v :: qay caps σ) H2 fun y H3=>rApp acc (Pv (i+1)) y H3 else Pv (i+1) H2)
  (hd:∀H,Pv n H->Q (.ref acc) H):COMP J caps tt te acc σ H Q:=by
 refine⟨fun i m H=>m=n - i/\i<=n/\Pv i H,⟨n,rfl,Nat.zero_le _,h0⟩,?_⟩
 rintro i m H ⟨rfl,hi,p⟩
 by_cases hlt:i < n
 .exact .inr ⟨hgo i H hlt p,Pv (i+1),fun H' p'=>⟨n - (i+1),by omega,rfl,hlt,p'⟩,fun v H' y=>hs i H v H' hlt p y⟩
 .have e:i=n:=by omega
  subst e
  exact .inl ⟨hst H p,hd H p⟩
end
end My
namespace My
open PySem PySem.Spec PyProof.Rows L2
section
variable {X: Cx}
def rRep:R2:=fun x y H Q=>∃z n,x=.str z/\y=.int n/\0<=n/\n<=1/\Q (.str (if n < 1 then Str.empty else z)) H
def rIntB:List V->Hp->VK->Prop:=fun xs H Q=>∃b:Bool,xs=[.bl b]/\Q (.int (if b then 1 else 0)) H
theorem call_intB:qc3 X (.type "int") rIntB:=by
 intro pins s σ H xs us Q I r h
 obtain⟨b,rfl,q⟩:=h
 cases r with
 |cons r1 r2=>
  cases r2
  cases r1
  exact call_int_bool ⟨.int _,H,I.tok _,⟨_,rfl⟩,q⟩
end
section
variable {H: Hp} {Q: VK}
theorem r_intB {b:Bool} (h:Q (.int (if b then 1 else 0)) H):rIntB [.bl b] H Q:=⟨b,rfl,h⟩
end
end My
namespace My
open PySem PySem.Spec PyProof.Rows L2
section
variable {prog: Program} {w: World} {A: Around} {E: Value -> Shared -> Prop} {h: Heap} {g: Array GenState} {d: Drawn} {t: Nat} {os: OsState}
variable {nm q: Str} {C N fI: Addr} {bs bm bmB: List Value} {hdct: Bool} {sn: List Str} {sub: List Value} {ab: Bool} {col: Option Bool} {dd: Option Addr} {k0 k1 k2 k3 k5: Option Value} {B Bn newId nid initId inN: String} {bmN: List Value}
def qd1 (h:Heap) (C:Addr) (rest:List Value):Heap:=(h.push {cls:=.type "tuple",data:=.seq rest.toArray}).push {cls:=.ref C,data:=.fields #[.ref h.objs.size,.none,.none,.none,.bool false,.none]}
theorem qex (Fn:ExcBaseFacts Bn newId inN bmN) (hBn:bmB.contains (.type Bn)=true) (F:ExcBaseFacts B nid initId bmB) (T:OwnTail h bmB bm) {mN:Str->Option Value} {rest:List Value} {Q:Fin->Shared->Prop}
  (hC:h.get? C=some (excClassObj nm q C N bs bm hdct sn sub ab col dd k0 k1 k2 k3 k5 newId)) (hn:h.Ns N mN) (hni:mN "__init__" =some (.ref fI))
  (hb:PySem.W.Looks (model prog w) (qd1 h C rest) (bindSpecial (.ref fI) (.ref (h.objs.size+1))) (.ref fI, [.ref (h.objs.size+1)]))
  (hq:wpAny (model prog w) A (call (.ref fI) (.ref (h.objs.size+1) :: rest)) (fun v s'=>v=.none/\Q (.done (.ret (.ref (h.objs.size+1)))) s') E ⟨qd1 h C rest,g,d,t,os⟩) (hrest:rest.length<=sizeLine:=by size_fits):
  wpAny (model prog w) A (Builtin.«type.__call__» ⟨.ref C :: rest, []⟩) Q E ⟨h,g,d,t,os⟩:=by
 repeat (first|with_reducible refine wpAny_loadPart_at hC ?_|with_reducible refine wpAny_madeBy_exc hC ?_|wp_step)
 refine codeAny_call_builtin_code (Code.quiet_builtin _ Fn.quiet) (wpAny_check_new_subU Fn hBn T hC ?_)
 refine codeAny_exc_new_subU Fn hBn F T hC ?_ hrest
 show wpAny _ _ _ _ _ _
 have hC₁:=Heap.get?_push_of_some {cls:=.ref C,data:=.fields #[.ref h.objs.size,.none,.none,.none,.bool false,.none]}
  (Heap.get?_push_of_some {cls:=.type "tuple",data:=.seq rest.toArray} hC)
 have hn₁:((h.push {cls:=.type "tuple",data:=.seq rest.toArray}).push {cls:=.ref C,data:=.fields #[.ref h.objs.size,.none,.none,.none,.bool false,.none]}).Ns N mN:=
  let ⟨o,es,ep,e,r⟩:=hn;⟨o,es,ep,Heap.get?_push_of_some _ (Heap.get?_push_of_some _ e),r⟩
 have hget:((h.push {cls:=.type "tuple",data:=.seq rest.toArray}).push
   {cls:=.ref C,data:=.fields #[.ref h.objs.size,.none,.none,.none,.bool false,.none]}).get? (h.objs.size+1)=some
   {cls:=.ref C,data:=.fields #[.ref h.objs.size,.none,.none,.none,.bool false,.none]}:=by heap_get
 have hcC:(Value.ref C :: bm).contains (.ref C)=true:=by simp
 have T₁:=T.keeps (h':=(h.push {cls:=.type "tuple",data:=.seq rest.toArray}).push {cls:=.ref C,data:=.fields #[.ref h.objs.size,.none,.none,.none,.bool false,.none]})
  fun b o e=>Heap.get?_push_of_some _ (Heap.get?_push_of_some _ e)
 unfold isInstance
 repeat (first|with_reducible refine wpAny_loadPart_at hget ?_|(with_reducible refine wpAny_isSubtype_exc hC₁ ?_;rw [hcC]) |wp_step)
 show wpAny _ _ (typeLookup (.ref C) _) _ _ _
 refine wpAny_typeLookup_tail hC₁ hn₁ T₁ F.mroIs F.init.lookup ?_
 rw [hni]
 refine wpAny_holding (wpAny_bind (hb.at ?_))
 refine wpAny_bind (wpAny_mono hq (fun v s' ⟨ev,q⟩=>?_) fun _ _ x=>x)
 subst ev
 wp_walk
 exact q
theorem qg8 (Fn:ExcBaseFacts Bn newId inN bmN) (hBn:bmB.contains (.type Bn)=true) (F:ExcBaseFacts B nid initId bmB) (T:OwnTail h bmB bm) {mN:Str->Option Value} {rest:List Value} {Q:Value->Shared->Prop}
  (hC:h.get? C=some (excClassObj nm q C N bs bm hdct sn sub ab col dd k0 k1 k2 k3 k5 newId)) (hn:h.Ns N mN) (hni:mN "__init__" =some (.ref fI))
  (hb:PySem.W.Looks (model prog w) (qd1 h C rest) (bindSpecial (.ref fI) (.ref (h.objs.size+1))) (.ref fI, [.ref (h.objs.size+1)]))
  (hq:wpAny (model prog w) (A.under (.builtin "type.__call__" ⟨.ref C :: rest, []⟩)) (call (.ref fI) (.ref (h.objs.size+1) :: rest)) (fun v s'=>v=.none/\Q (.ref (h.objs.size+1)) s') E ⟨qd1 h C rest,g,d,t,os⟩) (hrest:rest.length<=sizeLine:=by size_fits):
  wpAny (model prog w) A (call (.ref C) rest) Q E ⟨h,g,d,t,os⟩:=by
 have f1:=tc_lookup
 have f2:=tc_bind (.ref C)
 have hT:(⟨h,g,d,t,os⟩:Shared).TypeIs (.ref C) "type":=⟨_,hC,rfl⟩
 refine wpAny_call (codeAny_of_tree ?_)
 show wpAny _ _ (callAny (.ref C) _) _ _ _
 repeat (any_goals (first|assumption|with_reducible refine wpAny_loadPart_at hC ?_|wp_step))
 refine⟨rfl,?_⟩
 refine codeAny_call_builtin_at (Code.quiet_builtin _ (by decide+kernel)) entry_typeCall (wpAny_check_type_call_sub hC (qex (hrest:=hrest) Fn hBn F T hC hn hni hb ?_))
 exact hq
theorem qf3 {env:Env} {M:Model} {s:Shared} {x:Sem Value} {Q:Flow->Shared->Prop} (hbase:bm.contains (.type "BaseException")=true) (hh:A.handled=none)
  (h:wpAny M A x (fun v s₁=>∃e oe,v=.ref e/\s₁.heap.get? C=some (excClassObj nm q C N bs bm hdct sn sub ab col dd k0 k1 k2 k3 k5 newId)/\
   s₁.heap.get? e=some oe/\oe.cls=.ref C/\(∃vs,oe.data=.fields vs/\vs[1]?=some .none)/\E (.ref e) s₁) E s):
  wpAny M A (raiseStmt env (some x) none) Q E s:=by
 have hcB:(Value.ref C :: bm).contains (.type "BaseException")=true:=by rw [List.contains_cons,hbase,Bool.or_true]
 unfold raiseStmt
 refine wpAny_bind (wpAny_mono h (fun v s₁ h₁=>?_) fun _ _ x=>x)
 obtain⟨e,oe,rfl,hC,he,hcls,⟨vs,hd,h1⟩,hE⟩:=h₁
 obtain⟨hp,g,d,tk,os⟩:=s₁
 obtain⟨oc,odd,oda,osl⟩:=oe
 obtain rfl:oc=.ref C:=hcls
 obtain rfl:oda=.fields vs:=hd
 repeat (first|with_reducible refine wpAny_loadPart_at he ?_|with_reducible refine wpAny_loadPart_at hC ?_|(with_reducible refine wpAny_isSubtype_exc hC ?_;rw [hcB]) |wp_step)
 rw [h1]
 refine wpAny_pure ?_
 rw [if_neg (by decide)]
 exact wpAny_pure (wpAny_raiseNew_none hh hE)
theorem qet {env:Env} {s:Shared} (Fn:ExcBaseFacts Bn newId inN bmN) (hBn:bmB.contains (.type Bn)=true) (F:ExcBaseFacts B nid initId bmB) {mN:Str->Option Value} {x:Str} {np cpos pos:Pos} {args:List Expr} {Q:Flow->Shared->Prop}
  (hbase:bm.contains (.type "BaseException")=true) (hh:A.handled=none) (hplain:(backTo cpos (starEach args env)).any (·.1)=false) (hni:mN "__init__" =some (.ref fI))
  (h:wpAny (model prog w) A (eval (.Name x np) env) (fun f s₁=>f=.ref C/\wpAny (model prog w) A (evalArgs (.ref C) true (backTo cpos (starEach args env)) [])
   (fun a s₂=>a.kw=[]/\a.pos.length<=sizeLine/\s₂.heap.get? C=some (excClassObj nm q C N bs bm hdct sn sub ab col dd k0 k1 k2 k3 k5 newId)/\s₂.heap.Ns N mN/\OwnTail s₂.heap bmB bm/\
    PySem.W.Looks (model prog w) (qd1 s₂.heap C a.pos) (bindSpecial (.ref fI) (.ref (s₂.heap.objs.size+1))) (.ref fI, [.ref (s₂.heap.objs.size+1)])/\
    wpAny (model prog w) (A.under (.builtin "type.__call__" ⟨.ref C :: a.pos, []⟩)) (call (.ref fI) (.ref (s₂.heap.objs.size+1) :: a.pos))
     (fun v s'=>v=.none/\s'.heap.get? C=some (excClassObj nm q C N bs bm hdct sn sub ab col dd k0 k1 k2 k3 k5 newId)/\(∃oe,s'.heap.get? (s₂.heap.objs.size+1)=some oe/\oe.cls=.ref C/\∃vs,oe.data=.fields vs/\vs[1]?=some .none)/\E (.ref (s₂.heap.objs.size+1)) s') E {s₂ with heap:=qd1 s₂.heap C a.pos}) E s₁) E s):
  wpAny (model prog w) A (exec (.Raise (some (.Call (.Name x np) args [] cpos)) none pos) env) Q E s:=by
 rw [arm_exec_Raise]
 first
  |refine wpAny_bind (wpAny_standAt (qf3 (C:=C) (nm:=nm) (q:=q) (N:=N) (bs:=bs) (bm:=bm) (hdct:=hdct) (sn:=sn) (sub:=sub) (ab:=ab) (col:=col) (dd:=dd) (k0:=k0) (k1:=k1) (k2:=k2) (k3:=k3) (k5:=k5) (newId:=newId) hbase hh (wpAny_bind (wpAny_mono (wpAny_Call_ofName (wpAny_mono h (fun f s₁ h₁=>?_) fun _ _ x=>x)) (fun v s₃ h₃=>wpAny_bind (wpAny_standAt (wpAny_pure h₃))) fun _ _ x=>x))))
  |(simp only [evalOpt,Option.map];refine wpAny_bind (wpAny_standAt (qf3 (C:=C) (nm:=nm) (q:=q) (N:=N) (bs:=bs) (bm:=bm) (hdct:=hdct) (sn:=sn) (sub:=sub) (ab:=ab) (col:=col) (dd:=dd) (k0:=k0) (k1:=k1) (k2:=k2) (k3:=k3) (k5:=k5) (newId:=newId) hbase hh (wpAny_bind (wpAny_mono (wpAny_Call_ofName (wpAny_mono h (fun f s₁ h₁=>?_) fun _ _ x=>x)) (fun v s₃ h₃=>wpAny_bind (wpAny_standAt (wpAny_pure h₃))) fun _ _ x=>x)))))
 obtain⟨rfl,h₁⟩:=h₁
 unfold callWith
 refine wpAny_bind (wpAny_holding (wpAny_mono h₁ (fun a s₂ h₂=>wpAny_bind (wpAny_standAt ?_)) fun _ _ x=>x))
 obtain⟨apos,akw⟩:=a
 obtain⟨hkw,hlen,hC,hn,T,hb,h₂⟩:=h₂
 obtain rfl:akw=[]:=hkw
 obtain⟨hp,g,d,tk,os⟩:=s₂
 simp only [hplain]
 refine wpAny_bind (wpAny_keeperOf_exc hC ?_)
 refine wpAny_bind (qg8 (hrest:=hlen) Fn hBn F T hC hn hni hb (wpAny_mono h₂ (fun v s' ⟨e1,e2,⟨oe,e3,e4,e6⟩,e5⟩=>⟨e1,wpAny_bind (wpAny_holding (wpAny_point (wpAny_pure ?_)))⟩) fun _ _ x=>x))
 exact⟨_,oe,rfl,e2,e3,e4,e6,e5⟩
end
end My
namespace My
open PySem PySem.Spec PyProof.Rows L2
def qf7:List Value->Bool
 | .ref _ :: r=>qf7 r
 | [.type a,.type b,.type c,.type e]=>a== "ValueError" && b== "Exception" && c== "BaseException" && e== "object"
 |_=>false
theorem qeo {a b c e:String} (h:qf7 [.type a,.type b,.type c,.type e]=true):a= "ValueError"/\b= "Exception"/\c= "BaseException"/\e= "object":=by
 simp only [qf7,Bool.and_eq_true,beq_iff_eq] at h
 exact⟨h.1.1.1,h.1.1.2,h.1.2,h.2⟩
theorem refuse_VE (self:Value):∀{l:List Value},qf7 l=true->refuseLoop self "__setattr__" l=pure ()
 | .ref c :: r,e=>by rw [refuseLoop_ref];exact refuse_VE self e
 | [.type a,.type b,.type c,.type d],e=>by
  obtain⟨rfl,rfl,rfl,rfl⟩:=qeo e
  exact PySem.F.store_ValueError.passes self
theorem has_VE:∀{l:List Value},qf7 l=true->l.contains (.type "object")=true
 | .ref c :: r,e=>by rw [List.contains_cons,has_VE (l:=r) e,Bool.or_true]
 | [.type a,.type b,.type c,.type d],e=>by
  obtain⟨rfl,rfl,rfl,rfl⟩:=qeo e
  decide
def overVE (K:Frag) (C:Addr):Bool:=(PySem.W.clsIn K C).any fun cd=>qf7 cd.mro
section
variable {prog: Program} {w: World} {A: Around} {E: Value -> Shared -> Prop} {s: Shared} {K: Frag} {x C: Addr} {o: Obj} {name: Str} {v: Value} {R: Result -> Shared -> Prop}
open PySem.W in
theorem x_open {tk:Tok} (X:K.In s.heap) (hx:s.heap.get? x=some o) (hc:o.cls=.ref C) (hp:overVE K C=true) (ha:findIn K (.ref C) name=some none)
  (h:wpAny (model prog w) A.in1 (Builtin.ObjectAttr.storeInOwnDict (.ref x) (.ref C) (.str name tk) name v false)
   (fun fin s'=>match fin with| .done f=>R (.ok f) s'| .again c'=>c'.quiet=true/\codeAny (model prog w) A c' R s') (fun e s'=>R (.error e) s') s):
  codeAny (model prog w) A (.call (.builtin "object.__setattr__") ⟨[.ref x,.str name tk,v], []⟩) R s:=by
 have SF:=PySem.F.store_object
 obtain⟨cd,hcd,ho⟩:=any_some hp
 have LT:Looks (model prog w) s.heap (typeOf (.ref x)) (.ref C):=hc ▸ (Looks.ld hx).andThen .now
 have ne:cd.mro.isEmpty=false:=by cases q:cd.mro with|nil=>rw [q] at ho;cases ho|cons _ _=>rfl
 have sub:Looks (model prog w) s.heap (isInstance (.ref x) (.type "object")) true:=LT.andThen (looks_mroIn X (by unfold mroIn;rw [hcd,Option.bind_some,if_neg (by rw [ne];decide),has_VE ho]))
 refine codeAny_call_builtin SF.slot.plain SF.entry (@check_slot (model prog w) _ _ s "object.__setattr__" "object" "__setattr__" (.ref x) [.str name tk,v] [] _ SF.kind SF.split sub (SF.args (.ref x) (.str name tk) v) ?_)
 have hm:Looks (model prog w) s.heap (mroOf (.ref C)) cd.mro:=(looks_clsIn X hcd).andThen .now
 rw [osa_eq,refuse_eq]
 refine wpAny_bind (wpAny_bind (LT.here (wpAny_bind (hm.here ?_))))
 rw [refuse_VE _ ho]
 refine wpAny_pure (wpAny_bind (LT.here (wpAny_bind ((looks_findIn X ha).here (wpAny_bind ?_)))))
 exact wpAny_pure h
theorem x_store {tk:Tok} {Q:PySem.Fin->Shared->Prop} {mA:Str->Option Value} {ns:List Str} (X:K.In s.heap) (hh:hasDictIn K C=true) (I:s.heap.Inst x C mA) (hw:Within mA ns) (hsz:ns.length<=sizeLine)
  (hq:∀h' tk',h'.Inst x C (fun y=>if y=name then some v else mA y)->
   (∀b o,b≠x->(∀o₀ dx,s.heap.get? x=some o₀->o₀.dict=some dx->b≠dx)->s.heap.get? b=some o->h'.get? b=some o)->
   (∀o₀,s.heap.get? x=some o₀->∃o₁,h'.get? x=some o₁/\o₁.cls=o₀.cls/\o₁.data=o₀.data/\o₁.slots=o₀.slots/\(∀dx,o₀.dict=some dx->o₁.dict=some dx)/\(o₀.dict=none->o₁.dict=some s.heap.objs.size))->Q (.done (.ret .none)) {s with heap:=h',toks:=tk'}):
  wpAny (model prog w) A (Builtin.ObjectAttr.storeInOwnDict (.ref x) (.ref C) (.str name tk) name v false) Q E s:=by
 obtain⟨cd,hcd,hd'⟩:=PySem.W.any_some hh
 obtain⟨h,g,d,t,os⟩:=s
 obtain⟨o,hx,hc,hnc,hd⟩:=I
 refine wpAny_bind (wpAny_pure (wpAny_bind (wpAny_bind (wpAny_loadPart hx ?_))))
 rw [hc]
 refine wpAny_bind (PySem.W.Looks.here (PySem.W.looks_clsIn X hcd) ?_)
 rw [hd']
 rcases hd with ⟨hdn,hmA⟩ |⟨dx,hdx,hne,hns⟩
 .rw [hdn]
  show wpAny _ _ (match o.data with
     |Data.cls c=>pure none
     |x_1=>do
      let d<-alloc {cls:=Value.type "dict",data:=Data.dict #[]}
      update x fun o=>{cls:=o.cls,dict:=some d,data:=o.data,slots:=o.slots}
      dictMade (.ref C) x d) _ _ _
  split
  .rename_i c hcd
   exact absurd hcd (hnc c)
  .have hx₁:(h.push {cls:=.type "dict",data:=.dict #[]}).get? x=some o:=Heap.get?_push_of_some _ hx
   have hxs:x≠h.objs.size:=Nat.ne_of_lt (Heap.lt_size hx)
   refine wpAny_bind (wpAny_alloc' ?_)
   refine wpAny_bind (wpAny_update' hx₁ ?_)
   refine wpAny_pure ?_
   have hgd:((h.push {cls:=.type "dict",data:=.dict #[]}).update x fun o=>{cls:=o.cls,dict:=some h.objs.size,data:=o.data,slots:=o.slots}).get? h.objs.size
     =some {cls:=.type "dict",data:=.dict #[]}:=
    (Heap.get?_update_ne _ _ _ _ hxs.symm).trans (Heap.get?_push_at rfl rfl)
   have hnd:((h.push {cls:=.type "dict",data:=.dict #[]}).update x fun o=>{cls:=o.cls,dict:=some h.objs.size,data:=o.data,slots:=o.slots}).Ns h.objs.size (fun _=>none):=
    ⟨_,#[],_,hgd,rfl,fun e he=>absurd he (by simp),fun _=>rfl⟩
   show wpAny _ _ (Builtin.ObjectAttr.storeInDict h.objs.size (.str name tk) name v) _ _ _
   unfold Builtin.ObjectAttr.storeInDict Builtin.ObjectAttr.newKeyGuard
   refine wpAny_bind (wpAny_pure (wpAny_bind (wpAny_nsSet1 (Heap.Ns1.of_empty hnd) fun h' hn' hs=>?_)))
   obtain⟨oD,esD,epD,hoD,hdD,hcD⟩:=hn'.count (Within.cons name v Within.nil)
   refine wpAny_bind (wpAny_lookBehind hoD (by rw [hdD];exact pastItsLine_dict (Nat.le_trans hcD (by rw [length_cons,length_nil,sizeLine_eq];omega))) ?_)
   wp_walk
   have hx':h'.get? x=some {cls:=o.cls,dict:=some h.objs.size,data:=o.data,slots:=o.slots}:=by
    refine(hs.2 x hxs).trans (Heap.get?_update_self _ hx₁ ?_)
    have hfr:=(Heap.get?_some_iff.mp hx).2
    obtain⟨oc,od,odt,osl⟩:=o
    cases odt <;> first|rfl|exact hfr
   refine hq h' _ ⟨{cls:=o.cls,dict:=some h.objs.size,data:=o.data,slots:=o.slots},hx',hc,hnc,.inr ⟨h.objs.size,rfl,hxs.symm,?_⟩⟩ (fun b ob hbx _ hb=>?_)
    (fun o₀ h₀=>by obtain rfl:o=o₀:=Option.some.inj (hx.symm.trans h₀);exact⟨_,hx',rfl,rfl,rfl,(fun dx e=>by rw [hdn] at e;cases e),fun _=>rfl⟩)
   .obtain⟨o',es,ep,e1,e2,e3,eu,e4⟩:=hn'
    exact⟨o',es,ep,e1,e2,e3,eu,fun y=>by rw [e4 y];by_cases hy:y=name <;> simp [hy,hmA]⟩
   .exact(hs.2 b (Nat.ne_of_lt (Heap.lt_size hb))).trans ((Heap.get?_update_ne _ _ _ _ hbx).trans (Heap.get?_push_of_some _ hb))
 .rw [hdx]
  refine wpAny_pure ?_
  show wpAny _ _ (Builtin.ObjectAttr.storeInDict dx (.str name tk) name v) _ _ _
  unfold Builtin.ObjectAttr.storeInDict Builtin.ObjectAttr.newKeyGuard
  refine wpAny_bind (wpAny_pure (wpAny_bind (wpAny_nsSet1 hns fun h' hn' hs=>?_)))
  obtain⟨oD,esD,epD,hoD,hdD,hcD⟩:=hn'.count (Within.cons name v hw)
  refine wpAny_bind (wpAny_lookBehind hoD (by rw [hdD];exact pastItsLine_dict (Nat.le_trans hcD (by rw [length_cons];omega))) ?_)
  wp_walk
  refine hq h' _ ⟨o,(hs.2 x hne.symm).trans hx,hc,hnc,.inr ⟨dx,hdx,hne,hn'⟩⟩ (fun b ob _ hbd hb=>?_)
   (fun o₀ h₀=>by obtain rfl:o=o₀:=Option.some.inj (hx.symm.trans h₀);exact⟨o,(hs.2 x hne.symm).trans hx,rfl,rfl,rfl,(fun _ e=>e),fun z=>by rw [hdx] at z;cases z⟩)
  exact(hs.2 b (hbd o dx hx hdx)).trans hb
theorem x_set {Q:Unit->Shared->Prop} {mA:Str->Option Value} {ns:List Str} (X:K.In s.heap) (hs:PySem.W.findIn K (.ref C) "__setattr__" =some (some (.builtin "object.__setattr__"))) (hp:overVE K C=true) (ha:PySem.W.findIn K (.ref C) name=some none)
  (hh:hasDictIn K C=true) (I:s.heap.Inst x C mA) (hw:Within mA ns) (hsz:ns.length<=sizeLine)
  (hq:∀h' tk',h'.Inst x C (fun y=>if y=name then some v else mA y)->
   (∀b o,b≠x->(∀o₀ dx,s.heap.get? x=some o₀->o₀.dict=some dx->b≠dx)->s.heap.get? b=some o->h'.get? b=some o)->
   (∀o₀,s.heap.get? x=some o₀->∃o₁,h'.get? x=some o₁/\o₁.cls=o₀.cls/\o₁.data=o₀.data/\o₁.slots=o₀.slots/\(∀dx,o₀.dict=some dx->o₁.dict=some dx)/\(o₀.dict=none->o₁.dict=some s.heap.objs.size))->Q () {s with heap:=h',toks:=tk'}):
  wpAny (model prog w) A (setAttr (.ref x) name v) Q E s:=by
 obtain⟨o,hx,hc,hnc,hd⟩:=id I
 have LT:PySem.W.Looks (model prog w) s.heap (typeOf (.ref x)) (.ref C):=hc ▸ (PySem.W.Looks.ld hx).andThen .now
 refine wpAny_bind (wpAny_mkText (wpAny_bind (wpAny_bind (wpAny_bind (LT _ _ _ _ (fun _ _ e=>e) (PySem.W.looks_findIn X hs _ _ _ _ (fun _ _ e=>e) (wpAny_holding ?_)))))))
 rw [PySem.F.store_object.slot.bind]
 refine wpAny_bind (wpAny_pure (wpAny_bind (wpAny_call (x_open (s:={s with toks:=s.toks+1}) X hx hc hp ha (x_store (s:={s with toks:=s.toks+1}) X hh I hw hsz fun h' tk' a b c=>?_)))))
 exact wpAny_pure (wpAny_pure (hq h' tk' a b c))
end
end My
namespace My
open PySem PySem.Spec PyProof.Rows L2
section
variable {K: Frag} {C: Addr}
open PySem.W in
open PySem.W in
open PySem.W in
open PySem.W in
structure XAt (K:Frag) (C:Addr):Prop where
 ga:PySem.W.findIn K (.ref C) "__getattribute__" =some (some (.builtin "BaseException.__getattribute__"))
 gn:PySem.W.findIn K (.ref C) "__getattr__" =some none
 mb:PySem.W.mroIn K C (.type "BaseException")=some true
 mo:PySem.W.mroIn K C (.type "object")=some true
 hd:hasDictIn K C=true
 cl:PySem.W.findIn K (.ref C) "__class__" =some (some (.builtin "object.__class__"))
 sp:specialIn K (.builtin "object.__class__") "__get__" =some (some (.builtin "getset_descriptor.__get__"))
 tk:PySem.W.takesIn K (.builtin "object.__class__")=some true
 sa:PySem.W.findIn K (.ref C) "__setattr__" =some (some (.builtin "object.__setattr__"))
 po:overVE K C=true
open PySem.W in
open PySem.W in
end
end My
namespace My
open PySem PySem.Spec PyProof.Rows L2
def XS (a C:Addr) (d:Option Addr):HO:=.ext fun h=>∃(oe:Obj) (vs:Array Value),h.get? a=some oe/\oe.cls=.ref C/\oe.dict=d/\oe.data=.fields vs/\vs[1]?=some .none/\(∃t0:Addr,vs[0]?=some (.ref t0))/\∀dx,d=some dx->dx≠a
def XD (dx:Addr) (fs:List (Str × V)):HO:=.ext fun h=>∃mA,h.Ns1 dx mA/\(∀f,qeb (fs.lookup f) (mA f))/\PySem.Within mA (fs.map (·.1))/\fs.length<=1000
section
variable {X: Cx} {pins: List (Addr × Obj)} {σ: L2.St} {H: Hp} {s: Shared} {a C dx: Addr} {fs: List (Str × V)} {f: Str} {y: V} {u: Value} {A: Around} {E: Value -> Shared -> Prop}
theorem xs_ok {P:Program} {w:World} {H:Hp} {h:Heap} {d:Option Addr} (x:∃(oe:Obj) (vs:Array Value),h.get? a=some oe/\oe.cls=.ref C/\oe.dict=d/\oe.data=.fields vs/\vs[1]?=some .none/\(∃t0:Addr,vs[0]?=some (.ref t0))/\∀dx,d=some dx->dx≠a):qbf P w H h a (XS a C d):=by
 obtain⟨oe,vs,h1,h2⟩:=id x
 exact⟨x,⟨oe,h1⟩,fun h1 h2 ⟨oe,vs,z,zz⟩ k=>⟨oe,vs,k _ z,zz⟩⟩
theorem xd_ok {P:Program} {w:World} {H:Hp} {h:Heap} {mA:Str->Option Value} (n:h.Ns1 dx mA) (r:∀f,qeb (fs.lookup f) (mA f)) (wi:PySem.Within mA (fs.map (·.1))) (z:fs.length<=1000):qbf P w H h dx (XD dx fs):=by
 obtain⟨od,es,ep,e,c⟩:=id n
 exact⟨⟨mA,n,r,wi,z⟩,⟨od,e⟩,fun h1 h2 ⟨mA,⟨od,es,ep,e,c⟩,q⟩ k=>⟨mA,⟨od,es,ep,k _ e,c⟩,q⟩⟩
theorem xs_get {P:Program} {w:World} {h:Heap} {d:Option Addr} (x:HOk P w H h) (e:H a=some (XS a C d)):∃(oe:Obj) (vs:Array Value),h.get? a=some oe/\oe.cls=.ref C/\oe.dict=d/\oe.data=.fields vs/\vs[1]?=some .none/\(∃t0:Addr,vs[0]?=some (.ref t0))/\∀dx,d=some dx->dx≠a:=
 (show qbf P w H h a (XS a C d) from x a _ e).1
theorem xd_get {P:Program} {w:World} {h:Heap} (x:HOk P w H h) (e:H dx=some (XD dx fs)):∃mA,h.Ns1 dx mA/\(∀f,qeb (fs.lookup f) (mA f))/\PySem.Within mA (fs.map (·.1))/\fs.length<=1000:=
 (show qbf P w H h dx (XD dx fs) from x dx _ e).1
theorem set_first {Q:Unit->Shared->Prop} (I:Inv X pins σ H s) (e:H a=some (XS a C none)) (c:XAt X.K C) (n:qap X.K C f) (ry:qb7 y u)
  (h:∀dx s',H dx=none->dx≠a->Inv X pins σ (upd (upd H dx (XD dx [(f,y)])) a (XS a C (some dx))) s'->Q () s'):wpAny (model X.prog X.w) A (setAttr (.ref a) f u) Q E s:=by
 obtain⟨oe,vs,h1,h2,h3,h4,h5,h6,_⟩:=xs_get I.hok e
 have J:s.heap.Inst a C (fun _=>none):=⟨oe,h1,h2,(fun c q=>by rw [h4] at q;cases q),.inl ⟨h3,fun _=>rfl⟩⟩
 refine x_set I.kIn c.sa c.po n c.hd J PySem.Within.nil (Nat.zero_le _) fun h' tk' I' kp ob=>?_
 obtain⟨o1,q1,q2,q3,q4,_,q5⟩:=ob oe h1
 have q5:=q5 h3
 have hlt:=Heap.lt_size h1
 have hne:s.heap.objs.size≠a:=Nat.ne_of_gt hlt
 have hn:H s.heap.objs.size=none:=I.hok.fresh (Nat.le_refl _)
 refine h s.heap.objs.size _ hn hne ?_
 have keep:∀b o,b≠a->s.heap.get? b=some o->h'.get? b=some o:=fun b o hb q=>kp b o hb (fun o₀ dx z zz=>by rw [h1] at z;cases z;rw [h3] at zz;cases zz) q
 obtain⟨o2,w1,w2,w3,w4⟩:=id I'
 rw [q1] at w1;cases w1
 rcases w4 with ⟨w4,_⟩ |⟨d2,w4,_,w5⟩
 .rw [q5] at w4;cases w4
 rw [q5] at w4;cases w4
 have fr:oe.isFreed=false:=(Heap.get?_some_iff.mp h1).2
 have z1:(h'.update a fun _=>oe).get? a=some oe:=Heap.get?_update_self (fun _=>oe) q1 fr
 have z2:∀b,b≠a->(h'.update a fun _=>oe).get? b=h'.get? b:=fun b hb=>Heap.get?_update_other _ _ (Ne.symm hb)
 have w6:(h'.update a fun _=>oe).Ns1 s.heap.objs.size (fun y=>if y=f then some u else none):=by
  obtain⟨o,es,ep,e1,r⟩:=w5
  exact⟨o,es,ep,(z2 _ hne).trans e1,r⟩
 have rel:∀g,qeb (([(f,y)]:List (Str × V)).lookup g) (if g=f then some u else none):=fun g=>by
  show qeb ((qdp f y []).lookup g) _
  rw [qcy]
  by_cases q:g=f
  .rw [if_pos q,if_pos q];exact ry
  .rw [if_neg q,if_neg q];exact True.intro
 have wi:PySem.Within (fun y=>if y=f then some u else none) (([(f,y)]:List (Str × V)).map (·.1)):=PySem.Within.cons f u PySem.Within.nil
 have I1:Inv X pins σ (upd H s.heap.objs.size (XD s.heap.objs.size [(f,y)])) {s with heap:=h'.update a fun _=>oe,toks:=tk'}:=by
  refine I.laid (a:=s.heap.objs.size) (t':=tk') (fun b o q=>?_) (Nat.le_refl _) (xd_ok w6 rel wi (by show 1<=1000;decide))
  by_cases hb:b=a
  .subst hb;rw [h1] at q;cases q;exact z1
  .exact(z2 b hb).trans (keep b o hb q)
 refine I1.write (x:=a) (e:=a) (h':=h') (t':=tk') ?_ (.inl rfl) (fun b o hb q=>(z2 b hb).symm.trans q) ⟨_,q1⟩ ?_
 .rw [qa6 (Ne.symm hne),e];exact True.intro
 .exact xs_ok ⟨o1,vs,q1,q2.trans h2,q5,q3.trans h4,h5,h6,fun dx z=>by cases z;exact hne⟩
theorem set_more {Q:Unit->Shared->Prop} (I:Inv X pins σ H s) (e:H a=some (XS a C (some dx))) (ed:H dx=some (XD dx fs)) (c:XAt X.K C) (n:qap X.K C f) (hl:fs.length < 1000) (ry:qb7 y u)
  (h:∀s',Inv X pins σ (upd H dx (XD dx (qdp f y fs))) s'->Q () s'):wpAny (model X.prog X.w) A (setAttr (.ref a) f u) Q E s:=by
 obtain⟨oe,vs,h1,h2,h3,h4,h5,h6,h7⟩:=xs_get I.hok e
 obtain⟨mA,nm,r,wi,_⟩:=xd_get I.hok ed
 have hne:=h7 dx rfl
 have J:s.heap.Inst a C mA:=⟨oe,h1,h2,(fun c q=>by rw [h4] at q;cases q),.inr ⟨dx,h3,hne,nm⟩⟩
 refine x_set I.kIn c.sa c.po n c.hd J wi (by rw [length_map,sizeLine_eq];omega) fun h' tk' I' kp ob=>?_
 obtain⟨o1,q1,q2,q3,q4,q5,_⟩:=ob oe h1
 have q6:=q5 dx h3
 obtain⟨o2,w1,w2,w3,w4⟩:=id I'
 rw [q1] at w1;cases w1
 rcases w4 with ⟨w4,_⟩ |⟨d2,w4,_,w5⟩
 .rw [q6] at w4;cases w4
 rw [q6] at w4;cases w4
 refine h _ (I.write (x:=dx) (e:=dx) (h':=h') (t':=tk') (by rw [ed];exact True.intro) (.inl rfl) (fun b o hb q=>?_) (let ⟨o,_,_,z,_⟩:=w5;⟨o,z⟩) (xd_ok w5 (fun g=>?_) (fun g hg=>?_) ?_))
 .by_cases hba:b=a
  .subst hba
   rw [h1] at q;cases q
   have this:o1=oe:=by
    obtain⟨c1,d1,t1,l1⟩:=o1
    obtain⟨c2,d2,t2,l2⟩:=oe
    dsimp only at q2 q3 q4 q6 h3
    cases q2;cases q3;cases q4;cases q6;cases h3;rfl
   rw [<-this];exact q1
  .exact kp b o hba (fun o₀ d3 z zz=>by rw [h1] at z;cases z;rw [h3] at zz;cases zz;exact hb) q
 .show qeb ((qdp f y fs).lookup g) (if g=f then some u else mA g)
  rw [qcy]
  by_cases q:g=f
  .rw [if_pos q,if_pos q];exact ry
  .rw [if_neg q,if_neg q];exact r g
 .by_cases q:g=f
  .rw [q];exact(qd9 f y fs).1
  .refine(qd9 f y fs).2 g (wi g fun z=>hg ?_)
   show (if g=f then some u else mA g)=none
   rw [if_neg q];exact z
 .have:=qdn f y fs;omega
end
end My
namespace My
open PySem PySem.Spec PyProof.Rows L2
def del (H:Hp) (a:Addr):Hp:=fun b=>if b=a then none else H b
theorem qde {H:Hp} {a:Addr}:del H a a=none:=by unfold del;rw [if_pos rfl]
theorem qd2 {H:Hp} {a b:Addr} (h:b≠a):del H a b=H b:=by unfold del;rw [if_neg h]
section
variable {X: Cx} {pins: List (Addr × Obj)} {σ: L2.St} {H: Hp} {s: Shared} {a: Addr} {φ: Heap -> Prop}
theorem Inv.del (I:Inv X pins σ H s) (e:H a=some (.ext φ)):Inv X pins σ (My.del H a) s:=by
 have ne:∀b o,H b=some o->(∀φ,o≠ .ext φ)->b≠a:=fun b o q d z=>by rw [z,e] at q;cases q;exact d _ rfl
 refine⟨I.ok,I.os,I.bare,⟨I.base.keep,I.base.slot,fun b o q n hx=>?_,I.base.there,fun b xs q=>?_,fun b o u q=>?_,fun b ps q=>?_⟩,I.loc,I.cell,?_,fun x c q=>?_,fun p hp=>?_,fun b o q=>?_,I.len⟩
 .have z:=I.base.free b o q n hx
  by_cases hb:b=a
  .rw [hb];exact qde
  .rw [qd2 hb];exact z
 .have z:=I.base.tups b xs q
  rw [qd2 (ne _ _ z (by intro φ y;cases y))];exact z
 .have z:=I.base.frzs b o u q
  rw [qd2 (ne _ _ z (by intro φ y;cases y))];exact z
 .obtain⟨more,z⟩:=I.base.tbls b ps q
  exact⟨more,by rw [qd2 (ne _ _ z (by intro φ y;cases y))];exact z⟩
 .by_cases hb:X.env.locals=a
  .rw [hb];exact qde
  .rw [qd2 hb];exact I.free
 .by_cases hb:c=a
  .rw [hb];exact qde
  .rw [qd2 hb];exact I.freeC x c q
 .obtain⟨z,n,l⟩:=I.pin p hp
  refine⟨z,?_,l⟩
  by_cases hb:p.1=a
  .rw [hb];exact qde
  .rw [qd2 hb];exact n
 .have hb:b≠a:=fun z=>by rw [z,qde] at q;cases q
  rw [qd2 hb] at q
  exact(I.hok b o q).stay (fun _ _ _ q=>q) (fun c q=>by rw [qd2 (ne _ _ q (by intro φ y;cases y))];exact q) fun c xs q=>by rw [qd2 (ne _ _ q (by intro φ y;cases y))];exact q
end
structure XClI (K:Frag) (C f:Addr):Prop where
 ob:∃(nm q:Str) (N:Addr) (bs bm:List Value) (hdct:Bool) (sn:List Str) (sub:List Value) (ab:Bool) (col:Option Bool) (dd:Option Addr) (k0 k1 k2 k3 k5:Option Value) (mN:Str->Option Value),
  K.lookup C=some (excClassObj nm q C N bs bm hdct sn sub ab col dd k0 k1 k2 k3 k5 "ValueError.__new__")/\(∀h:Heap,K.In h->h.Ns N mN)/\mN "__init__" =some (.ref f)/\
  ∀h:Heap,K.In h->OwnTail h [.type "ValueError",.type "Exception",.type "BaseException",.type "object"] bm
 fn:isFn K (.ref f)=true
section
variable {X: Cx} {k: Nat} {f: Addr} {fd: FuncData} {ps: List Str} {sp: Sp} {x: Str} {C: Addr} {W: L2.St -> XK} {np cpos pos: Pos} {e: Expr} {es: List Expr} {t: TA}
def tRaiseI (t:TA) (C:Addr) (sp:Sp) (W:L2.St->XK):TS:=fun _ σ H=>t σ H fun xs H1=>xs.length<=sizeLine/\∀a,H1 a=none->sp (.ref a :: xs) (upd H1 a (XS a C none)) (fun v H2=>v=.non/\∃d,H2 a=some (XS a C d)/\W σ (.ref C) d (My.del H2 a)) E0
theorem ps_raiseI (hc:X.calm=true) (M:XClI X.K C f) (F:FnOk X.prog X.w X.K X.mg X.base CX0 k f fd ps sp) (hr:Room (k+1) X.A) (hb:qao X.K fd ps []) (hg:Gl X x) (hm:X.mg x=some (.ref C)) (hx:Xes X W) (ha:PA X (e :: es) t) (hex:X.ex=[]:=by rfl) (hdb:(x==("__debug__" :Str))=false:=by decide)
  (he:starEach (e :: es) X.env=(false,eval e X.env) :: starEach es X.env:=by rfl) (hpl:(backTo cpos (starEach es X.env)).any (·.1)=false:=by rfl):
  PS X (.Raise (some (.Call (.Name x np) (e :: es) [] cpos)) none pos) (tRaiseI t C sp W):=by
 intro pins s σ H D I h
 obtain⟨nm,q,N,bs,bm,hdct,sn,sub,ab,col,dd,k0,k1,k2,k3,k5,mN,hC,hN,hni,T⟩:=M.ob
 refine qet (C:=C) (fI:=f) (nm:=nm) (q:=q) (N:=N) (bs:=bs) (bm:=bm) (hdct:=hdct) (sn:=sn) (sub:=sub) (ab:=ab) (col:=col) (dd:=dd) (k0:=k0) (k1:=k1) (k2:=k2) (k3:=k3) (k5:=k5)
  PySem.F.excBase_ValueError (by decide) PySem.F.excBase_ValueError (mN:=mN) ((T _ I.kIn).hasType PySem.F.excBase_ValueError.hasBase) (I.ok.hd hc) ?_ hni ?_
 .rw [he];show (false ||(backTo cpos (starEach es X.env)).any (·.1))=false;rw [hpl];rfl
 .refine qd8 I hg hm ⟨rfl,?_⟩ hdb
  have z:=ha cpos pins s σ H _ I h
  rw [he] at z ⊢
  refine Calls.evalArgs_plain (wpAny_mono z (fun us s2 ⟨vs,H2,I2,r,hl,q⟩=>?_) fun _ _ y=>y)
  have ea:(qd1 s2.heap C us).get? (s2.heap.objs.size+1)=some {cls:=.ref C,data:=.fields #[.ref s2.heap.objs.size,.none,.none,.none,.bool false,.none]}:=by
   have:=Heap.get?_push_size (s2.heap.push {cls:=.type "tuple",data:=.seq us.toArray}) (o:={cls:=.ref C,data:=.fields #[.ref s2.heap.objs.size,.none,.none,.none,.bool false,.none]}) rfl
   rwa [Heap.size_push] at this
  have hn:H2 (s2.heap.objs.size+1)=none:=I2.hok.fresh (Nat.le_succ _)
  have I3:Inv X pins σ (upd H2 (s2.heap.objs.size+1) (XS (s2.heap.objs.size+1) C none)) {s2 with heap:=qd1 s2.heap C us}:=
   I2.laid (t':=s2.toks) (fun b o y=>Heap.get?_push_of_some _ (Heap.get?_push_of_some _ y)) (Nat.le_succ _) (xs_ok ⟨_,_,ea,rfl,rfl,rfl,rfl,⟨_,rfl⟩,fun dx y=>by cases y⟩)
  have q:=q _ hn
  refine⟨rfl,by rw [<-r.length];exact hl,I2.kIn _ _ hC,hN _ I2.kIn,T _ I2.kIn,PySem.W.bind_fn I3.kIn _ (beq_iff_eq.mp M.fn),?_⟩
  have r2:qb5 (V.ref (s2.heap.objs.size+1) :: vs) (Value.ref (s2.heap.objs.size+1) :: us):=.cons rfl r
  have hln:(Value.ref (s2.heap.objs.size+1) :: us++ []).length=ps.length:=by rw [append_nil,<-r2.length];exact F.len _ _ _ _ q
  have hb':=hb {s2 with heap:=qd1 s2.heap C us} (Value.ref (s2.heap.objs.size+1) :: us) I3.kIn hln
  rw [append_nil] at hb'
  refine wpAny_call (codeAny_mono (F.run _ X.stack _ _ ⟨Value.ref (s2.heap.objs.size+1) :: us, []⟩ (Value.ref (s2.heap.objs.size+1) :: us) _ _ E0 (hr.make C us []) (I3.env0.make C us []) hb' r2 q) fun r s' hq'=>?_)
  cases r with
  |error e=>exact False.elim hq'
  |ok fl=>
   cases fl with
   |ret u=>
    obtain⟨v,H',I4,rv,ev,d,e4,q4⟩:=I3.after hq'
    subst ev
    obtain⟨oe,ws,g1,g2,g3,g4,g5,g6,g7⟩:=xs_get I4.hok e4
    refine⟨rv,I4.kIn _ _ hC,⟨oe,g1,g2,ws,g4,g5⟩,?_⟩
    have new:s2.heap.get? (s2.heap.objs.size+1)=none:=Heap.get?_none_of_le (Nat.le_succ _)
    refine hx pins σ _ _ _ (.ref C) d (Inv.del I4 e4) ⟨⟨qf8 I2 hex new,qde,fun p hp y=>?_,⟨_,_,g1,g4⟩⟩,.inl ⟨_,_,g1,g2,g3,g4,g5⟩⟩ q4
    have w:=(I2.pin p hp).1
    rw [y,new] at w
    cases w
   |next=>exact False.elim hq'
   |brk=>exact False.elim hq'
   |cont=>exact False.elim hq'
end
end My
namespace My
open PySem PySem.Spec PyProof.Rows L2
def tFmt (te:TE):TE:=fun σ H Q=>te σ H fun v H1=>∃z,v=.str z/\z.length<=sizeLine/\Q (.str z) H1
def qeh:List TE->Str->TE
 | [],out=>fun _ H Q=>Q (.str out) H
 |t :: r,out=>fun σ H Q=>t σ H fun v H1=>∃y,v=.str y/\(out++y).length<=sizeLine/\qeh r (out++y) σ H1 Q
def tJoin (ts:List TE):TE:=qeh ts Str.empty
section
variable {X: Cx}
theorem pe_fmt {e:Expr} {pos:Pos} {te:TE} (he:PE X e te):PE X (.FormattedValue e (-1) none pos) (tFmt te):=by
 intro pins s σ H Q I h
 refine FormattedValue_plain (thn (he pins s σ H _ I h) fun u s1 ⟨v,H1,I1,r,z,ev,hz,q⟩=>?_)
 subst ev
 obtain⟨t,rfl⟩:=r
 exact formatField_str (fun t' tk=>⟨.str z,H1,I1.tok tk,⟨t',rfl⟩,q⟩) hz
inductive PJ (X:Cx):List Expr->List TE->Prop
 |nil:PJ X [] []
 |cons {e:Expr} {es:List Expr} {t:TE} {ts:List TE} (h:PE X e t) (r:PJ X es ts):PJ X (e :: es) (t :: ts)
theorem parts_ok {pins:List (Addr × Obj)} {σ:L2.St}:∀{es:List Expr} {ts:List TE} (j:PJ X es ts) (out:Str) (ho:out.length<=sizeLine) (s:Shared) (H:Hp) (Q:VK) (I:Inv X pins σ H s) (h:qeh ts out σ H Q),
  wpAny (model X.prog X.w) X.A (joinParts out (evalEach es X.env)) (EP X pins σ Q) X.xe s
 |_,_,.nil,out,ho,s,H,Q,I,h=>joinParts_nil ⟨.str out,H,I.tok _,⟨_,rfl⟩,h⟩ ho
 |_,_,.cons (e:=e) he r,out,ho,s,H,Q,I,h=>by
  show wpAny _ _ (joinParts out (eval e X.env :: evalEach _ X.env)) _ _ _
  refine joinParts_cons (thn (he pins s σ H _ I h) fun u s1 ⟨v,H1,I1,rv,y,ev,hz,q⟩=>?_)
  subst ev
  obtain⟨t,rfl⟩:=rv
  exact⟨hz,parts_ok r _ hz s1 H1 Q I1 q⟩
theorem pe_join {v1 v2:Expr} {rest:List Expr} {pos:Pos} {ts:List TE} (j:PJ X (v1 :: v2 :: rest) ts):PE X (.JoinedStr (v1 :: v2 :: rest) pos) (tJoin ts):=by
 intro pins s σ H Q I h
 exact JoinedStr_many (parts_ok j Str.empty (by decide) s H Q I h)
end
section
variable {σ: L2.St} {H: Hp} {Q: VK} {te t: TE} {r: List TE} {z out: Str}
theorem r_fmt (h:te σ H fun v H1=>∃z,v=.str z/\z.length<=sizeLine/\Q (.str z) H1):tFmt te σ H Q:=h
theorem r_join {ts:List TE} (h:qeh ts Str.empty σ H Q):tJoin ts σ H Q:=h
theorem r_part0 (h:Q (.str out) H):qeh [] out σ H Q:=h
theorem r_part1 (h:t σ H fun v H1=>∃y,v=.str y/\(out++y).length<=sizeLine/\qeh r (out++y) σ H1 Q):qeh (t :: r) out σ H Q:=h
end
end My
namespace My
open PySem PySem.Spec PyProof.Rows L2
section
variable {prog: Program} {w: World} {A: Around} {E: Value -> Shared -> Prop} {h: Heap} {g: Array GenState} {d: Drawn} {t: Nat} {os: OsState}
variable {nm q: Str} {C N: Addr} {bs bm bmB: List Value} {hdct: Bool} {sn: List Str} {sub: List Value} {ab: Bool} {col: Option Bool} {dd: Option Addr} {k0 k1 k2 k3 k5: Option Value} {B newId nid initId: String}
theorem x_init (F:ExcBaseFacts B nid initId bmB) (T:OwnTail h bmB bm) {e t0:Addr} {oe:Obj} {vs:Array Value} {rest:List Value} {Q:Value->Shared->Prop}
  (hC:h.get? C=some (excClassObj nm q C N bs bm hdct sn sub ab col dd k0 k1 k2 k3 k5 newId)) (he:h.get? e=some oe) (hcls:oe.cls=.ref C) (hd:oe.data=.fields vs) (h0:vs[0]?=some (.ref t0))
  (hq:Q .none ⟨(h.push {cls:=.type "tuple",data:=.seq rest.toArray}).update e (Obj.mapFields (·.setIfInBounds 0 (.ref h.objs.size))),g,d,t,os⟩) (hrest:rest.length<=sizeLine):
  wpAny (model prog w) A (call (.builtin initId) (.ref e :: rest)) Q E ⟨h,g,d,t,os⟩:=by
 refine wpAny_call (codeAny_call_builtin F.init.plain F.initEntry (wpAny_check_init_subU F T hC he hcls ?_))
 have he':=Heap.get?_push_of_some {cls:=.type "tuple",data:=.seq rest.toArray} he
 have hsz:0 < vs.size:=(Array.getElem?_eq_some_iff.mp h0).1
 repeat (first|with_reducible refine wpAny_field he hd h0 ?_|with_reducible refine wpAny_setField he' hd hsz ?_|wp_step)
 rw [hd]
 refine wpAny_pure ?_
 rw [h0]
 refine wpAny_pure (wpAny_bind (wpAny_setField he' hd hsz ?_))
 dsimp only
 wp_walk
 exact hq
end
end My
namespace My
open PySem PySem.Spec PyProof.Rows L2
structure XBase (K:Frag) (T:Addr):Prop where
 ga:specialIn K (.ref T) "__getattribute__" =some (some (.builtin "type.__getattribute__"))
 rd:PySem.W.readsIn K T (.type "type")=true
 at_:PySem.W.findCls K (.ref T) (.type "type") "__init__" =some (.val (.builtin "ValueError.__init__"))
section
variable {X: Cx} {C T f: Addr} {x: Str} {p apos cpos: Pos} {e: Expr} {es: List Expr} {t: TA}
def tXInit (C:Addr) (t:TA):TE:=fun σ H Q=>t σ H fun xs H1=>∃a d ys,xs=.ref a :: ys/\ys.length<=sizeLine/\H1 a=some (XS a C d)/\Q .non H1
theorem pe_xinit {pl:Sem Bool} (M:XClI X.K C f) (b:XBase X.K T) (hg:Gl X x) (hm:X.mg x=some (.ref T)) (ha:PA X (e :: es) t)
  (hdb:(x==("__debug__" :Str))=false:=by decide) (hst:starEach (e :: es) X.env=(false,eval e X.env) :: starEach es X.env:=by rfl) (hplain:(backTo cpos (starEach es X.env)).any (·.1)=false:=by rfl)
  (ht:eval (.Call (.Attribute (.Name x p) "__init__" apos) (e :: es) [] cpos) X.env=(do
   let ov<-eval (.Name x p) X.env
   standAt apos.atName
   let (f,first)<-holding [ov] (getMethod ov "__init__" pl)
   callWith cpos f first (backTo cpos (starEach (e :: es) X.env)) (backToKw cpos (keywordEach [] X.env))):=by rfl):
  PE X (.Call (.Attribute (.Name x p) "__init__" apos) (e :: es) [] cpos) (tXInit C t):=by
 intro pins s σ H Q I h
 refine PySem.W.methodCall_KW (pl:=pl) (qd8 I hg hm ?_ hdb) ht
 refine PySem.W.method_cls I.kIn b.ga (PySem.W.cls_value I.kIn b.rd b.at_ (by decide+kernel) ?_)
 have hA:=ha cpos pins _ σ H _ (I.tok (s.toks+1)) h
 rw [hst] at hA ⊢
 refine Calls.callWith_builtin (by show (false ||(backTo cpos (starEach es X.env)).any (·.1))=false;rw [hplain] <;> rfl) (Calls.evalArgs_plain ?_)
 refine thn hA fun us s2 ⟨vs,H2,I2,r2,a,d,ys,ev,hl,ea,q2⟩=>?_
 subst ev
 cases r2 with
 | @cons _ u _ us r1 r2=>
  obtain rfl:u=Value.ref a:=r1
  obtain⟨nm,q,N,bs,bm,hdct,sn,sub,ab,col,dd,k0,k1,k2,k3,k5,mN,hC,hN,hni,Tl⟩:=M.ob
  obtain⟨oe,ws,g1,g2,g3,g4,g5,⟨t0,g6⟩,g7⟩:=xs_get I2.hok ea
  obtain⟨hp,gg,dw,tk,os⟩:=s2
  refine x_init PySem.F.excBase_ValueError (Tl _ I2.kIn) (I2.kIn _ _ hC) g1 g2 g4 g6 ?_ (by rw [<-r2.length];exact hl)
  have hsz:0 < ws.size:=(Array.getElem?_eq_some_iff.mp g6).1
  have e1:=Heap.get?_push_of_some {cls:=.type "tuple",data:=.seq us.toArray} g1
  have d3:=Obj.data_mapFields g4 (·.setIfInBounds 0 (Value.ref hp.objs.size))
  have e3:=Heap.get?_update_self (Obj.mapFields (·.setIfInBounds 0 (Value.ref hp.objs.size))) e1 (Obj.isFreed_of_fields d3)
  refine⟨.non,upd H2 a (XS a C d),?_,rfl,?_⟩
  .refine I2.write (x:=a) (e:=a) (t':=tk) (by rw [ea];exact True.intro) (.inl rfl) (fun b o hb y=>?_) ⟨_,e3⟩ (xs_ok ⟨_,_,e3,(Obj.cls_mapFields _ _).trans g2,(dict_mapF _ _).trans g3,d3,?_,⟨hp.objs.size,?_⟩,g7⟩)
   .exact(Heap.get?_update_other _ _ (Ne.symm hb)).trans (Heap.get?_push_of_some _ y)
   .rw [Array.getElem?_setIfInBounds_ne (by decide)];exact g5
   .simp [hsz]
  .have:upd H2 a (XS a C d)=H2:=by
    funext b
    by_cases hb:b=a
    .rw [hb,qa1,ea]
    .rw [qa6 hb]
   rw [this];exact q2
end
end My
namespace My
open PySem PySem.Spec PyProof.Rows L2
def sXF (K:Frag) (ta tv:TE) (f:Str):TS:=fun D σ H=>tv σ H fun y H1=>ta σ H1 fun x H2=>∃a C,x=.ref a/\XAt K C/\qap K C f/\
 ((H2 a=some (XS a C none)/\∀dx,H2 dx=none->dx≠a->D.nx σ (upd (upd H2 dx (XD dx [(f,y)])) a (XS a C (some dx))))\/
  ∃dx fs,H2 a=some (XS a C (some dx))/\H2 dx=some (XD dx fs)/\fs.length < 1000/\D.nx σ (upd H2 dx (XD dx (qdp f y fs))))
section
variable {X: Cx} {o value: Expr} {f: Str} {pos pos': Pos} {ta tv: TE}
theorem ps_xf (ha:PE X o ta) (hv:PE X value tv) (hs:swapsWith value (some (.Attribute o f pos')) pos.line X.env=pure false:=by rfl):PS X (.Assign [.Attribute o f pos'] value pos) (sXF X.K ta tv f):=by
 intro pins s σ H D I h
 refine plainObj_wpAny_Assign_Attribute (thn (hv pins s σ H _ I h) fun u s1 ⟨y,H1,I1,ry,q⟩=>thn (ha pins s1 σ H1 _ I1 q) fun ov s2 ⟨x,H2,I2,rx,a,C,ex,c,n,q2⟩=>?_) hs
 subst ex
 obtain rfl:ov=Value.ref a:=rx
 rcases q2 with ⟨e1,q2⟩ |⟨dx,fs,e1,e2,l,q2⟩
 .exact set_first I2 e1 c n ry fun dx s3 h1 h2 I3=>⟨σ,_,I3,q2 dx h1 h2⟩
 .exact set_more I2 e1 e2 c n l ry fun s3 I3=>⟨σ,_,I3,q2⟩
end
section
variable {K: Frag} {σ: L2.St} {H: Hp} {D: Ends} {f: Str} {a C dx: Addr} {fs: List (Str × V)} {y: V}
theorem r_xf0 (ha:XAt K C) (n:qap K C f) (e:H a=some (XS a C none)) (h:∀dx,H dx=none->dx≠a->D.nx σ (upd (upd H dx (XD dx [(f,y)])) a (XS a C (some dx)))):
  ∃a' C',V.ref a=.ref a'/\XAt K C'/\qap K C' f/\((H a'=some (XS a' C' none)/\∀dx,H dx=none->dx≠a'->D.nx σ (upd (upd H dx (XD dx [(f,y)])) a' (XS a' C' (some dx))))\/
   ∃dx fs,H a'=some (XS a' C' (some dx))/\H dx=some (XD dx fs)/\fs.length < 1000/\D.nx σ (upd H dx (XD dx (qdp f y fs)))):=⟨a,C,rfl,ha,n,.inl ⟨e,h⟩⟩
theorem r_xf1 (ha:XAt K C) (n:qap K C f) (e:H a=some (XS a C (some dx))) (ed:H dx=some (XD dx fs)) (l:fs.length < 1000) (h:D.nx σ (upd H dx (XD dx (qdp f y fs)))):
  ∃a' C',V.ref a=.ref a'/\XAt K C'/\qap K C' f/\((H a'=some (XS a' C' none)/\∀dx,H dx=none->dx≠a'->D.nx σ (upd (upd H dx (XD dx [(f,y)])) a' (XS a' C' (some dx))))\/
   ∃dx fs,H a'=some (XS a' C' (some dx))/\H dx=some (XD dx fs)/\fs.length < 1000/\D.nx σ (upd H dx (XD dx (qdp f y fs)))):=⟨a,C,rfl,ha,n,.inr ⟨dx,fs,e,ed,l,h⟩⟩
end
end My
namespace My
open PySem PySem.Spec PyProof.Rows L2
open PySem.MeetsSeq PySem.MeetsSeq2 PySem.MeetsSeq3 PySem.SeqRoads2
def EqW (P:Program) (w:World) (A:Around) (s:Shared) (y x:Value) (b:Bool):Prop:=∀(E:Value->Shared->Prop) (Q:Bool->Shared->Prop),Q b s->wpAny (model P w) A (eqBool y x) Q E s
def opN:Bool->CmpOp
 |false=> .Eq
 |true=> .NotEq
def RcW (P:Program) (w:World) (A:Around) (s:Shared) (ne:Bool) (y x:Value) (b:Bool):Prop:=∀(E:Value->Shared->Prop) (Q:Value->Shared->Prop),Q (.bool b) s->wpAny (model P w) A (richCompare (opN ne) y x) Q E s
def codeN:Bool->Int
 |false=>2
 |true=>3
abbrev lo (dd:Option Addr) (xs:Array Value) (n:Nat) (sl:Array (Option Value)):Obj:={cls:=.type "list",dict:=dd,data:=.seq xs n,slots:=sl}
abbrev tob (dd:Option Addr) (xs:Array Value) (n:Nat) (sl:Array (Option Value)):Obj:={cls:=.type "tuple",dict:=dd,data:=.seq xs n,slots:=sl}
section
variable {P: Program} {w: World} {A: Around} {s: Shared} {l b: Addr} {k: Bool}
theorem EqW.of {y x:Value} (h:SeqAt.EqAt A s y x k):EqW P w A s y x k:=fun E Q q=>h P w E Q q
theorem EqW.refs (hn:l≠b) (h:RcW P w A s false (.ref l) (.ref b) k):EqW P w A s (.ref l) (.ref b) k:=fun E Q q=>by
 unfold eqBool
 refine wpAny_holding (wpAny_ite_split (fun z=>?_) fun _=>wpAny_bind (h E _ (wpAny_truthy_bool q)))
 have z':=eq_of_beq z
 injection z' with z'
 exact absurd z' hn
abbrev Fin1 (P:Program) (w:World) (A:Around) (R:Result->Shared->Prop):PySem.Fin->Shared->Prop:=fun f s'=>match f with| .done r=>R (.ok r) s'| .again c=>c.quiet=true/\codeAny (model P w) A c R s'
theorem loopW (ne:Bool) {xs ys:Array Value} {n m:Nat} {d1 d2:Option Addr} {s1 s2:Array (Option Value)} (hz:xs.size=ys.size) (f:Nat->Bool) (r:Nat):∀(i:Nat),xs.size - i=r->∀(A:Around) (R:Result->Shared->Prop) (s:Shared),s.heap.get? l=some (lo d1 xs n s1)->s.heap.get? b=some (lo d2 ys m s2)->
  (∀j (h1:j < xs.size) (h2:j < ys.size),EqW P w A.in1 s xs[j] ys[j] (f j))->R (.ok (.ret (.bool (ne !=((List.range xs.size).drop i).all f)))) s->
  wpAny (model P w) A.in1 (Builtin.«list.__eq__.loop» ⟨[.ref l,.ref b,rawInt i,rawInt (codeN ne)], []⟩) (Fin1 P w A R) (fun e s'=>R (.error e) s') s:=by
 induction r with
 |zero=>
  intro i hr A R s hl hb he q
  obtain⟨hp,g,d,tk,os⟩:=s
  have t1:xs[((i:Nat):Int).toNat]?=none:=by simp;omega
  have t2:ys[((i:Nat):Int).toNat]?=none:=by simp;omega
  have t3:(List.range xs.size).drop i=[]:=by simp;omega
  rw [t3] at q
  cases ne with
  |false=>
   wp_walk using AutoSeq1.wpAny_loadPart' hl,AutoSeq1.wpAny_loadPart' hb
   rw [t1,t2]
   wp_walk using AutoSeq1.wpAny_loadPart' hl,AutoSeq1.wpAny_loadPart' hb
   show R (.ok (.ret (.bool (xs.size==ys.size)))) _
   rw [hz]
   simpa using q
  |true=>
   wp_walk using AutoSeq1.wpAny_loadPart' hl,AutoSeq1.wpAny_loadPart' hb
   rw [t1,t2]
   wp_walk using AutoSeq1.wpAny_loadPart' hl,AutoSeq1.wpAny_loadPart' hb
   show R (.ok (.ret (.bool (xs.size !=ys.size)))) _
   rw [hz]
   simpa using q
 |succ r ih=>
  intro i hr A R s hl hb he q
  obtain⟨hp,g,d,tk,os⟩:=s
  have j1:i < xs.size:=by omega
  have j2:i < ys.size:=by omega
  have t1:xs[((i:Nat):Int).toNat]?=some xs[i]:=by simp [j1]
  have t2:ys[((i:Nat):Int).toNat]?=some ys[i]:=by simp [j2]
  have t3:(List.range xs.size).drop i=i ::(List.range xs.size).drop (i+1):=by simp [List.drop_eq_getElem_cons,j1]
  have t4:((i:Int)+1)=((i+1:Nat):Int):=by push_cast;rfl
  rw [t3,all_cons] at q
  cases ne with
  |false=>
   wp_walk using AutoSeq1.wpAny_loadPart' hl,AutoSeq1.wpAny_loadPart' hb
   rw [t1,t2]
   refine wpAny_bind (he i j1 j2 _ _ ?_)
   cases hf:f i with
   |true=>
    rw [hf] at q
    wp_walk
    rw [t4]
    refine⟨plainId_quiet plain_eq_loop _,codeAny_builtin entry_eq_loop ?_⟩
    rw [Around.under_plainId plain_eq_loop _]
    exact ih (i+1) (by omega) A R _ hl hb he (by simpa using q)
   |false=>
    rw [hf] at q
    wp_walk using AutoSeq1.wpAny_loadPart' hl,AutoSeq1.wpAny_loadPart' hb
    rw [t1,t2]
    wp_walk
    simpa using q
  |true=>
   wp_walk using AutoSeq1.wpAny_loadPart' hl,AutoSeq1.wpAny_loadPart' hb
   rw [t1,t2]
   refine wpAny_bind (he i j1 j2 _ _ ?_)
   cases hf:f i with
   |true=>
    rw [hf] at q
    wp_walk
    rw [t4]
    refine⟨plainId_quiet plain_eq_loop _,codeAny_builtin entry_eq_loop ?_⟩
    rw [Around.under_plainId plain_eq_loop _]
    exact ih (i+1) (by omega) A R _ hl hb he (by simpa using q)
   |false=>
    rw [hf] at q
    wp_walk using AutoSeq1.wpAny_loadPart' hl,AutoSeq1.wpAny_loadPart' hb
    rw [t1,t2]
    wp_walk
    simpa using q
theorem listW (ne:Bool) {xs ys:Array Value} {n m:Nat} {d1 d2:Option Addr} {s1 s2:Array (Option Value)} (hz:xs.size=ys.size) (f:Nat->Bool) {R:Result->Shared->Prop} (hl:s.heap.get? l=some (lo d1 xs n s1)) (hb:s.heap.get? b=some (lo d2 ys m s2))
  (he:∀j (h1:j < xs.size) (h2:j < ys.size),EqW P w A.in1 s xs[j] ys[j] (f j)) (q:R (.ok (.ret (.bool (ne !=(List.range xs.size).all f)))) s):
  wpAny (model P w) A.in1 ((if ne=true then Builtin.«list.__ne__» else Builtin.«list.__eq__») ⟨[.ref l,.ref b], []⟩) (Fin1 P w A R) (fun e s'=>R (.error e) s') s:=by
 obtain⟨hp,g,d,tk,os⟩:=s
 have f3:=AutoSeq1.sub_list_list
 have z0:¬(xs.size !=ys.size)=true:=by simp [hz]
 cases ne with
 |false=>
  show wpAny _ _ (Builtin.«list.__eq__» _) _ _ _
  wp_walk using AutoSeq1.wpAny_loadPart' hl,AutoSeq1.wpAny_loadPart' hb
  refine⟨plainId_quiet plain_eq_loop _,codeAny_builtin entry_eq_loop ?_⟩
  rw [Around.under_plainId plain_eq_loop _]
  exact loopW false hz f _ 0 rfl A R _ hl hb he (by simpa using q)
 |true=>
  show wpAny _ _ (Builtin.«list.__ne__» _) _ _ _
  wp_walk using AutoSeq1.wpAny_loadPart' hl,AutoSeq1.wpAny_loadPart' hb
  refine⟨plainId_quiet plain_eq_loop _,codeAny_builtin entry_eq_loop ?_⟩
  rw [Around.under_plainId plain_eq_loop _]
  exact loopW true hz f _ 0 rfl A R _ hl hb he (by simpa using q)
theorem callW {T id:String} {name:Str} {B:Builtin} {self:Value} {rest:List Value} {E Q:Value->Shared->Prop} (slot:Slot T name id) (hT:s.TypeIs self T) (entry:entryFor table id=some B) (args:argsOk id ⟨self :: rest, []⟩)
  (h:wpAny (model P w) A.in1 (B ⟨self :: rest, []⟩) (Fin1 P w A (wants Q E)) (fun e s'=>wants Q E (.error e) s') s):wpAny (model P w) A (call (.builtin id) (self :: rest)) Q E s:=
 wpAny_call (codeAny_call_builtin slot.plain entry (slot.check _ _ _ _ _ _ _ _ hT args h))
theorem RcW.lists (ne:Bool) {xs ys:Array Value} {f:Nat->Bool} (hl:s.heap.IsList l xs) (hb:s.heap.IsList b ys) (hz:xs.size=ys.size) (hu:A.units < cLine) (he:∀j (h1:j < xs.size) (h2:j < ys.size),EqW P w A.in1 s xs[j] ys[j] (f j)):
  RcW P w A s ne (.ref l) (.ref b) (ne !=(List.range xs.size).all f):=fun E Q q=>by
 obtain⟨⟨c1,d1,e1,s1⟩,ho,hc,n,hd⟩:=id hl
 obtain⟨⟨c2,d2,e2,s2⟩,ho2,hc2,m,hd2⟩:=id hb
 simp only at hc hd hc2 hd2
 subst hc hd hc2 hd2
 have q':Value.bool (ne !=(List.range xs.size).all f)≠Value.notImplemented/\Q (.bool (ne !=(List.range xs.size).all f)) s:=⟨(fun x=>nomatch x),q⟩
 cases ne with
 |false=>exact wpAny_richCompare_same_room (op:=.Eq) ⟨_,ho,rfl⟩ ⟨_,ho2,rfl⟩ F.slot_list_eq (callW F.slot_list_eq ⟨_,ho,rfl⟩ F.entry_list_eq (F.args_list_eq_2 _ _) (listW (R:=wants (fun v s'=>v≠ .notImplemented/\Q v s') E) false hz f ho ho2 he q')) hu
 |true=>exact wpAny_richCompare_same_room (op:=.NotEq) ⟨_,ho,rfl⟩ ⟨_,ho2,rfl⟩ F.slot_list_ne (callW F.slot_list_ne ⟨_,ho,rfl⟩ F.entry_list_ne (F.args_list_ne_2 _ _) (listW (R:=wants (fun v s'=>v≠ .notImplemented/\Q v s') E) true hz f ho ho2 he q')) hu
theorem RcW.listsN (ne:Bool) {xs ys:Array Value} (hl:s.heap.IsList l xs) (hb:s.heap.IsList b ys) (hz:(xs.size !=ys.size)=true) (hu:A.units < cLine):RcW P w A s ne (.ref l) (.ref b) (ne !=false):=fun E Q q=>by
 cases ne with
 |false=>exact SeqAt.RcAt.lists_lengths hl hb hz hu P w E Q q
 |true=>exact SeqAt.RcNeAt.lists_lengths hl hb hz hu P w E Q q
theorem tupW (ne:Bool) {xs ys:Array Value} {n m:Nat} {d1 d2:Option Addr} {s1 s2:Array (Option Value)} (f:Nat->Bool) {E Q:Value->Shared->Prop} (hl:s.heap.get? l=some (tob d1 xs n s1)) (hb:s.heap.get? b=some (tob d2 ys m s2))
  (he:∀j (h1:j < xs.size) (h2:j < ys.size),EqW P w A.in1 s xs[j] ys[j] (f j)) (q:Q (.bool (ne !=((List.range (min xs.size ys.size)).all f && xs.size==ys.size))) s):
  wpAny (model P w) A.in1 ((if ne=true then Builtin.«tuple.__ne__» else Builtin.«tuple.__eq__») ⟨[.ref l,.ref b], []⟩) (fun fin s'=>∃v,fin=.done (.ret v)/\Q v s') E s:=by
 obtain⟨hp,g,d,tk,os⟩:=s
 have f2:=AutoSeq1.sub_tuple_tuple
 have hZ:(xs.toList.zip ys.toList).length=min xs.size ys.size:=by simp
 have turn:∀(x y:Value) (rest:List (Value × Value)) (i:Nat),(x,y) :: rest=(xs.toList.zip ys.toList).drop i->∃(h1:i < xs.size) (h2:i < ys.size),x=xs[i]/\y=ys[i]/\rest=(xs.toList.zip ys.toList).drop (i+1)/\(List.range (min xs.size ys.size)).drop i=i ::(List.range (min xs.size ys.size)).drop (i+1):=fun x y rest i hz=>by
  have hlt:i <(xs.toList.zip ys.toList).length:=by
   rcases Nat.lt_or_ge i (xs.toList.zip ys.toList).length with z|z
   .exact z
   .rw [List.drop_of_length_le z] at hz;cases hz
  have hm:i < min xs.size ys.size:=hZ ▸ hlt
  have h1:i < xs.size:=Nat.lt_of_lt_of_le hm (Nat.min_le_left _ _)
  have h2:i < ys.size:=Nat.lt_of_lt_of_le hm (Nat.min_le_right _ _)
  rw [List.drop_eq_getElem_cons hlt] at hz
  injection hz with hxy hrest
  exact⟨h1,h2,by have:=congrArg Prod.fst hxy;simpa using this,by have:=congrArg Prod.snd hxy;simpa using this,hrest,by simp [List.drop_eq_getElem_cons,hm]⟩
 have last:∀i:Nat, []=(xs.toList.zip ys.toList).drop i->(List.range (min xs.size ys.size)).drop i=[]:=fun i hz=>by
  have hge:min xs.size ys.size<=i:=by
   rcases Nat.lt_or_ge i (xs.toList.zip ys.toList).length with z|z
   .rw [List.drop_eq_getElem_cons z] at hz;cases hz
   .exact hZ ▸ z
  exact List.drop_of_length_le (by simpa using hge)
 cases ne with
 |false=>
  show wpAny _ _ (Builtin.«tuple.__eq__» _) _ _ _
  wp_walk using AutoSeq1.wpAny_loadPart' hl,AutoSeq1.wpAny_loadPart' hb,wpAny_forIn_list _ (fun rest c s'=>c.1=none/\s'=⟨hp,g,d,tk,os⟩/\∃i,rest=(xs.toList.zip ys.toList).drop i/\Q (.bool (((List.range (min xs.size ys.size)).drop i).all f && xs.size==ys.size)) ⟨hp,g,d,tk,os⟩) _
  case turn=>
   rintro⟨x,y⟩ rest c s' ⟨hc,rfl,i,hz,hR⟩
   obtain⟨h1,h2,rfl,rfl,hrest,hd⟩:=turn x y rest i hz
   rw [hd,all_cons] at hR
   refine wpAny_bind (he i h1 h2 _ _ ?_)
   cases hf:f i with
   |true=>
    rw [hf] at hR
    wp_walk
    exact⟨rfl,rfl,i+1,hrest,by simpa using hR⟩
   |false=>
    rw [hf] at hR
    wp_walk
    exact⟨_,rfl,by simpa using hR⟩
  case fin=>
   rintro⟨c1,c2⟩ s' ⟨hc,rfl,i,hz,hR⟩
   simp only at hc
   subst hc
   rw [last i hz] at hR
   wp_walk
   exact⟨_,rfl,by simpa [Builtin.Tuple.tupleCompareSizes] using hR⟩
  case h=>exact⟨rfl,rfl,0,rfl,by simpa using q⟩
 |true=>
  show wpAny _ _ (Builtin.«tuple.__ne__» _) _ _ _
  wp_walk using AutoSeq1.wpAny_loadPart' hl,AutoSeq1.wpAny_loadPart' hb,wpAny_forIn_list _ (fun rest c s'=>c.1=none/\s'=⟨hp,g,d,tk,os⟩/\∃i,rest=(xs.toList.zip ys.toList).drop i/\Q (.bool (!(((List.range (min xs.size ys.size)).drop i).all f && xs.size==ys.size))) ⟨hp,g,d,tk,os⟩) _
  case turn=>
   rintro⟨x,y⟩ rest c s' ⟨hc,rfl,i,hz,hR⟩
   obtain⟨h1,h2,rfl,rfl,hrest,hd⟩:=turn x y rest i hz
   rw [hd,all_cons] at hR
   refine wpAny_bind (he i h1 h2 _ _ ?_)
   cases hf:f i with
   |true=>
    rw [hf] at hR
    wp_walk
    exact⟨rfl,rfl,i+1,hrest,by simpa using hR⟩
   |false=>
    rw [hf] at hR
    wp_walk
    exact⟨_,rfl,by simpa using hR⟩
  case fin=>
   rintro⟨c1,c2⟩ s' ⟨hc,rfl,i,hz,hR⟩
   simp only at hc
   subst hc
   rw [last i hz] at hR
   wp_walk
   exact⟨_,rfl,by simpa [Builtin.Tuple.tupleCompareSizes,bne] using hR⟩
  case h=>exact⟨rfl,rfl,0,rfl,by simpa using q⟩
theorem RcW.tuples (ne:Bool) {xs ys:Array Value} {f:Nat->Bool} (hl:s.heap.IsTuple l xs) (hb:s.heap.IsTuple b ys) (hu:A.units < cLine) (he:∀j (h1:j < xs.size) (h2:j < ys.size),EqW P w A.in1 s xs[j] ys[j] (f j)):
  RcW P w A s ne (.ref l) (.ref b) (ne !=((List.range (min xs.size ys.size)).all f && xs.size==ys.size)):=fun E Q q=>by
 obtain⟨⟨c1,d1,e1,s1⟩,ho,hc,n,hd⟩:=id hl
 obtain⟨⟨c2,d2,e2,s2⟩,ho2,hc2,m,hd2⟩:=id hb
 simp only at hc hd hc2 hd2
 subst hc hd hc2 hd2
 cases ne with
 |false=>exact wpAny_richCompare_same_room (op:=.Eq) ⟨_,ho,rfl⟩ ⟨_,ho2,rfl⟩ F.slot_tuple_eq (wpAny_call_entry F.slot_tuple_eq ⟨_,ho,rfl⟩ F.entry_tuple_eq (tupW (Q:=fun v s'=>v≠ .notImplemented/\Q v s') false f ho ho2 he ⟨(fun x=>nomatch x),q⟩) (F.args_tuple_eq_2 _ _)) hu
 |true=>exact wpAny_richCompare_same_room (op:=.NotEq) ⟨_,ho,rfl⟩ ⟨_,ho2,rfl⟩ F.slot_tuple_ne (wpAny_call_entry F.slot_tuple_ne ⟨_,ho,rfl⟩ F.entry_tuple_ne (tupW (Q:=fun v s'=>v≠ .notImplemented/\Q v s') true f ho ho2 he ⟨(fun x=>nomatch x),q⟩) (F.args_tuple_ne_2 _ _)) hu
end
end My
namespace My
open PySem PySem.Spec PyProof.Rows L2
inductive DEq (K:Frag) (H:Hp):Nat->V->V->Bool->Prop
 |same {n:Nat} {a:Addr}:DEq K H n (.ref a) (.ref a) true
 |flat {n:Nat} {x y:V} (hx:qd0 x=true) (hy:qd0 y=true):DEq K H n x y (eqV x y)
 |ls {n:Nat} {a b:Addr} {xs ys:List V} {e:Nat->Bool} (ha:SqL K H a xs) (hb:SqL K H b ys) (ne:a≠b) (hl:xs.length=ys.length)
   (he:∀j (h1:j < xs.length) (h2:j < ys.length),DEq K H n xs[j] ys[j] (e j)):DEq K H (n+1) (.ref a) (.ref b) ((List.range xs.length).all e)
 |lsN {n:Nat} {a b:Addr} {xs ys:List V} (ha:SqL K H a xs) (hb:SqL K H b ys) (ne:a≠b) (hl:xs.length≠ys.length):DEq K H (n+1) (.ref a) (.ref b) false
 |ts {n:Nat} {a b:Addr} {xs ys:List V} {e:Nat->Bool} (ha:SqT K H a xs) (hb:SqT K H b ys) (ne:a≠b)
   (he:∀j (h1:j < xs.length) (h2:j < ys.length),DEq K H n xs[j] ys[j] (e j)):DEq K H (n+1) (.ref a) (.ref b) ((List.range (min xs.length ys.length)).all e && xs.length==ys.length)
 |dd {n:Nat} {a b:Addr} {ka kb:List (Key × V)} (ha:Rd H a (.dK ka)) (hb:Rd H b (.dK kb)) (ne:a≠b) (fa:∀p∈ka,qd0 p.2=true) (fb:∀p∈kb,qd0 p.2=true):
   DEq K H (n+1) (.ref a) (.ref b) (ka.length==kb.length && ka.all fun p=>(qcq kb p.1).elim false (eqV p.2))
theorem qfn {xs:List V} {us:List Value} (r:qb5 xs us) {j:Nat} (h1:j < xs.length) (h2:j < us.length):qb7 xs[j] us[j]:=by
 obtain⟨u,e,ru⟩:=r.get (getElem?_eq_getElem h1)
 rw [getElem?_eq_getElem h2] at e
 cases e
 exact ru
theorem valV_mem {kvs:List (Key × V)} {k:Key} {v:V} (h:qcq kvs k=some v):(k,v)∈kvs:=by
 unfold qcq at h
 obtain⟨p,hp,rfl⟩:=Option.map_eq_some_iff.mp h
 have e:=List.find?_some hp
 have e':p.1=k:=of_decide_eq_true e
 subst e'
 exact List.mem_of_find?_eq_some hp
theorem hits_of {A:Around} {s:Shared} {kb:List (Key × V)} {vb:List (Key × Value)} (rb:KV kb vb) (fb:∀p∈kb,qd0 p.2=true) {ka:List (Key × V)} {va:List (Key × Value)} (ra:KV ka va) (fa:∀p∈ka,qd0 p.2=true):
  PySem.W.KeqHits A s vb va (ka.all fun p=>(qcq kb p.1).elim false (eqV p.2)):=by
 induction ra with
 |nil=>exact .nil
 | @cons p q l1 l2 h t ih=>
  obtain⟨k,v⟩:=p
  obtain⟨k',u⟩:=q
  obtain⟨e,ru⟩:=h
  dsimp only at e ru
  subst e
  have z:=rb.val k
  rw [all_cons]
  have ih':=ih fun p hp=>fa p (mem_cons_of_mem _ hp)
  cases hv:qcq kb k with
  |none=>
   rw [hv] at z
   have hn:valueAt vb k=none:=qeb.none_of z
   exact .miss hn
  |some y=>
   rw [hv] at z
   cases hu:valueAt vb k with
   |none=>rw [hu] at z;exact z.elim
   |some yu=>
    rw [hu] at z
    exact .hit hu (eqAt_V ru z (fa _ (mem_cons_self ..)) (fb _ (valV_mem hv))) ih'
section
variable {X: Cx} {pins: List (Addr × Obj)} {σ: L2.St} {H: Hp} {s: Shared}
theorem PlainL.isList {h:Heap} {a:Addr} {its:Array Value} (p:PlainL h a its):h.IsList a its:=by
 obtain⟨o,n,e,c,d,t⟩:=p
 exact⟨o,e,c,n,t⟩
theorem deq_ok (I:Inv X pins σ H s) {n:Nat} {x y:V} {k:Bool} (q:DEq X.K H n x y k):∀(A:Around) (u v:Value),qb7 x u->qb7 y v->A.units+n < cLine->
  EqW X.prog X.w A s u v k/\∀a b,x=.ref a->y=.ref b->a≠b->∀ne:Bool,RcW X.prog X.w A s ne (.ref a) (.ref b) (ne !=k):=by
 have both:∀{A:Around} {a b:Addr} {k:Bool},a≠b->(∀ne:Bool,RcW X.prog X.w A s ne (.ref a) (.ref b) (ne !=k))->
   EqW X.prog X.w A s (.ref a) (.ref b) k/\∀a' b',V.ref a=.ref a'->V.ref b=.ref b'->a'≠b'->∀ne:Bool,RcW X.prog X.w A s ne (.ref a') (.ref b') (ne !=k):=fun {A a b k} ne R=>
  ⟨EqW.refs ne (by have z:=R false;simpa using z),fun a' b' e1 e2 _=>by cases e1;cases e2;exact R⟩
 induction q with
 | @same n a=>
  intro A u v ru rv hu
  obtain rfl:u=Value.ref a:=ru
  obtain rfl:v=Value.ref a:=rv
  exact⟨EqW.of (SeqAt.EqAt.same _),fun a' b' e1 e2 ne=>by cases e1;cases e2;exact absurd rfl ne⟩
 |flat hx hy=>
  intro A u v ru rv hu
  exact⟨EqW.of (eqAt_V ru rv hx hy),fun a b e _ _=>by subst e;cases hx⟩
 | @ls n a b xs ys e ha hb ne hl he ih=>
  intro A u v ru rv hu
  obtain rfl:u=Value.ref a:=ru
  obtain rfl:v=Value.ref b:=rv
  obtain⟨its,r1,p1,_⟩:=I.list ha
  obtain⟨its2,r2,p2,_⟩:=I.list hb
  have l1:=r1.length
  have l2:=r2.length
  refine both ne fun nb=>?_
  have z:=RcW.lists (P:=X.prog) (w:=X.w) (A:=A) (s:=s) nb (f:=e) (PlainL.isList p1) (PlainL.isList p2) (by rw [size_toArray,size_toArray];omega) (by omega) fun j h1 h2=>by
   have k1:j < its.length:=by simpa using h1
   have k2:j < its2.length:=by simpa using h2
   have w:=(ih j (by omega) (by omega) A.in1 its[j] its2[j] (qfn r1 (by omega) k1) (qfn r2 (by omega) k2) (by show A.units+1+n < cLine;omega)).1
   simpa using w
  rw [size_toArray,<-l1] at z
  exact z
 | @lsN n a b xs ys ha hb ne hl=>
  intro A u v ru rv hu
  obtain rfl:u=Value.ref a:=ru
  obtain rfl:v=Value.ref b:=rv
  obtain⟨its,r1,p1,_⟩:=I.list ha
  obtain⟨its2,r2,p2,_⟩:=I.list hb
  have l1:=r1.length
  have l2:=r2.length
  exact both ne fun nb=>RcW.listsN nb (PlainL.isList p1) (PlainL.isList p2) (by rw [size_toArray,size_toArray];simp;omega) (by omega)
 | @ts n a b xs ys e ha hb ne he ih=>
  intro A u v ru rv hu
  obtain rfl:u=Value.ref a:=ru
  obtain rfl:v=Value.ref b:=rv
  obtain⟨its,r1,p1,_⟩:=I.tuple ha
  obtain⟨its2,r2,p2,_⟩:=I.tuple hb
  have l1:=r1.length
  have l2:=r2.length
  refine both ne fun nb=>?_
  have z:=RcW.tuples (P:=X.prog) (w:=X.w) (A:=A) (s:=s) nb (f:=e) p1 p2 (by omega) fun j h1 h2=>by
   have k1:j < its.length:=by simpa using h1
   have k2:j < its2.length:=by simpa using h2
   have w:=(ih j (by omega) (by omega) A.in1 its[j] its2[j] (qfn r1 (by omega) k1) (qfn r2 (by omega) k2) (by show A.units+1+n < cLine;omega)).1
   simpa using w
  rw [size_toArray,size_toArray,<-l1,<-l2] at z
  exact z
 | @dd n a b ka kb ha hb ne fa fb=>
  intro A u v ru rv hu
  obtain rfl:u=Value.ref a:=ru
  obtain rfl:v=Value.ref b:=rv
  obtain⟨_,ga,va,ra,da⟩:=qe9 I.hok ha
  obtain⟨_,gb,vb,rb,db⟩:=qe9 I.hok hb
  have l1:=ra.length
  have l2:=rb.length
  refine both ne fun nb E Q q=>?_
  have hits:=hits_of (A:=A.in1) (s:=s) rb fb ra fa
  rw [l1,l2] at q
  cases nb with
  |false=>exact PySem.W.keq_eq ga gb da db (by omega) (fun _=>hits) (by simpa using q)
  |true=>exact PySem.W.keq_ne ga gb da db (by omega) (fun _=>hits) (by simpa using q)
def rEqD (K:Frag):R2:=fun x y H Q=>∃a b n k,x=.ref a/\y=.ref b/\a≠b/\n<=8/\DEq K H n (.ref a) (.ref b) k/\Q (.bl k) H
theorem op_eqD (hu:X.A.units+8 < cLine):OpR X (compareOp .Eq) (rEqD X.K):=by
 intro pins s σ H x y v u Q I rx ry h
 obtain⟨a,b,n,k,rfl,rfl,ne,hn,q,z⟩:=h
 cases rx
 cases ry
 have r:=(deq_ok I q X.A _ _ rfl rfl (by omega)).2 a b rfl rfl ne false X.xe (EP X pins σ Q)
 rw [Bool.false_bne] at r
 exact r ⟨.bl k,H,I,rfl,z⟩
end
end My
namespace My
open PySem PySem.Spec PyProof.Rows L2
section
variable {X: Cx}
def rListOf (K:Frag):List V->Hp->VK->Prop:=fun xs H Q=>∃p ys,xs=[.ref p]/\(SqL K H p ys\/SqT K H p ys)/\∀l,H l=none->Q (.ref l) (upd H l (.lst ys))
theorem qe1:qc3 X (.type "list") (rListOf X.K):=call_list_of
end
section
variable {K: Frag} {σ: L2.St} {H: Hp} {Q: VK} {p l b: Addr} {ys xs zs: List V} {to: TE} {t: TA} {T: String} {r: V -> List V -> Hp -> VK -> Prop} {x v: V}
theorem r_listL (h:SqL K H p ys) (q:∀l,H l=none->Q (.ref l) (upd H l (.lst ys))):rListOf K [.ref p] H Q:=⟨p,ys,rfl,.inl h,q⟩
theorem r_bm (h:to σ H fun x H1=>tyV K T x H1/\t σ H1 fun xs H2=>r x xs H2 Q):tBM K T r to t σ H Q:=h
theorem r_bm0 (h:to σ H fun x H1=>tyV K T x H1/\r x [] H1 Q):tBM0 K T r to σ H Q:=h
theorem r_tyL {P:Prop} (h:SqL K H p ys) (q:P):tyV K "list" (.ref p) H/\P:=⟨.inl ⟨rfl,_,h⟩,q⟩
theorem r_append (h:H l=some (.lst xs)) (hz:xs.length < sizeLine) (q:Q .non (upd H l (.lst (xs++ [v])))):rAppend (.ref l) [v] H Q:=⟨l,xs,v,rfl,rfl,h,hz,q⟩
theorem r_cat (h:H l=some (.lst xs)) (h':H b=some (.lst zs)) (hz:xs.length+zs.length<=sizeLine) (q:∀p,H p=none->Q (.ref p) (upd H p (.lst (xs++zs)))):rCat (.ref l) (.ref b) H Q:=⟨l,b,xs,zs,rfl,rfl,h,h',hz,q⟩
end
end My
namespace My
open PySem PySem.Spec PyProof.Rows L2
def initIn (K:Frag) (C f:Addr):Bool:=match K.lookup C with
 |some ⟨.type "type",_,.cls cd,sl⟩=>(match cd.mro,sl.toList with
  | .ref C' :: bm, [_,_,_,_,some (.builtin n),_]=>C'==C && n== "ValueError.__new__" && !cd.hasDel && PySem.W.tailIn K [.type "ValueError",.type "Exception",.type "BaseException",.type "object"] bm && PySem.W.nsOkIn K cd.ns && nsIn K cd.ns "__init__" ==some (some (.ref f))
  |_,_=>false)
 |_=>false
theorem xcli_of {K:Frag} {C f:Addr} (q:initIn K C f=true) (hf:isFn K (.ref f)=true):XClI K C f:=by
 refine⟨?_,hf⟩
 unfold initIn at q
 split at q
 .rename_i dd cd sl ho
  split at q
  .rename_i C' bm k0 k1 k2 k3 n k5 hm hs
   simp only [Bool.and_eq_true,beq_iff_eq,Bool.not_eq_true'] at q
   obtain⟨⟨⟨⟨⟨rfl,rfl⟩,hdel⟩,ht⟩,hok⟩,hni⟩:=q
   obtain⟨nm,bs,mro,ns,qn,hd,sn,sub,ab,col,del⟩:=cd
   dsimp only at hm hdel hok hni
   subst hm hdel
   have hsl:sl= #[k0,k1,k2,k3,some (.builtin "ValueError.__new__"),k5]:=by
    obtain⟨l⟩:=sl
    simp only at hs
    rw [hs]
   subst hsl
   unfold PySem.W.nsOkIn at hok
   split at hok
   .rename_i c1 d1 es ep sl1 hN
    have hSK:StrKeys es:=fun e he=>by
     have z:=Array.all_eq_true_iff_forall_mem.mp hok e he
     split at z
     .rename_i n t q;exact⟨n,t,q⟩
     .cases z
    have hNs:∀h:Heap,K.In h->h.Ns ns (fun x=>nsFind es x):=fun h X=>⟨_,es,ep,X _ _ hN,rfl,hSK,fun _=>rfl⟩
    refine⟨nm,qn,ns,bs,bm,hd,sn,sub,ab,col,dd,k0,k1,k2,k3,k5,fun x=>nsFind es x,ho,hNs,?_,fun h X=>PySem.W.tail_of_in X ht⟩
    unfold nsIn at hni
    rw [hN] at hni
    dsimp only at hni
    split at hni
    .rename_i hf
     show nsFind es "__init__" =some (.ref f)
     unfold nsFind findBy
     rw [<-Array.find?_toList,hf]
     exact congrArg some (Option.some.inj (Option.some.inj hni))
    .first|(split at hni <;> cases hni) |simp at hni
   .cases hok
  .cases q
 .cases q
end My
namespace My
open PySem PySem.Spec PyProof.Rows L2
structure RoomH (k:Nat) (A:Around):Prop where
 dp:A.depth+3*k+5 < recursionLimit
 un:A.units+16*k+200 < cLine
structure FnOkH (P:Program) (w:World) (K:Frag) (mg:Str->Option Value) (base:Heap) (k:Nat) (f:Addr) (fd:FuncData) (ps:List Str) (sp:Sp):Prop where
 len:∀vs H Q E,sp vs H Q E->vs.length=ps.length
 run:∀(a:Addr) (A:Around) (outer:List Env) (s:Shared) (H:Hp) (args:Args) (us:List Value) (vs:List V) (Q:VK) (E:XK),RoomH k A->A.handled=some (.ref a)->Env0 P w K mg base A outer s H->BindsTo s fd args (ps.zip us)->qb5 vs us->sp vs H Q E->
  codeAny (model P w) A (.call (.ref f) args) (CR CX0 outer P w H s Q E) s
end My
namespace My
open PySem PySem.Spec PyProof.Rows L2
section
variable {X: Cx}
def rNeD (K:Frag):R2:=fun x y H Q=>∃a b n k,x=.ref a/\y=.ref b/\a≠b/\n<=8/\DEq K H n (.ref a) (.ref b) k/\Q (.bl (!k)) H
theorem qf6 (hu:X.A.units+8 < cLine):OpR X (compareOp .NotEq) (rNeD X.K):=by
 intro pins s σ H x y v u Q I rx ry h
 obtain⟨a,b,n,k,rfl,rfl,ne,hn,q,z⟩:=h
 cases rx
 cases ry
 have r:=(deq_ok I q X.A _ _ rfl rfl (by omega)).2 a b rfl rfl ne true X.xe (EP X pins σ Q)
 rw [Bool.true_bne] at r
 exact r ⟨.bl (!k),H,I,rfl,z⟩
end
section
variable {K: Frag} {H: Hp} {Q: VK} {a b: Addr} {n: Nat} {k: Bool}
theorem r_eqD (ne:a≠b) (hn:n<=8) (q:DEq K H n (.ref a) (.ref b) k) (h:Q (.bl k) H):rEqD K (.ref a) (.ref b) H Q:=⟨a,b,n,k,rfl,rfl,ne,hn,q,h⟩
theorem r_neD (ne:a≠b) (hn:n<=8) (q:DEq K H n (.ref a) (.ref b) k) (h:Q (.bl (!k)) H):rNeD K (.ref a) (.ref b) H Q:=⟨a,b,n,k,rfl,rfl,ne,hn,q,h⟩
end
end My
namespace My
open PySem PySem.Spec PyProof.Rows L2
section
variable {K: Frag} {σ: L2.St} {H: Hp} {Q: VK} {D: Ends} {ta tv: TE} {t: TA} {f: Str} {C: Addr}
theorem r_xi (h:t σ H fun xs H1=>∃a d ys,xs=.ref a :: ys/\ys.length<=sizeLine/\H1 a=some (XS a C d)/\Q .non H1):tXInit C t σ H Q:=h
theorem r_sxf (h:tv σ H fun y H1=>ta σ H1 fun x H2=>∃a C,x=.ref a/\XAt K C/\qap K C f/\
 ((H2 a=some (XS a C none)/\∀dx,H2 dx=none->dx≠a->D.nx σ (upd (upd H2 dx (XD dx [(f,y)])) a (XS a C (some dx))))\/
  ∃dx fs,H2 a=some (XS a C (some dx))/\H2 dx=some (XD dx fs)/\fs.length < 1000/\D.nx σ (upd H2 dx (XD dx (qdp f y fs))))):sXF K ta tv f D σ H:=h
theorem r_rI {sp:Sp} {W:L2.St->XK} (h:t σ H fun xs H1=>xs.length<=sizeLine/\∀a,H1 a=none->sp (.ref a :: xs) (upd H1 a (XS a C none)) (fun v H2=>v=.non/\∃d,H2 a=some (XS a C d)/\W σ (.ref C) d (My.del H2 a)) E0):tRaiseI t C sp W D σ H:=h
theorem r_exs {P:Str->Prop} {z:Str} (h:P z):∃y,V.str z=.str y/\P y:=⟨z,rfl,h⟩
theorem r_szS {z:Str} {B:Prop} (hz:z.length<=sizeLine) (h:B):z.length<=sizeLine/\B:=⟨hz,h⟩
end
end My
namespace My
open PySem PySem.Spec PyProof.Rows L2
theorem hu8 {k:Nat} {A:Around} (r:Room k A):A.units+8 < cLine:=by have:=r.un;omega
def DEqs (K:Frag) (H:Hp) (n:Nat):List V->List V->Prop
 | [], []=>True
 |x :: xs,y :: ys=>DEq K H n x y true/\DEqs K H n xs ys
 |_,_=>False
theorem DEqs.len {K:Frag} {H:Hp} {n:Nat}:∀{xs ys:List V},DEqs K H n xs ys->xs.length=ys.length
 | [], [],_=>rfl
 |_ :: _,_ :: _,h=>congrArg (·+1) (DEqs.len h.2)
 | [],_ :: _,h=>h.elim
 |_ :: _, [],h=>h.elim
theorem DEqs.get {K:Frag} {H:Hp} {n:Nat}:∀{xs ys:List V},DEqs K H n xs ys->∀j (h1:j < xs.length) (h2:j < ys.length),DEq K H n xs[j] ys[j] true
 | [], [],_,j,h1,_=>absurd h1 (Nat.not_lt_zero j)
 |_ :: _,_ :: _,h,0,_,_=>h.1
 |_ :: _,_ :: _,h,j+1,h1,h2=>DEqs.get h.2 j (Nat.lt_of_succ_lt_succ h1) (Nat.lt_of_succ_lt_succ h2)
 | [],_ :: _,h,_,_,_=>h.elim
 |_ :: _, [],h,_,_,_=>h.elim
theorem deq_list {K:Frag} {H:Hp} {n:Nat} {a b:Addr} {xs ys:List V} (ha:SqL K H a xs) (hb:SqL K H b ys) (ne:a≠b) (h:DEqs K H n xs ys):DEq K H (n+1) (.ref a) (.ref b) true:=by
 have z:=DEq.ls (n:=n) (e:=fun _=>true) ha hb ne h.len h.get
 have e:(List.range xs.length).all (fun _=>true)=true:=by simp
 rw [e] at z
 exact z
def SameBut (L:Addr) (H H':Hp):Prop:=∀b o,b≠L->H b=some o->H' b=some o
theorem SameBut.at {H H':Hp} {L:Addr} {o:HO} (e:SameBut L H H'):SameBut L H (upd H' L o):=fun b u hb q=>by
 rw [qa6 hb];exact e b u hb q
theorem SameBut.same {H H1 H2:Hp} {L:Addr} (e:SameBut L H H1) (s:qb0 H1 H2):SameBut L H H2:=fun b u hb q=>s b u (e b u hb q)
theorem SameBut.of {H H':Hp} {L:Addr} (s:qb0 H H'):SameBut L H H':=fun b u _ q=>s b u q
end My
namespace My
open PySem PySem.Spec PyProof.Rows L2
def NoFrz (H:Hp) (a:Addr):Prop:=∀o u,H a≠some (.frz o u)
section
variable {X: Cx} {pins: List (Addr × Obj)} {σ: L2.St} {H H': Hp} {s: Shared} {a: Addr} {kvs: List (Key × V)} {o: Obj}
theorem Inv.freeze (I:Inv X pins σ H s) (e:H a=some (.dK kvs)) (ho:s.heap.get? a=some o):Inv X pins σ (upd H a (.frz o (.dK kvs))) s:=by
 have ok:=I.hok a _ e
 have z:=I.write (x:=a) (e:=a) (o:=.frz o (.dK kvs)) (h':=s.heap) (t':=s.toks) (by rw [e];exact True.intro) (.inl rfl) (fun _ _ _ q=>q) ⟨o,ho⟩ ⟨ho,ok⟩
 exact z
theorem Inv.thaw (I:Inv X pins σ H s) (e:H a=some (.frz o (.dK kvs))) (n0:NoFrz X.H₀ a):Inv X pins σ (upd H a (.dK kvs)) s:=by
 have ne:∀b,H b=none->b≠a:=fun b q z=>by subst z;rw [e] at q;cases q
 have nk:∀b u,H b=some u->(∀o' u',u≠ .frz o' u')->b≠a:=fun b u q z w=>by subst w;rw [e] at q;cases q;exact z _ _ rfl
 refine⟨I.ok,I.os,I.bare,⟨I.base.keep,I.base.slot,fun b ob q n hx=>?_,I.base.there,fun b xs q=>?_,fun b ob u q=>?_,fun b ps q=>?_⟩,I.loc,I.cell,?_,fun x c q=>?_,fun p hp=>?_,fun b u q=>?_,I.len⟩
 .have z:=I.base.free b ob q n hx
  rw [qa6 (ne b z)];exact z
 .have z:=I.base.tups b xs q
  rw [qa6 (nk b _ z (by intro _ _ h;cases h))];exact z
 .have z:=I.base.frzs b ob u q
  rw [qa6 (fun w=>by subst w;exact n0 _ _ q)];exact z
 .obtain⟨m,z⟩:=I.base.tbls b ps q
  exact⟨m,by rw [qa6 (nk b _ z (by intro _ _ h;cases h))];exact z⟩
 .have z:=I.free
  rw [qa6 (ne _ z)];exact z
 .have z:=I.freeC x c q
  rw [qa6 (ne _ z)];exact z
 .obtain⟨p1,p2,p3⟩:=I.pin p hp
  exact⟨p1,by rw [qa6 (ne _ p2)];exact p2,p3⟩
 .by_cases hb:b=a
  .subst hb
   rw [qa1] at q
   cases q
   exact(I.hok b _ e).2
  .rw [qa6 hb] at q
   exact(I.hok b u q).stay (fun _ _ _ r=>r) (fun c r=>by rw [qa6 (nk c _ r (by intro _ _ h;cases h))];exact r) fun c xs r=>by rw [qa6 (nk c _ r (by intro _ _ h;cases h))];exact r
def Thaw (H0 H H':Hp):Prop:=H'=H\/∃a o kvs,H a=some (.frz o (.dK kvs))/\NoFrz H0 a/\H'=upd H a (.dK kvs)
theorem Inv.thawed (I:Inv X pins σ H s) (t:Thaw X.H₀ H H'):Inv X pins σ H' s:=by
 rcases t with rfl|⟨a,o,kvs,e,n,rfl⟩
 .exact I
 .exact Inv.thaw I e n
end
section
variable {X: Cx} {st: Stmt} {e: Expr} {t: TS} {te: TE}
def thE (H0:Hp) (D:Ends):Ends:={nx:=fun σ H=>∃H',Thaw H0 H H'/\D.nx σ H',rt:=fun v H=>∃H',Thaw H0 H H'/\D.rt v H',bk:=fun σ H=>∃H',Thaw H0 H H'/\D.bk σ H',ct:=fun σ H=>∃H',Thaw H0 H H'/\D.ct σ H'}
def tThA (H0:Hp) (t:TS):TS:=fun D σ H=>t (thE H0 D) σ H
theorem qf5 (h:PS X st t):PS X st (tThA X.H₀ t):=fun pins s σ H D I q=>thn (h pins s σ H _ I q) fun f s' hs=>by
 cases f with
 |next=>obtain⟨σ',H1,J,H2,th,q⟩:=hs;exact⟨σ',H2,Inv.thawed J th,q⟩
 |brk=>obtain⟨σ',H1,J,H2,th,q⟩:=hs;exact⟨σ',H2,Inv.thawed J th,q⟩
 |cont=>obtain⟨σ',H1,J,H2,th,q⟩:=hs;exact⟨σ',H2,Inv.thawed J th,q⟩
 |ret u=>obtain⟨v,σ',H1,J,r,H2,th,q⟩:=hs;exact⟨v,σ',H2,Inv.thawed J th,r,q⟩
def tThV (H0:Hp) (t:TE):TE:=fun σ H Q=>t σ H fun v H1=>∃H',Thaw H0 H1 H'/\Q v H'
theorem pe_thV (h:PE X e te):PE X e (tThV X.H₀ te):=fun pins s σ H Q I q=>thn (h pins s σ H _ I q) fun u s' ⟨v,H1,J,r,H2,th,q⟩=>⟨v,H2,Inv.thawed J th,r,q⟩
end
theorem kvget {κ:Type} {kvs:List (κ × V)} {vs:List (κ × Value)} (r:KV kvs vs):∀{i:Nat} {k:κ} {v:V},kvs[i]?=some (k,v)->∃u,vs[i]?=some (k,u)/\qb7 v u:=by
 induction r with
 |nil=>intro i k v e;simp at e
 |cons h t ih=>
  intro i k v e
  cases i with
  |zero=>
   simp only [List.getElem?_cons_zero,Option.some.injEq] at e ⊢
   subst e
   obtain⟨h1,h2⟩:=h
   exact⟨_,Prod.ext h1.symm rfl,h2⟩
  |succ i=>
   simp only [getElem?_cons_succ] at e ⊢
   exact ih e
theorem kV_rel {k:Key} {u:Value} (h:keyIs k u=true):qb7 (kV k) u:=by
 rcases qb2 h with ⟨i,t,rfl,rfl⟩ |⟨x,t,rfl,rfl⟩
 .exact⟨t,rfl⟩
 .exact⟨t,rfl⟩
def ItD (d:Addr) (o:Obj) (kvs:List (Key × V)):It:=
 ⟨fun i H=>H d=some (.frz o (.dK kvs))/\i < kvs.length,fun i H x H'=>H'=H/\∃k v,kvs[i]?=some (k,v)/\x=kV k,fun i H=>H d=some (.frz o (.dK kvs))/\kvs.length<=i⟩
theorem qfg {P:Program} {w:World} {H:Hp} {h:Heap} {d:Addr} {o:Obj} {kvs:List (Key × V)} {es:Array DictEntry} {ep:Nat} (ok:HOk P w H h) (e:H d=some (.frz o (.dK kvs))) (hd:o.data=.dict es ep):
  ∃vs,KV kvs vs/\h.DictAt (qb4 P w) d vs ep:=by
 obtain⟨ho,_,_,vs,rel,o',es',ep',ho',ex,hd',ks,ps,nd⟩:=ok d _ e
 rw [ho] at ho'
 cases ho'
 rw [hd] at hd'
 cases hd'
 exact⟨vs,rel,o,es,ho,ex,hd,ks,ps,nd⟩
theorem turn_dict {P:Program} {w:World} {K:Frag} {tg:Expr} {o:Obj} {kvs:List (Key × V)} {es:Array DictEntry} {ep:Nat} (d it:Addr) (hd:o.data=.dict es ep):Turn P w K tg (ItD d o kvs) [it] it (fun i h=>h.IsKeyIter it d i kvs.length ep) where
 mem:=by simp
 obj:=fun i h st b hb=>by
  have e:b=it:=by simpa using hb
  subst e
  obtain⟨ob,e,c,dd⟩:=st
  exact⟨ob,e,fun v z=>by rw [dd] at z;cases z⟩
 keep:=fun i h h' st k=>st.at fun ob e=>k it (by simp) ob e
 item:=by
  intro X hP hw hK hc i pins s σ H E I hf st hg
  subst hP hw hK
  obtain⟨hfz,hi⟩:=hg
  obtain⟨vs,rel,dat⟩:=qfg I.hok hfz hd
  obtain⟨f0,f1,f2,f3,f4,f5⟩:=hf it (by simp)
  have hl:=rel.length
  obtain⟨u,hu,ru⟩:=kvget rel (i:=i) (k:=kvs[i].1) (v:=kvs[i].2) (by rw [getElem?_eq_getElem hi])
  rw [hl] at st
  refine wpAny_pyNext_dict_item st dat hu fun key h' hkey st' hs'=>?_
  have I1:Inv X pins σ H {s with heap:=h'}:=I.turned (t':=s.toks) (fun b ob hb e=>hs'.extBut b ob hb e) f0 f1 f3 f4 f5
  obtain⟨ob,e,c,dd⟩:=id st'
  exact⟨key,rfl,go_of (s:={s with heap:=h'}) e c dd (by decide) ⟨kV kvs[i].1,H,I1,kV_rel hkey,⟨rfl,kvs[i].1,kvs[i].2,getElem?_eq_getElem hi,rfl⟩,by rw [hl];exact st',fun b hb=>(hf b hb).1⟩⟩
 done:=by
  intro X hP hw hK hc i pins s σ H E I hf st hg
  subst hP hw hK
  obtain⟨hfz,hi⟩:=hg
  obtain⟨vs,rel,dat⟩:=qfg I.hok hfz hd
  obtain⟨f0,f1,f2,f3,f4,f5⟩:=hf it (by simp)
  have hl:=rel.length
  rw [hl] at st hi
  exact wpAny_pyNext_dict_end (I.ok.hd hc) st dat (by simpa using hi) fun h' eb=>⟨rfl,I.turned (t':=s.toks) (fun b ob hb e=>eb b ob hb e) f0 f1 f3 f4 f5⟩
 self:=fun _ _ _ _ _ st h=>wpAny_pyIter_keyiter st h
def rItD (x:V) (H:Hp) (R:It->Hp->Prop):Prop:=∃a kvs,x=.ref a/\((H a=some (.dK kvs)/\∀o,R (ItD a o kvs) (upd H a (.frz o (.dK kvs))))\/∃o,H a=some (.frz o (.dK kvs))/\R (ItD a o kvs) H)
def iDict (td:TE):TI:=fun σ H R=>td σ H fun x H1=>rItD x H1 R
theorem dat_of {P:Program} {w:World} {H:Hp} {h:Heap} {d:Addr} {kvs:List (Key × V)} (ok:qbf P w H h d (.dK kvs)):∃o es ep vs,h.get? d=some o/\o.data=.dict es ep/\KV kvs vs/\h.DictAt (qb4 P w) d vs ep/\(d==sysModules)=false:=by
 obtain⟨_,hs,vs,rel,o,es,ep,ho,ex,hd,ks,ps,nd⟩:=ok
 exact⟨o,es,ep,vs,ho,hd,rel,⟨o,es,ho,ex,hd,ks,ps,nd⟩,hs⟩
theorem qek {X:Cx} {tg l:Expr} {tl:TE} (hl:PE X l tl):PI X tg l (iDict tl):=by
 intro pins s σ H R I h
 refine thn (hl pins s σ H _ I h) fun v s1 ⟨x,H1,I1,r1,q1⟩=>?_
 obtain⟨a,kvs,e,q⟩:=q1
 subst e
 cases r1
 have ok:qbf X.prog X.w H1 s1.heap a (.dK kvs):=by
  rcases q with ⟨e,_⟩ |⟨o,e,_⟩
  .exact I1.hok a _ e
  .exact(I1.hok a _ e).2
 obtain⟨o,es,ep,vs,ho,hd,rel,dat,hs⟩:=dat_of ok
 have hlen:=rel.length
 refine wpAny_pyIter_dict hs dat ?_
 have it0:(s1.heap.push {cls:=.type "dict_keyiterator",data:=.fields #[.ref a,.int 0 0,.int vs.length 0,.int ep 0]}).IsKeyIter s1.heap.objs.size a 0 kvs.length ep:=by
  rw [hlen];exact⟨_,Heap.get?_push_size _ rfl,rfl,rfl⟩
 rcases q with ⟨e,q⟩ |⟨o',e,q⟩
 .have I2:=Inv.freeze I1 e ho
  refine⟨s1.heap.objs.size, [s1.heap.objs.size],_,_,_,rfl,I2.kept (t':=s1.toks) fun b ob e=>Heap.get?_push_of_some _ e,turn_dict (kvs:=kvs) a _ hd,it0,fun b hb=>?_,q o⟩
  have e:b=s1.heap.objs.size:=by simpa using hb
  subst e
  exact I2.fpOk (Nat.le_refl _) (I2.hok.fresh (Nat.le_refl _))
 .have eo:o'=o:=by
   have z:=(I1.hok a _ e).1
   rw [ho] at z
   cases z
   rfl
  subst eo
  refine⟨s1.heap.objs.size, [s1.heap.objs.size],_,_,_,rfl,I1.kept (t':=s1.toks) fun b ob e=>Heap.get?_push_of_some _ e,turn_dict (kvs:=kvs) a _ hd,it0,fun b hb=>?_,q⟩
  have e:b=s1.heap.objs.size:=by simpa using hb
  subst e
  exact I1.fpOk (Nat.le_refl _) (I1.hok.fresh (Nat.le_refl _))
section
variable {σ: L2.St} {H H': Hp} {D: Ends} {t: TS} {te tl: TE} {Q: VK} {g: TG} {tb: TS} {a: Addr} {o: Obj} {kvs: List (Key × V)} {H0: Hp} {v: V}
theorem r_thA (h:t (thE H0 D) σ H):tThA H0 t D σ H:=h
theorem qf4 (th:Thaw H0 H H') (h:D.nx σ H'):(thE H0 D).nx σ H:=⟨H',th,h⟩
theorem r_thV (h:te σ H fun v H1=>∃H',Thaw H0 H1 H'/\Q v H'):tThV H0 te σ H Q:=h
theorem thaw1 (e:H a=some (.frz o (.dK kvs))) (n:NoFrz H0 a):Thaw H0 H (upd H a (.dK kvs)):=.inr ⟨a,o,kvs,e,n,rfl⟩
theorem r_iD {R:It->Hp->Prop} (h:tl σ H fun x H1=>rItD x H1 R):iDict tl σ H R:=h
theorem r_itD {R:It->Hp->Prop} (e:H a=some (.dK kvs)) (h:∀o,R (ItD a o kvs) (upd H a (.frz o (.dK kvs)))):rItD (.ref a) H R:=⟨a,kvs,rfl,.inl ⟨e,h⟩⟩
theorem f_dict (Pv:Nat->L2.St->Hp->Prop) (h0:Pv 0 σ H) (hl:∀i σ H,i<=kvs.length->Pv i σ H->H a=some (.frz o (.dK kvs)))
  (hs:∀i k v σ H,kvs[i]?=some (k,v)->Pv i σ H->g (kV k) σ H fun σ2 H2=>tb {nx:=Pv (i+1),rt:=D.rt,bk:=D.nx,ct:=Pv (i+1)} σ2 H2) (hd:∀σ H,Pv kvs.length σ H->D.nx σ H):FOR (ItD a o kvs) g tb D σ H:=by
 refine⟨fun i m σ H=>m=kvs.length - i/\i<=kvs.length/\Pv i σ H,⟨kvs.length,rfl,Nat.zero_le _,h0⟩,?_⟩
 rintro i m σ H ⟨rfl,hi,p⟩
 have q:=hl i σ H hi p
 by_cases hlt:i < kvs.length
 .refine .inr ⟨⟨q,hlt⟩,Pv (i+1),fun σ' H' p'=>⟨kvs.length - (i+1),by omega,rfl,hlt,p'⟩,fun x H' y=>?_⟩
  obtain⟨e,k,v,hk,rfl⟩:=y
  subst e
  exact hs i k v σ _ hk p
 .have e:i=kvs.length:=Nat.le_antisymm hi (Nat.le_of_not_lt hlt)
  subst e
  exact .inl ⟨⟨q,Nat.le_refl _⟩,hd σ H p⟩
end
end My
namespace My
open PySem PySem.Spec PyProof.Rows L2
theorem objOk_get {P:Program} {w:World} {H:Hp} {h:Heap} {a:Addr} {o:HO} (x:qbf P w H h a o):∃u,h.get? a=some u:=by
 induction o with
 |lst xs=>obtain⟨_,_,_,_,e⟩:=x;exact⟨_,e⟩
 |tup xs=>obtain⟨_,_,_,ob,e,_⟩:=x;exact⟨_,e⟩
 |dK kvs=>obtain⟨_,_,_,_,o,_,_,e,_⟩:=x;exact⟨_,e⟩
 |dT kvs=>obtain⟨_,_,_,_,o,_,_,e,_⟩:=x;exact⟨_,e⟩
 |set S n=>obtain⟨o,_,_,_,e,_⟩:=x;exact⟨_,e⟩
 |ins C dx fs=>obtain⟨_,_,_,e,_⟩:=x;exact⟨_,e⟩
 |own y=>exact x
 |xd fs=>obtain⟨_,⟨_,_,_,e,_⟩,_⟩:=x;exact⟨_,e⟩
 |rng lo hi=>obtain⟨_,_,_,e⟩:=x;exact⟨_,e⟩
 |frz ob u ih=>exact⟨_,x.1⟩
 |tbl ps=>exact⟨_,x⟩
 |met f y=>exact⟨_,x⟩
 |ext φ=>exact x.2.1
theorem Inv.laidN {X:Cx} {pins:List (Addr × Obj)} {σ:L2.St} {H:Hp} {s:Shared} {h':Heap} {a:Addr} {o:HO} {t':Nat} (I:Inv X pins σ H s) (k:∀b u,s.heap.get? b=some u->h'.get? b=some u) (hg:s.heap.get? a=none) (new:qbf X.prog X.w (upd H a o) h' a o):
  H a=none/\Inv X pins σ (upd H a o) {s with heap:=h',toks:=t'}:=by
 have hn:H a=none:=by
  cases q:H a with
  |none=>rfl
  |some u=>obtain⟨v,e⟩:=objOk_get (I.hok a u q);rw [hg] at e;cases e
 refine⟨hn,I.un ⟨fun b u q _ _ _=>k b u q,fun b u q _ _ _=>⟨u.slots,k b u q⟩,fun b u q n _=>by rw [qa6 (fun z=>by subst z;rw [hg] at q;cases q)];exact n,fun b u q _=>⟨u,k b u q⟩,fun b xs q=>by rw [qa6 (qa4 q hn)];exact q,
  fun b u xs q=>by rw [qa6 (qa4 q hn)];exact q,fun b ps q=>⟨#[],by rw [qa6 (qa4 q hn),q];simp⟩⟩ fun b u e=>?_⟩
 by_cases hb:b=a
 .subst hb;rw [qa1] at e;cases e;exact new
 .rw [qa6 hb] at e
  exact(I.hok b u e).stay (fun c v _ q=>k c v q) (fun c q=>by rw [qa6 (qa4 q hn)];exact q) fun c xs q=>by rw [qa6 (qa4 q hn)];exact q
section
variable {X: Cx}
def rDictCp:List V->Hp->VK->Prop:=fun xs H Q=>∃p kvs,xs=[.ref p]/\Rd H p (.dK kvs)/\∀q,H q=none->Q (.ref q) (upd H q (.dK kvs))
theorem qbt:qc3 X (.type "dict") rDictCp:=by
 intro pins s σ H xs us Q I hv h
 obtain⟨p,kvs,rfl,e,q⟩:=h
 obtain⟨u,rfl,ru⟩:=hv.one
 cases ru
 exact d_copyOf I e fun l s' hl I'=>⟨.ref l,_,I',rfl,q l hl⟩
theorem qfr:∀{ss:List Str} {us:List Value},qb5 (ss.map V.str) us->StrsAre us ss
 | [],_,r=>by cases r;exact .nil
 |x :: ss,_,r=>by
  cases r with
  |cons h t=>obtain⟨k,rfl⟩:=h;exact .cons x k (qfr t)
theorem qef:∀{us:List Value} {ss:List Str},StrsAre us ss->qb5 (ss.map V.str) us
 |_,_,.nil=> .nil
 |_,_,.cons x t h=> .cons ⟨t,rfl⟩ (qef h)
def rSortL (K:Frag):List V->Hp->VK->Prop:=fun xs H Q=>∃p ss,xs=[.ref p]/\SqL K H p (ss.map V.str)/\ss.length < 64/\∀l ss',H l=none->ss'.Perm ss->sortedS ss'=true->Q (.ref l) (upd H l (.lst (ss'.map V.str)))
theorem qdf:qc3 X (.builtin "sorted") (rSortL X.K):=by
 intro pins s σ H xs us Q I hv h
 obtain⟨p,ss,rfl,hS,hz,q⟩:=h
 obtain⟨u,rfl,ru⟩:=hv.one
 cases ru
 obtain⟨its,rv,pl,hz'⟩:=I.list hS
 have hlen:=rv.length
 rw [length_map] at hlen
 refine sorted_strs (vs:=its) (PlainL.isList pl) (qfr rv) (by omega) fun out ss' a1 a2 a3=>?_
 obtain⟨e,he⟩:=sortedAll_at s.heap its out
 have hl2:=a2.length_eq
 have I2:=I.laid (a:=s.heap.objs.size+1) (o:=.lst (ss'.map V.str)) (t':=s.toks) (fun b ob hb=>sortedAll_old hb) (Nat.le_succ _) ⟨by rw [length_map,sizeLine_eq];omega,out.toList,e,qef a1,by simpa [seqObj] using he⟩
 exact⟨.ref _,_,I2,rfl,q _ ss' (I.hok.fresh (Nat.le_succ _)) a2 a3⟩
def rSortD:List V->Hp->VK->Prop:=fun xs H Q=>∃p kvs ss,xs=[.ref p]/\Rd H p (.dK kvs)/\kvs.map (·.1)=ss.map Sum.inr/\ss.length < 64/\∀l ss',H l=none->ss'.Perm ss->sortedS ss'=true->Q (.ref l) (upd H l (.lst (ss'.map V.str)))
theorem strs_keys {ss:List Str} {us:List Value} (hl:us.length=ss.length) (h:∀(j:Nat) (u:Value),us[j]?=some u->∃x,ss[j]?=some x/\keyIs (.inr x) u=true):StrsAre us ss:=by
 induction us generalizing ss with
 |nil=>cases ss with
  |nil=>exact .nil
  |cons _ _=>simp at hl
 |cons u us ih=>cases ss with
  |nil=>simp at hl
  |cons x ss=>
   obtain⟨y,hy,hk⟩:=h 0 u rfl
   simp only [List.getElem?_cons_zero,Option.some.injEq] at hy
   subst hy
   rcases qb2 hk with ⟨i,t,e,_⟩ |⟨z,t,e,rfl⟩
   .cases e
   .cases e
    exact .cons x t (ih (by simpa using hl) fun j v hv=>by have:=h (j+1) v (by simpa using hv);simpa using this)
theorem qfk (hc:X.calm=true):qc3 X (.builtin "sorted") rSortD:=by
 intro pins s σ H xs us Q I hv h
 obtain⟨p,kvs,ss,rfl,hR,hk,hz,q⟩:=h
 obtain⟨u,rfl,ru⟩:=hv.one
 cases ru
 obtain⟨o,es,ep,vs,ho,hd,rel,dat,hs⟩:=dat_of (hR.ok I.hok)
 have hlen:=rel.length
 have hks:=rel.keys
 have hl2:kvs.length=ss.length:=by have:=congrArg List.length hk;simpa using this
 refine Calls.call_function_entry kind_sorted plain_sorted entry_sorted (args_sorted1 _) ?_
 unfold Builtin.«sorted»
 refine wpAny_bind (m:=checkCount "sorted" 1 1 _) (wpAny_pure ?_)
 refine wpAny_bind (PySem.W.kdu_collect (A:=X.A.in1) (PySem.W.kdl_dict (knd:=qb4 X.prog X.w) (kvs:=vs) (ep:=ep) hs) (I.ok.hd hc) dat (by rw [sizeLine_eq];omega) fun h' tk acc hkeep hacc=>?_)
 have hal:acc.toList.length=vs.length:=by rw [Array.length_toList];exact hacc.1
 refine wpAny_bind (wpAny_newList ?_ (by rw [hal,sizeLine_eq];omega))
 have hS:StrsAre acc.toList ss:=by
  refine strs_keys (by omega) fun j v hv=>?_
  obtain⟨k,x,hx,hkv⟩:=hacc.2 j v (by rw [<-Array.getElem?_toList];exact hv)
  have e1:(vs.map (·.1))[j]?=some k:=by rw [getElem?_map,hx];rfl
  rw [<-hks,hk,getElem?_map] at e1
  obtain⟨z,hz1,rfl⟩:=Option.map_eq_some_iff.mp e1
  exact⟨z,hz1,hkv⟩
 have hoL:(h'.push {cls:=.type "list",data:=.seq acc.toList.toArray}).get? h'.objs.size=some (seqObj "list" acc.toList.toArray 0):=Heap.get?_push_size _ rfl
 refine wpAny_bind (wpAny_holding (wpAny_call_entry slot_list_sort ⟨_,hoL,rfl⟩ entry_list_sort (list_sort_treeK strKind_oneLt hoL hS.keysOf (fun v₁ v₂ rest e=>keyKind_strs (by rw [<-e];exact hS)) (by omega) fun st' a1 a2=>⟨_,rfl,?_⟩) (args_list_sort _)))
 obtain⟨ss',b1,b2,b3⟩:=sorted_out_str hS a1 a2
 obtain⟨e,he⟩:=sortedHeap_at (out:=(arrOf st').map (·.2)) hoL
 have hl3:=b2.length_eq
 have hg:s.heap.get? h'.objs.size=none:=by
  cases q:s.heap.get? h'.objs.size with
  |none=>rfl
  |some ob=>exact absurd (Heap.lt_size (hkeep _ _ q)) (Nat.lt_irrefl _)
 obtain⟨hn,I2⟩:=Inv.laidN I (h':=sortedHeap (h'.push {cls:=.type "list",data:=.seq acc.toList.toArray}) h'.objs.size acc.toList ((arrOf st').map (·.2))) (a:=h'.objs.size) (o:=.lst (ss'.map V.str)) (t':=tk) (fun b ob hb=>by
  have hb':=hkeep b ob hb
  rw [sortedHeap_old (Nat.ne_of_lt (Heap.lt_size hb')) (by rw [size_push'];exact Nat.lt_succ_of_lt (Heap.lt_size hb'))]
  exact Heap.get?_push_of_some _ hb') hg ⟨by rw [length_map,sizeLine_eq];omega,((arrOf st').map (·.2)).toList,e,qef b1,by rw [Array.toArray_toList];exact he⟩
 exact wpAny_pure ⟨_,rfl,.ref _,_,I2,rfl,q _ ss' hn b2 b3⟩
end
section
variable {K: Frag} {H: Hp} {Q: VK} {p: Addr} {kvs: List (Key × V)} {ss: List Str}
theorem r_dictCp (e:Rd H p (.dK kvs)) (h:∀q,H q=none->Q (.ref q) (upd H q (.dK kvs))):rDictCp [.ref p] H Q:=⟨p,kvs,rfl,e,h⟩
theorem r_tyD {B:Prop} (h:H p=some (.dK kvs)) (q:B):tyV K "dict" (.ref p) H/\B:=⟨.inr (.inr (.inl ⟨rfl,.inl ⟨_,h⟩⟩)),q⟩
theorem qfw (e:SqL K H p (ss.map V.str)) (hz:ss.length < 64) (h:∀l ss',H l=none->ss'.Perm ss->sortedS ss'=true->Q (.ref l) (upd H l (.lst (ss'.map V.str)))):rSortL K [.ref p] H Q:=⟨p,ss,rfl,e,hz,h⟩
theorem r_sortD (e:Rd H p (.dK kvs)) (hk:kvs.map (·.1)=ss.map Sum.inr) (hz:ss.length < 64) (h:∀l ss',H l=none->ss'.Perm ss->sortedS ss'=true->Q (.ref l) (upd H l (.lst (ss'.map V.str)))):rSortD [.ref p] H Q:=⟨p,kvs,ss,rfl,e,hk,hz,h⟩
end
end My
namespace My
open PySem PySem.Spec PyProof.Rows L2
structure AD (kvs:List (Key × V)) (f:Str->Option Int):Prop where
 nd:(kvs.map (·.1)).Nodup
 sh:∀p∈kvs,∃z i,p=(Sum.inr z,V.int i)
 get:∀z,qcq kvs (Sum.inr z)=(f z).map V.int
def noF:Str->Option Int:=fun _=>none
def qdy (f:Str->Option Int) (z:Str) (i:Int):Str->Option Int:=fun y=>if y=z then some i else f y
theorem AD.nil:AD [] noF:=⟨nodup_nil,fun p hp=>absurd hp (by simp),fun z=>rfl⟩
theorem AD.cast {kvs:List (Key × V)} {f g:Str->Option Int} (h:AD kvs f) (e:∀z,f z=g z):AD kvs g:=⟨h.nd,h.sh,fun z=>by rw [h.get,e]⟩
theorem putK_keys {kvs:List (Key × V)} {k:Key} {v:V} (h:qcq kvs k≠none):(qdj kvs k v).map (·.1)=kvs.map (·.1):=by
 unfold qdj
 have e:(kvs.any fun kv=>decide (kv.1=k))=true:=by rw [qcf];cases q:qcq kvs k with
  |none=>exact absurd q h
  |some _=>rfl
 rw [if_pos e,map_map]
 apply List.map_congr_left
 intro p _
 show (if p.1=k then (p.1,v) else p).1=p.1
 split <;> rfl
theorem putK_mem {kvs:List (Key × V)} {k:Key} {v:V} {p:Key × V} (h:p∈qdj kvs k v):p=(k,v)\/p∈kvs:=by
 unfold qdj at h
 split at h
 .obtain⟨q,hq,e⟩:=mem_map.mp h
  split at e
  .rename_i ek;subst ek;exact .inl e.symm
  .subst e;exact .inr hq
 .rcases mem_append.mp h with h|h
  .exact .inr h
  .exact .inl (by simpa using h)
theorem AD.put {kvs:List (Key × V)} {f:Str->Option Int} (h:AD kvs f) (z:Str) (i:Int):AD (qdj kvs (Sum.inr z) (.int i)) (qdy f z i):=by
 refine⟨?_,fun p hp=>?_,fun y=>?_⟩
 .cases q:qcq kvs (Sum.inr z) with
  |none=>exact nd_putK _ h.nd q
  |some v=>rw [putK_keys (by rw [q];simp)];exact h.nd
 .rcases putK_mem hp with rfl|hp
  .exact⟨z,i,rfl⟩
  .exact h.sh p hp
 .rw [valV_put]
  unfold qdy
  by_cases e:y=z
  .subst e;rw [if_pos rfl,if_pos rfl];rfl
  .rw [if_neg (fun q=>e (Sum.inr.inj q)),if_neg e];exact h.get y
theorem AD.flat {kvs:List (Key × V)} {f:Str->Option Int} (h:AD kvs f):∀p∈kvs,qd0 p.2=true:=fun p hp=>by
 obtain⟨z,i,rfl⟩:=h.sh p hp
 rfl
theorem valV_of_mem {kvs:List (Key × V)} (nd:(kvs.map (·.1)).Nodup) {k:Key} {v:V} (h:(k,v)∈kvs):qcq kvs k=some v:=by
 induction kvs with
 |nil=>simp at h
 |cons p r ih=>
  rw [map_cons,nodup_cons] at nd
  rcases mem_cons.mp h with rfl|h
  .exact qbo rfl
  .have ne:¬p.1=k:=fun e=>nd.1 (e ▸ mem_map.mpr ⟨(k,v),h,rfl⟩)
   rw [qbp ne]
   exact ih nd.2 h
theorem AD.mem {kvs:List (Key × V)} {f:Str->Option Int} (h:AD kvs f) {k:Key} {v:V} (hm:(k,v)∈kvs):∃z n,k=Sum.inr z/\v=.int n/\f z=some n:=by
 obtain⟨z,n,e⟩:=h.sh _ hm
 cases e
 have q:=valV_of_mem h.nd hm
 rw [h.get] at q
 cases hf:f z with
 |none=>rw [hf] at q;cases q
 |some m=>rw [hf] at q;cases q;exact⟨z,_,rfl,rfl,hf⟩
def qc5 (kvs:List (Key × V)):List Str:=kvs.filterMap fun p=>match p.1 with| .inr z=>some z| .inl _=>none
theorem AD.keys {kvs:List (Key × V)} {f:Str->Option Int} (h:AD kvs f):kvs.map (·.1)=(qc5 kvs).map Sum.inr:=by
 have sh:=h.sh
 clear h
 induction kvs with
 |nil=>rfl
 |cons p r ih=>
  obtain⟨z,i,rfl⟩:=sh p (mem_cons_self ..)
  show Sum.inr z :: r.map (·.1)=(z :: qc5 r).map Sum.inr
  rw [map_cons,ih fun q hq=>sh q (mem_cons_of_mem _ hq)]
theorem AD.klen {kvs:List (Key × V)} {f:Str->Option Int} (h:AD kvs f):(qc5 kvs).length=kvs.length:=by
 have:=congrArg List.length h.keys
 simpa using this.symm
theorem AD.knd {kvs:List (Key × V)} {f:Str->Option Int} (h:AD kvs f):(qc5 kvs).Nodup:=by
 have nd:=h.nd
 rw [h.keys] at nd
 exact List.Pairwise.imp (fun ne e=>ne (congrArg Sum.inr e)) (pairwise_map.mp nd)
theorem AD.kin {kvs:List (Key × V)} {f:Str->Option Int} (h:AD kvs f) (z:Str):z∈qc5 kvs↔f z≠none:=by
 constructor
 .intro hz
  have hm:(Sum.inr z:Key)∈kvs.map (·.1):=by rw [h.keys];exact mem_map.mpr ⟨z,hz,rfl⟩
  obtain⟨⟨k,v⟩,hp,e⟩:=mem_map.mp hm
  dsimp only at e
  subst e
  obtain⟨z',n,e1,_,hf⟩:=h.mem hp
  cases e1
  rw [hf];simp
 .intro hf
  cases q:f z with
  |none=>exact absurd q hf
  |some n=>
   have hv:=h.get z
   rw [q] at hv
   have hm:=valV_in hv
   rw [h.keys] at hm
   obtain⟨y,hy,e⟩:=mem_map.mp hm
   cases e
   exact hy
theorem nd_le:∀{l m:List Str},l.Nodup->(∀a∈l,a∈m)->l.length<=m.length
 | [],_,_,_=>Nat.zero_le _
 |a :: l,m,nd,h=>by
  have ha:=h a (mem_cons_self ..)
  rw [nodup_cons] at nd
  have q:=nd_le (l:=l) (m:=m.erase a) nd.2 fun b hb=>(List.mem_erase_of_ne (fun(e:b=a)=>nd.1 (by rw [<-e];exact hb))).mpr (h b (mem_cons_of_mem _ hb))
  rw [List.length_erase_of_mem ha] at q
  have:0 < m.length:=List.length_pos_of_mem ha
  simp only [length_cons]
  omega
theorem AD.le {kvs:List (Key × V)} {f:Str->Option Int} (h:AD kvs f) {ws:List Str} (hs:∀z,f z≠none->z∈ws):kvs.length<=ws.length:=by
 rw [<-h.klen]
 exact nd_le h.knd fun z hz=>hs z ((h.kin z).mp hz)
theorem AD.eq {ka kb:List (Key × V)} {f:Str->Option Int} (h:AD ka f) (h':AD kb f):(ka.length==kb.length && ka.all fun p=>(qcq kb p.1).elim false (eqV p.2))=true:=by
 rw [Bool.and_eq_true,beq_iff_eq,all_eq_true]
 constructor
 .have l1:=nd_le h.knd fun z hz=>(h'.kin z).mpr ((h.kin z).mp hz)
  have l2:=nd_le h'.knd fun z hz=>(h.kin z).mpr ((h'.kin z).mp hz)
  rw [h.klen,h'.klen] at l1
  rw [h.klen,h'.klen] at l2
  omega
 .rintro⟨k,v⟩ hp
  obtain⟨z,n,rfl,rfl,hf⟩:=h.mem hp
  show ((qcq kb (Sum.inr z)).elim false (eqV (.int n)))=true
  rw [h'.get,hf]
  show (n==n)=true
  simp
theorem AD.at {kvs:List (Key × V)} {f:Str->Option Int} (h:AD kvs f) {i:Nat} {k:Key} {v:V} (e:kvs[i]?=some (k,v)):∃z n,k=Sum.inr z/\v=.int n/\f z=some n/\(qc5 kvs)[i]?=some z:=by
 obtain⟨z,n,rfl,rfl,hf⟩:=h.mem (mem_of_getElem? e)
 refine⟨z,n,rfl,rfl,hf,?_⟩
 have q:(kvs.map (·.1))[i]?=some (Sum.inr z):=by rw [getElem?_map,e];rfl
 rw [h.keys,getElem?_map] at q
 obtain⟨y,hy,e⟩:=Option.map_eq_some_iff.mp q
 cases e
 exact hy
def leS (a b:Str):Prop:=ltCps b.cps.toList a.cps.toList=false
theorem qcz {a b:Str}:leS a b↔a.cps.toList<=b.cps.toList:=by
 unfold leS
 rw [ltCps_eq,decide_eq_false_iff_not]
 exact List.not_lt
theorem leS_refl (a:Str):leS a a:=qcz.mpr (List.le_refl _)
theorem leS_trans {a b c:Str} (h:leS a b) (h':leS b c):leS a c:=qcz.mpr (List.le_trans (qcz.mp h) (qcz.mp h'))
theorem qg2 {a b:Str} (h:leS a b) (h':leS b a):a=b:=by
 have e:=List.le_antisymm (qcz.mp h) (qcz.mp h')
 obtain⟨⟨x⟩⟩:=a
 obtain⟨⟨y⟩⟩:=b
 have e':x=y:=e
 subst e'
 rfl
theorem rising_pw:∀{p:Str} {l:List Str},risingS p l=true->(p :: l).Pairwise leS
 |p, [],_=>List.pairwise_singleton _ _
 |p,x :: r,h=>by
  have h':(!ltCps x.cps.toList p.cps.toList && risingS x r)=true:=h
  rw [Bool.and_eq_true,Bool.not_eq_true'] at h'
  have q:=rising_pw h'.2
  refine List.pairwise_cons.mpr ⟨fun y hy=>?_,q⟩
  rcases mem_cons.mp hy with rfl|hy
  .exact h'.1
  .exact leS_trans h'.1 (List.rel_of_pairwise_cons q hy)
theorem qdr:∀{l:List Str},sortedS l=true->l.Pairwise leS
 | [],_=>List.Pairwise.nil
 |x :: r,h=>rising_pw h
def gN (f:Str->Option Int) (z:Str):Int:=(f z).getD 0
def qdh (f g:Str->Option Int):Str->Option Int:=fun y=>match g y with|none=>f y|some b=>some (gN f y+b)
def qbb (f:Str->Option Int):Str->Option Int:=fun y=>match f y with|none=>none|some a=>if 0 < a then some a else none
theorem gN_get {kvs:List (Key × V)} {f:Str->Option Int} (h:AD kvs f) (z:Str):(qcq kvs (Sum.inr z)).getD (.int 0)=.int (gN f z):=by
 rw [h.get]
 unfold gN
 cases f z <;> rfl
theorem qba {l:List Str} {i:Nat} {z:Str} (h:l[i]?=some z) (y:Str):y∈l.take (i+1)↔y∈l.take i\/y=z:=by
 rw [take_add_one,h,mem_append]
 simp
end My
namespace My
open PySem PySem.Spec PyProof.Rows L2
theorem qga:bootBuiltins "reversed" =some (.type "reversed"):=by decide+kernel
end My
namespace My
open PySem PySem.Spec PyProof.Rows L2
section
variable {σ: L2.St} {H H': Hp} {Q: VK} {D: Ends} {td ty tx tv: TE} {a b p: Addr} {kvs kb: List (Key × V)} {f: Str -> Option Int} {z: Str} {n: Int} {v: V} {o: Obj}
def rDG (a:Addr) (y z:V) (H:Hp) (Q:VK):Prop:=∃o,DGet H a y o/\Q (o.getD z) H
def kDG2 (ty tx:TE) (σ:L2.St) (Q:VK) (x:V) (H:Hp):Prop:=∃a,x=.ref a/\IsD H a/\ty σ H fun y H2=>tx σ H2 fun z H3=>rDG a y z H3 Q
theorem r_dg2 (h:td σ H fun x H1=>kDG2 ty tx σ Q x H1):tDGet2 td ty tx σ H Q:=h
theorem r_dg2a (d:Rd H a (.dK kvs)) (h:ty σ H fun y H2=>tx σ H2 fun z H3=>rDG a y z H3 Q):kDG2 ty tx σ Q (.ref a) H:=⟨a,rfl,.inl ⟨kvs,d⟩,h⟩
theorem r_dg2b (d:Rd H a (.dK kvs)) (A:AD kvs f) (h:Q (.int (gN f z)) H):rDG a (.str z) (.int 0) H Q:=by
 refine⟨qcq kvs (Sum.inr z),.inl ⟨kvs,Sum.inr z,d,rfl,rfl⟩,?_⟩
 rw [gN_get A]
 exact h
def rDGk (x y:V) (H:Hp) (Q:VK):Prop:=∃a v,x=.ref a/\DGet H a y (some v)/\Q v H
theorem r_dg (h:td σ H fun x H1=>ty σ H1 fun y H2=>rDGk x y H2 Q):tDGet td ty σ H Q:=h
theorem r_dgk (d:Rd H a (.dK kvs)) (A:AD kvs f) (e:f z=some n) (h:Q (.int n) H):rDGk (.ref a) (.str z) H Q:=
 ⟨a,.int n,rfl,.inl ⟨kvs,Sum.inr z,d,rfl,by rw [A.get,e];rfl⟩,h⟩
def rDP (x y v:V) (H:Hp) (D:Ends) (σ:L2.St):Prop:=∃a H4,x=.ref a/\DPut H a y v H4/\D.nx σ H4
theorem r_dp (h:tv σ H fun v H1=>td σ H1 fun x H2=>ty σ H2 fun y H3=>rDP x y v H3 D σ):sDPut td ty tv D σ H:=h
theorem r_dpk (e:H a=some (.dK kvs)) (hz:kvs.length < sizeLine) (h:D.nx σ (upd H a (.dK (qdj kvs (Sum.inr z) v)))):rDP (.ref a) (.str z) v H D σ:=⟨a,_,rfl,DPut.k (k:=Sum.inr z) e hz,h⟩
def rDI (x y:V) (H:Hp) (Q:VK):Prop:=∃a o,x=.ref a/\DGet H a y o/\Q (.bl o.isSome) H
theorem r_di (h:ty σ H fun y H1=>td σ H1 fun x H2=>rDI x y H2 Q):tDIn ty td σ H Q:=h
theorem r_dnew (h:∀p,H p=none->Q (.ref p) (upd H p (.dK []))):tDNewK σ H Q:=h
theorem qch (e:H a=some (.dK kvs)):NoFrz H a:=fun o u z=>by rw [e] at z;cases z
theorem rd_new (d:Rd H a (.dK kvs)) (n:H p=none) {u:HO}:Rd (upd H p u) a (.dK kvs):=by
 rcases d with d|⟨o,d⟩
 .exact .inl (qad d n)
 .exact .inr ⟨o,qad d n⟩
theorem rd_in (d:Rd H b (.dK kb)) (ea:H a=some (.dK kvs)) (sb:SameBut a H H') (fz:H' a=some (.frz o (.dK kvs))):Rd H' b (.dK kb):=by
 by_cases e:b=a
 .subst e
  rcases d with d|⟨o',d⟩
  .rw [ea] at d;cases d;exact .inr ⟨o,fz⟩
  .rw [ea] at d;cases d
 .rcases d with d|⟨o',d⟩
  .exact .inl (sb _ _ e d)
  .exact .inr ⟨o',sb _ _ e d⟩
theorem qby (e:H a=some (.dK kvs)) (sb:SameBut a H H'):qb0 H (upd H' a (.dK kvs)):=fun b u q=>by
 by_cases h:b=a
 .subst h;rw [qa1];rw [e] at q;exact q
 .rw [qa6 h];exact sb b u h q
theorem sb_frz (e:H a=some (.dK kvs)):SameBut a H (upd H a (.frz o (.dK kvs))):=fun b u h q=>by rw [qa6 h];exact q
theorem qf2 {l:Addr} {u:HO} (sb:SameBut a H H') (n:H l=none):SameBut a H (upd H' l u):=fun b w h q=>by
 rw [qa6 (qa4 q n)];exact sb b w h q
theorem qax {l:Addr} {u:HO} (s:qb0 H H') (n:H l=none):qb0 H (upd H' l u):=fun b w q=>by rw [qa6 (qa4 q n)];exact s b w q
end
def qew (f g:Str->Option Int) (y:Str):Prop:=f y≠none/\gN g y < gN f y
theorem qgb {f g:Str->Option Int} {ws:List Str} (hf:∀z,f z≠none->z∈ws) (hg:∀z,g z≠none->z∈ws) (z:Str) (h:qdh f g z≠none):z∈ws:=by
 unfold qdh at h
 cases e:g z with
 |none=>rw [e] at h;exact hf z h
 |some b=>exact hg z (by rw [e];simp)
theorem qfs {l:List Str} {i:Nat} {z:Str} (h:l[i]?=some z) (F G:Str->Option Int) {v:Int} (hv:F z=some v) (y:Str):qdy (fun y=>if y∈l.take i then F y else G y) z v y=if y∈l.take (i+1) then F y else G y:=by
 unfold qdy
 by_cases e:y=z
 .subst e
  rw [if_pos rfl,if_pos ((qba h y).mpr (.inr rfl)),hv]
 .rw [if_neg e]
  by_cases e2:y∈l.take i
  .rw [if_pos ((qba h y).mpr (.inl e2))];exact if_pos e2
  .rw [if_neg (fun q=>((qba h y).mp q).elim e2 e)];exact if_neg e2
theorem step_no {l:List Str} {i:Nat} {z:Str} (h:l[i]?=some z) (F G:Str->Option Int) (hv:F z=G z) (y:Str):(if y∈l.take i then F y else G y)=if y∈l.take (i+1) then F y else G y:=by
 by_cases e2:y∈l.take i
 .rw [if_pos e2,if_pos ((qba h y).mpr (.inl e2))]
 .rw [if_neg e2]
  by_cases e:y=z
  .subst e
   rw [if_pos ((qba h y).mpr (.inr rfl)),hv]
  .rw [if_neg (fun q=>((qba h y).mp q).elim e2 e)]
theorem qft {kvs:List (Key × V)} {g:Str->Option Int} (hB:AD kvs g) (F G:Str->Option Int) (hn:∀y,g y=none->F y=G y) (y:Str):(if y∈(qc5 kvs).take kvs.length then F y else G y)=F y:=by
 rw [<-hB.klen,take_length]
 by_cases e:y∈qc5 kvs
 .rw [if_pos e]
 .rw [if_neg e]
  refine(hn y ?_).symm
  cases hf:g y with
  |none=>rfl
  |some n=>exact absurd ((hB.kin y).mpr (by rw [hf];simp)) e
end My
namespace My
open PySem PySem.Spec PyProof.Rows L2
section
variable {X: Cx}
theorem qdz {elt iter:Expr} {x y:Str} {px py:Pos} {ifs:List Expr} {scope:Scope} {cl:List (Str × Addr)} {pos spos:Pos} {caps:List Nat} {cn:List Str} {wi:TI} {tt:CT TT} {te:CT TE} {j:Nat} (Cp:Caps X x scope cl caps cn) (hc:X.calm=true)
  (hN:X.N.Nodup) (hy:X.N[j]?=some y) (hly:X.env.scope.names.lookup y=some .local)
  (hi:PI X (.Name x px) iter wi) (ht:∀C s H fp,PIfs (cxC X (x :: cn) scope cl C s H fp) ifs (tt C s H fp)) (he:∀C s H fp,PE (cxC X (x :: cn) scope cl C s H fp) elt (te C s H fp))
  (hsw:swapsWith (.ListComp elt [⟨.Name x px,iter,ifs,0⟩] scope pos) (some (.Name y py)) spos.line X.env=pure true:=by rfl) (hs:∀x,foldedSetIterable iter X.env x=pure x:=by intro _;rfl):
  PS X (.Assign [.Name y py] (.ListComp elt [⟨.Name x px,iter,ifs,0⟩] scope pos) spos) (tAsg (tComp wi caps tt te) (gName j)):=by
 intro pins s σ H D I h
 replace h:tComp wi caps tt te σ H (fun v H1=>D.nx (σ.set j (some v)) H1):=h
 rw [exec_Assign_Name_used _ _ _ _ hsw]
 refine wpAny_bind (wpAny_standAt (wpAny_bind ?_))
 show wpAny _ X.A (do let _<-comprehension (.ListComp elt [⟨.Name x px,iter,ifs,0⟩] scope pos) scope X.env _ (newList []) false (eval iter X.env) (some (assign (.Name y py) X.env))) _ _ s
 refine wpAny_bind (wpAny_mono (wpAny_comprehension_free (use:=some (assign (.Name y py) X.env)) (Q:=fun _ s'=>SP X pins D .next s') rfl hs Cp.clos Cp.kind Cp.names
  (thn (hi pins s σ H _ I h) fun v s1 h1=>thn h1 fun itv s2 h2=>?_)) (fun _ s' hq=>wpAny_pure (wpAny_pure hq)) fun _ _ e=>e)
 obtain⟨it,fp,tn,J,H2,e,I2,T,st2,f2,R⟩:=h2
 subst e
 have hacc:H2 s2.heap.objs.size=none:=I2.hok.fresh (Nat.le_refl _)
 refine wpAny_newObj_type ?_
 have I3:Inv X pins σ (upd H2 s2.heap.objs.size (.lst [])) {s2 with heap:=s2.heap.push {cls:=.type "list",dict:=none,data:=.seq ([]:List Value).toArray}}:=Inv.lnew (its:=[]) (t':=s2.toks) I2 .nil (Nat.zero_le _)
 have lt2:∀b∈fp,b < s2.heap.objs.size:=fun b hb=>let ⟨o,e,_⟩:=T.obj _ _ st2 b hb;Heap.lt_size e
 have f3:∀b∈fp,qgc X pins (upd H2 s2.heap.objs.size (.lst [])) b:=fun b hb=>⟨by rw [qa6 (Nat.ne_of_lt (lt2 b hb))];exact(f2 b hb).1,(f2 b hb).2⟩
 have st3:tn 0 (s2.heap.push {cls:=.type "list",dict:=none,data:=.seq ([]:List Value).toArray}):=T.keep _ _ _ st2 fun b _ o e=>Heap.get?_push_of_some _ e
 generalize hs3:({s2 with heap:=s2.heap.push {cls:=.type "list",dict:=none,data:=.seq ([]:List Value).toArray}}:Shared)=s3 at I3 ⊢
 have st3':tn 0 s3.heap:=by rw [<-hs3];exact st3
 generalize s2.heap.objs.size=acc at hacc I3 f3 ⊢
 obtain⟨W,⟨m0,w0⟩,turn⟩:=R s3.heap.objs.size s3 (upd H2 acc (.lst [])) fp acc hacc
 have lt3:∀b∈fp,b < s3.heap.objs.size:=fun b hb=>let ⟨o,e,_⟩:=T.obj _ _ st3' b hb;Heap.lt_size e
 clear st3 hs3
 refine wpAny_newFunctionEnv Cp.cell (by intro y hy;simp at hy) (fun h₁ hns hsb=>?_) Cp.kind
 have k1:∀b o,s3.heap.get? b=some o->h₁.get? b=some o:=fun b o e=>hsb.extBut b o (Nat.ne_of_lt (Heap.lt_size e)) (Heap.get?_push_of_some _ e)
 have I4:Inv (cxC X (x :: cn) scope cl s3.heap.objs.size s3 (upd H2 acc (.lst [])) fp) [] (none :: qay caps σ) (upd H2 acc (.lst [])) {s3 with heap:=h₁,toks:=s3.toks+([]:List (Str × Value)).length}:=
  Inv.comp Cp I3 f3 lt3 hns k1
 have st4:tn 0 h₁:=T.keep _ _ _ st3' fun b _ o e=>k1 b o e
 generalize hX:cxC X (x :: cn) scope cl s3.heap.objs.size s3 (upd H2 acc (.lst [])) fp=X' at I4
 have stat:∀{H':Hp},(∀b∈fp,H' b=none)->∀b∈fp,qgc X' [] H' b:=fun hn b hb=>by
  subst hX
  obtain⟨g0,g1,g2,g3,g4,g5⟩:=f3 b hb
  refine⟨hn b hb,Nat.ne_of_lt (lt3 b hb),fun z=>?_,.inl hb,fun y c e=>g4 y c (Cp.sub y c e),fun p hp=>absurd (show p∈([]:List (Addr × Obj)) from hp) (by simp)⟩
  rcases mem_cons.mp (I3.stkSub b z) with z|z
  .exact g1 z
  .exact g2 z
 have core:codeAny (model X.prog X.w) X.A (.compLoop (.ListComp elt [⟨.Name x px,iter,ifs,0⟩] scope pos) 0 (.ref it) (.ref acc) (compEnvC scope cl s3.heap.objs.size X.env))
   (compPost (model X.prog X.w) X.A X.xe (some (assign (.Name y py) X.env)) (fun _ s'=>SP X pins D .next s') (.ref acc) s3.heap.objs.size) {s3 with heap:=h₁,toks:=s3.toks+([]:List (Str × Value)).length}:=by
  refine codeAny_loop rfl (fun n s'=>∃i a H',Inv X' [] (a :: qay caps σ) H' s'/\tn i s'.heap/\(∀b∈fp,H' b=none)/\W i n H') (fun n s5 hI=>?_) m0 ⟨0,none,_,I4,st4,fun b hb=>(f3 b hb).1,w0⟩
  obtain⟨i,a0,H5,I5,st5,fr5,w5⟩:=hI
  show wpAny _ _ ((compTurn _ 0 _ _ _).onRaise _) _ _ s5
  refine wpAny_noted ?_
  rw [compTurn_list]
  refine wpAny_bind (wpAny_standAt (wpAny_bind ?_))
  have aX:X'.A=X.A:=by subst hX;rfl
  have pX:X'.prog=X.prog:=by subst hX;rfl
  have wX:X'.w=X.w:=by subst hX;rfl
  have kX:X'.K=X.K:=by subst hX;rfl
  have cX:X'.calm=true:=by subst hX;exact hc
  have eX:X'.env=compEnvC scope cl s3.heap.objs.size X.env:=by subst hX;rfl
  rcases turn i n H5 w5 with ⟨stop,qn⟩ |⟨go,N,hN,step⟩
  .have z:=T.done X' pX wX kX cX i [] s5 _ H5 (fun _ _=>False) I5 (stat fr5) st5 stop
   rw [aX] at z
   refine wpAny_mono z (fun r s6 ⟨hr,I6⟩=>?_) fun _ _ q=>q.elim
   subst hr
   subst hX
   obtain⟨m,hm,_⟩:=id I6.loc
   have J0:Inv X pins σ H5 s6:=Inv.uncomp I3 f3 rfl I6 (h':=s6.heap) ⟨rfl,fun _ _=>rfl⟩
   have fC:qgc X pins H5 s3.heap.objs.size:=I3.fpOk (Nat.le_refl _) I6.free
   refine wpAny_pure ?_
   show wpAny _ X.A (assign (.Name y py) X.env (.ref acc)) _ _ s6
   refine wpAny_assign_Name (store_ok2 (X:=X) (v:=.ref acc) J0 hN hy (.inl hly) rfl (fun s7 I7 ⟨a,sb,ha⟩=>?_) (.inr hly))
   have nC:s3.heap.objs.size≠a:=by
    rcases ha with rfl|ha
    .exact fC.2.1
    .exact(fC.2.2.2.2.1 y a ha).symm
   refine⟨m,hm.sameBut sb nC,fun h' sb'=>⟨_,H5,?_,qn⟩⟩
   exact I7.turned (t':=s7.toks) (fun b o hb e=>(sb'.2 b hb).trans e) fC.1 fC.2.1 fC.2.2.2.1 fC.2.2.2.2.1 fC.2.2.2.2.2
  .have z:=T.item X' pX wX kX cX i [] s5 _ H5 (fun _ _=>False) I5 (stat fr5) st5 go
   rw [aX] at z
   refine wpAny_mono z (fun r s6 ⟨u,hr,h6⟩=>?_) fun _ _ q=>q.elim
   subst hr
   refine wpAny_bind (wpAny_mono h6 (fun _ s7 ⟨v,H7,I7,r7,y7,st7,fr7⟩=>?_) fun _ _ q=>q.elim)
   have I7':=I7.pinned (stat fr7) (T.obj _ _ st7)
   have asg:wpAny (model X.prog X.w) X.A (assign (.Name x px) (compEnvC scope cl s3.heap.objs.size X.env) u) (fun _ s8=>Inv X' ([]++qbu fp s7.heap) (some v :: qay caps σ) H7 s8) (fun _ _=>False) s7:=by
    subst hX
    exact wpAny_assign_Name (qdq (X:=cxC X (x :: cn) scope cl s3.heap.objs.size s3 (upd H2 acc (.lst [])) fp) (i:=0) I7' Cp.nd rfl (.inl (lookup_relabel_local Cp.tg)) r7 (fun s' I'=>I') (.inr (lookup_relabel_local Cp.tg)))
   refine wpAny_bind (wpAny_mono asg (fun _ s8 I8=>?_) fun _ _ q=>q.elim)
   have tst:wpAny (model X.prog X.w) X.A (forIn ifs true fun c r=>if r=true then do let ok<-isTrue c (compEnvC scope cl s3.heap.objs.size X.env) (eval c (compEnvC scope cl s3.heap.objs.size X.env));pure (ForInStep.yield ok) else pure (ForInStep.yield r))
     (TP X' ([]++qbu fp s7.heap) (some v :: qay caps σ) (fun b H9=>if b=true then te s3.heap.objs.size s3 (upd H2 acc (.lst [])) fp (some v :: qay caps σ) H9 (fun y H3=>rApp acc N y H3) else N H9)) (fun _ _=>False) s8:=by
    subst hX
    exact ht _ _ _ _ _ s8 _ H7 _ I8 (step v H7 y7)
   refine wpAny_bind (wpAny_mono tst (fun b s9 ⟨H9,I9,q9⟩=>?_) fun _ _ q=>q.elim)
   have fin:∀{a:Option V} {H10:Hp} {s10:Shared},Inv X' ([]++qbu fp s7.heap) (a :: qay caps σ) H10 s10->N H10->∃m',m' < n/\∃i a H',Inv X' [] (a :: qay caps σ) H' s10/\tn i s10.heap/\(∀b∈fp,H' b=none)/\W i m' H':=fun {a H10 s10} I10 n10=>
    let ⟨m',hm,w10⟩:=hN _ n10
    ⟨m',hm,i+1,a,H10,I10.unpinned,T.keep _ _ _ st7 fun b hb o e=>(I10.pin (b,o) (mem_append_right _ (mem_append_right _ (qbs hb e)))).1,fun b hb=>by
     obtain⟨o,e,d⟩:=T.obj _ _ st7 b hb
     exact(I10.pin (b,o) (mem_append_right _ (mem_append_right _ (qbs hb e)))).2.1,w10⟩
   cases b with
   |false=>exact wpAny_pure ⟨rfl,fin I9 q9⟩
   |true=>
    have elt':wpAny (model X.prog X.w) X.A (eval elt (compEnvC scope cl s3.heap.objs.size X.env)) (EP X' ([]++qbu fp s7.heap) (some v :: qay caps σ) (fun y H3=>rApp acc N y H3)) (fun _ _=>False) s9:=by
     subst hX
     exact he _ _ _ _ _ s9 _ H9 _ I9 q9
    refine wpAny_bind (wpAny_bind (wpAny_mono elt' (fun y s10 ⟨w,H10,I10,r10,ys,ha,hz,q10⟩=>?_) fun _ _ q=>q.elim))
    have app:wpAny (model X.prog X.w) X.A (call (.builtin "list.append") [.ref acc,y]) (EP X' ([]++qbu fp s7.heap) (some v :: qay caps σ) fun _ H11=>H11=upd H10 acc (.lst (ys++ [w]))) (fun _ _=>False) s10:=by
     subst hX
     exact qbk (X:=cxC X (x :: cn) scope cl s3.heap.objs.size s3 (upd H2 acc (.lst [])) fp) _ s10 _ H10 (.ref acc) [w] (.ref acc) [y] _ I10 rfl (.cons r10 .nil) ⟨acc,ys,w,rfl,rfl,ha,hz,rfl⟩
    refine wpAny_bind (wpAny_mono app (fun _ s11 ⟨_,H11,I11,_,e11⟩=>?_) fun _ _ q=>q.elim)
    subst e11
    exact wpAny_pure (wpAny_pure ⟨rfl,fin I11 q10⟩)
 exact codeAny_compStart_list core (T.self _ 0 _ _ _ st4 core)
end
end My
namespace My
open PySem PySem.Spec PyProof.Rows L2
section
variable {X: Cx} {pins: List (Addr × Obj)} {σ: L2.St} {H: Hp} {s: Shared} {h': Heap}
theorem Inv.turnedT {t':Nat} {ch:List Addr} {T:Addr} {ob:HO} (I:Inv X pins σ H s) (hf:∀b∈ch,qgc X pins H b) (k:∀b o,b∉ch->s.heap.get? b=some o->h'.get? b=some o) (hT:s.heap.get? T=none) (hn:H T=none) (new:qbf X.prog X.w (upd H T ob) h' T ob):
  Inv X pins σ (upd H T ob) {s with heap:=h',toks:=t'}:=by
 have nit:∀b u,H b=some u->b∉ch:=fun b u e z=>by rw [(hf b z).1] at e;cases e
 refine I.step (g':=s.gens) (d':=s.drawn) (ch:=ch) (fun b hb=>⟨(hf b hb).2.2.2.1,(hf b hb).2.1,(hf b hb).2.2.2.2.1,(hf b hb).2.2.2.2.2⟩) (fun b o _ _ hc e _=>k b o hc e) (fun b o _ _ hc e _=>⟨o.slots,k b o hc e⟩)
  (fun b o _ e n=>by rw [qa6 (fun z=>by subst z;rw [hT] at e;cases e)];exact n)
  (fun b o hc e=>⟨o,k b o hc e⟩) (fun b xs e=>by rw [qa6 (qa4 e hn)];exact e) (fun b o u e=>by rw [qa6 (qa4 e hn)];exact e) (fun b ps e=>⟨#[],by rw [qa6 (qa4 e hn),e];simp⟩) (fun m hm=>?_) (fun b u e=>?_) I.bare
 .obtain⟨o,es,ep,ho,r⟩:=hm
  exact⟨o,es,ep,k _ o (fun z=>(hf _ z).2.1 rfl) ho,r⟩
 .by_cases hb:b=T
  .subst hb;rw [qa1] at e;cases e;exact new
  .rw [qa6 hb] at e
   refine(I.hok b u e).stay (fun c v hc q=>k c v ?_ q) (fun c q=>by rw [qa6 (qa4 q hn)];exact q) fun c xs q=>by rw [qa6 (qa4 q hn)];exact q
   rcases hc with rfl|hc
   .exact nit _ _ e
   .exact nit _ _ hc
end
end My
namespace My
open PySem PySem.Spec PyProof.Rows L2
section
variable {prog: Program} {w: World} {A: Around} {E: Value -> Shared -> Prop} {s: Shared}
theorem set_exact {l:Addr} {items:Array Value} {n:Nat} {k:Int} {t:Tok} {v:Value} {Q:Unit->Shared->Prop} (ho:s.heap.get? l=some {cls:=.type "list",data:=.seq items n}) (h0:0<=k) (hk:k < items.size) (hfit:k < 2^63)
  (q:Q () {s with heap:=s.heap.update l (Obj.mapSeq fun a=>a.setIfInBounds k.toNat v)}):wpAny (model prog w) A (setItem (.ref l) (.int k t) v) Q E s:=by
 have hT:s.TypeIs (.ref l) "list":=⟨_,ho,rfl⟩
 unfold setItem
 try with_reducible refine wpAny_holding ?_
 first|refine wpAny_bind (wpAny_pure ?_) |skip
 refine wpAny_bind (wpAny_sequenceKey hT (by decide) ?_)
 refine wpAny_bind (wpAny_callSpecial?_slot (name:=Str.ofString "__setitem__") hT slot_list_setitem (wpAny_call_entry slot_list_setitem hT entry_list_setitem ?_ (args_list_setitem _ _ _)))
 show wpAny _ _ (Builtin.List.listSubscript? (.int k t) >>= _) _ _ s
 refine wpAny_bind (wpAny_listSubscript_int (fitsIndex_of h0 hfit) ?_)
 clear hfit
 obtain⟨j,rfl⟩:=Int.eq_ofNat_of_zero_le h0
 have hj:j < items.size:=by omega
 have hx:items[j]?=some items[j]:=Array.getElem?_eq_getElem hj
 show wpAny _ _ ((seqItemAt l j >>= fun r=>pure (r.map (j,·))) >>= _) _ _ s
 refine wpAny_bind (wpAny_bind (wpAny_seqItemAt ho rfl (wpAny_pure ?_)))
 rw [hx]
 show wpAny _ _ (setSeqItemAt l j v >>= _) _ _ s
 refine wpAny_bind (wpAny_setSeqItemAt ho rfl ?_)
 first
 |exact wpAny_bind (wpAny_pure (wpAny_pure ⟨.none,rfl,wpAny_pure q⟩))
 |exact wpAny_pure ⟨.none,rfl,wpAny_pure q⟩
end
def rLP (x y v:V) (H:Hp) (D:Ends) (σ:L2.St):Prop:=∃l xs k,x=.ref l/\y=.int (k:Nat)/\H l=some (.lst xs)/\k < xs.length/\D.nx σ (upd H l (.lst (xs.set k v)))
def sLPut (td ty tv:TE):TS:=fun D σ H=>tv σ H fun v H1=>td σ H1 fun x H2=>ty σ H2 fun y H3=>rLP x y v H3 D σ
theorem ps_lput {X:Cx} {o i value:Expr} {pos pos':Pos} {td ty tv:TE} (ho:PE X o td) (hi:PE X i ty) (hv:PE X value tv) (hs:swapsWith value (some (.Subscript o i pos')) pos.line X.env=pure false):PS X (.Assign [.Subscript o i pos'] value pos) (sLPut td ty tv):=by
 intro pins s σ H D I h
 refine wpAny_Assign_Subscript (thn (hv pins s σ H _ I h) fun r s1 ⟨v,H1,I1,rv,q1⟩=>thn (ho pins s1 σ H1 _ I1 q1) fun u s2 ⟨x,H2,I2,rx,q2⟩=>thn (hi pins s2 σ H2 _ I2 q2) fun iv s3 ⟨y,H3,I3,ry,q3⟩=>?_) hs
 obtain⟨l,xs,k,rfl,rfl,hl,hk,q⟩:=q3
 obtain rfl:u=Value.ref l:=rx
 obtain⟨t,rfl⟩:=ry
 obtain⟨z,its,n,rr,hlen,e⟩:=I3.lstM hl
 have hz:xs.length<=16777216:=z
 refine set_exact e (Int.natCast_nonneg k) (by simp;omega) (by omega) ?_
 rw [Int.toNat_natCast]
 exact⟨σ,_,I3.lset (its':=its.set k r) (ys:=xs.set k v) (t':=s3.toks) hl e (by simp) (rr.set rv k) (by rw [List.length_set];exact z),q⟩
section
variable {X: Cx}
def rMax:List V->Hp->VK->Prop:=fun xs H Q=>∃i j,xs=[.int i,.int j]/\Q (.int (if j > i then j else i)) H
def rMin:List V->Hp->VK->Prop:=fun xs H Q=>∃i j,xs=[.int i,.int j]/\Q (.int (if j < i then j else i)) H
theorem call_maxR (hc:X.calm=true):qc3 X (.builtin "max") rMax:=call_max2 hc
theorem qer (hc:X.calm=true):qc3 X (.builtin "min") rMin:=call_min2 hc
end
section
variable {σ: L2.St} {H: Hp} {Q: VK} {D: Ends} {td ty tv: TE} {l: Addr} {xs: List V} {k: Nat} {v: V} {i j: Int}
theorem r_lp (h:tv σ H fun v H1=>td σ H1 fun x H2=>ty σ H2 fun y H3=>rLP x y v H3 D σ):sLPut td ty tv D σ H:=h
theorem r_lpk (e:H l=some (.lst xs)) (hk:k < xs.length) (h:D.nx σ (upd H l (.lst (xs.set k v)))) {y:Int} (ey:y=(k:Int)):rLP (.ref l) (.int y) v H D σ:=by subst ey;exact⟨l,xs,k,rfl,rfl,e,hk,h⟩
theorem r_max (h:Q (.int (if j > i then j else i)) H):rMax [.int i,.int j] H Q:=⟨i,j,rfl,h⟩
theorem r_min (h:Q (.int (if j < i then j else i)) H):rMin [.int i,.int j] H Q:=⟨i,j,rfl,h⟩
end
end My
namespace My
open PySem PySem.Spec PyProof.Rows L2
section
variable {K: Frag} {σ: L2.St} {H: Hp} {Q: VK} {D: Ends} {ta tv: TE} {t: TA} {a C dx: Addr} {fs: List (Str × V)} {f m: Str} {v y: V} {sp: Sp} {dvs: List V} {E: XK}
def kMk (C:Addr) (sp:Sp) (dvs:List V) (E:XK) (Q:VK) (vs:List V) (H:Hp):Prop:=∀x dx,H x=none->H dx=none->dx≠x->sp (.ref x ::(vs++dvs)) (upd (upd H dx (.own x)) x (.ins C dx [])) (fun v H2=>v=.non/\Q (.ref x) H2) E
theorem r_mk (h:t σ H fun vs H1=>kMk C sp dvs E Q vs H1):tMake C sp dvs E t σ H Q:=h
def kMt (C:Addr) (m:Str) (sp:Sp) (dvs:List V) (E:XK) (t:TA) (σ:L2.St) (Q:VK) (x:V) (H:Hp):Prop:=∃a dx fs,x=.ref a/\H a=some (.ins C dx fs)/\fs.lookup m=none/\t σ H fun vs H2=>sp (x ::(vs++dvs)) H2 Q E
theorem r_mt (h:ta σ H fun x H1=>kMt C m sp dvs E t σ Q x H1):tMeth C m sp dvs E ta t σ H Q:=h
theorem r_mtk (e:H a=some (.ins C dx fs)) (l:fs.lookup m=none) (h:t σ H fun vs H2=>sp (.ref a ::(vs++dvs)) H2 Q E):kMt C m sp dvs E t σ Q (.ref a) H:=⟨a,dx,fs,rfl,e,l,h⟩
def kFl (K:Frag) (f:Str) (Q:VK) (x:V) (H:Hp):Prop:=∃a C dx fs v,x=.ref a/\H a=some (.ins C dx fs)/\Cls K C/\qap K C f/\fs.lookup f=some v/\Q v H
theorem r_fl (h:ta σ H fun x H1=>kFl K f Q x H1):tFld K ta f σ H Q:=h
theorem r_flk (e:H a=some (.ins C dx fs)) (c:Cls K C) (n:qap K C f) (l:fs.lookup f=some v) (h:Q v H):kFl K f Q (.ref a) H:=⟨a,C,dx,fs,v,rfl,e,c,n,l,h⟩
def kFs (K:Frag) (f:Str) (y:V) (D:Ends) (σ:L2.St) (x:V) (H:Hp):Prop:=∃a C dx fs,x=.ref a/\H a=some (.ins C dx fs)/\Cls K C/\qap K C f/\fs.length < 1000/\D.nx σ (upd H a (.ins C dx (qdp f y fs)))
theorem r_fs (h:tv σ H fun y H1=>ta σ H1 fun x H2=>kFs K f y D σ x H2):sFld K ta tv f D σ H:=h
theorem r_fsk (e:H a=some (.ins C dx fs)) (c:Cls K C) (n:qap K C f) (hz:fs.length < 1000) (h:D.nx σ (upd H a (.ins C dx (qdp f y fs)))):kFs K f y D σ (.ref a) H:=⟨a,C,dx,fs,rfl,e,c,n,hz,h⟩
end
structure IsC (K:Frag) (C:Addr):Prop where
 ha:PySem.W.findIn K (.ref C) "__class__" =some (some (.builtin "object.__class__"))
 hn:specialIn K (.builtin "object.__class__") "__get__" =some (some (.builtin "getset_descriptor.__get__"))
 htk:PySem.W.takesIn K (.builtin "object.__class__")=some true
 hm:PySem.W.mroIn K C (.type "object")=some true
end My
namespace My
open PySem PySem.Spec PyProof.Rows L2
section
variable {X: Cx} {k: Nat} {f C: Addr} {fd: FuncData} {ps: List Str} {sp: Sp} {dvs: List V} {ds: List Value} {W: L2.St -> XK} {x m: Str} {p pos apos: Pos} {e o: Expr} {es: List Expr} {ta: TE} {t: TA}
def tMethX (C:Addr) (m:Str) (sp:Sp) (dvs:List V) (W:L2.St->XK) (ta:TE) (t:TA):TE:=fun σ H Q=>ta σ H fun x H1=>∃a dx fs,x=.ref a/\H1 a=some (.ins C dx fs)/\fs.lookup m=none/\t σ H1 fun vs H2=>sp (x ::(vs++dvs)) H2 Q (W σ)
theorem qae {pl:Sem Bool} (he:PE X o ta) (c:Cls X.K C) (hm:Meth X.K C m f) (F:FnOk X.prog X.w X.K X.mg X.base (CX1 X.prog X.w) k f fd ps sp) (hr:Room k X.A) (hb:qao X.K fd ps ds) (hd:qb5 dvs ds) (hx:Xes X W) (ha:PA X (e :: es) t) (hex:X.ex=[]:=by rfl)
  (hst:starEach (e :: es) X.env=(false,eval e X.env) :: starEach es X.env:=by rfl) (hpl:(backTo pos (starEach es X.env)).any (·.1)=false:=by rfl)
  (ht:eval (.Call (.Attribute o m apos) (e :: es) [] pos) X.env=(do
   let ov<-eval o X.env
   standAt apos.atName
   let (f,first)<-holding [ov] (getMethod ov m pl)
   callWith pos f first (backTo pos (starEach (e :: es) X.env)) (backToKw pos (keywordEach [] X.env))):=by rfl):
  PE X (.Call (.Attribute o m apos) (e :: es) [] pos) (tMethX C m sp dvs W ta t):=by
 intro pins s σ H Q I h
 refine PySem.W.methodCall_KW (pl:=pl) (thn (he pins s σ H _ I h) fun u s1 ⟨x,H1,I1,rx,a,dx,fs,ex,ea,l,q⟩=>?_) ht
 subst ex
 obtain rfl:u=Value.ref a:=rx
 refine qco I1 ea c hm l (PySem.W.callWith_K (first:=[.ref a]) (h₀:=X.base) I.ok.mod.kin hm.kp (thn (ha pos pins s1 σ H1 _ I1 q) fun us s2 ⟨vs,H2,I2,r,q2⟩=>⟨I2.kIn,?_⟩) hst hpl)
 exact run_fnX (us:=.ref a :: us) (vs:=.ref a :: vs) F hr hb hd hx hex I2 (.cons rfl r) q2
def tMakeX (C:Addr) (sp:Sp) (dvs:List V) (W:L2.St->XK) (t:TA):TE:=fun σ H Q=>t σ H fun vs H1=>∀x dx,H1 x=none->H1 dx=none->dx≠x->sp (.ref x ::(vs++dvs)) (upd (upd H1 dx (.own x)) x (.ins C dx [])) (fun v H2=>v=.non/\Q (.ref x) H2) (W σ)
theorem run_makeX {pins:List (Addr × Obj)} {σ:L2.St} {H:Hp} {s:Shared} {Q:VK} {us:List Value} {vs:List V} (M:Mk X.K C f) (F:FnOk X.prog X.w X.K X.mg X.base (CX1 X.prog X.w) k f fd ps sp) (hr:Room (k+1) X.A) (hb:qao X.K fd ps ds) (hd:qb5 dvs ds)
  (hx:Xes X W) (hex:X.ex=[]) (I:Inv X pins σ H s) (r:qb5 vs us)
  (h:∀x dx,H x=none->H dx=none->dx≠x->sp (.ref x ::(vs++dvs)) (upd (upd H dx (.own x)) x (.ins C dx [])) (fun v H2=>v=.non/\Q (.ref x) H2) (W σ)):
  wpAny (model X.prog X.w) X.A (call (.ref C) us) (EP X pins σ Q) X.xe s:=by
 have hq:=h (s.heap.objs.size+1) s.heap.objs.size (I.hok.fresh (Nat.le_succ _)) (I.hok.fresh (Nat.le_refl _)) (Nat.ne_of_lt (Nat.lt_succ_self _))
 have I2:=Inv.made (C:=C) I
 have r2:qb5 (V.ref (s.heap.objs.size+1) ::(vs++dvs)) (Value.ref (s.heap.objs.size+1) ::(us++ds)):=.cons rfl (r.append hd)
 have hl:(Value.ref (s.heap.objs.size+1) :: us++ds).length=ps.length:=by
  have e:=r2.length
  rw [F.len _ _ _ _ hq] at e
  exact e.symm
 refine wpAny_call (make_map (f:=f) I.kIn M.makes M.init (beq_iff_eq.mp M.fn) (codeAny_mono (F.run _ X.stack _ _ ⟨Value.ref (s.heap.objs.size+1) :: us, []⟩ (Value.ref (s.heap.objs.size+1) ::(us++ds)) _ _ (W σ) (hr.make C us [])
  (I2.env0.make C us []) (hb _ (Value.ref (s.heap.objs.size+1) :: us) I2.kIn hl) r2 hq) fun r s' hq'=>?_))
 cases r with
 |error e=>exact xes_call hx hex I2 hq'
 |ok fl=>
  cases fl with
  |ret u=>
   obtain⟨v,H',I3,rv,ev,q3⟩:=I2.after hq'
   subst ev
   exact⟨rv,⟨V.ref (s.heap.objs.size+1),H',I3,rfl,q3⟩⟩
  |next=>exact False.elim hq'
  |brk=>exact False.elim hq'
  |cont=>exact False.elim hq'
theorem pe_makeX (M:Mk X.K C f) (F:FnOk X.prog X.w X.K X.mg X.base (CX1 X.prog X.w) k f fd ps sp) (hr:Room (k+1) X.A) (hg:Gl X x) (hm:X.mg x=some (.ref C)) (hb:qao X.K fd ps ds) (hd:qb5 dvs ds) (hx:Xes X W)
  (ha:PA X (e :: es) t) (hex:X.ex=[]:=by rfl) (hdb:(x==("__debug__" :Str))=false:=by decide) (he:starEach (e :: es) X.env=(false,eval e X.env) :: starEach es X.env:=by rfl) (hpl:(backTo pos (starEach es X.env)).any (·.1)=false:=by rfl):
  PE X (.Call (.Name x p) (e :: es) [] pos) (tMakeX C sp dvs W t):=by
 intro pins s σ H Q I h
 refine wpAny_Call_Name_kw (qd8 I hg hm ?_ hdb)
 refine PySem.W.callWith_K (h₀:=X.base) I.ok.mod.kin M.kp (thn (ha pos pins s σ H _ I h) fun us s1 ⟨vs,H1,I1,r,q⟩=>⟨I1.kIn,?_⟩) he hpl
 exact run_makeX M F hr hb hd hx hex I1 r q
end
structure FunD (K:Frag) (x qual:Str) (st:Stmt) (f:Addr) (fd:FuncData) (T:Addr) (items:Array Value):Prop where
 ex:∃(oc:Value) (od:Option Addr) (kV doc pm:Value) (an:Option Addr) (cdv ct:Value) (osl:Array (Option Value)),
  fd=fnOf x qual (qcd st) (qbw st) (qaa st) (.ref T) kV doc pm an cdv ct/\K.lookup f=some ⟨oc,od,.func fd,osl⟩/\codeIn K cdv qual=true
 kp:keepIn K (.ref f)=true
 tup:∃(o:Obj) (n:Nat),K.lookup T=some o/\o.data=.seq items n
section
variable {K: Frag} {x qual: Str} {st: Stmt} {f T: Addr} {fd: FuncData} {ps: List Str} {items: Array Value}
theorem FunD.binds (F:FunD K x qual st f fd T items) {ds:List Value} (h:∀(kV doc pm:Value) (an:Option Addr) (cdv ct:Value) (us:List Value),(us++ds).length=ps.length->
   bindArgs (fnOf x qual (qcd st) (qbw st) (qaa st) (.ref T) kV doc pm an cdv ct) ⟨us, []⟩=pure (ps.zip (us++ds))\/
   ∃g:Option (Array Value)->Sem (List (Str × Value)),bindArgs (fnOf x qual (qcd st) (qbw st) (qaa st) (.ref T) kV doc pm an cdv ct) ⟨us, []⟩=seqItems? (.ref T) >>= g/\g (some items)=pure (ps.zip (us++ds))):qao K fd ps ds:=by
 obtain⟨oc,od,kV,doc,pm,an,cdv,ct,osl,rfl,lk,hcd⟩:=F.ex
 obtain⟨o,n,hT,hd⟩:=F.tup
 intro s us KX hl
 rcases h kV doc pm an cdv ct us hl with h|⟨g,h1,h2⟩
 .exact .of_eq h
 .exact BindsTo.of_defaults (T:=T) rfl (KX _ _ hT) hd h1 h2
end
section
variable {σ: L2.St} {H: Hp} {Q: VK} {ta: TE} {t: TA} {a C dx: Addr} {fs: List (Str × V)} {m: Str} {sp: Sp} {dvs: List V} {W: L2.St -> XK}
def kMtX (C:Addr) (m:Str) (sp:Sp) (dvs:List V) (W:L2.St->XK) (t:TA) (σ:L2.St) (Q:VK) (x:V) (H:Hp):Prop:=∃a dx fs,x=.ref a/\H a=some (.ins C dx fs)/\fs.lookup m=none/\t σ H fun vs H2=>sp (x ::(vs++dvs)) H2 Q (W σ)
theorem r_mtX (h:ta σ H fun x H1=>kMtX C m sp dvs W t σ Q x H1):tMethX C m sp dvs W ta t σ H Q:=h
theorem r_mtkX (e:H a=some (.ins C dx fs)) (l:fs.lookup m=none) (h:t σ H fun vs H2=>sp (.ref a ::(vs++dvs)) H2 Q (W σ)):kMtX C m sp dvs W t σ Q (.ref a) H:=⟨a,dx,fs,rfl,e,l,h⟩
def kMkX (C:Addr) (sp:Sp) (dvs:List V) (W:L2.St->XK) (σ:L2.St) (Q:VK) (vs:List V) (H:Hp):Prop:=∀x dx,H x=none->H dx=none->dx≠x->sp (.ref x ::(vs++dvs)) (upd (upd H dx (.own x)) x (.ins C dx [])) (fun v H2=>v=.non/\Q (.ref x) H2) (W σ)
theorem r_mkX (h:t σ H fun vs H1=>kMkX C sp dvs W σ Q vs H1):tMakeX C sp dvs W t σ H Q:=h
end
end My
namespace My
open PySem PySem.Spec PyProof.Rows L2
end My
namespace My
open PySem PySem.Spec PyProof.Rows L2
section
variable {prog: Program} {w: World} {A: Around} {E: Value -> Shared -> Prop}
theorem drawL {j l:Addr} {xs:List Value} (ne:l≠j):∀(todo:List Value) (i:Nat) (s:Shared) (Q:List Value->Shared->Prop),xs.drop i=todo->s.heap.IsListIter j l i->s.heap.IsList l xs.toArray->
  (∀h',h'.IsListIter j l (i+todo.length)->(∀b o,b≠j->s.heap.get? b=some o->h'.get? b=some o)->Q todo {s with heap:=h'})->wpAny (model prog w) A (draw (.ref j) todo.length) Q E s
 | [],i,s,Q,_,st,_,q=>by
  show wpAny _ _ (pure []) _ _ _
  exact wpAny_pure (q s.heap st fun _ _ _ e=>e)
 |x :: todo,i,s,Q,hd,st,hl,q=>by
  have hx:xs[i]?=some x:=by
   have z:=congrArg (fun l=>l[0]?) hd
   simpa using z
  have hd2:xs.drop (i+1)=todo:=by
   have z:=congrArg (List.drop 1) hd
   simpa [List.drop_drop] using z
  show wpAny _ _ (pyNext (.ref j) >>= _) _ _ _
  refine wpAny_bind (wpAny_pyNext_list_item st hl (x:=x) (by simpa using hx) fun h1 st1 sb=>?_)
  have kp:∀b o,b≠j->s.heap.get? b=some o->h1.get? b=some o:=fun b o hb e=>(sb.2 b hb).trans e
  refine wpAny_bind (wpAny_holding (drawL ne todo (i+1) _ _ hd2 st1 (hl.at fun o e=>kp _ o ne e) fun h2 st2 kp2=>wpAny_pure ?_))
  refine q h2 ?_ fun b o hb e=>kp2 b o hb (kp b o hb e)
  rw [length_cons,show i+(todo.length+1)=i+1+todo.length by omega]
  exact st2
theorem assignL {s:Shared} {env:Env} {elts:List Expr} {x1} {pos:Pos} {l:Addr} {xs:List Value} {Q:Unit->Shared->Prop} (calm:A.handled=none) (hl:s.heap.IsList l xs.toArray) (hn:(assignEach elts env).length=xs.length) (hst:(assignEach elts env).findIdx? (·.1)=none)
  (q:∀h',(∀b o,s.heap.get? b=some o->h'.get? b=some o)->wpAny (model prog w) A (assignInOrder ((assignEach elts env).map (·.2)) xs) Q E {s with heap:=h'}):wpAny (model prog w) A (assign (.Tuple elts x1 pos) env (.ref l)) Q E s:=by
 have ne:l≠s.heap.objs.size:=by obtain⟨o,ho,_⟩:=hl;exact Nat.ne_of_lt (Heap.lt_size ho)
 rw [assign_Tuple]
 refine wpAny_bind (wpAny_standAt ?_)
 unfold unpack
 rw [hn,hst]
 refine wpAny_bind (wpAny_holding ?_)
 unfold unpackItems notIterableAtAll
 refine wpAny_bind (wpAny_bind (wpAny_specialOf hl.typeIs F.slot_list_iter.lookup (wpAny_pure ?_)))
 simp only [Bool.false_eq_true,if_false]
 have hl1:(s.heap.push {cls:=.type "list_iterator",data:=.fields #[.ref l,.int 0 0]}).IsList l xs.toArray:=hl.at fun o e=>Heap.get?_push_of_some _ e
 refine wpAny_bind (wpAny_holding (wpAny_pyIter_list hl (wpAny_bind (wpAny_holding (drawL ne xs 0 _ _ (by simp) ⟨_,Heap.get?_push_size _ rfl,rfl,rfl⟩ hl1 fun h1 st1 kp=>?_)))))
 rw [if_neg (Nat.lt_irrefl _)]
 refine wpAny_bind (wpAny_holding (wpAny_pyNext_list_end calm st1 (hl1.at fun o e=>kp _ o ne e) (by simp) fun h2 kp2=>?_))
 simp only [Option.isSome_none,Bool.false_eq_true,if_false]
 refine wpAny_pure (q h2 fun b o e=>?_)
 have nb:b≠s.heap.objs.size:=Nat.ne_of_lt (Heap.lt_size e)
 exact kp2 b o nb (kp b o nb (Heap.get?_push_of_some _ e))
end
section
variable {X: Cx} {pos: Pos}
def gLst (K:Frag) (n:Nat) (t:TGs):TG:=fun v σ H Q=>∃a xs,v=.ref a/\SqL K H a xs/\xs.length=n/\t xs σ H Q
theorem pg_lst {es:List Expr} {k:Nat} {t:TGs} {n:Nat} (hc:X.calm=true) (h:PGs X es t) (hn:(assignEach es X.env).length=n:=by rfl) (hst:(assignEach es X.env).findIdx? (·.1)=none:=by rfl):PG X (.Tuple es k pos) (gLst X.K n t):=by
 intro pins s σ H v u Q I r hw
 obtain⟨a,xs,rfl,hq,hl,hw⟩:=hw
 cases r
 obtain⟨ws,rv,pl,_⟩:=I.list hq
 refine assignL (I.ok.hd hc) (PlainL.isList pl) (by rw [hn,<-hl,rv.length]) hst fun h' kp=>?_
 exact h pins _ σ H xs _ Q (I.kept (t':=s.toks) kp) rv hw
end
theorem r_glst {K:Frag} {σ:L2.St} {H:Hp} {a:Addr} {xs:List V} {n:Nat} {t:TGs} {Q:L2.St->Hp->Prop} (s:SqL K H a xs) (hn:xs.length=n) (h:t xs σ H Q):gLst K n t (.ref a) σ H Q:=⟨a,xs,rfl,s,hn,h⟩
end My
namespace My
open PySem PySem.Spec PyProof.Rows L2
def kDs (p:Addr) (Q:VK) (x y:V) (H2:Hp):Prop:=H2 p=some (.dK [])/\∃kvs:List (Key × V), [(x,y)]=kvs.map (fun kv=>(kV kv.1,kv.2))/\kvs.length<=15/\Q (.ref p) (upd H2 p (.dK (qfa [] kvs)))
theorem r_disp1 {σ:L2.St} {H:Hp} {Q:VK} {tk tv:TE} (h:∀p,H p=none->tk σ (upd H p (.dK [])) fun x H1=>tv σ H1 fun y H2=>kDs p Q x y H2):tDisp [(tk,tv)] σ H Q:=fun p hp=>h p hp
theorem r_ds {H:Hp} {Q:VK} {p:Addr} {z:Str} {y:V} (e:H p=some (.dK [])) (h:Q (.ref p) (upd H p (.dK [(Sum.inr z,y)]))):kDs p Q (.str z) y H:=⟨e, [(Sum.inr z,y)],rfl,Nat.le_of_ble_eq_true rfl,h⟩
end My
namespace My
open PySem PySem.Spec PyProof.Rows L2
section
variable {P: Program} {w: World} {K: Frag} {mg: Str -> Option Value} {base: Heap} {x qual: Str} {st: Stmt} {f T: Addr} {fd: FuncData} {N ps: List Str} {k: Nat} {sp: Sp} {items: Array Value}
theorem okDX (F:FunD K x qual st f fd T items) (S:FnScope N ps (qaa st)) (len:∀vs H Q E,sp vs H Q E->vs.length=ps.length)
  (hbody:∀(cdv:Value) (A:Around) (outer:List Env) (s:Shared) (H:Hp) (vs:List V) (Q:VK) (E:XK),Room k (A.deeper (envOfC qual (qaa st) s.heap.objs.size f cdv))->sp vs H Q E->
   ∃t,PSs (xw (cxOf (CX1 P w) P w K mg base N qual (qaa st) f cdv A outer s H E) (fun _=>E)) (qbw st) t/\t {nx:=fun _ H'=>Q .non H',rt:=Q} (qe7 N vs) H):FnOk P w K mg base (CX1 P w) (k+1) f fd ps sp:=by
 obtain⟨oc,od,kV,doc,pm,an,cdv,ct,osl,rfl,lk,hcd⟩:=F.ex
 refine fn_of lk hcd S len fun A outer s H vs Q E hr hsp=>?_
 obtain⟨t,ht,q⟩:=hbody cdv A outer s H vs Q E hr hsp
 exact⟨t,PSs.xes xes_fn ht,q⟩
theorem funD_mk {oc:Value} {od an:Option Addr} {osl:Array (Option Value)} {kV doc pm cdv ct:Value} {o:Obj} {n:Nat} (l:K.lookup f=some ⟨oc,od,.func (fnOf x qual (qcd st) (qbw st) (qaa st) (.ref T) kV doc pm an cdv ct),osl⟩)
  (c:codeIn K cdv qual=true) (kp:keepIn K (.ref f)=true) (t:K.lookup T=some o) (hd:o.data=.seq items n):FunD K x qual st f (fnOf x qual (qcd st) (qbw st) (qaa st) (.ref T) kV doc pm an cdv ct) T items:=
 ⟨⟨oc,od,kV,doc,pm,an,cdv,ct,osl,rfl,l,c⟩,kp,o,n,t,hd⟩
end
end My
namespace My
open PySem PySem.Spec PyProof.Rows L2
def oK (hs:List (Str × Addr)):List (Key × V):=hs.map fun p=>(Sum.inr p.1,.ref p.2)
def qd7:List (Str × Addr)->Str->Option Addr
 | [],_=>none
 |p :: r,z=>if p.1=z then some p.2 else qd7 r z
theorem qfo (z:Str):∀hs:List (Str × Addr),qcq (oK hs) (Sum.inr z)=(qd7 hs z).map V.ref
 | []=>rfl
 |p :: r=>by
  have ih:=qfo z r
  unfold qcq oK at ih ⊢
  rw [map_cons,find?_cons]
  by_cases h:p.1=z
  .have e:decide ((Sum.inr p.1:Key)=Sum.inr z)=true:=by rw [h];exact decide_eq_true rfl
   simp only [e,qd7,if_pos h]
   rfl
  .have e:decide ((Sum.inr p.1:Key)=Sum.inr z)=false:=decide_eq_false fun q=>h (Sum.inr.inj q)
   simp only [e,qd7,if_neg h]
   exact ih
theorem qfc {z:Str}:∀{hs:List (Str × Addr)},qd7 hs z=none↔z∉hs.map (·.1)
 | []=>by simp [qd7]
 |p :: r=>by
  have ih:=qfc (z:=z) (hs:=r)
  unfold qd7
  by_cases q:p.1=z
  .rw [if_pos q]
   simp [q]
  .rw [if_neg q,ih]
   simp [Ne.symm q,fun e:z=p.1=>q e.symm]
theorem lookO_of {z:Str} {h:Addr}:∀{hs:List (Str × Addr)},(hs.map (·.1)).Nodup->(z,h)∈hs->qd7 hs z=some h
 |p :: r,nd,m=>by
  rw [map_cons,nodup_cons] at nd
  unfold qd7
  rcases mem_cons.mp m with e|e
  .rw [<-e,if_pos rfl]
  .have q:p.1≠z:=fun q=>nd.1 (by rw [q];exact mem_map.mpr ⟨(z,h),e,rfl⟩)
   rw [if_neg q]
   exact lookO_of nd.2 e
theorem putK_oK {hs:List (Str × Addr)} {z:Str} {h:Addr} (n:qd7 hs z=none):qdj (oK hs) (Sum.inr z) (.ref h)=oK (hs++ [(z,h)]):=by
 have hn:=qfc.mp n
 have e:((oK hs).any fun kv=>decide (kv.1=Sum.inr z))=false:=by
  rw [List.any_eq_false]
  intro kv hkv
  obtain⟨p,hp,rfl⟩:=mem_map.mp hkv
  intro q
  have q':=Sum.inr.inj (of_decide_eq_true q)
  exact hn (mem_map.mpr ⟨p,hp,q'⟩)
 unfold qdj
 rw [if_neg (by rw [e];decide)]
 unfold oK
 rw [map_append];rfl
theorem oK_keys (hs:List (Str × Addr)):(oK hs).map (·.1)=(hs.map (·.1)).map Sum.inr:=by unfold oK;rw [map_map,map_map];rfl
section
variable {H: Hp} {Q: VK} {a h: Addr} {hs: List (Str × Addr)} {z: Str}
theorem r_diO (d:Rd H a (.dK (oK hs))) (q:Q (.bl (qd7 hs z).isSome) H):rDI (.ref a) (.str z) H Q:=by
 refine⟨a,qcq (oK hs) (Sum.inr z),rfl,.inl ⟨_,Sum.inr z,d,rfl,rfl⟩,?_⟩
 rw [qfo,Option.isSome_map]
 exact q
theorem r_dgO (d:Rd H a (.dK (oK hs))) (e:qd7 hs z=some h) (q:Q (.ref h) H):rDGk (.ref a) (.str z) H Q:=
 ⟨a,.ref h,rfl,.inl ⟨_,Sum.inr z,d,rfl,by rw [qfo,e];rfl⟩,q⟩
end
end My
set_option exponentiation.threshold 2000
namespace My
open PySem PySem.Spec PyProof.Rows L2
end My
set_option maxHeartbeats 3200000
namespace My
open PySem PySem.Spec PyProof.Rows L2
section
variable {P: Program} {w: World} {A: Around}
theorem sk_is (z:Str) (t:Tok):(strKind P w).is z (.str z t)=true:=by
 show Value.isStrOf z (.str z t)=true
 simp [Value.isStrOf]
theorem take_in {zs:List Str} {i:Nat} {z:Str} (nd:zs.Nodup) (h:zs[i]?=some z):(zs.take i).contains z=false:=by
 rw [<-Bool.not_eq_true,List.contains_iff_mem]
 intro m
 obtain⟨j,hj,e⟩:=mem_iff_getElem.mp m
 obtain⟨hi,e2⟩:=List.getElem?_eq_some_iff.mp h
 rw [length_take] at hj
 rw [List.getElem_take] at e
 exact(pairwise_iff_getElem.mp nd) j i (by omega) hi (by omega) (by rw [e,e2])
theorem take_next {zs:List Str} {i:Nat} {z:Str} (h:zs[i]?=some z) (y:Str):((zs.take i).contains y || decide (y=z))=(zs.take (i+1)).contains y:=by
 rw [take_add_one,h,Bool.eq_iff_iff,Bool.or_eq_true,List.contains_iff_mem,List.contains_iff_mem,mem_append,decide_eq_true_iff]
 simp
theorem setT_loop {R:Result->Shared->Prop} {it c:Addr} {fp wr:List Addr} {G:Array GenState->Array GenState->Prop} {zs:List Str} {pv:Nat->Value->Prop} {St:Nat->Shared->Prop}
  (W:WalksS P w A.in1 it fp wr G zs.length pv St) (hc:c∉fp) (nd:zs.Nodup) (hv:∀i v,pv i v->∃z t,zs[i]?=some z/\v=.str z t) (hb:zs.length+1 < scanBound):
  ∀(k i:Nat) (s:Shared),zs.length - i=k->i<=zs.length->St i s->s.heap.SetOf (strKind P w) c (fun y=>(zs.take i).contains y) i->
   (∀s',Moved (c :: wr) G s s'->s'.heap.SetOf (strKind P w) c (fun y=>(zs.take zs.length).contains y) zs.length->R (.ok (.ret .none)) s')->
   codeAny (model P w) A (.builtin "set.update.loop" ⟨[.ref c,.ref it], []⟩) R s:=by
 have cw:c∉wr:=fun h=>hc (W.sub _ h)
 have stays:∀{n:Nat} {S:Str->Bool} {s s':Shared},Moved wr G s s'->s.heap.SetOf (strKind P w) c S n->s'.heap.SetOf (strKind P w) c S n:=fun hm hS=>by
  obtain⟨o,es,ep,t,ho,rest⟩:=hS
  exact⟨o,es,ep,t,hm.heap c _ cw ho,rest⟩
 intro k
 induction k with
 |zero=>
  intro i s hk hi st hS hR
  have e:i=zs.length:=by omega
  subst e
  refine codeAny_builtin PyProof.Rows.F.entry_set_update_loop ?_
  rw [Around.under_plainId PyProof.Rows.F.plain_set_update_loop]
  show wpAny _ _ (pyNext (.ref it) >>= _) _ _ _
  refine wpAny_bind (W.done s _ _ st fun s1 hm=>?_)
  exact wpAny_pure (hR s1 (hm.mono fun b h=>mem_cons_of_mem _ h) (stays hm hS))
 |succ k ih=>
  intro i s hk hi st hS hR
  have lt:i < zs.length:=by omega
  refine codeAny_builtin PyProof.Rows.F.entry_set_update_loop ?_
  rw [Around.under_plainId PyProof.Rows.F.plain_set_update_loop]
  show wpAny _ _ (pyNext (.ref it) >>= _) _ _ _
  refine wpAny_bind (W.item i s _ _ lt st fun v s1 hp st1 hm=>?_)
  obtain⟨z,t,hz,rfl⟩:=hv i v hp
  have S1:=stays hm hS
  show wpAny _ _ (holding [Value.str z t] (setAdd c (.str z t)) >>= _) _ _ _
  refine wpAny_bind (wpAny_holding ?_)
  unfold setAdd
  refine wpAny_holding (wpAny_bind ((strKind P w).pyHash (k:=z) (sk_is z t) ?_))
  refine wpAny_setAddHashed_of (knd:=strKind P w) (s:={s1 with toks:=s1.toks+1}) (sk_is z t) rfl S1 (by omega) fun h2 sb S2=>?_
  have S3:h2.SetOf (strKind P w) c (fun y=>(zs.take (i+1)).contains y) (i+1):=SetOf_congr S2 (take_next hz) (by simp only [take_in nd hz];rfl)
  refine wpAny_pure ⟨plainId_quiet PyProof.Rows.F.plain_set_update_loop _,ih (i+1) _ (by omega) lt (W.frame _ s1 _ _ st1 (Nat.le_succ _) fun b h o e=>?_) S3 fun s4 hm4 S4=>?_⟩
  .rw [sb.2 b fun q=>hc (q ▸ h)];exact e
  .refine hR s4 (Moved.trans W.gtrans ((hm.mono fun b h=>mem_cons_of_mem _ h).then_heap (Nat.le_succ _) fun b o h e=>?_) hm4) S4
   rw [sb.2 b fun q=>h (q ▸ mem_cons_self)];exact e
abbrev setO (led:Bool):Obj:={cls:=.type "set",dict:=none,data:=.set #[] 0 (.fresh 0 0 led)}
theorem setT_call {E:Value->Shared->Prop} {s:Shared} {l:Addr} {items:Array Value} {zs:List Str} {Q:Value->Shared->Prop} (hh:A.handled=none) (hl:s.heap.IsList l items) (hi:StrsAre items.toList zs) (nd:zs.Nodup) (hb:zs.length+1 < scanBound)
  (h:∀(h':Heap) (tk:Nat),h'.SetOf (strKind P w) s.heap.objs.size (fun y=>(zs.take zs.length).contains y) zs.length->(∀b o,b < s.heap.objs.size->s.heap.get? b=some o->h'.get? b=some o)->Q (.ref s.heap.objs.size) {s with heap:=h',toks:=tk}):
  wpAny (model P w) A (call (.type "set") [.ref l]) Q E s:=by
 obtain⟨c,tl,hmro⟩:=PySem.F.called_set.mro
 have hmade:=PySem.F.called_set.made
 have hsub:=PySem.F.called_set.sub
 refine wpAny_call (codeAny_of_tree ?_)
 show wpAny _ _ (callAny (.type "set") _) _ _ _
 refine wpAny_pure ⟨Code.quiet_builtin _ (by decide+kernel),codeAny_builtin PySem.F.entry_type_call ?_⟩
 rw [Around.under_plain (weight_type_call_type "set" [.ref l] []) rfl]
 have h1:=PySem.F.called_set.notType
 have h2:=PySem.F.called_set.canCreate
 have hct:=PySem.F.typeCall_set_1 (.ref l)
 repeat any_goals first|assumption|wp_step
 refine codeAny_mono (code_set_new_1 (.ref l) (E:=E) (Q₁:=fun x s1=>∃led:Bool,x=.ref s.heap.objs.size/\s1={s with heap:=s.heap.push (setO led)}) fun led=>⟨led,rfl,rfl⟩) fun r s1 hr=>?_
 cases r with
 |error e=>exact hr
 |ok fl=>
  cases fl with
  |ret obj=>
   obtain⟨led,rfl,rfl⟩:=hr
   have hS:(s.heap.push (setO led)).get? s.heap.objs.size=some (setO led):=Heap.get?_push_size _ rfl
   have hT:Shared.TypeIs {s with heap:=s.heap.push (setO led)} (.ref s.heap.objs.size) "set":=⟨_,hS,rfl⟩
   have hli:=PySem.F.called_set.init.lookup
   have hbi:=PySem.F.called_set.init.bind (.ref s.heap.objs.size)
   repeat any_goals first|assumption|wp_step
   refine codeAny_mono (codeAny_call_builtin (R:=wants (fun x s2=>x=.none/\∃h' tk,s2={s with heap:=h',toks:=tk}/\h'.SetOf (strKind P w) s.heap.objs.size (fun y=>(zs.take zs.length).contains y) zs.length/\(∀b o,b < s.heap.objs.size->s.heap.get? b=some o->h'.get? b=some o)) E) PySem.F.called_set.init.plain PySem.F.entry_set_init (check_set_init_1 hT ?_)) fun r2 s2 hr2=>?_
   .obtain⟨ol,hol,hcl,nl,hdl⟩:=hl
    obtain⟨ocls,odict,odata,oslots⟩:=ol
    dsimp only at hcl hdl
    subst hcl hdl
    have hol':=Heap.get?_push_of_some (setO led) hol
    have q1:=PySem.F.sub_list_set
    have q2:=PySem.F.sub_list_frozenset
    have q3:(Value.type "list" ==Value.type "dict")=false:=by decide
    have hl1:(s.heap.push (setO led)).IsList l items:=⟨_,hol',rfl,nl,rfl⟩
    unfold Builtin.«set.__init__» noKeywords Builtin.Frozenset.updateFrom
    generalize hPI:pyIter=PI
    wp_walk
    subst hPI
    refine wpAny_pyIter_list hl1 (wpAny_bind (wpAny_runValue ?_))
    have lS:l < s.heap.objs.size:=Heap.lt_size hol
    have h3:A.in1.in1.in1.handled=none:=by simp [hh]
    have nI:l≠(s.heap.push (setO led)).objs.size:=by
     rw [Heap.size_push];exact Nat.ne_of_lt (Nat.lt_succ_of_lt lS)
    have nS:s.heap.objs.size∉ [(s.heap.push (setO led)).objs.size,l]:=by
     rw [Heap.size_push]
     intro z
     simp only [mem_cons,List.not_mem_nil,or_false] at z
     rcases z with z|z
     .exact absurd z (Nat.ne_of_lt (Nat.lt_succ_self _))
     .rw [z] at lS;exact Nat.lt_irrefl _ lS
    have ez:items.size=zs.length:=by
     have:=hi.length
     simpa using this
    have W:WalksS P w A.in1.in1.in1 _ _ _ _ items.size _ _:=(Walks.list h3 _ l nI items).toS
    rw [ez] at W
    refine setT_loop (zs:=zs) W nS nd (fun i v hv=>?_) hb (zs.length - 0) 0 _ (by omega) (Nat.zero_le _) ⟨⟨_,Heap.get?_push_size _ rfl,rfl,rfl⟩,hl1.push _⟩ ?_ ?_
    .obtain⟨y,t,e1,e2⟩:=hi.item i v (by rw [Array.getElem?_toList];exact hv)
     exact⟨y,t,e2,e1⟩
    .have hget:=Heap.get?_push_of_some {cls:=.type "list_iterator",data:=.fields #[.ref l,.int 0 0]} hS
     exact SetOf_congr ((setObjOf_fresh (knd:=strKind P w) led).setOf hget (by unfold scanBound;omega)) (fun _=>rfl) rfl
    .intro s4 hm hS4
     obtain⟨h4,g4,d4,tk4,os4⟩:=s4
     have eg:g4=s.gens:=hm.gens
     have ed:d4=s.drawn:=hm.drawn
     have eo:os4=s.os:=hm.os
     subst eg ed eo
     refine wpAny_pure ?_
     refine wpAny_pure ⟨rfl,h4,tk4,rfl,hS4,fun b o hb' e=>?_⟩
     refine hm.heap b o (fun z=>?_) (Heap.get?_push_of_some _ (Heap.get?_push_of_some _ e))
     rw [Heap.size_push] at z
     simp only [mem_cons,List.not_mem_nil,or_false] at z
     rcases z with z|z
     .rw [z] at hb';exact Nat.lt_irrefl _ hb'
     .rw [z] at hb';exact Nat.lt_irrefl _ (Nat.lt_trans (Nat.lt_succ_self _) hb')
   .cases r2 with
    |error e=>exact hr2
    |ok fl2=>
     cases fl2 with
     |ret r=>
      obtain⟨rfl,h',tk,rfl,hS',hk'⟩:=hr2
      repeat any_goals first|assumption|wp_step
      exact h _ _ hS' hk'
     |next=>exact hr2.elim
     |brk=>exact hr2.elim
     |cont=>exact hr2.elim
  |next=>exact hr.elim
  |brk=>exact hr.elim
  |cont=>exact hr.elim
end
def SetT (P:Program) (w:World) (c:Addr) (n:Nat):HO:=.ext fun h=>∃S,h.SetOf (strKind P w) c S n
def rSetT (P:Program) (w:World) (K:Frag):List V->Hp->VK->Prop:=fun xs H Q=>∃(p:Addr) (zs:List Str),xs=[.ref p]/\SqL K H p (zs.map V.str)/\zs.Nodup/\zs.length<=60/\∀c,H c=none->Q (.ref c) (upd H c (SetT P w c zs.length))
def rLenT (P:Program) (w:World):List V->Hp->VK->Prop:=fun xs H Q=>∃c n,xs=[.ref c]/\H c=some (SetT P w c n)/\Q (.int n) H
section
variable {X: Cx}
theorem call_setT (hc:X.calm=true:=by rfl):qc3 X (.type "set") (rSetT X.prog X.w X.K):=by
 intro pins s σ H xs us Q I hv h
 obtain⟨p,zs,rfl,hS,nd,hz,q⟩:=h
 obtain⟨u,rfl,ru⟩:=hv.one
 cases ru
 obtain⟨its,rv,pl,hz'⟩:=I.list hS
 refine setT_call (I.ok.hd hc) (PlainL.isList pl) (zs:=zs) (by simpa using qfr rv) nd (by unfold scanBound;omega) fun h' tk hT hk=>?_
 have hg:=hT
 obtain⟨o,es,ep,t,ho,_⟩:=hg
 exact⟨.ref _,_,I.laid (a:=s.heap.objs.size) (o:=SetT X.prog X.w s.heap.objs.size zs.length) (t':=tk) (fun b ob e=>hk b ob (Heap.lt_size e) e) (Nat.le_refl _) ⟨⟨_,hT⟩,⟨o,ho⟩,fun h1 h2 ⟨S,o1,r1,r2,r3,e1,rest⟩ k=>⟨S,o1,r1,r2,r3,k _ e1,rest⟩⟩,rfl,q _ (I.hok.fresh (Nat.le_refl _))⟩
theorem call_lenT:qc3 X (.builtin "len") (rLenT X.prog X.w):=by
 intro pins s σ H xs us Q I hv h
 obtain⟨c,n,rfl,e,q⟩:=h
 obtain⟨u,rfl,ru⟩:=hv.one
 cases ru
 obtain⟨⟨S,o,es,ep,t,ho,hx,hd,_,_,hb,hf,rfl⟩,_⟩:=I.hok c _ e
 refine call_len_set ho hx hd hf (by unfold scanBound at hb;omega) ⟨.int es.size,H,I.tok _,⟨_,rfl⟩,q⟩
end
section
variable {P: Program} {w: World} {K: Frag} {H: Hp} {Q: VK}
theorem r_setT {p:Addr} {zs:List Str} (hS:SqL K H p (zs.map V.str)) (nd:zs.Nodup) (hz:zs.length<=60) (h:∀c,H c=none->Q (.ref c) (upd H c (SetT P w c zs.length))):rSetT P w K [.ref p] H Q:=⟨p,zs,rfl,hS,nd,hz,h⟩
theorem r_lenT2 {c:Addr} {n:Nat} (e:H c=some (SetT P w c n)) (h:Q (.int n) H):rLenT P w [.ref c] H Q:=⟨c,n,rfl,e,h⟩
end
def rLenD:List V->Hp->VK->Prop:=fun xs H Q=>∃a kvs,xs=[V.ref a]/\H a=some (.dK kvs)/\Q (.int kvs.length) H
theorem qfl {X:Cx}:qc3 X (.builtin "len") rLenD:=L2.call_lenD
theorem r_lenD {H:Hp} {Q:VK} {a:Addr} {kvs:List (Key × V)} (e:H a=some (.dK kvs)) (h:Q (.int kvs.length) H):rLenD [.ref a] H Q:=⟨a,kvs,rfl,e,h⟩
end My
set_option maxHeartbeats 1000000
namespace My
open PySem PySem.Spec PyProof.Rows L2
theorem entry_ii:entryFor table "dict_itemiterator.__iter__" =some Builtin.«dict_keyiterator.__iter__»:=entryFor_alias (id':="dict_keyiterator.__iter__") (by kernel_rfl) rfl (by decide+kernel) (by kernel_rfl)
def ItI (a:Addr) (o:Obj) (kvs:List (Key × V)):It:=
 ⟨fun i H=>H a=some (.frz o (.dK kvs))/\i < kvs.length,fun i H v H'=>∃T k x,H T=none/\kvs[i]?=some (k,x)/\v=.ref T/\H'=upd H T (.tup [kV k,x]),fun i H=>H a=some (.frz o (.dK kvs))/\kvs.length<=i⟩
def ISt (it d:Addr) (n ep i:Nat) (h:Heap):Prop:=∃ok ov,IsItemIter h it d i n ep ok ov
theorem turn_items {P:Program} {w:World} {K:Frag} {elts:List Expr} {kk:Nat} {tp:Pos} {o:Obj} {kvs:List (Key × V)} {es:Array DictEntry} {ep:Nat} (d it:Addr) (hd:o.data=.dict es ep):
  Turn P w K (.Tuple elts kk tp) (ItI d o kvs) [it] it (ISt it d kvs.length ep) where
 mem:=by simp
 obj:=fun i h st b hb=>by
  have e:b=it:=by simpa using hb
  subst e
  obtain⟨ok,ov,e⟩:=st
  exact⟨_,e,fun v q=>by have q':Data.fields _=Data.cell v:=q;cases q'⟩
 keep:=fun i h h' ⟨ok,ov,e⟩ k=>⟨ok,ov,k it (by simp) _ e⟩
 item:=by
  intro X hP hw hK hc i pins s σ H E I hf st hg
  subst hP hw hK
  obtain⟨hfz,hi⟩:=hg
  obtain⟨ok,ov,st⟩:=st
  obtain⟨vs,rel,dat⟩:=qfg I.hok hfz hd
  have hfi:=hf it (by simp)
  have hl:=rel.length
  obtain⟨u,hu,ru⟩:=kvget rel (i:=i) (k:=kvs[i].1) (v:=kvs[i].2) (by rw [getElem?_eq_getElem hi])
  rw [hl] at st
  refine wpAny_pyNext_items_item st dat hu fun key h' hkey out tup hsz keep=>?_
  have hn:H s.heap.objs.size=none:=I.hok.fresh (Nat.le_refl _)
  have hg0:s.heap.get? s.heap.objs.size=none:=Heap.get?_none_of_le (Nat.le_refl _)
  have nit:it≠s.heap.objs.size:=Nat.ne_of_lt (Heap.lt_size st)
  have I1:Inv X pins σ (upd H s.heap.objs.size (.tup [kV kvs[i].1,kvs[i].2])) {s with heap:=h'}:=Inv.turnedT (t':=s.toks) (ch:=[it]) I (fun b hb=>(mem_singleton.mp hb) ▸ hfi) (fun b o hb e=>keep b o (fun q=>hb (by simp [q])) e) hg0 hn
   ⟨by show 2<=16777216;decide, [key,u],.cons (kV_rel hkey) (.cons ru .nil),⟨_,tup,rfl,_,rfl⟩⟩
  refine⟨.ref s.heap.objs.size,rfl,wpAny_letOwnedTupleGo_items (s:={s with heap:=h'}) out fun h2 c1 sb=>?_⟩
  have I2:Inv X pins σ (upd H s.heap.objs.size (.tup [kV kvs[i].1,kvs[i].2])) {s with heap:=h2}:=I1.turned (t':=s.toks) (fun b o hb e=>(sb.2 b hb).trans e) (by rw [qa6 nit];exact hfi.1) hfi.2.1 hfi.2.2.2.1 hfi.2.2.2.2.1 hfi.2.2.2.2.2
  refine⟨.ref s.heap.objs.size,_,I2,rfl,⟨s.heap.objs.size,kvs[i].1,kvs[i].2,hn,getElem?_eq_getElem hi,rfl,rfl⟩,⟨key,u,by rw [hl];exact c1⟩,fun b hb=>?_⟩
  have e:b=it:=by simpa using hb
  subst e
  rw [qa6 nit]
  exact hfi.1
 done:=by
  intro X hP hw hK hc i pins s σ H E I hf st hg
  subst hP hw hK
  obtain⟨hfz,hi⟩:=hg
  obtain⟨ok,ov,st⟩:=st
  obtain⟨vs,rel,dat⟩:=qfg I.hok hfz hd
  obtain⟨f0,f1,f2,f3,f4,f5⟩:=hf it (by simp)
  have hl:=rel.length
  rw [hl] at st hi
  exact wpAny_pyNext_items_end (I.ok.hd hc) st dat (by simpa using hi) fun h' eb=>⟨rfl,I.turned (t':=s.toks) (fun b ob hb e=>eb b ob hb e) f0 f1 f3 f4 f5⟩
 self:=by
  rintro A i s Q E ⟨ok,ov,st⟩ h
  have ty:s.TypeIs (.ref it) "dict_itemiterator":=⟨_,st,rfl⟩
  refine wpAny_pyIter_slot ty PySem.F.slot_dict_itemiterator_iter (wpAny_call_entry PySem.F.slot_dict_itemiterator_iter ty entry_ii ?_ (PySem.F.args_dict_itemiterator_iter_1 _))
  exact wpAny_pure ⟨_,rfl,_,_,ty,PySem.F.slot_dict_itemiterator_next.lookup,h⟩
def ViewO (v d:Addr):HO:=.ext fun h=>h.IsItemsView v d
def rItems:V->List V->Hp->VK->Prop:=fun x xs H Q=>∃p kvs,x=.ref p/\xs=[]/\Rd H p (.dK kvs)/\∀v,H v=none->Q (.ref v) (upd H v (ViewO v p))
section
variable {X: Cx}
theorem mt_items:MtR X "dict.items" rItems:=by
 intro pins s σ H x xs v us Q I rx rv h
 obtain⟨p,kvs,rfl,rfl,e,q⟩:=h
 cases rx
 have hus:=rv.zero
 subst hus
 obtain⟨z,hd,vs,rel,dd⟩:=qe9 I.hok e
 refine call_meetsIn PySem.F.slot_dict_items dd.typeIs PySem.F.entry_dict_items (PySem.F.args_dict_items_1 _) (meets_dict_items (qb4 X.prog X.w) p hd) ⟨⟨vs,dd⟩,?_⟩
 exact⟨.ref _,_,I.laid (a:=s.heap.objs.size) (o:=ViewO s.heap.objs.size p) (t':=s.toks) (fun b ob e=>Heap.get?_push_of_some _ e) (Nat.le_refl _) ⟨⟨_,Heap.get?_push_size _ rfl,rfl,rfl⟩,⟨_,Heap.get?_push_size _ rfl⟩,fun h1 h2 ⟨o,e1,r⟩ k=>⟨o,k _ e1,r⟩⟩,rfl,q _ (I.hok.fresh (Nat.le_refl _))⟩
def rItI (x:V) (H:Hp) (R:It->Hp->Prop):Prop:=∃v a kvs,x=.ref v/\H v=some (ViewO v a)/\H a=some (.dK kvs)/\∀o,R (ItI a o kvs) (upd H a (.frz o (.dK kvs)))
def iItems (td:TE):TI:=fun σ H R=>td σ H fun x H1=>rItI x H1 R
theorem pi_items {elts:List Expr} {kk:Nat} {tp:Pos} {l:Expr} {tl:TE} (hl:PE X l tl):PI X (.Tuple elts kk tp) l (iItems tl):=by
 intro pins s σ H R I h
 refine thn (hl pins s σ H _ I h) fun v s1 ⟨x,H1,I1,r1,q1⟩=>?_
 obtain⟨v,a,kvs,e,hv,ha,q⟩:=q1
 subst e
 cases r1
 obtain⟨o,es,ep,vs,ho,hd,rel,dat,hs⟩:=dat_of (I1.hok a _ ha)
 have hlen:=rel.length
 obtain⟨hv1,_⟩:=I1.hok v _ hv
 refine wpAny_pyIter_items hv1 dat ?_
 have I2:=Inv.freeze I1 ha ho
 refine⟨s1.heap.objs.size, [s1.heap.objs.size],_,_,_,rfl,I2.kept (t':=s1.toks) fun b ob e=>Heap.get?_push_of_some _ e,turn_items (kvs:=kvs) a _ hd,⟨.none,.none,by rw [hlen];exact Heap.get?_push_size _ rfl⟩,fun b hb=>?_,q o⟩
 have e:b=s1.heap.objs.size:=by simpa using hb
 subst e
 exact I2.fpOk (Nat.le_refl _) (I2.hok.fresh (Nat.le_refl _))
end
section
variable {σ: L2.St} {H: Hp} {D: Ends} {g: TG} {tb: TS} {tl: TE} {a: Addr} {o: Obj} {kvs: List (Key × V)} {Q: VK}
theorem r_iI {R:It->Hp->Prop} (h:tl σ H fun x H1=>rItI x H1 R):iItems tl σ H R:=h
theorem r_itI {R:It->Hp->Prop} {v:Addr} (hv:H v=some (ViewO v a)) (e:H a=some (.dK kvs)) (h:∀o,R (ItI a o kvs) (upd H a (.frz o (.dK kvs)))):rItI (.ref v) H R:=⟨v,a,kvs,rfl,hv,e,h⟩
theorem r_items {p:Addr} (e:Rd H p (.dK kvs)) (h:∀v,H v=none->Q (.ref v) (upd H v (ViewO v p))):rItems (.ref p) [] H Q:=⟨p,kvs,rfl,rfl,e,h⟩
theorem f_items (Pv:Nat->L2.St->Hp->Prop) (h0:Pv 0 σ H) (hl:∀i σ H,i<=kvs.length->Pv i σ H->H a=some (.frz o (.dK kvs)))
  (hs:∀i k v T σ H,kvs[i]?=some (k,v)->Pv i σ H->H T=none->g (.ref T) σ (upd H T (.tup [kV k,v])) fun σ2 H2=>tb {nx:=Pv (i+1),rt:=D.rt,bk:=D.nx,ct:=Pv (i+1)} σ2 H2) (hd:∀σ H,Pv kvs.length σ H->D.nx σ H):FOR (ItI a o kvs) g tb D σ H:=by
 refine⟨fun i m σ H=>m=kvs.length - i/\i<=kvs.length/\Pv i σ H,⟨kvs.length,rfl,Nat.zero_le _,h0⟩,?_⟩
 rintro i m σ H ⟨rfl,hi,p⟩
 have q:=hl i σ H hi p
 by_cases hlt:i < kvs.length
 .refine .inr ⟨⟨q,hlt⟩,Pv (i+1),fun σ' H' p'=>⟨kvs.length - (i+1),by omega,rfl,hlt,p'⟩,fun x H' y=>?_⟩
  obtain⟨T,k,v,hT,hk,rfl,rfl⟩:=y
  exact hs i k v T σ H hk p hT
 .have e:i=kvs.length:=Nat.le_antisymm hi (Nat.le_of_not_lt hlt)
  subst e
  exact .inl ⟨⟨q,Nat.le_refl _⟩,hd σ H p⟩
end
def rRepC:R2:=fun x y H Q=>∃(c:Nat) (n:Int),x=.str ⟨#[c]⟩/\y=.int n/\1<=n/\n<=100/\Q (.str ⟨(List.replicate n.toNat c).toArray⟩) H
theorem mul_c (c:Nat) {n:Int} (h:1<=n):Txt.mul ⟨#[c]⟩ n=⟨(List.replicate n.toNat c).toArray⟩:=by
 have key:∀(m:Nat) (a:Array Nat),(List.replicate m #[c]).foldl (·++·) a=a++(List.replicate m c).toArray:=by
  intro m
  induction m with
  |zero=>intro a;simp
  |succ m ih=>
   intro a
   rw [List.replicate_succ,List.foldl_cons,ih,List.replicate_succ]
   apply Array.ext'
   simp
 unfold Txt.mul
 rw [if_neg (by omega)]
 by_cases z:((n==1 ||(⟨#[c]⟩:Str).length==0)=true)
 .rw [if_pos z]
  have e:n=1:=by
   rw [Bool.or_eq_true] at z
   rcases z with z|z
   .simpa using z
   .cases z
  subst e
  rfl
 .rw [if_neg z,key]
  simp
section
variable {X: Cx}
theorem op_repC:OpR X (binaryOp .Mult) rRepC:=by
 intro pins s σ H x y v u Q I rx ry h
 obtain⟨c,n,rfl,rfl,h0,h1,q⟩:=h
 obtain⟨t,rfl⟩:=rx
 obtain⟨k,rfl⟩:=ry
 refine SB.mul ?_ fun t' k=>⟨.str ⟨(List.replicate n.toNat c).toArray⟩,H,I.tok _,⟨t',by rw [mul_c c h0]⟩,q⟩
 refine⟨by rw [decide_eq_false (by omega),decide_eq_false (by omega)];rfl,fun _ _=>?_,fun _ _=>?_⟩
 .have z:(1:Int)<=(2^63 - 1) / n:=Int.le_ediv_of_mul_le (by omega) (by omega)
  show ¬((1:Int) >(2^63 - 1) / n)
  omega
 .refine decide_eq_false (p:=(1*n.toNat > sizeLine)) ?_
  rw [sizeLine_eq]
  omega
end
theorem r_repC {H:Hp} {Q:VK} {c:Nat} {n:Int} (h0:1<=n) (h1:n<=100) (h:Q (.str ⟨(List.replicate n.toNat c).toArray⟩) H):rRepC (.str ⟨#[c]⟩) (.int n) H Q:=⟨c,n,rfl,rfl,h0,h1,h⟩
end My
namespace My
open PySem PySem.Spec PyProof.Rows L2
def ItV (a:Addr) (o:Obj) (kvs:List (Key × V)):It:=
 ⟨fun i H=>H a=some (.frz o (.dK kvs))/\i < kvs.length,fun i H v H'=>H'=H/\∃k,kvs[i]?=some (k,v),fun i H=>H a=some (.frz o (.dK kvs))/\kvs.length<=i⟩
theorem turn_vals {P:Program} {w:World} {K:Frag} {tg:Expr} {o:Obj} {kvs:List (Key × V)} {es:Array DictEntry} {ep:Nat} (d it:Addr) (hd:o.data=.dict es ep):Turn P w K tg (ItV d o kvs) [it] it (fun i h=>h.IsValIter it d i kvs.length ep) where
 mem:=by simp
 obj:=fun i h st b hb=>by
  have e:b=it:=by simpa using hb
  subst e
  obtain⟨ob,e,c,dd⟩:=st
  exact⟨ob,e,fun v z=>by rw [dd] at z;cases z⟩
 keep:=fun i h h' st k=>st.at fun ob e=>k it (by simp) ob e
 item:=by
  intro X hP hw hK hc i pins s σ H E I hf st hg
  subst hP hw hK
  obtain⟨hfz,hi⟩:=hg
  obtain⟨vs,rel,dat⟩:=qfg I.hok hfz hd
  obtain⟨f0,f1,f2,f3,f4,f5⟩:=hf it (by simp)
  have hl:=rel.length
  obtain⟨u,hu,ru⟩:=kvget rel (i:=i) (k:=kvs[i].1) (v:=kvs[i].2) (by rw [getElem?_eq_getElem hi])
  rw [hl] at st
  refine wpAny_pyNext_values_item st dat hu fun h' st' hs'=>?_
  have I1:Inv X pins σ H {s with heap:=h'}:=I.turned (t':=s.toks) (fun b ob hb e=>hs'.extBut b ob hb e) f0 f1 f3 f4 f5
  obtain⟨ob,e,c,dd⟩:=id st'
  exact⟨u,rfl,go_of (s:={s with heap:=h'}) e c dd (by decide) ⟨kvs[i].2,H,I1,ru,⟨rfl,kvs[i].1,getElem?_eq_getElem hi⟩,by rw [hl];exact st',fun b hb=>(hf b hb).1⟩⟩
 done:=by
  intro X hP hw hK hc i pins s σ H E I hf st hg
  subst hP hw hK
  obtain⟨hfz,hi⟩:=hg
  obtain⟨vs,rel,dat⟩:=qfg I.hok hfz hd
  obtain⟨f0,f1,f2,f3,f4,f5⟩:=hf it (by simp)
  have hl:=rel.length
  rw [hl] at st hi
  exact wpAny_pyNext_values_end (I.ok.hd hc) st dat (by simpa using hi) fun h' eb=>⟨rfl,I.turned (t':=s.toks) (fun b ob hb e=>eb b ob hb e) f0 f1 f3 f4 f5⟩
 self:=fun _ _ _ _ _ st h=>wpAny_pyIter_valiter st h
def ValO (v d:Addr):HO:=.ext fun h=>h.IsValuesView v d
def rVals:V->List V->Hp->VK->Prop:=fun x xs H Q=>∃p kvs,x=.ref p/\xs=[]/\Rd H p (.dK kvs)/\∀v,H v=none->Q (.ref v) (upd H v (ValO v p))
section
variable {X: Cx}
theorem mt_vals:MtR X "dict.values" rVals:=by
 intro pins s σ H x xs v us Q I rx rv h
 obtain⟨p,kvs,rfl,rfl,e,q⟩:=h
 cases rx
 have hus:=rv.zero
 subst hus
 obtain⟨z,hd,vs,rel,dd⟩:=qe9 I.hok e
 refine call_meetsIn PySem.F.slot_dict_values dd.typeIs PySem.F.entry_dict_values (PySem.F.args_dict_values_1 _) (meets_dict_values (qb4 X.prog X.w) p hd) ⟨⟨vs,dd⟩,?_⟩
 exact⟨.ref _,_,I.laid (a:=s.heap.objs.size) (o:=ValO s.heap.objs.size p) (t':=s.toks) (fun b ob e=>Heap.get?_push_of_some _ e) (Nat.le_refl _) ⟨⟨_,Heap.get?_push_size _ rfl,rfl,rfl⟩,⟨_,Heap.get?_push_size _ rfl⟩,fun h1 h2 ⟨o,e1,r⟩ k=>⟨o,k _ e1,r⟩⟩,rfl,q _ (I.hok.fresh (Nat.le_refl _))⟩
def rItVl (x:V) (H:Hp) (R:It->Hp->Prop):Prop:=∃v a kvs,x=.ref v/\H v=some (ValO v a)/\H a=some (.dK kvs)/\∀o,R (ItV a o kvs) (upd H a (.frz o (.dK kvs)))
def iVals (td:TE):TI:=fun σ H R=>td σ H fun x H1=>rItVl x H1 R
theorem pi_vals {tg l:Expr} {tl:TE} (hl:PE X l tl):PI X tg l (iVals tl):=by
 intro pins s σ H R I h
 refine thn (hl pins s σ H _ I h) fun v s1 ⟨x,H1,I1,r1,q1⟩=>?_
 obtain⟨v,a,kvs,e,hv,ha,q⟩:=q1
 subst e
 cases r1
 obtain⟨o,es,ep,vs,ho,hd,rel,dat,hs⟩:=dat_of (I1.hok a _ ha)
 have hlen:=rel.length
 obtain⟨hv1,_⟩:=I1.hok v _ hv
 refine wpAny_pyIter_values hv1 dat ?_
 have I2:=Inv.freeze I1 ha ho
 refine⟨s1.heap.objs.size, [s1.heap.objs.size],_,_,_,rfl,I2.kept (t':=s1.toks) fun b ob e=>Heap.get?_push_of_some _ e,turn_vals (kvs:=kvs) a _ hd,by rw [hlen];exact⟨_,Heap.get?_push_size _ rfl,rfl,rfl⟩,fun b hb=>?_,q o⟩
 have e:b=s1.heap.objs.size:=by simpa using hb
 subst e
 exact I2.fpOk (Nat.le_refl _) (I2.hok.fresh (Nat.le_refl _))
end
section
variable {σ: L2.St} {H: Hp} {tl: TE} {a: Addr} {kvs: List (Key × V)} {Q: VK}
theorem r_iVl {R:It->Hp->Prop} (h:tl σ H fun x H1=>rItVl x H1 R):iVals tl σ H R:=h
theorem r_itVl {R:It->Hp->Prop} {v:Addr} (hv:H v=some (ValO v a)) (e:H a=some (.dK kvs)) (h:∀o,R (ItV a o kvs) (upd H a (.frz o (.dK kvs)))):rItVl (.ref v) H R:=⟨v,a,kvs,rfl,hv,e,h⟩
theorem r_vals {p:Addr} (e:Rd H p (.dK kvs)) (h:∀v,H v=none->Q (.ref v) (upd H v (ValO v p))):rVals (.ref p) [] H Q:=⟨p,kvs,rfl,rfl,e,h⟩
end
end My
namespace My
open PySem PySem.Spec PyProof.Rows L2 PyProof
end My
namespace My
open PySem PySem.Spec PyProof.Rows L2
end My
namespace My
open PySem PySem.Spec PyProof.Rows L2
section
inductive OddV (K:Frag) (H:Hp):V->Prop
 |non:OddV K H .non
 |bl (b:Bool):OddV K H (.bl b)
 |int (i:Int):OddV K H (.int i)
 |lst {a:Addr} {xs:List V} (h:SqL K H a xs):OddV K H (.ref a)
 |tup {a:Addr} {xs:List V} (h:SqT K H a xs):OddV K H (.ref a)
 |dct {a:Addr} {kvs:List (Key × V)} (h:H a=some (.dK kvs)):OddV K H (.ref a)
end
end My
namespace My
open PySem PySem.Spec PyProof.Rows L2
section
variable {X: Cx}
def rTupL (K:Frag):List V->Hp->VK->Prop:=fun xs H Q=>∃p ys,xs=[.ref p]/\SqL K H p ys/\∀l,H l=none->Q (.ref l) (upd H l (.tup ys))
theorem call_tupL:qc3 X (.type "tuple") (rTupL X.K):=by
 intro pins s σ H xs us Q I r h
 obtain⟨p,ys,e,hS,q⟩:=h
 exact qg7 pins s σ H xs us Q I r ⟨p,ys,e,.inl ⟨hS,q⟩⟩
end
end My
namespace My
open PySem PySem.Spec PyProof.Rows L2
theorem ints_of:∀{ns:List Int} {its:List Value},qb5 (ns.map V.int) its->∃ys:List (Int × Tok),its=ys.map (fun p=>Value.int p.1 p.2)/\ys.map (·.1)=ns
 | [],_,r=>by cases r;exact⟨[],rfl,rfl⟩
 |n :: ns,_,r=>by
  cases r with
  |cons h t=>
   obtain⟨tk,rfl⟩:=h
   obtain⟨ys,e1,e2⟩:=ints_of t
   exact⟨(n,tk) :: ys,by rw [e1];rfl,by rw [map_cons,e2]⟩
theorem items_of (ys:List (Int × Tok)):(ys.map (fun p=>Value.int p.1 p.2)).toArray=intItems ys.toArray:=by
 unfold intItems
 simp
def rMaxL (K:Frag):List V->Hp->VK->Prop:=fun xs H Q=>∃(p:Addr) (ns:List Int),xs=[.ref p]/\SqL K H p (ns.map V.int)/\0 < ns.length/\∀m,m∈ns->(∀a∈ns,a<=m)->Q (.int m) H
section
variable {X: Cx}
theorem call_maxL (hc:X.calm=true):qc3 X (.builtin "max") (rMaxL X.K):=by
 intro pins s σ H xs us Q I hv h
 obtain⟨p,ns,rfl,hS,hn,q⟩:=h
 obtain⟨u,rfl,ru⟩:=hv.one
 cases ru
 obtain⟨its,rv,pl,hz⟩:=I.list hS
 have hl:=pl.isList
 obtain⟨ys,rfl,rfl⟩:=ints_of rv
 rw [items_of] at hl
 have hsz:0 < ys.toArray.size:=by rw [length_map] at hn;simpa using hn
 refine max_intList (I.ok.hd hc) hl hsz fun v h' tk hv hk=>?_
 obtain⟨t,rfl⟩:=intItems_at hv
 obtain⟨h1,h2⟩:=argBest_gt (numAt ys.toArray) (ys.toArray.size - 1)
 refine⟨.int _,H,I.kept (t':=tk) hk,⟨t,rfl⟩,q _ ?_ fun a ha=>?_⟩
 .rw [numAt_eq]
  have hsy:ys.toArray.size=ys.length:=by simp
  exact getD_mem (show _ <(List.map (fun x:Int × Tok=>x.fst) ys).length by rw [length_map];omega)
 .obtain⟨j,hj,rfl⟩:=mem_getD ha
  rw [length_map] at hj
  have z:=h2 j (by have:ys.toArray.size=ys.length:=(by simp);omega)
  rw [numAt_eq ys.toArray j] at z
  exact z
end
section
variable {K: Frag} {H: Hp} {Q: VK} {p: Addr} {ns: List Int}
theorem r_maxL (hS:SqL K H p (ns.map V.int)) (hn:0 < ns.length) (h:∀m,m∈ns->(∀a∈ns,a<=m)->Q (.int m) H):rMaxL K [.ref p] H Q:=⟨p,ns,rfl,hS,hn,h⟩
end
end My
namespace My
open PySem PySem.Spec PyProof.Rows L2
end My
namespace My
open PySem PySem.Spec PyProof.Rows L2
def XB (X:Cx) (E:XK) (e:Value) (s':Shared):Prop:=∃(a:Addr) (C:Value) (d:Option Addr) (σ':L2.St) (H':Hp),e=.ref a/\Inv X [] σ' H' s'/\E C d H'/\
 ∃(T:Addr) (fl:Value) (σ1:L2.St) (H1:Hp) (s1:Shared),Inv X [] σ1 H1 s1/\s1.heap.get? a=none/\s1.heap.get? T=none/\H' a=none/\H' T=none/\XTr s'.heap a C d fl T
abbrev xb (X:Cx) (E:XK):Cx:=X.wish (XB X E)
section
variable {X: Cx} {E: XK} {k: Nat} {f: Addr} {fd: FuncData} {ps: List Str} {sp: Sp} {dvs: List V} {ds: List Value} {x: Str} {e: Expr}
theorem run_fnB {pins:List (Addr × Obj)} {σ:L2.St} {H:Hp} {s:Shared} {Q:VK} {us:List Value} {vs:List V} (F:FnOk X.prog X.w X.K X.mg X.base (CX1 X.prog X.w) k f fd ps sp) (hr:Room k X.A) (hb:qao X.K fd ps ds) (hd:qb5 dvs ds)
  (I:Inv (xb X E) pins σ H s) (r:qb5 vs us) (h:sp (vs++dvs) H Q E):wpAny (model X.prog X.w) X.A (call (.ref f) us) (EP (xb X E) pins σ Q) (XB X E) s:=by
 have r2:qb5 (vs++dvs) (us++ds):=r.append hd
 have hl:(us++ds).length=ps.length:=by rw [<-r2.length];exact F.len _ _ _ _ h
 refine wpAny_call (codeAny_mono (F.run X.A X.stack s H ⟨us, []⟩ (us++ds) (vs++dvs) Q E hr I.env0 (hb s us I.kIn hl) r2 h) fun r s' hq=>?_)
 match r,hq with
 | .error e,hq=>
  obtain⟨a,C,d,H',rfl,os,bare,un,hok,la,na,⟨T,lT,nT,x⟩,w⟩:=hq
  have J:Inv (xb X E) pins σ H' s':=I.call' (ch:=[]) os un hok bare (fun b z=>absurd z (by simp))
  exact⟨a,C,d,σ,H',rfl,J.unwish.pins_of (fun _ z=>nomatch z),w,T,.none,σ,H,s,I.unwish.pins_of (fun _ z=>nomatch z),la,lT,na,nT,x⟩
 | .ok (.ret u),hq=>exact I.after hq
 | .ok .next,hq=>exact False.elim hq
 | .ok .brk,hq=>exact False.elim hq
 | .ok .cont,hq=>exact False.elim hq
end
section
variable {X: Cx} {pins: List (Addr × Obj)} {σ: L2.St} {H: Hp} {s: Shared}
theorem block_raise {N:List Str} {scope:Scope} {cl:List (Str × Addr)} {C0:Addr} {fp:List Addr} (hst:X.stack=X.env :: X.outer) (hf:X.env.frame=some X.env.locals) (hex:X.ex=[]) (I:Inv X pins σ H s) (hfp:∀b∈fp,qgc X pins H b) (hC:C0=s.heap.objs.size)
  {E:XK} (hx:Xes X fun _=>E) {Q:Value->Shared->Prop} {acc e:Value} {s':Shared} (h:XB (cxC X N scope cl C0 s H fp) E e s'):
  notedBy (model X.prog X.w) X.A (compEnvC scope cl C0 X.env) (fun e s'=>compPost (model X.prog X.w) X.A X.xe none Q acc C0 (.error e) s') e s':=by
 obtain⟨a,C,d,σ',H',rfl,J,w,T,fl,σ1,H1,s1,J1,la,lT,na,nT,x⟩:=h
 have O:Inv X pins σ H' s':=Inv.uncomp I hfp hC J ⟨rfl,fun _ _=>rfl⟩
 have O1:Inv X pins σ H1 s1:=Inv.uncomp I hfp hC J1 ⟨rfl,fun _ _=>rfl⟩
 have pn:∀b,s1.heap.get? b=none->∀p∈X.pn++pins,p.1≠b:=fun b lb p hp z=>by
  have w:=(O1.pin p hp).1
  rw [z,lb] at w
  cases w
 obtain⟨m,⟨oC,es,ep,hoC,hdC,hsk,hnf⟩,_⟩:=id J.loc
 have hoC:s'.heap.get? C0=some oC:=hoC
 obtain⟨m1,⟨oC1,_,_,hoC1,_⟩,_⟩:=id J1.loc
 have hoC1:s1.heap.get? C0=some oC1:=hoC1
 have nC:∀b,s1.heap.get? b=none->C0≠b:=fun b lb z=>by rw [z,lb] at hoC1;cases hoC1
 have fC:qgc X pins H' C0:=I.fpOk (by rw [hC];exact Nat.le_refl _) J.free
 obtain⟨g0,g1,g2,g3,g4,g5⟩:=id fC
 have P:Inv X (pins++ [(C0,oC)]) σ H' s':=O.pins_of fun p hp=>by
  rcases mem_append.mp hp with z|z
  .exact O.pin p (mem_append_right _ z)
  .rw [mem_singleton.mp z]
   exact⟨hoC,g0,g1,g2,fun v z=>by rw [hdC] at z;cases z⟩
 have pn2:∀b,s1.heap.get? b=none->∀p∈X.pn++(pins++ [(C0,oC)]),p.1≠b:=fun b lb p hp=>by
  rw [<-append_assoc] at hp
  rcases mem_append.mp hp with z|z
  .exact pn b lb p z
  .rw [mem_singleton.mp z];exact nC b lb
 obtain⟨oe,vs,oT,ts,he,hc,hdd,hd,h1,hTe,hT,hdT,h3⟩:=id x
 have xin:XIn X (pins++ [(C0,oC)]) H' s'.heap a C d:=⟨⟨qf8 O1 hex la,na,pn2 a la,⟨oe,vs,he,hd⟩⟩,.inr ⟨T,⟨qf8 O1 hex lT,nT,pn2 T lT,⟨oT,ts,hT,hdT⟩⟩,fl,x⟩⟩
 show wpAny _ _ (noteFrame (.ref a) X.env) _ _ s'
 refine note_x P P.ok.frames hst hf xin fun s2 I2 x2=>?_
 have hC2:s2.heap.get? C0=some oC:=(I2.pin (C0,oC) (mem_append_right _ (mem_append_right _ (mem_singleton.mpr rfl)))).1
 refine⟨m,⟨oC,es,ep,hC2,hdC,hsk,hnf⟩,fun h' sb cenv _=>?_⟩
 obtain⟨r2,T2,rT2,oe2,vs2,oT2,ts2,he2,hc2,hdd2,hd2,h12,hTe2,hT2,hdT2,h32⟩:=x2
 have ne1:a≠C0:=(nC a la).symm
 have ne2:T2≠C0:=fun z=>rT2.pin (C0,oC) (mem_append_right _ (mem_append_right _ (mem_singleton.mpr rfl))) z.symm
 have I3:Inv X pins σ H' {s2 with heap:=h'}:=I2.unpinned.turned (t':=s2.toks) (fun b o hb e=>(sb.2 b hb).trans e) g0 g1 g3 g4 g5
 have he3:h'.get? a=some oe2:=(sb.2 a ne1).trans he2
 have hT3:h'.get? T2=some oT2:=(sb.2 T2 ne2).trans hT2
 have lessP:∀{b:Addr},(∀p∈X.pn++(pins++ [(C0,oC)]),p.1≠b)->∀p∈X.pn++pins,p.1≠b:=fun {b} hh p hp=>hh p (by
  rcases mem_append.mp hp with z|z
  .exact mem_append_left _ z
  .exact mem_append_right _ (mem_append_left _ z))
 have xh:qea X pins H' h' a C d (rawInt X.env.locals):=⟨⟨r2.nw,r2.un,lessP r2.pin,⟨oe2,vs2,he3,hd2⟩⟩,T2,⟨rT2.nw,rT2.un,lessP rT2.pin,⟨oT2,ts2,hT3,hdT2⟩⟩,oe2,vs2,oT2,ts2,he3,hc2,hdd2,hd2,h12,hTe2,hT3,hdT2,h32⟩
 unfold PySem.passOn
 refine wpAny_bind (wpAny_field he3 hd2 h12 ?_)
 have fin:wpAny (model X.prog X.w) X.A (do setFlight (.ref a) cenv.frame;throw (.ref a):Sem Value) (fun _ _=>False) X.xe {s2 with heap:=h'}:=
  wpAny_bind (qg4 cenv.frame I3 xh fun s4 I4 x4=>wpAny_throw (hx pins σ H' s4 a C d I4 x4.xin w))
 first
  |(rw [if_neg (show ¬((Value.ref T2==Value.none)=true) from by simp)];exact fin)
  |(rw [if_neg (show ¬((Value.ref T2==Value.none)=true) from by simp)];exact wpAny_bind (wpAny_pure fin))
  |(refine wpAny_bind ?_;rw [if_neg (show ¬((Value.ref T2==Value.none)=true) from by simp)];exact wpAny_pure fin)
end
section
variable {X: Cx}
theorem pe_compX {E:XK} {elt iter:Expr} {x:Str} {px:Pos} {ifs:List Expr} {scope:Scope} {cl:List (Str × Addr)} {pos:Pos} {caps:List Nat} {cn:List Str} {wi:TI} {tt:CT TT} {te:CT TE} (hst:X.stack=X.env :: X.outer) (hf:X.env.frame=some X.env.locals) (hex:X.ex=[]) (hx:Xes X fun _=>E) (Cp:Caps X x scope cl caps cn) (hc:X.calm=true)
  (hi:PI X (.Name x px) iter wi) (ht:∀C s H fp,PIfs (cxC X (x :: cn) scope cl C s H fp) ifs (tt C s H fp)) (he:∀C s H fp,PE (xb (cxC X (x :: cn) scope cl C s H fp) E) elt (te C s H fp))
  (hs:∀x,foldedSetIterable iter X.env x=pure x:=by intro _;rfl):
  PE X (.ListComp elt [⟨.Name x px,iter,ifs,0⟩] scope pos) (tComp wi caps tt te):=by
 intro pins s σ H Q I h
 rw [eval_ListComp]
 refine wpAny_comprehension_free (use:=none) rfl hs Cp.clos Cp.kind Cp.names (thn (hi pins s σ H _ I h) fun v s1 h1=>thn h1 fun itv s2 h2=>?_)
 obtain⟨it,fp,tn,J,H2,e,I2,T,st2,f2,R⟩:=h2
 subst e
 have hacc:H2 s2.heap.objs.size=none:=I2.hok.fresh (Nat.le_refl _)
 refine wpAny_newObj_type ?_
 have I3:Inv X pins σ (upd H2 s2.heap.objs.size (.lst [])) {s2 with heap:=s2.heap.push {cls:=.type "list",dict:=none,data:=.seq ([]:List Value).toArray}}:=Inv.lnew (its:=[]) (t':=s2.toks) I2 .nil (Nat.zero_le _)
 have lt2:∀b∈fp,b < s2.heap.objs.size:=fun b hb=>let ⟨o,e,_⟩:=T.obj _ _ st2 b hb;Heap.lt_size e
 have f3:∀b∈fp,qgc X pins (upd H2 s2.heap.objs.size (.lst [])) b:=fun b hb=>⟨by rw [qa6 (Nat.ne_of_lt (lt2 b hb))];exact(f2 b hb).1,(f2 b hb).2⟩
 have st3:tn 0 (s2.heap.push {cls:=.type "list",dict:=none,data:=.seq ([]:List Value).toArray}):=T.keep _ _ _ st2 fun b _ o e=>Heap.get?_push_of_some _ e
 generalize hs3:({s2 with heap:=s2.heap.push {cls:=.type "list",dict:=none,data:=.seq ([]:List Value).toArray}}:Shared)=s3 at I3 ⊢
 have st3':tn 0 s3.heap:=by rw [<-hs3];exact st3
 generalize s2.heap.objs.size=acc at hacc I3 f3 ⊢
 obtain⟨W,⟨m0,w0⟩,turn⟩:=R s3.heap.objs.size s3 (upd H2 acc (.lst [])) fp acc hacc
 have lt3:∀b∈fp,b < s3.heap.objs.size:=fun b hb=>let ⟨o,e,_⟩:=T.obj _ _ st3' b hb;Heap.lt_size e
 clear st3 hs3
 refine wpAny_newFunctionEnv Cp.cell (by intro y hy;simp at hy) (fun h₁ hns hsb=>?_) Cp.kind
 have k1:∀b o,s3.heap.get? b=some o->h₁.get? b=some o:=fun b o e=>hsb.extBut b o (Nat.ne_of_lt (Heap.lt_size e)) (Heap.get?_push_of_some _ e)
 have I4:Inv (cxC X (x :: cn) scope cl s3.heap.objs.size s3 (upd H2 acc (.lst [])) fp) [] (none :: qay caps σ) (upd H2 acc (.lst [])) {s3 with heap:=h₁,toks:=s3.toks+([]:List (Str × Value)).length}:=
  Inv.comp Cp I3 f3 lt3 hns k1
 have st4:tn 0 h₁:=T.keep _ _ _ st3' fun b _ o e=>k1 b o e
 have br:∀(e:Value) (s':Shared),XB (cxC X (x :: cn) scope cl s3.heap.objs.size s3 (upd H2 acc (.lst [])) fp) E e s'->notedBy (model X.prog X.w) X.A (compEnvC scope cl s3.heap.objs.size X.env) (fun e s'=>compPost (model X.prog X.w) X.A X.xe none (EP X pins σ Q) (.ref acc) s3.heap.objs.size (.error e) s') e s':=fun e s' h=>block_raise hst hf hex I3 f3 rfl hx h
 generalize hX:cxC X (x :: cn) scope cl s3.heap.objs.size s3 (upd H2 acc (.lst [])) fp=X' at I4 br
 have stat:∀{H':Hp},(∀b∈fp,H' b=none)->∀b∈fp,qgc X' [] H' b:=fun hn b hb=>by
  subst hX
  obtain⟨g0,g1,g2,g3,g4,g5⟩:=f3 b hb
  refine⟨hn b hb,Nat.ne_of_lt (lt3 b hb),fun z=>?_,.inl hb,fun y c e=>g4 y c (Cp.sub y c e),fun p hp=>absurd (show p∈([]:List (Addr × Obj)) from hp) (by simp)⟩
  rcases mem_cons.mp (I3.stkSub b z) with z|z
  .exact g1 z
  .exact g2 z
 have core:codeAny (model X.prog X.w) X.A (.compLoop (.ListComp elt [⟨.Name x px,iter,ifs,0⟩] scope pos) 0 (.ref it) (.ref acc) (compEnvC scope cl s3.heap.objs.size X.env))
   (compPost (model X.prog X.w) X.A X.xe none (EP X pins σ Q) (.ref acc) s3.heap.objs.size) {s3 with heap:=h₁,toks:=s3.toks+([]:List (Str × Value)).length}:=by
  refine codeAny_loop rfl (fun n s'=>∃i a H',Inv X' [] (a :: qay caps σ) H' s'/\tn i s'.heap/\(∀b∈fp,H' b=none)/\W i n H') (fun n s5 hI=>?_) m0 ⟨0,none,_,I4,st4,fun b hb=>(f3 b hb).1,w0⟩
  obtain⟨i,a0,H5,I5,st5,fr5,w5⟩:=hI
  show wpAny _ _ ((compTurn _ 0 _ _ _).onRaise _) _ _ s5
  refine wpAny_noted ?_
  rw [compTurn_list]
  refine wpAny_bind (wpAny_standAt (wpAny_bind ?_))
  have aX:X'.A=X.A:=by subst hX;rfl
  have pX:X'.prog=X.prog:=by subst hX;rfl
  have wX:X'.w=X.w:=by subst hX;rfl
  have kX:X'.K=X.K:=by subst hX;rfl
  have cX:X'.calm=true:=by subst hX;exact hc
  have eX:X'.env=compEnvC scope cl s3.heap.objs.size X.env:=by subst hX;rfl
  rcases turn i n H5 w5 with ⟨stop,qn⟩ |⟨go,N,hN,step⟩
  .have z:=T.done X' pX wX kX cX i [] s5 _ H5 (fun _ _=>False) I5 (stat fr5) st5 stop
   rw [aX] at z
   refine wpAny_mono z (fun r s6 ⟨hr,I6⟩=>?_) fun _ _ q=>q.elim
   subst hr
   subst hX
   obtain⟨m,hm,_⟩:=id I6.loc
   exact wpAny_pure ⟨m,hm,fun h' sb=>⟨.ref acc,H5,Inv.uncomp I3 f3 rfl I6 sb,rfl,qn⟩⟩
  .have z:=T.item X' pX wX kX cX i [] s5 _ H5 (fun _ _=>False) I5 (stat fr5) st5 go
   rw [aX] at z
   refine wpAny_mono z (fun r s6 ⟨u,hr,h6⟩=>?_) fun _ _ q=>q.elim
   subst hr
   refine wpAny_bind (wpAny_mono h6 (fun _ s7 ⟨v,H7,I7,r7,y7,st7,fr7⟩=>?_) fun _ _ q=>q.elim)
   have I7':=I7.pinned (stat fr7) (T.obj _ _ st7)
   have asg:wpAny (model X.prog X.w) X.A (assign (.Name x px) (compEnvC scope cl s3.heap.objs.size X.env) u) (fun _ s8=>Inv X' ([]++qbu fp s7.heap) (some v :: qay caps σ) H7 s8) (fun _ _=>False) s7:=by
    subst hX
    exact wpAny_assign_Name (qdq (X:=cxC X (x :: cn) scope cl s3.heap.objs.size s3 (upd H2 acc (.lst [])) fp) (i:=0) I7' Cp.nd rfl (.inl (lookup_relabel_local Cp.tg)) r7 (fun s' I'=>I') (.inr (lookup_relabel_local Cp.tg)))
   refine wpAny_bind (wpAny_mono asg (fun _ s8 I8=>?_) fun _ _ q=>q.elim)
   have tst:wpAny (model X.prog X.w) X.A (forIn ifs true fun c r=>if r=true then do let ok<-isTrue c (compEnvC scope cl s3.heap.objs.size X.env) (eval c (compEnvC scope cl s3.heap.objs.size X.env));pure (ForInStep.yield ok) else pure (ForInStep.yield r))
     (TP X' ([]++qbu fp s7.heap) (some v :: qay caps σ) (fun b H9=>if b=true then te s3.heap.objs.size s3 (upd H2 acc (.lst [])) fp (some v :: qay caps σ) H9 (fun y H3=>rApp acc N y H3) else N H9)) (fun _ _=>False) s8:=by
    subst hX
    exact ht _ _ _ _ _ s8 _ H7 _ I8 (step v H7 y7)
   refine wpAny_bind (wpAny_mono tst (fun b s9 ⟨H9,I9,q9⟩=>?_) fun _ _ q=>q.elim)
   have fin:∀{a:Option V} {H10:Hp} {s10:Shared},Inv X' ([]++qbu fp s7.heap) (a :: qay caps σ) H10 s10->N H10->∃m',m' < n/\∃i a H',Inv X' [] (a :: qay caps σ) H' s10/\tn i s10.heap/\(∀b∈fp,H' b=none)/\W i m' H':=fun {a H10 s10} I10 n10=>
    let ⟨m',hm,w10⟩:=hN _ n10
    ⟨m',hm,i+1,a,H10,I10.unpinned,T.keep _ _ _ st7 fun b hb o e=>(I10.pin (b,o) (mem_append_right _ (mem_append_right _ (qbs hb e)))).1,fun b hb=>by
     obtain⟨o,e,d⟩:=T.obj _ _ st7 b hb
     exact(I10.pin (b,o) (mem_append_right _ (mem_append_right _ (qbs hb e)))).2.1,w10⟩
   cases b with
   |false=>exact wpAny_pure ⟨rfl,fin I9 q9⟩
   |true=>
    have elt':wpAny (model X.prog X.w) X.A (eval elt (compEnvC scope cl s3.heap.objs.size X.env)) (EP (xb X' E) ([]++qbu fp s7.heap) (some v :: qay caps σ) (fun y H3=>rApp acc N y H3)) (XB X' E) s9:=by
     subst hX
     exact he _ _ _ _ _ s9 _ H9 _ (I9.wish _) q9
    refine wpAny_bind (wpAny_bind (wpAny_mono elt' (fun y s10 ⟨w,H10,I10w,r10,ys,ha,hz,q10⟩=>?_) fun e' s' q=>br e' s' q))
    have I10:=I10w.unwish
    have app:wpAny (model X.prog X.w) X.A (call (.builtin "list.append") [.ref acc,y]) (EP X' ([]++qbu fp s7.heap) (some v :: qay caps σ) fun _ H11=>H11=upd H10 acc (.lst (ys++ [w]))) (fun _ _=>False) s10:=by
     subst hX
     exact qbk (X:=cxC X (x :: cn) scope cl s3.heap.objs.size s3 (upd H2 acc (.lst [])) fp) _ s10 _ H10 (.ref acc) [w] (.ref acc) [y] _ I10 rfl (.cons r10 .nil) ⟨acc,ys,w,rfl,rfl,ha,hz,rfl⟩
    refine wpAny_bind (wpAny_mono app (fun _ s11 ⟨_,H11,I11,_,e11⟩=>?_) fun _ _ q=>q.elim)
    subst e11
    exact wpAny_pure (wpAny_pure ⟨rfl,fin I11 q10⟩)
 exact codeAny_compStart_list core (T.self _ 0 _ _ _ st4 core)
end
end My
namespace My
open PySem PySem.Spec PyProof.Rows L2 PyProof PySem.Builtin.Str
end My
namespace My
open PySem PySem.Spec PyProof.Rows L2 PyProof PySem.Builtin.Str PySem.StrLaws
def hits (l:List Nat) (c:Nat) (is:List Nat):List Nat:=is.filter fun i=>decide (l[i]?=some c)
end My
namespace My
open PySem PySem.Spec PyProof.Rows L2 PyProof PySem.Builtin.Str PySem.NumText
end My
namespace My
open PySem PySem.Spec PyProof.Rows L2 PyProof PySem.Builtin.Str
end My
namespace My
open PySem PySem.Spec PyProof.Rows L2 PySem.Builtin
end My
namespace My
open PySem PySem.Spec PyProof.Rows L2
end My
namespace My
open PySem PySem.Spec PyProof.Rows L2 PyProof PySem.SeqAt
end My
namespace My
open PySem PySem.Spec PyProof.Rows L2
end My
namespace My
open PySem PySem.Spec PyProof.Rows L2
end My
namespace My
open PySem PySem.Spec PyProof.Rows L2 PyProof PySem.SeqAt
end My
namespace My
open PySem PySem.Spec PyProof.Rows L2
end My
namespace My
open PySem PySem.Spec PyProof.Rows L2
section
variable {K: Frag} {H: Hp} {p: Addr} {n: Int} {xs: List V}
theorem deq_nilL {n:Nat} {a b:Addr} (ha:SqL K H a xs) (hb:SqL K H b []) (ne:a≠b):DEq K H (n+1) (.ref a) (.ref b) (decide (xs=[])):=by
 cases xs with
 |nil=>
  have z:=DEq.ls (n:=n) (e:=fun _=>true) ha hb ne rfl (fun j h1 h2=>absurd h1 (Nat.not_lt_zero j))
  exact z
 |cons p r=>exact DEq.lsN ha hb ne (by simp)
end
end My
namespace My
open PySem PySem.Spec PyProof.Rows L2
end My
namespace My
open PySem PySem.Spec PyProof.Rows L2
end My
namespace My
open PySem PySem.Spec PyProof.Rows L2
end My
namespace My
open PySem PySem.Spec PyProof.Rows L2
inductive PEq (K:Frag) (H:Hp):Nat->V->V->Bool->Prop
 |same {n:Nat} {a:Addr}:PEq K H n (.ref a) (.ref a) true
 |flat {n:Nat} {x y:V} (hx:qd0 x=true) (hy:qd0 y=true):PEq K H n x y (eqV x y)
 |ls {n:Nat} {a b:Addr} {xs ys:List V} {e:Nat->Bool} (ha:SqL K H a xs) (hb:SqL K H b ys) (ne:a≠b) (hl:xs.length=ys.length)
   (he:∀j (h1:j < xs.length) (h2:j < ys.length),PEq K H n xs[j] ys[j] (e j)):PEq K H (n+1) (.ref a) (.ref b) ((List.range xs.length).all e)
 |lsN {n:Nat} {a b:Addr} {xs ys:List V} (ha:SqL K H a xs) (hb:SqL K H b ys) (ne:a≠b) (hl:xs.length≠ys.length):PEq K H (n+1) (.ref a) (.ref b) false
 |ts {n:Nat} {a b:Addr} {xs ys:List V} {e:Nat->Bool} (ha:SqT K H a xs) (hb:SqT K H b ys) (ne:a≠b)
   (he:∀j (h1:j < xs.length) (h2:j < ys.length),PEq K H n xs[j] ys[j] (e j)):PEq K H (n+1) (.ref a) (.ref b) ((List.range (min xs.length ys.length)).all e && xs.length==ys.length)
end My
namespace My
open PySem PySem.Spec PyProof.Rows L2
section
variable {X: Cx} {E: XK} {k: Nat} {f C: Addr} {fd: FuncData} {ps: List Str} {ds: List Value} {dvs: List V} {sp: Sp} {m: Str} {apos pos: Pos} {o e: Expr} {es: List Expr} {ta: TE} {t: TA}
theorem pe_methB2 {pl:Sem Bool} (he:PE (xb X E) o ta) (c:Cls X.K C) (hm:Meth X.K C m f) (F:FnOk X.prog X.w X.K X.mg X.base (CX1 X.prog X.w) k f fd ps sp) (hr:Room k X.A) (hb:qao X.K fd ps ds) (hd:qb5 dvs ds) (ha:PA (xb X E) (e :: es) t)
  (hst:starEach (e :: es) X.env=(false,eval e X.env) :: starEach es X.env:=by rfl) (hpl:(backTo pos (starEach es X.env)).any (·.1)=false:=by rfl)
  (ht:eval (.Call (.Attribute o m apos) (e :: es) [] pos) X.env=(do
   let ov<-eval o X.env
   standAt apos.atName
   let (f,first)<-holding [ov] (getMethod ov m pl)
   callWith pos f first (backTo pos (starEach (e :: es) X.env)) (backToKw pos (keywordEach [] X.env))):=by rfl):
  PE (xb X E) (.Call (.Attribute o m apos) (e :: es) [] pos) (tMethX C m sp dvs (fun _=>E) ta t):=by
 intro pins s σ H Q I h
 refine PySem.W.methodCall_KW (pl:=pl) (thn (he pins s σ H _ I h) fun u s1 ⟨x,H1,I1,rx,a,dx,fs,ex,ea,l,q⟩=>?_) ht
 subst ex
 obtain rfl:u=Value.ref a:=rx
 refine qco I1 ea c hm l (PySem.W.callWith_K (first:=[.ref a]) (h₀:=X.base) I.ok.mod.kin hm.kp (thn (ha pos pins s1 σ H1 _ I1 q) fun us s2 ⟨vs,H2,I2,r,q2⟩=>⟨I2.kIn,?_⟩) hst hpl)
 exact run_fnB (us:=.ref a :: us) (vs:=.ref a :: vs) F hr hb hd I2 (.cons rfl r) q2
end
end My
namespace My
open PySem PySem.Spec PyProof.Rows L2 PyProof PySem.SeqAt
end My
namespace My
open PySem PySem.Spec PyProof.Rows L2 PySem.W
structure SO (n:Nat) (lt:Nat->Nat->Bool):Prop where
 tr:∀i j k,i < n->j < n->k < n->lt i j=true->lt j k=true->lt i k=true
 to:∀i j,i < n->j < n->i≠j->lt i j=false->lt j i=true
abbrev gt0 (p:Array Nat) (i:Nat):Nat:=p.getD i 0
structure Pm (n:Nat) (p:Array Nat):Prop where
 pm:p.Perm (List.toArray (List.range n))
theorem Pm.sz {n:Nat} {p:Array Nat} (h:Pm n p):p.size=n:=by
 have:=h.pm.size_eq
 simpa using this
theorem Pm.at {n:Nat} {p:Array Nat} (h:Pm n p) {i:Nat} (hi:i < n):p[i]?=some (gt0 p i):=by
 have:=h.sz
 have hi':i < p.size:=by omega
 show p[i]?=some (p.getD i 0)
 simp [Array.getD,hi']
theorem Pm.lt {n:Nat} {p:Array Nat} (h:Pm n p) {i:Nat} (hi:i < n):gt0 p i < n:=by
 have e:=h.at hi
 have m:gt0 p i∈p:=Array.mem_of_getElem? e
 have:=h.pm.mem_iff.mp m
 simpa using this
theorem Pm.inj {n:Nat} {p:Array Nat} (h:Pm n p) {i j:Nat} (hi:i < n) (hj:j < n) (e:gt0 p i=gt0 p j):i=j:=by
 have nd:p.toList.Nodup:=by
  have h1:=Array.perm_iff_toList_perm.mp h.pm
  exact h1.nodup_iff.mpr (by simpa using List.nodup_range)
 have hs:=h.sz
 have h1:=h.at hi
 have h2:=h.at hj
 rw [e,<-h2] at h1
 have hi':i < p.toList.length:=by simp;omega
 have hj':j < p.toList.length:=by simp;omega
 refine(List.getElem_inj (h₀:=hi') (h₁:=hj') nd).mp ?_
 have h3:p.toList[i]?=p.toList[j]?:=by simpa using h1
 rw [getElem?_eq_getElem hi',getElem?_eq_getElem hj'] at h3
 exact Option.some.inj h3
def Up (lt:Nat->Nat->Bool) (p:Array Nat) (m:Nat):Prop:=∀i j,i < j->j < m->lt (gt0 p i) (gt0 p j)=true
def Dn (lt:Nat->Nat->Bool) (p:Array Nat) (m:Nat):Prop:=∀i j,i < j->j < m->lt (gt0 p j) (gt0 p i)=true
section
variable {n: Nat} {lt: Nat -> Nat -> Bool} {cmp: Nat -> Nat -> (Bool -> Shared -> Prop) -> Shared -> Prop} {s: Shared} {p: Array Nat}
theorem Up.more {m:Nat} (o:SO n lt) (hp:Pm n p) (u:Up lt p m) (h1:1<=m) (hm:m < n) (h:lt (gt0 p (m - 1)) (gt0 p m)=true):Up lt p (m+1):=fun i j hij hj=>by
 by_cases e:j=m
 .subst e
  by_cases e2:i=j - 1
  .rw [e2];exact h
  .exact o.tr _ _ _ (hp.lt (by omega)) (hp.lt (by omega)) (hp.lt hm) (u i (j - 1) (by omega) (by omega)) h
 .exact u i j hij (by omega)
theorem Dn.more {m:Nat} (o:SO n lt) (hp:Pm n p) (u:Dn lt p m) (h1:1<=m) (hm:m < n) (h:lt (gt0 p m) (gt0 p (m - 1))=true):Dn lt p (m+1):=fun i j hij hj=>by
 by_cases e:j=m
 .subst e
  by_cases e2:i=j - 1
  .rw [e2];exact h
  .exact o.tr _ _ _ (hp.lt hm) (hp.lt (by omega)) (hp.lt (by omega)) h (u i (j - 1) (by omega) (by omega))
 .exact u i j hij (by omega)
theorem so_asc (o:SO n lt) (hc:∀i j (C:Bool->Shared->Prop),i < n->j < n->C (lt i j) s->cmp i j C s) {G:Nat->Shared->Prop} (hp:Pm n p):
  ∀(f m:Nat),1<=m->m+f=n->Up lt p m->(∀m',m<=m'->m'<=n->Up lt p m'->(m'=n\/lt (gt0 p m') (gt0 p (m' - 1))=true)->G m' s)->(kas_asc p f m).kasWp cmp G s
 |0,m,h1,hf,u,g=>g m (Nat.le_refl _) (by omega) u (.inl (by omega))
 |f+1,m,h1,hf,u,g=>by
  refine hc _ _ _ (hp.lt (by omega)) (hp.lt (by omega)) ?_
  cases c:lt (p.getD m 0) (p.getD (m - 1) 0) with
  |true=>
   show KasT.kasWp cmp (if true=true then KasT.ret m else kas_asc p f (m+1)) G s
   rw [if_pos rfl]
   exact g m (Nat.le_refl _) (by omega) u (.inr c)
  |false=>
   show KasT.kasWp cmp (if false=true then KasT.ret m else kas_asc p f (m+1)) G s
   rw [if_neg (by decide)]
   refine so_asc o hc hp f (m+1) (by omega) (by omega) (u.more o hp h1 (by omega) (o.to _ _ (hp.lt (by omega)) (hp.lt (by omega)) (fun e=>?_) c)) fun m' a b=>g m' (by omega) b
   have:=hp.inj (by omega) (by omega) e
   omega
theorem so_desc (o:SO n lt) (hc:∀i j (C:Bool->Shared->Prop),i < n->j < n->C (lt i j) s->cmp i j C s) {G:Array Nat × Nat × Nat->Shared->Prop} (hp:Pm n p):
  ∀(f m:Nat),1<=m->m+f=n->Dn lt p m->(∀m',m<=m'->m'<=n->Dn lt p m'->G (p,m',0) s)->(kas_desc f p m 0).kasWp cmp G s
 |0,m,h1,hf,u,g=>g m (Nat.le_refl _) (by omega) u
 |f+1,m,h1,hf,u,g=>by
  refine hc _ _ _ (hp.lt (by omega)) (hp.lt (by omega)) ?_
  cases c:lt (p.getD m 0) (p.getD (m - 1) 0) with
  |true=>
   show KasT.kasWp cmp (if true=true then (if 0 > 0 then _ else kas_desc f p (m+1) 0) else _) G s
   rw [if_pos rfl,if_neg (by decide)]
   exact so_desc o hc hp f (m+1) (by omega) (by omega) (u.more o hp h1 (by omega) c) fun m' a b=>g m' (by omega) b
  |false=>
   show KasT.kasWp cmp (if false=true then _ else KasT.ask (p.getD (m - 1) 0) (p.getD m 0) fun d=>if d=true then KasT.ret (p,m,0) else kas_desc f p (m+1) (0+1)) G s
   rw [if_neg (by decide)]
   refine hc _ _ _ (hp.lt (by omega)) (hp.lt (by omega)) ?_
   have c2:lt (p.getD (m - 1) 0) (p.getD m 0)=true:=o.to _ _ (hp.lt (by omega)) (hp.lt (by omega)) (fun e=>by
    have:=hp.inj (by omega) (by omega) e
    omega) c
   rw [c2]
   show KasT.kasWp cmp (if true=true then KasT.ret (p,m,0) else _) G s
   rw [if_pos rfl]
   exact g m (Nat.le_refl _) (by omega) u
theorem Pm.of {q:Array Nat} (hp:Pm n p) (h:q.Perm p):Pm n q:=⟨h.trans hp.pm⟩
theorem rev_at (hp:Pm n p) {m k:Nat} (hm:m<=n) (hk:k < m):gt0 (kas_rev p 0 m) k=gt0 p (m - 1 - k):=by
 have hr:Pm n (kas_rev p 0 m):=hp.of (mirror_perm _ _ _ _)
 have e:=getElem?_mirror_all (xs:=p) (i:=0) (j:=m) (by rw [hp.sz];exact hm) k
 rw [if_pos ⟨Nat.zero_le _,hk⟩,Nat.zero_add] at e
 have e1:=hr.at (i:=k) (by omega)
 have e2:=hp.at (i:=m - 1 - k) (by omega)
 have e3:(kas_rev p 0 m)[k]?=p[m - 1 - k]?:=e
 rw [e1,e2] at e3
 exact Option.some.inj e3
theorem so_tail (o:SO n lt) (hc:∀i j (C:Bool->Shared->Prop),i < n->j < n->C (lt i j) s->cmp i j C s) {G:Nat × Array Nat->Shared->Prop} (hp:Pm n p) {m:Nat} (h1:1<=m) (hm:m<=n) (u:Dn lt p m)
  (g:∀m' q,m<=m'->m'<=n->Pm n q->Up lt q m'->G (m',q) s):(kas_tail3 m n p).kasWp cmp G s:=by
 unfold kas_tail3
 rw [KasT.kasWp_bind]
 have hr:Pm n (kas_rev p 0 m):=hp.of (mirror_perm _ _ _ _)
 refine so_asc o hc hr (n - m) m h1 (by omega) (fun i j hij hj=>?_) fun m' a b u' _=>g m' _ a b hr u'
 rw [rev_at hp hm (by omega),rev_at hp hm (by omega)]
 exact u _ _ (by omega) (by omega)
theorem so_count (o:SO n lt) (hc:∀i j (C:Bool->Shared->Prop),i < n->j < n->C (lt i j) s->cmp i j C s) {G:Nat × Array Nat->Shared->Prop} (hp:Pm n p) (hn:1<=n)
  (g:∀m' q,1<=m'->m'<=n->Pm n q->Up lt q m'->G (m',q) s):(kas_count n p).kasWp cmp G s:=by
 unfold kas_count
 rw [KasT.kasWp_bind]
 refine so_asc o hc hp (n - 1) 1 (Nat.le_refl _) (by omega) (fun i j hij hj=>by omega) fun m a b u h=>?_
 show KasT.kasWp cmp (if (m==n)=true then _ else _) G s
 by_cases e:m=n
 .rw [if_pos (by rw [e];exact beq_self_eq_true _)]
  exact g m p a b hp u
 rw [if_neg (by simpa using e)]
 have hd:lt (gt0 p m) (gt0 p (m - 1))=true:=h.resolve_left e
 by_cases e1:m > 1
 .rw [if_pos e1]
  refine hc _ _ _ (hp.lt (by omega)) (hp.lt (by omega)) ?_
  have:lt (p.getD 0 0) (p.getD (m - 1) 0)=true:=u 0 (m - 1) (by omega) (by omega)
  rw [this]
  show KasT.kasWp cmp (if true=true then KasT.ret (m,p) else _) G s
  rw [if_pos rfl]
  exact g m p a b hp u
 .rw [if_neg e1]
  obtain rfl:m=1:=by omega
  unfold kas_descPart
  rw [KasT.kasWp_bind]
  refine so_desc o hc hp (n - (1+1)) (1+1) (by omega) (by omega) (fun i j hij hj=>?_) fun m' a' b' u'=>?_
  .obtain rfl:j=1:=by omega
   obtain rfl:i=0:=by omega
   exact hd
  .show KasT.kasWp cmp (if 0 > 0 then _ else kas_tail3 m' n p) G s
   rw [if_neg (by decide)]
   exact so_tail o hc hp (by omega) b' u' fun m2 q x1 x2=>g m2 q (by omega) x2
theorem qfu (o:SO n lt) (hc:∀i j (C:Bool->Shared->Prop),i < n->j < n->C (lt i j) s->cmp i j C s) {G:Nat->Shared->Prop} (hp:Pm n p) {k:Nat} (hk:k < n) (u:Up lt p k):
  ∀(f l r:Nat),r<=l+f->l<=r->r<=k->(∀i,i < l->lt (gt0 p i) (gt0 p k)=true)->(∀i,r<=i->i < k->lt (gt0 p k) (gt0 p i)=true)->
   (∀l',l'<=k->(∀i,i < l'->lt (gt0 p i) (gt0 p k)=true)->(∀i,l'<=i->i < k->lt (gt0 p k) (gt0 p i)=true)->G l' s)->(kas_place p k f l r).kasWp cmp G s
 |0,l,r,hf,h1,h2,a,b,g=>g l (by omega) a fun i hi=>b i (by omega)
 |f+1,l,r,hf,h1,h2,a,b,g=>by
  show KasT.kasWp cmp (if l≥r then KasT.ret l else _) G s
  by_cases e:l≥r
  .rw [if_pos e]
   exact g l (by omega) a fun i hi=>b i (by omega)
  rw [if_neg e]
  have hm:(l+r) / 2 < k:=by omega
  refine hc _ _ _ (hp.lt hk) (hp.lt (by omega)) ?_
  cases c:lt (p.getD k 0) (p.getD ((l+r) / 2) 0) with
  |true=>
   show KasT.kasWp cmp (if true=true then kas_place p k f l ((l+r) / 2) else _) G s
   rw [if_pos rfl]
   refine qfu o hc hp hk u f _ _ (by omega) (by omega) (by omega) a (fun i hi hik=>?_) g
   by_cases e2:i=(l+r) / 2
   .rw [e2];exact c
   .exact o.tr _ _ _ (hp.lt hk) (hp.lt (by omega)) (hp.lt (by omega)) c (u _ _ (by omega) hik)
  |false=>
   show KasT.kasWp cmp (if false=true then _ else kas_place p k f ((l+r) / 2+1) r) G s
   rw [if_neg (by decide)]
   have c2:lt (gt0 p ((l+r) / 2)) (gt0 p k)=true:=o.to _ _ (hp.lt hk) (hp.lt (by omega)) (fun e=>by
    have:=hp.inj (by omega) (by omega) e
    omega) c
   refine qfu o hc hp hk u f _ _ (by omega) (by omega) (by omega) (fun i hi=>?_) b g
   by_cases e2:i=(l+r) / 2
   .rw [e2];exact c2
   .exact o.tr _ _ _ (hp.lt (by omega)) (hp.lt (by omega)) (hp.lt hk) (u _ _ (by omega) (by omega)) c2
theorem so_bin (o:SO n lt) (hc:∀i j (C:Bool->Shared->Prop),i < n->j < n->C (lt i j) s->cmp i j C s) {G:Array Nat->Shared->Prop}:
  ∀(f:Nat) (p:Array Nat) (k:Nat),k+f=n->Pm n p->Up lt p k->(∀q,Pm n q->Up lt q n->G q s)->(kas_bin f p k).kasWp cmp G s
 |0,p,k,hf,hp,u,g=>g p hp (by rw [Nat.add_zero] at hf;rw [<-hf];exact u)
 |f+1,p,k,hf,hp,u,g=>by
  have hk:k < n:=by omega
  show KasT.kasWp cmp ((kas_place p k k 0 k).bind _) G s
  rw [KasT.kasWp_bind]
  refine qfu o hc hp hk u k 0 k (by omega) (Nat.zero_le _) (Nat.le_refl _) (fun i hi=>by omega) (fun i h1 h2=>by omega) fun l hl a b=>?_
  have hq:Pm n (bubble p k (k - l)):=hp.of (bubble_perm _ _ _)
  refine so_bin o hc f _ (k+1) (by omega) hq (fun i j hij hj=>?_) g
  have ev:∀i,i<=k->gt0 (bubble p k (k - l)) i=if i=l then gt0 p k else if l < i then gt0 p (i - 1) else gt0 p i:=fun i hi=>by
   have e:=getElem?_bubble (xs:=p) (src:=k) (by rw [hp.sz];exact hk) (k - l) (by omega) i
   rw [show k - (k - l)=l by omega] at e
   have e1:=hq.at (i:=i) (by omega)
   rw [e1] at e
   by_cases c1:i=l
   .rw [if_pos c1,hp.at hk] at e
    rw [if_pos c1]
    exact Option.some.inj e
   .rw [if_neg c1] at e ⊢
    by_cases c2:l < i
    .rw [if_pos ⟨c2,hi⟩,hp.at (by omega)] at e
     rw [if_pos c2]
     exact Option.some.inj e
    .rw [if_neg (by omega),hp.at (by omega)] at e
     rw [if_neg c2]
     exact Option.some.inj e
  rw [ev i (by omega),ev j (by omega)]
  by_cases c1:i=l
  .rw [if_pos c1,if_neg (by omega),if_pos (by omega)]
   exact b _ (by omega) (by omega)
  .rw [if_neg c1]
   by_cases c2:l < i
   .rw [if_pos c2,if_neg (by omega),if_pos (by omega)]
    exact u _ _ (by omega) (by omega)
   .rw [if_neg c2]
    by_cases c3:j=l
    .rw [if_pos c3];exact a _ (by omega)
    .rw [if_neg c3]
     by_cases c4:l < j
     .rw [if_pos c4]
      by_cases c5:j - 1=l/\i=l
      .omega
      .exact u _ _ (by omega) (by omega)
     .rw [if_neg c4]
      exact u _ _ hij (by omega)
theorem so_sort (o:SO n lt) (hc:∀i j (C:Bool->Shared->Prop),i < n->j < n->C (lt i j) s->cmp i j C s) {G:Array Nat->Shared->Prop} (hn:1<=n) (g:∀q,Pm n q->Up lt q n->G q s):(kas_sort n).kasWp cmp G s:=by
 unfold kas_sort
 rw [KasT.kasWp_bind]
 refine so_count o hc ⟨Array.Perm.refl _⟩ hn fun m q h1 h2 hq u=>?_
 show KasT.kasWp cmp (if m < n then _ else _) G s
 by_cases e:m < n
 .rw [if_pos e,show max m 1=m by omega]
  exact so_bin o hc _ _ _ (by omega) hq u g
 .rw [if_neg e]
  obtain rfl:m=n:=by omega
  exact g q hq u
end
def ltP:List Str->List Str->Bool
 | [], []=>false
 | [],_ :: _=>true
 |_ :: _, []=>false
 |a :: x,b :: y=>if a=b then ltP x y else decide (a.cps.toList < b.cps.toList)
theorem lts_tr {a b c:Str} (h:a.cps.toList < b.cps.toList) (h':b.cps.toList < c.cps.toList):a.cps.toList < c.cps.toList:=List.lt_trans h h'
theorem lts_ne {a b:Str} (h:a.cps.toList < b.cps.toList):a≠b:=fun e=>by subst e;exact List.lt_irrefl _ h
theorem lts_to {a b:Str} (h:a≠b) (h':¬a.cps.toList < b.cps.toList):b.cps.toList < a.cps.toList:=by
 refine Decidable.byContradiction fun c=>h (qg2 ?_ ?_)
 .exact qcz.mpr (List.not_lt.mp c)
 .exact qcz.mpr (List.not_lt.mp h')
theorem ltP_tr:∀{x y z:List Str},ltP x y=true->ltP y z=true->ltP x z=true
 | [], [],_,h,_=>by cases h
 | [],_ :: _, [],_,h=>by cases h
 | [],_ :: _,_ :: _,_,_=>rfl
 |_ :: _, [],_,h,_=>by cases h
 |_ :: _,_ :: _, [],_,h=>by cases h
 |a :: x,b :: y,c :: z,h,h'=>by
  unfold ltP at h h' ⊢
  by_cases e1:a=b
  .subst e1
   rw [if_pos rfl] at h
   by_cases e2:a=c
   .rw [if_pos e2] at h' ⊢;exact ltP_tr h h'
   .rw [if_neg e2] at h' ⊢;exact h'
  .rw [if_neg e1] at h
   by_cases e2:b=c
   .subst e2;rw [if_neg e1];exact h
   .rw [if_neg e2] at h'
    have l:=lts_tr (of_decide_eq_true h) (of_decide_eq_true h')
    rw [if_neg (lts_ne l)]
    exact decide_eq_true l
theorem ltP_to:∀{x y:List Str},x≠y->ltP x y=false->ltP y x=true
 | [], [],h,_=>absurd rfl h
 | [],_ :: _,_,h=>by cases h
 |_ :: _, [],_,_=>rfl
 |a :: x,b :: y,h,h'=>by
  unfold ltP at h' ⊢
  by_cases e:a=b
  .subst e
   rw [if_pos rfl] at h' ⊢
   exact ltP_to (fun q=>h (by rw [q])) h'
  .rw [if_neg e] at h'
   rw [if_neg (fun q=>e q.symm)]
   exact decide_eq_true (lts_to e (of_decide_eq_false h'))
section
variable {prog: Program} {w: World} {A: Around} {E: Value -> Shared -> Prop} {s: Shared}
theorem kat_strs {Q:Bool->Shared->Prop}:∀{us vs:List Value} {x y:List Str} {fin:Bool} (i:Nat),StrsAre us x->StrsAre vs y->fin=decide (us.length < vs.length)->Q (ltP x y) s->KatLex prog w A true fin Q (us.zip vs) i s
 |_,_,_,_,fin,i,.nil,.nil,e,h=>by
  rw [e];exact kat_nil h
 |_,_,_,_,fin,i,.nil,.cons b u r,e,h=>by
  have:fin=true:=by rw [e];exact decide_eq_true (Nat.zero_lt_succ _)
  rw [this];exact kat_nil h
 |_,_,_,_,fin,i,.cons a t r,.nil,e,h=>by
  have:fin=false:=by rw [e];exact decide_eq_false (Nat.not_lt_zero _)
  rw [this];exact kat_nil h
 |_,_,_,_,fin,i,.cons a t r,.cons b u r',e,h=>by
  rw [List.zip_cons_cons]
  refine kat_cons (wpAny_eqBool_str ?_)
  unfold ltP at h
  by_cases c:a=b
  .rw [if_pos c] at h
   rw [decide_eq_true c]
   refine kat_yes (kat_strs (i+1) r r' ?_ h)
   rw [e,length_cons,length_cons]
   exact decide_eq_decide.mpr (by omega)
  .rw [if_neg c] at h
   rw [decide_eq_false c]
   refine kat_no ?_
   cases (true && i==0) with
   |true=>exact oneLt_str h
   |false=>exact kat_one _ _ (lt_str (show W.BoolBack Q (.bool _) s from h))
abbrev Rw1:=Addr × List Str
def TupOk (h:Heap) (r:Rw1):Prop:=∃its:List Value,IsTup h r.1 its.toArray/\StrsAre its r.2/\r.2≠ []
abbrev rfs (rows:List Rw1):List Value:=rows.map fun r=>Value.ref r.1
theorem qff {h:Heap}:∀{rows:List Rw1},(∀r∈rows,TupOk h r)->∃fs:List Value,KatTups h (rfs rows) fs/\fs.length=rows.length/\∀v∈fs,∃x t,v=Value.str x t
 | [],_=>⟨[],KatTups.nil,rfl,fun v hv=>by cases hv⟩
 |r :: rows,hr=>by
  obtain⟨fs,h1,h2,h3⟩:=qff fun r' m=>hr r' (mem_cons_of_mem _ m)
  obtain⟨its,⟨o,e1,e2,n,e3⟩,h5,h6⟩:=hr r (mem_cons_self ..)
  obtain⟨ra,rs⟩:=r
  cases h5 with
  |nil=>exact absurd rfl h6
  | @cons x t us xs r5=>
   refine⟨.str x t :: fs,KatTups.cons e1 e2 e3 (by simp) h1,by rw [length_cons,length_cons,h2],fun v hv=>?_⟩
   rcases mem_cons.mp hv with rfl|hv
   .exact⟨x,t,rfl⟩
   .exact h3 v hv
theorem qee {α β:Type} (f:α->β) (l:List α) (i:Nat) (hi:i < l.length) (d:β):(l.map f).getD i d=f l[i]:=by
 rw [getD_eq_getElem?_getD,getElem?_map,getElem?_eq_getElem hi];rfl
def qcp (rows rows':List Rw1):Prop:=rows'.Perm rows/\rows'.Pairwise fun a b=>ltP a.2 b.2=true
theorem tups_ask {rows:List Rw1} {R:Array Nat->Shared->Prop} (hr:∀r∈rows,TupOk s.heap r) (nd:(rows.map (·.2)).Nodup) (h2:2<=rows.length)
  (g:∀(q:Array Nat) (rows':List Rw1),qcp rows rows'->(q.toList.map fun i=>(rfs rows).getD i Value.none)=rfs rows'->R q s):
  wpAny (model prog w) A (keyKind' (rfs rows).toArray) (fun κ s'=>(kas_sort (rfs rows).length).kasWp (kas_ask prog w A κ (rfs rows)) R s') (fun _ _=>False) s:=by
 obtain⟨fs,t1,t2,t3⟩:=qff hr
 refine kat_kind (T:=Value.type "str") t1 (by omega) (fun v hv=>?_) rfl ?_
 .obtain⟨x,t,rfl⟩:=t3 v hv
  exact Looks.of_pure rfl
 have hlen:(rfs rows).length=rows.length:=length_map _
 rw [hlen]
 have at2:∀{i:Nat} (hi:i < rows.length),(rows.map (·.2)).getD i []=rows[i].2:=fun hi=>qee _ _ _ hi _
 have so:SO rows.length fun i j=>ltP ((rows.map (·.2)).getD i []) ((rows.map (·.2)).getD j []):=by
  refine⟨fun i j k _ _ _ h h'=>ltP_tr h h',fun i j hi hj ne h=>ltP_to (fun e=>ne ?_) h⟩
  rw [at2 hi,at2 hj] at e
  have hi':i <(rows.map (·.2)).length:=by rw [length_map];exact hi
  have hj':j <(rows.map (·.2)).length:=by rw [length_map];exact hj
  refine(List.getElem_inj (h₀:=hi') (h₁:=hj') nd).mp ?_
  rw [getElem_map,getElem_map];exact e
 refine so_sort so (fun i j C hi hj hC=>?_) (by omega) fun q hq u=>?_
 .rw [at2 hi,at2 hj] at hC
  show wpAny (model prog w) A (keyLt' (tuples' true) ((rfs rows).getD i Value.none) ((rfs rows).getD j Value.none)) C (fun _ _=>False) s
  rw [qee _ _ _ hi,qee _ _ _ hj]
  obtain⟨its,⟨o,e1,e2,n,e3⟩,e4,_⟩:=hr _ (getElem_mem hi)
  obtain⟨its',⟨o',e1',e2',n',e3'⟩,e4',_⟩:=hr _ (getElem_mem hj)
  refine kat_lt e1 e3 e1' e3' ?_
  exact kat_strs 0 e4 e4' (by simp) hC
 .have hd:0 < rows.length:=by omega
  have pm:=Array.perm_iff_toList_perm.mp hq.pm
  have mlt:∀i∈q.toList,i < rows.length:=fun i hi=>by have:=pm.mem_iff.mp hi;simpa using this
  refine g q (q.toList.map fun i=>rows.getD i (0, [])) ⟨?_,?_⟩ ?_
  .have h1:=pm.map fun i=>rows.getD i (0, [])
   have e:((List.toArray (List.range rows.length)).toList.map fun i=>rows.getD i (0, []))=rows:=by
    apply List.ext_getElem?
    intro i
    by_cases hi:i < rows.length
    .simp [hi]
    .simp [hi]
   rw [e] at h1
   exact h1
  .rw [pairwise_map,pairwise_iff_getElem]
   intro i j hi hj hij
   have hs:=hq.sz
   have hi2:i < rows.length:=by simpa [hs] using hi
   have hj2:j < rows.length:=by simpa [hs] using hj
   have ei:gt0 q i=q.toList[i]:=by
    have:=hq.at hi2
    have h':q.toList[i]?=some (gt0 q i):=by simpa using this
    rw [getElem?_eq_getElem hi] at h'
    exact(Option.some.inj h').symm
   have ej:gt0 q j=q.toList[j]:=by
    have:=hq.at hj2
    have h':q.toList[j]?=some (gt0 q j):=by simpa using this
    rw [getElem?_eq_getElem hj] at h'
    exact(Option.some.inj h').symm
   have:=u i j hij hj2
   dsimp only at this
   rw [at2 (hq.lt hi2),at2 (hq.lt hj2)] at this
   have gi:rows.getD q.toList[i] (0, [])=rows[gt0 q i]'(hq.lt hi2):=by simp only [<-ei];rw [getD_eq_getElem?_getD,getElem?_eq_getElem (hq.lt hi2)];rfl
   have gj:rows.getD q.toList[j] (0, [])=rows[gt0 q j]'(hq.lt hj2):=by simp only [<-ej];rw [getD_eq_getElem?_getD,getElem?_eq_getElem (hq.lt hj2)];rfl
   rw [gi,gj]
   exact this
  .rw [rfs,rfs,map_map]
   refine List.map_congr_left fun i hi=>?_
   have:=mlt i hi
   rw [qee _ _ _ this]
   show _=Value.ref (rows.getD i (0, [])).1
   rw [getD_eq_getElem?_getD,getElem?_eq_getElem this];rfl
theorem sort_shell {a:Addr} {vs:List Value} {n:Nat} {P:PySem.Fin->Shared->Prop} {R:List Value->Prop} (ho:s.heap.get? a=some (seqObj "list" vs.toArray n)) (h64:vs.length < 64) (h1:vs.length < 2->R vs)
  (ask:2<=vs.length->∀s1:Shared,s1={s with heap:=((s.heap.update a (Obj.mapSeq fun _=>#[])).push (seqObj "tuple" vs.toArray 0)).push (seqObj "list" #[] 0)}->
   wpAny (model prog w) A (keyKind' vs.toArray) (fun κ s'=>(kas_sort vs.length).kasWp (kas_ask prog w A κ vs) (fun q s2=>s2=s1/\R (q.toList.map fun i=>vs.getD i Value.none)) s') (fun _ _=>False) s1)
  (h:∀out:List Value,out.length=vs.length->R out->P (.done (.ret .none)) {s with heap:=sortedHeap s.heap a vs out.toArray}):
  wpAny (model prog w) A (Builtin.«list.sort» ⟨[.ref a], []⟩) P E s:=by
 have ha:a < s.heap.objs.size:=Heap.lt_size ho
 have zs:vs.length<=sizeLine:=by rw [sizeLine_eq];omega
 obtain⟨e1,ho1⟩:∃e1,(s.heap.update a (Obj.mapSeq fun _=>#[])).get? a=some (seqObj "list" #[] e1):=
  ⟨_,get?_update_seq ho (fun _=>#[])⟩
 rw [list_sort_plain]
 refine wpAny_bind (listItems_at ho rfl (wpAny_bind (listUpdate_at ho rfl (wpAny_bind (seqEpoch_at ho1 rfl (wpAny_bind (wpAny_newTuple (wpAny_bind (wpAny_newList (wpAny_holding ?_) (Nat.zero_le _))) (by show vs.length<=_;exact zs))))) (by rw [size_toArray];exact zs) (Nat.zero_le _))))
 have ho6:(((s.heap.update a (Obj.mapSeq fun _=>#[])).push (seqObj "tuple" vs.toArray 0)).push (seqObj "list" #[] 0)).get? a=some (seqObj "list" #[] e1):=
  Heap.get?_push_of_some _ (Heap.get?_push_of_some _ ho1)
 have fin:∀out:List Value,out.length=vs.length->R out->wpAny (model prog w) A (do
   let touched:=(<-seqEpoch a) !=e1
   Builtin.List.listUpdate (.ref a) fun _=>out.toArray
   if touched then rule "list.sort.modified";raiseError "ValueError" "list modified during sort"
   ret .none) P E {s with heap:=((s.heap.update a (Obj.mapSeq fun _=>#[])).push (seqObj "tuple" vs.toArray 0)).push (seqObj "list" #[] 0)}:=fun out hl hR=>by
  refine wpAny_bind (seqEpoch_at ho6 rfl (wpAny_bind (listUpdate_at ho6 rfl ?_ (Nat.zero_le _) (by rw [size_toArray,hl];exact Nat.le_succ_of_le zs))))
  simp only [bne_self_eq_false,Bool.false_eq_true,if_false]
  exact wpAny_pure (h out hl hR)
 have hsz:vs.toArray.size=vs.length:=by simp
 dsimp only
 by_cases c:vs.length < 2
 .rw [if_pos (by rw [hsz];exact c),if_pos (by rw [hsz];exact c)]
  refine wpAny_bind (wpAny_pure ?_)
  rw [StateT.run_pure]
  refine wpAny_bind (wpAny_pure ?_)
  have e:(arrOf (SortSt.mk' general' (vs.toArray.zip vs.toArray) #[] 7 none)).map (·.2)=vs.toArray:=by
   show (vs.toArray.zip vs.toArray).map (·.2)=vs.toArray
   apply Array.toList_inj.mp
   rw [Array.toList_map,ksk_zip]
   exact List.map_snd_zip (Nat.le_refl _)
  have:=fin vs rfl (h1 c)
  dsimp only
  rw [e]
  exact this
 .rw [if_neg (by rw [hsz];exact c),if_neg (by rw [hsz];exact c)]
  refine wpAny_bind (wpAny_mono (ask (by omega) _ rfl) (fun κ s0 hk=>?_) fun _ _ x=>x.elim)
  refine wpAny_bind (wpAny_mono (kat_run (vs:=vs) (ks:=vs) (Q:=fun st' s'=>s'={s with heap:=((s.heap.update a (Obj.mapSeq fun _=>#[])).push (seqObj "tuple" vs.toArray 0)).push (seqObj "list" #[] 0)}/\∃q:Array Nat,q.size=vs.length/\arrOf st'=q.map (kas_item (vs.toArray.zip vs.toArray))/\failedOf st'=none/\R (q.toList.map fun i=>vs.getD i Value.none))
   rfl (by omega) h64 (fun q st' s' a1 a2 a3 a4=>⟨a4.1,q,a1,a2,a3,a4.2⟩) hk) ?_ fun _ _ x=>x)
  rintro⟨⟨⟩,st'⟩ s' ⟨rfl,q,hq,har,hf,hR⟩
  have:=fin _ (by rw [length_map,Array.length_toList,hq]) hR
  dsimp only
  rw [kat_snds rfl har,hf]
  exact this
theorem sorted_tups {l:Addr} {rows:List Rw1} {Q:Value->Shared->Prop} (hl:s.heap.IsList l (rfs rows).toArray) (hr:∀r∈rows,TupOk s.heap r) (nd:(rows.map (·.2)).Nodup) (h64:rows.length < 64)
  (h:∀rows':List Rw1,qcp rows rows'->Q (.ref (s.heap.objs.size+1)) {s with heap:=sortedAll s.heap (rfs rows) (rfs rows').toArray}):
  wpAny (model prog w) A (call (.builtin "sorted") [.ref l]) Q E s:=by
 have hlen:(rfs rows).length=rows.length:=length_map _
 have zs:(rfs rows).length<=sizeLine:=by rw [sizeLine_eq];omega
 refine Calls.call_function_entry kind_sorted plain_sorted entry_sorted (args_sorted1 _) ?_
 unfold Builtin.«sorted»
 refine wpAny_bind (m:=checkCount "sorted" 1 1 _) (wpAny_pure (wpAny_bind (collect_list hl (wpAny_bind (wpAny_newList ?_ zs)) zs)))
 have sz1:((s.heap.push (seqObj "list" #[] 0)).update s.heap.objs.size (Obj.mapSeq (·++(rfs rows).toArray))).objs.size=s.heap.objs.size+1:=by rw [Heap.size_update,size_push']
 have hoL:(((s.heap.push (seqObj "list" #[] 0)).update s.heap.objs.size (Obj.mapSeq (·++(rfs rows).toArray))).push (seqObj "list" (rfs rows).toArray 0)).get? (s.heap.objs.size+1)=some (seqObj "list" (rfs rows).toArray 0):=by
  rw [<-sz1];exact Heap.get?_push_size _ rfl
 show wpAny _ _ _ _ _ {s with heap:=((s.heap.push (seqObj "list" #[] 0)).update s.heap.objs.size (Obj.mapSeq (·++(rfs rows).toArray))).push (seqObj "list" (rfs rows).toArray 0)}
 rw [sz1]
 refine wpAny_bind (wpAny_holding (wpAny_call_entry slot_list_sort ⟨_,hoL,rfl⟩ entry_list_sort (sort_shell (R:=fun out=>∃rows',qcp rows rows'/\out=rfs rows') hoL (by omega) (fun c=>⟨rows,⟨List.Perm.refl _,?_⟩,rfl⟩) (fun c s1 e=>?_) fun out hl' ⟨rows',h1,h2⟩=>⟨_,rfl,?_⟩) (args_list_sort _)))
 .match rows,c with
  | [],_=>exact List.Pairwise.nil
  | [r],_=>exact List.pairwise_singleton _ _
  |_ :: _ :: _,c=>simp at c;omega
 .refine tups_ask (fun r m=>?_) nd (by omega) fun q rows' h1 h2=>⟨rfl,rows',h1,h2⟩
  obtain⟨its,⟨o,e1,e2⟩,e3⟩:=hr r m
  refine⟨its,⟨o,?_,e2⟩,e3⟩
  have hb:=Heap.lt_size e1
  subst e
  refine Heap.get?_push_of_some _ (Heap.get?_push_of_some _ ?_)
  rw [Heap.get?_update_ne _ _ _ _ (Nat.ne_of_lt (Nat.lt_succ_of_lt hb)),Heap.get?_push_ne _ _ _ (by rw [sz1];exact Nat.ne_of_lt (Nat.lt_succ_of_lt hb)),Heap.get?_update_ne _ _ _ _ (Nat.ne_of_lt hb)]
  exact Heap.get?_push_of_some _ e1
 .subst h2
  exact wpAny_pure ⟨_,rfl,h rows' h1⟩
end
section
variable {X: Cx}
def rSortT (K:Frag):List V->Hp->VK->Prop:=fun xs H Q=>∃(p:Addr) (rows:List Rw1),xs=[.ref p]/\SqL K H p (rows.map fun r=>V.ref r.1)/\(∀r∈rows,H r.1=some (.tup (r.2.map V.str))/\r.2≠ [])/\(rows.map (·.2)).Nodup/\rows.length < 64/\
 ∀(l:Addr) (rows':List Rw1),H l=none->qcp rows rows'->Q (.ref l) (upd H l (.lst (rows'.map fun r=>V.ref r.1)))
theorem vals_rfs:∀(rows:List Rw1),qb5 (rows.map fun r=>V.ref r.1) (rfs rows)
 | []=> .nil
 |r :: rows=> .cons rfl (vals_rfs rows)
theorem rfs_vals:∀{rows:List Rw1} {its:List Value},qb5 (rows.map fun r=>V.ref r.1) its->its=rfs rows
 | [],_,h=>by cases h;rfl
 |r :: rows,_,h=>by
  cases h with
  |cons h t=>
   have:=rfs_vals t
   cases h
   rw [this];rfl
theorem call_sortT:qc3 X (.builtin "sorted") (rSortT X.K):=by
 intro pins s σ H xs us Q I hv h
 obtain⟨p,rows,rfl,hS,hr,nd,hz,q⟩:=h
 obtain⟨u,rfl,ru⟩:=hv.one
 cases ru
 obtain⟨its,rv,pl,hz'⟩:=I.list hS
 have ei:=rfs_vals rv
 subst ei
 refine sorted_tups (PlainL.isList pl) (fun r m=>?_) nd hz fun rows' h1=>?_
 .obtain⟨e,ne⟩:=hr r m
  obtain⟨_,its,v,t⟩:=I.hok _ _ e
  exact⟨its,t,qfr v,ne⟩
 .obtain⟨e,he⟩:=sortedAll_at s.heap (rfs rows) (rfs rows').toArray
  have hl2:=h1.1.length_eq
  have I2:=I.laid (a:=s.heap.objs.size+1) (o:=.lst (rows'.map fun r=>V.ref r.1)) (t':=s.toks) (fun b ob hb=>sortedAll_old hb) (Nat.le_succ _) ⟨by rw [length_map,sizeLine_eq];omega,rfs rows',e,vals_rfs rows',he⟩
  exact⟨.ref _,_,I2,rfl,q _ rows' (I.hok.fresh (Nat.le_succ _)) h1⟩
end
theorem r_sortT {K:Frag} {H:Hp} {Q:VK} {p:Addr} {rows:List Rw1} (e:SqL K H p (rows.map fun r=>V.ref r.1)) (hr:∀r∈rows,H r.1=some (.tup (r.2.map V.str))/\r.2≠ []) (nd:(rows.map (·.2)).Nodup) (hz:rows.length < 64)
  (h:∀(l:Addr) (rows':List Rw1),H l=none->qcp rows rows'->Q (.ref l) (upd H l (.lst (rows'.map fun r=>V.ref r.1)))):rSortT K [.ref p] H Q:=⟨p,rows,rfl,e,hr,nd,hz,h⟩
end My
namespace My
open PySem PySem.Spec PyProof.Rows L2
def ItlR (K:Frag) (a:Addr) (n:Nat):It:=
 ⟨fun i H=>i < n/\∃xs,SqL K H a xs/\xs.length=n,fun i H x H'=>H'=H/\∀xs,SqL K H a xs->xs.reverse[i]?=some x,fun i _=>n<=i⟩
theorem turn_lrev {P:Program} {w:World} {K:Frag} {tg:Expr} (a it:Addr) (n:Nat):Turn P w K tg (ItlR K a n) [it] it (fun i h=>i<=n/\h.IsRevIter it a ((n:Int) - 1 - (i:Int))) where
 mem:=by simp
 obj:=fun i h st b hb=>by
  have e:b=it:=by simpa using hb
  subst e
  obtain⟨_,o,e,c,d⟩:=st
  exact⟨o,e,fun v z=>by rw [d] at z;cases z⟩
 keep:=fun i h h' st k=>⟨st.1,st.2.at fun o e=>k it (by simp) o e⟩
 item:=by
  intro X hP hw hK hc i pins s σ H E I hf st hg
  subst hP hw hK
  obtain⟨hi,xs,hq,hn⟩:=hg
  obtain⟨its,rv,p,hz⟩:=I.list hq
  have hl:=rv.length
  obtain⟨f0,f1,f2,f3,f4,f5⟩:=hf it (by simp)
  obtain⟨_,st⟩:=st
  obtain⟨y,hx⟩:∃y,xs[n - 1 - i]?=some y:=⟨_,getElem?_eq_getElem (by omega)⟩
  obtain⟨u,hu,ru⟩:=rv.get hx
  have e1:(n:Int) - 1 - (i:Int)=((n - 1 - i:Nat):Int):=by omega
  rw [e1] at st
  refine PySem.wpAny_pyNext_rev_item st p.isList (x:=u) (by simpa using hu) fun h' st' sb=>?_
  have e2:((n - 1 - i:Nat):Int) - 1=(n:Int) - 1 - ((i+1:Nat):Int):=by omega
  rw [e2] at st'
  have I1:Inv X pins σ H {s with heap:=h'}:=I.turned (t':=s.toks) (fun b o hb e=>(sb.2 b hb).trans e) f0 f1 f3 f4 f5
  obtain⟨o,e,c,d⟩:=id st'
  refine⟨u,rfl,go_of (s:={s with heap:=h'}) e c d (by decide) ⟨y,H,I1,ru,⟨rfl,fun ys hy=>?_⟩,⟨hi,st'⟩,fun b hb=>(hf b hb).1⟩⟩
  rw [I.list_inj hy hq,List.getElem?_reverse (by omega),hn]
  exact hx
 done:=by
  intro X hP hw hK hc i pins s σ H E I hf st hg
  subst hP hw hK
  obtain⟨f0,f1,f2,f3,f4,f5⟩:=hf it (by simp)
  obtain⟨h1,st⟩:=st
  have h2:n<=i:=hg
  rw [show (n:Int) - 1 - (i:Int)= -1 by omega] at st
  exact PySem.wpAny_pyNext_rev_end (I.ok.hd hc) st fun h' eb=>⟨rfl,I.turned (t':=s.toks) (fun b o hb e=>eb b o hb e) f0 f1 f3 f4 f5⟩
 self:=fun _ _ _ _ _ st h=>PySem.wpAny_pyIter_revIter st.2 h
section
variable {X: Cx}
def rItLR (K:Frag) (vs:List V) (H:Hp) (R:It->Hp->Prop):Prop:=∃p ys,vs=[.ref p]/\SqL K H p ys/\R (ItlR K p ys.length) H
def iRevL (K:Frag) (ta:TA):TI:=fun σ H R=>ta σ H fun vs H1=>rItLR K vs H1 R
theorem pi_revL {tg a:Expr} {ta:TA} {p pos:Pos} (hg:Gl X "reversed") (hm:X.mg "reversed" =none) (ha:PA X [a] ta) (hs:starEach [a] X.env=[(false,eval a X.env)]:=by rfl):PI X tg (.Call (.Name "reversed" p) [a] [] pos) (iRevL X.K ta):=by
 intro pins s σ H R I h
 refine Call_ (qfd I hg hm qga (PyProof.Rows.callWith_type1 (thn (ha pos pins s σ H _ I h) fun us s1 ⟨vs,H1,I1,r1,q1⟩=>?_) hs rfl))
 obtain⟨b,ys,rfl,hb,q⟩:=q1
 obtain⟨x,rfl,rx⟩:=r1.one
 cases rx
 obtain⟨ws,r2,p2,hz⟩:=I1.list hb
 have hL:s1.heap.IsList b ws.toArray:=PlainL.isList p2
 refine call_reversed_list hL ?_
 have en:(ws.toArray.size:Int) - 1=(ys.length:Int) - 1:=by rw [size_toArray,r2.length]
 have I2:Inv X pins σ H1 {s1 with heap:=s1.heap.push (revObj b ((ws.toArray.size:Int) - 1))}:=I1.kept (t':=s1.toks) fun b o e=>Heap.get?_push_of_some _ e
 have st:(s1.heap.push (revObj b ((ws.toArray.size:Int) - 1))).IsRevIter s1.heap.objs.size b ((ys.length:Int) - 1 - ((0:Nat):Int)):=⟨_,Heap.get?_push_size _ rfl,rfl,by rw [en];simp [revObj]⟩
 refine PySem.wpAny_pyIter_revIter st ?_
 refine⟨s1.heap.objs.size, [s1.heap.objs.size],_,_,H1,rfl,I2,turn_lrev b _ ys.length,⟨Nat.zero_le _,st⟩,fun c hc=>?_,q⟩
 have e:c=s1.heap.objs.size:=by simpa using hc
 subst e
 exact I1.fpOk (Nat.le_refl _) (I1.hok.fresh (Nat.le_refl _))
end
section
variable {K: Frag} {σ: L2.St} {H: Hp} {ta: TA} {l: Addr} {xs: List V}
theorem r_iRL {R:It->Hp->Prop} (h:ta σ H fun vs H1=>rItLR K vs H1 R):iRevL K ta σ H R:=h
theorem r_itRL {R:It->Hp->Prop} (e1:SqL K H l xs) (h:R (ItlR K l xs.length) H):rItLR K [.ref l] H R:=⟨l,xs,rfl,e1,h⟩
end
end My
set_option exponentiation.threshold 1000
namespace Our
open PySem L2 My
def top (i:Nat):PySem.Stmt:=PySem.Challenge.pw_quotatree_k16_moves_done.main.body.getD i (.Pass ⟨0,0,0,0⟩)
def qcm:PySem.Stmt->Nat->PySem.Stmt
 | .ClassDef _ _ _ body _ _ _ _ _ _ _,j=>body.getD j (.Pass ⟨0,0,0,0⟩)
 |s,_=>s
abbrev s_is_whole:PySem.Stmt:=top 15
abbrev s_is_name:PySem.Stmt:=top 16
abbrev s_is_whole_from:PySem.Stmt:=top 17
abbrev s_is_amount:PySem.Stmt:=top 19
abbrev s_amounts_of:PySem.Stmt:=top 20
abbrev s_above_nought:PySem.Stmt:=top 21
abbrev s_amount_of:PySem.Stmt:=top 22
abbrev s_added:PySem.Stmt:=top 23
abbrev s_beyond:PySem.Stmt:=top 24
abbrev s_total_of:PySem.Stmt:=top 25
abbrev s_are_wares:PySem.Stmt:=top 32
abbrev s_check_name:PySem.Stmt:=top 33
abbrev s_read_house:PySem.Stmt:=top 34
abbrev s_check_promises:PySem.Stmt:=top 35
abbrev s_cell_at:PySem.Stmt:=top 38
abbrev s_mixed:PySem.Stmt:=top 39
abbrev s_name:PySem.Stmt:=top 40
abbrev s_whole:PySem.Stmt:=top 41
abbrev s_alike:PySem.Stmt:=top 42
abbrev s_some:PySem.Stmt:=top 43
abbrev s_elders:PySem.Stmt:=top 44
abbrev s_promises:PySem.Stmt:=top 45
abbrev s_sums:PySem.Stmt:=top 46
abbrev s_caps:PySem.Stmt:=top 47
abbrev s_plan:PySem.Stmt:=top 48
abbrev s_line:PySem.Stmt:=top 49
abbrev s_wide:PySem.Stmt:=top 50
abbrev s_beneath:PySem.Stmt:=top 51
abbrev s_kids:PySem.Stmt:=top 52
abbrev s_weighted:PySem.Stmt:=top 53
abbrev s_stands:PySem.Stmt:=top 54
abbrev s_moved:PySem.Stmt:=top 55
abbrev s_house:PySem.Stmt:=top 56
abbrev s_law:PySem.Stmt:=top 57
abbrev s_House_init:PySem.Stmt:=qcm (top 31) 0
abbrev s_Tree_init:PySem.Stmt:=qcm (top 36) 0
abbrev s_Tree_found:PySem.Stmt:=qcm (top 36) 1
abbrev s_Tree_wares:PySem.Stmt:=qcm (top 36) 2
abbrev s_Tree_names:PySem.Stmt:=qcm (top 36) 3
abbrev s_Tree_has:PySem.Stmt:=qcm (top 36) 4
abbrev s_Tree_check_house:PySem.Stmt:=qcm (top 36) 5
abbrev s_Tree_house_of:PySem.Stmt:=qcm (top 36) 6
abbrev s_Tree_elder_of:PySem.Stmt:=qcm (top 36) 7
abbrev s_Tree_promise_of:PySem.Stmt:=qcm (top 36) 8
abbrev s_Tree_cap_of:PySem.Stmt:=qcm (top 36) 9
abbrev s_Tree_weight_of:PySem.Stmt:=qcm (top 36) 10
abbrev s_Tree_kids:PySem.Stmt:=qcm (top 36) 11
abbrev s_Tree_line:PySem.Stmt:=qcm (top 36) 12
abbrev s_Tree_beneath:PySem.Stmt:=qcm (top 36) 13
abbrev s_Tree_promised_beneath:PySem.Stmt:=qcm (top 36) 14
abbrev s_Tree_floors:PySem.Stmt:=qcm (top 36) 15
abbrev s_Tree_check_more:PySem.Stmt:=qcm (top 36) 16
abbrev s_Tree_check_move:PySem.Stmt:=qcm (top 36) 17
abbrev s_Tree_move:PySem.Stmt:=qcm (top 36) 18
abbrev s_i_NoPromise:PySem.Stmt:=qcm (top 11) 0
set_option genSizeOf false in
set_option genInjectivity false in
structure Ad where
 w5s:Addr
 w4y:FuncData
 w74:Addr
 w5p:FuncData
 w2j:Addr
 w2a:FuncData
 w52:Addr
 w48:FuncData
 w42:Addr
 w39:FuncData
 w2y:Addr
 w2m:FuncData
 w4t:Addr
 w3w:FuncData
 wax:Addr
 w7z:FuncData
 w8l:Addr
 w6s:FuncData
 w5n:Addr
 w4z:FuncData
 w4u:Addr
 w40:FuncData
 w4e:Addr
 w3c:FuncData
 w3y:Addr
 w3g:FuncData
 w2b:Addr
 w1x:FuncData
 w6v:Addr
 w5q:FuncData
 waa:Addr
 w7t:FuncData
 wby:Addr
 wan:FuncData
 wa2:Addr
 w85:FuncData
 wa6:Addr
 w8f:FuncData
 wcf:Addr
 wak:FuncData
 w7y:Addr
 w73:FuncData
 w5y:Addr
 w4v:FuncData
 wc2:Addr
 wad:FuncData
 wch:Addr
 w9x:FuncData
 wc6:Addr
 wa1:FuncData
 wcc:Addr
 was:FuncData
 wc3:Addr
 w9t:FuncData
 w6y:Addr
 w5o:FuncData
 wbt:Addr
 w9v:FuncData
 w5j:Addr
 w51:FuncData
 w8d:Addr
 w6x:FuncData
 wam:Addr
 w8g:FuncData
 war:Addr
 w8m:FuncData
 wag:Addr
 w96:FuncData
 w3v:Addr
 w3b:FuncData
 w4x:Addr
 w2t:FuncData
 wa5:Addr
 w0w:Value
 w3x:Addr
 w2e:FuncData
 w98:Addr
 w0o:Value
 w66:Addr
 w59:FuncData
 w45:Addr
 w3q:FuncData
 w5r:Addr
 w4q:FuncData
 w1o:Addr
 w1i:FuncData
 w2i:Addr
 w27:FuncData
 w2n:Addr
 w2c:FuncData
 w1y:Addr
 w1s:FuncData
 w3l:Addr
 w2v:FuncData
 w29:Addr
 w1w:FuncData
 w4r:Addr
 w3z:FuncData
 w4s:Addr
 w4d:FuncData
 w13:Addr
 w0t:FuncData
 w0y:Addr
 w0v:FuncData
 w3n:Addr
 w2w:FuncData
 w23:Addr
 w1r:FuncData
 w1z:Addr
 w1l:FuncData
 w4n:Addr
 w4c:FuncData
 w3i:Addr
 w2x:FuncData
 w04:Addr
 w01:Addr
 w22:Addr
 w4i:Addr
 w5l:Addr
 w0i:Addr
 w24:Addr
 w06:Addr
 w4h:Addr
 w2h:Addr
 w2g:Addr
 w37:Addr
 w33:Addr
 w2z:Value
 w11:Value
 w1j:Value
 w1a:Value
 w15:Value
 w0l:Value
structure Tx (K:Frag) (mg:Str->Option Value) (d:Ad):Prop where
 w7k:Fun K "is_whole" "is_whole" s_is_whole d.w5s d.w4y
 wbb:mg "is_whole" =some (.ref d.w5s)
 wbf:qao K d.w4y ["thing"] []
 w72:Fun K "is_name" "is_name" s_is_name d.w74 d.w5p
 w9b:mg "is_name" =some (.ref d.w74)
 w99:qao K d.w5p ["thing"] []
 w2o:Fun K "is_whole_from" "is_whole_from" s_is_whole_from d.w2j d.w2a
 w41:mg "is_whole_from" =some (.ref d.w2j)
 w3t:qao K d.w2a ["thing","least","most"] []
 w6p:Fun K "is_amount" "is_amount" s_is_amount d.w52 d.w48
 wah:mg "is_amount" =some (.ref d.w52)
 w9y:qao K d.w48 ["thing"] []
 w3u:Fun K "amounts_of" "amounts_of" s_amounts_of d.w42 d.w39
 w67:mg "amounts_of" =some (.ref d.w42)
 w64:qao K d.w39 ["handed","wares"] []
 w4j:Fun K "above_nought" "above_nought" s_above_nought d.w2y d.w2m
 w7f:mg "above_nought" =some (.ref d.w2y)
 w7e:qao K d.w2m ["amounts"] []
 w4o:Fun K "amount_of" "amount_of" s_amount_of d.w4t d.w3w
 w6m:mg "amount_of" =some (.ref d.w4t)
 w6w:qao K d.w3w ["amounts","ware"] []
 wa7:Fun K "added" "added" s_added d.wax d.w7z
 wc5:mg "added" =some (.ref d.wax)
 wbz:qao K d.w7z ["one","other"] []
 way:Fun K "beyond" "beyond" s_beyond d.w8l d.w6s
 wd7:mg "beyond" =some (.ref d.w8l)
 wcx:qao K d.w6s ["one","other"] []
 w7r:Fun K "total_of" "total_of" s_total_of d.w5n d.w4z
 wbh:mg "total_of" =some (.ref d.w5n)
 wbo:qao K d.w4z ["many"] []
 w6r:Fun K "are_wares" "are_wares" s_are_wares d.w4u d.w40
 wao:mg "are_wares" =some (.ref d.w4u)
 wa0:qao K d.w40 ["thing"] []
 w4b:Fun K "check_name" "check_name" s_check_name d.w4e d.w3c
 w68:mg "check_name" =some (.ref d.w4e)
 w61:qao K d.w3c ["thing"] []
 w43:Fun K "read_house" "read_house" s_read_house d.w3y d.w3g
 w6a:mg "read_house" =some (.ref d.w3y)
 w60:qao K d.w3g ["wares","elder","promise","cap","weight"] []
 w1e:Fun K "check_promises" "check_promises" s_check_promises d.w2b d.w1x
 w2d:mg "check_promises" =some (.ref d.w2b)
 w28:qao K d.w1x ["name","promises","cap"] []
 w49:Fun K "_law_cell_at" "_law_cell_at" s_cell_at d.w6v d.w5q
 w5f:mg "_law_cell_at" =some (.ref d.w6v)
 w58:qao K d.w5q ["_law_script","_law_k"] []
 w8c:Fun K "_law_mixed" "_law_mixed" s_mixed d.waa d.w7t
 wa9:mg "_law_mixed" =some (.ref d.waa)
 wa4:qao K d.w7t ["_law_cell","_law_k"] []
 wca:Fun K "_law_name" "_law_name" s_name d.wby d.wan
 wdd:mg "_law_name" =some (.ref d.wby)
 wdk:qao K d.wan ["_law_cell","_law_k"] []
 wc7:Fun K "_law_whole" "_law_whole" s_whole d.wa2 d.w85
 we9:mg "_law_whole" =some (.ref d.wa2)
 we4:qao K d.w85 ["_law_found"] []
 w6o:Fun K "_law_alike" "_law_alike" s_alike d.wa6 d.w8f
 w82:mg "_law_alike" =some (.ref d.wa6)
 w8b:qao K d.w8f ["_law_found","_law_due"] []
 wb9:Fun K "_law_some" "_law_some" s_some d.wcf d.wak
 wc1:mg "_law_some" =some (.ref d.wcf)
 wc4:qao K d.wak ["_law_handed"] []
 wb7:Fun K "_law_elders" "_law_elders" s_elders d.w7y d.w73
 wcz:mg "_law_elders" =some (.ref d.w7y)
 wd4:qao K d.w73 ["_law_cells","_law_shape"] []
 w7n:Fun K "_law_promises" "_law_promises" s_promises d.w5y d.w4v
 wbq:mg "_law_promises" =some (.ref d.w5y)
 wbn:qao K d.w4v ["_law_cells","_law_wares","_law_scale"] []
 wb2:Fun K "_law_sums" "_law_sums" s_sums d.wc2 d.wad
 wcj:mg "_law_sums" =some (.ref d.wc2)
 wbv:qao K d.wad ["_law_elders_here","_law_promises_here"] []
 wdg:Fun K "_law_caps" "_law_caps" s_caps d.wch d.w9x
 weh:mg "_law_caps" =some (.ref d.wch)
 wec:qao K d.w9x ["_law_cells","_law_sums_here","_law_wares","_law_scale"] []
 wdi:Fun K "_law_plan" "_law_plan" s_plan d.wc6 d.wa1
 wej:mg "_law_plan" =some (.ref d.wc6)
 wef:qao K d.wa1 ["_law_script","_law_start","_law_count"] []
 w9n:Fun K "_law_line" "_law_line" s_line d.wcc d.was
 wb8:mg "_law_line" =some (.ref d.wcc)
 wb3:qao K d.was ["_law_elders_here","_law_k"] []
 wda:Fun K "_law_wide" "_law_wide" s_wide d.wc3 d.w9t
 wed:mg "_law_wide" =some (.ref d.wc3)
 wee:qao K d.w9t ["_law_plan_here"] []
 w6l:Fun K "_law_beneath" "_law_beneath" s_beneath d.w6y d.w5o
 w9j:mg "_law_beneath" =some (.ref d.w6y)
 w95:qao K d.w5o ["_law_names","_law_elders_here","_law_k"] []
 wbs:Fun K "_law_kids" "_law_kids" s_kids d.wbt d.w9v
 wdf:mg "_law_kids" =some (.ref d.wbt)
 wdh:qao K d.w9v ["_law_plan_here","_law_k"] []
 w7l:Fun K "_law_weighted" "_law_weighted" s_weighted d.w5j d.w51
 wbk:mg "_law_weighted" =some (.ref d.w5j)
 wbp:qao K d.w51 ["_law_plan_here","_law_weights"] []
 w6j:Fun K "_law_stands" "_law_stands" s_stands d.w8d d.w6x
 w84:mg "_law_stands" =some (.ref d.w8d)
 w8s:qao K d.w6x ["_law_tree","_law_plan_here","_law_k"] []
 wck:Fun K "_law_moved" "_law_moved" s_moved d.wam d.w8g
 we6:mg "_law_moved" =some (.ref d.wam)
 wdo:qao K d.w8g ["_law_tree","_law_plan_here","_law_cell"] []
 wcl:Fun K "_law_house" "_law_house" s_house d.war d.w8m
 wdy:mg "_law_house" =some (.ref d.war)
 we2:qao K d.w8m ["_law_tree","_law_plan_here","_law_k","_law_sums_here"] []
 wen:Fun K "law" "law" s_law d.wag d.w96
 weo:mg "law" =some (.ref d.wag)
 w9e:Fun K "__init__" "House.__init__" s_House_init d.w3v d.w3b
 w97:qao K d.w3b ["self","elder","promise","cap","weight"] []
 wac:My.FunD K "__init__" "Tree.__init__" s_Tree_init d.w4x d.w2t d.wa5 #[d.w0w]
 wat:qao K d.w2t ["self","wares","name","promise","cap","weight"] []
 wde:qao K d.w2t ["self","wares","name","promise","cap","weight"] [d.w0w]
 wdb:qb5 [.int 1] [d.w0w]
 w8v:My.FunD K "found" "Tree.found" s_Tree_found d.w3x d.w2e d.w98 #[d.w0o]
 w9o:qao K d.w2e ["self","name","elder","promise","cap","weight"] []
 wd0:qao K d.w2e ["self","name","elder","promise","cap","weight"] [d.w0o]
 wd2:qb5 [.int 1] [d.w0o]
 wdc:Fun K "wares" "Tree.wares" s_Tree_wares d.w66 d.w59
 wd9:qao K d.w59 ["self"] []
 w9d:Fun K "names" "Tree.names" s_Tree_names d.w45 d.w3q
 w9k:qao K d.w3q ["self"] []
 wbl:Fun K "has" "Tree.has" s_Tree_has d.w5r d.w4q
 w7m:qao K d.w4q ["self","thing"] []
 w5c:Fun K "check_house" "Tree.check_house" s_Tree_check_house d.w1o d.w1i
 w1p:qao K d.w1i ["self","thing"] []
 w6t:Fun K "house_of" "Tree.house_of" s_Tree_house_of d.w2i d.w27
 w1u:qao K d.w27 ["self","name"] []
 w6z:Fun K "elder_of" "Tree.elder_of" s_Tree_elder_of d.w2n d.w2c
 w0m:qao K d.w2c ["self","name"] []
 w5m:Fun K "promise_of" "Tree.promise_of" s_Tree_promise_of d.w1y d.w1s
 w5t:qao K d.w1s ["self","name"] []
 w80:Fun K "cap_of" "Tree.cap_of" s_Tree_cap_of d.w3l d.w2v
 w89:qao K d.w2v ["self","name"] []
 w6g:Fun K "weight_of" "Tree.weight_of" s_Tree_weight_of d.w29 d.w1w
 w6e:qao K d.w1w ["self","name"] []
 wau:Fun K "kids" "Tree.kids" s_Tree_kids d.w4r d.w3z
 w4p:qao K d.w3z ["self","name"] []
 waq:Fun K "line" "Tree.line" s_Tree_line d.w4s d.w4d
 w18:qao K d.w4d ["self","name"] []
 w78:Fun K "beneath" "Tree.beneath" s_Tree_beneath d.w13 d.w0t
 w14:qao K d.w0t ["self","name"] []
 w3d:Fun K "promised_beneath" "Tree.promised_beneath" s_Tree_promised_beneath d.w0y d.w0v
 w0b:qao K d.w0v ["self","name"] []
 w8a:Fun K "floors" "Tree.floors" s_Tree_floors d.w3n d.w2w
 w7x:qao K d.w2w ["self","name"] []
 w5v:Fun K "check_more" "Tree.check_more" s_Tree_check_more d.w23 d.w1r
 w36:qao K d.w1r ["self","names","more"] []
 w5k:Fun K "check_move" "Tree.check_move" s_Tree_check_move d.w1z d.w1l
 w34:qao K d.w1l ["self","name","elder"] []
 waf:Fun K "move" "Tree.move" s_Tree_move d.w4n d.w4c
 wa3:qao K d.w4c ["self","name","elder"] []
 w8h:Fun K "__init__" "NoPromise.__init__" s_i_NoPromise d.w3i d.w2x
 w69:My.XClI K d.w06 d.w3i
 w8n:qao K d.w2x ["self","house","ware"] []
 wdr:mg "House" =some (.ref d.w04)
 weg:mg "Tree" =some (.ref d.w01)
 wap:mg "TreeError" =some (.ref d.w22)
 wd3:mg "NoName" =some (.ref d.w4i)
 wds:mg "Taken" =some (.ref d.w5l)
 wc0:mg "NoHouse" =some (.ref d.w0i)
 wct:mg "NoMove" =some (.ref d.w24)
 wal:mg "NoPromise" =some (.ref d.w06)
 wb1:mg "NoWare" =some (.ref d.w4h)
 w7o:mg "NoAmount" =some (.ref d.w2h)
 wbr:mg "NoNumber" =some (.ref d.w2g)
 wcm:mg "TooMany" =some (.ref d.w37)
 w91:mg "TooDeep" =some (.ref d.w33)
 wbw:mg "LETTERS" =some d.w2z
 w46:qb7 (.str "abcdefghijklmnopqrstuvwxyz") d.w2z
 w7i:mg "LONGEST_NAME" =some d.w11
 w1c:qb7 (.int 8) d.w11
 w9g:mg "MOST_WARES" =some d.w1j
 w26:qb7 (.int 6) d.w1j
 w8e:mg "MOST_HOUSES" =some d.w1a
 w1n:qb7 (.int 40) d.w1a
 w4l:mg "LONGEST_LINE" =some d.w15
 w12:qb7 (.int 12) d.w15
 w5u:mg "GREATEST_WEIGHT" =some d.w0l
 w0r:qb7 (.int 1000) d.w0l
 wei:mg "all" =none
 wdj:mg "bool" =none
 w4m:mg "dict" =none
 wdt:mg "int" =none
 w0j:mg "isinstance" =none
 w1h:mg "len" =none
 wb5:mg "list" =none
 wek:mg "max" =none
 wdq:mg "min" =none
 w0q:mg "range" =none
 wbd:mg "reversed" =none
 wem:mg "set" =none
 w3o:mg "sorted" =none
 we1:mg "str" =none
 we3:mg "tuple" =none
 w0z:Cls K d.w04
 w00:Cls K d.w01
 w5e:Mk K d.w04 d.w3v
 w6n:Mk K d.w01 d.w4x
 w1k:My.XAt K d.w06
 w54:My.XAt K d.w24
 w2k:My.XBase K d.w22
 web:PySem.W.findIn K (.ref d.w06) "house" =some none
 wel:PySem.W.findIn K (.ref d.w06) "ware" =some none
 w1q:Meth K d.w01 "found" d.w3x
 w2f:Meth K d.w01 "wares" d.w66
 w1t:Meth K d.w01 "names" d.w45
 w21:Meth K d.w01 "has" d.w5r
 w09:Meth K d.w01 "check_house" d.w1o
 w0d:Meth K d.w01 "house_of" d.w2i
 w05:Meth K d.w01 "elder_of" d.w2n
 w1b:Meth K d.w01 "cap_of" d.w3l
 w0p:Meth K d.w01 "promise_of" d.w1y
 w0u:Meth K d.w01 "weight_of" d.w29
 w19:Meth K d.w01 "kids" d.w4r
 w0e:Meth K d.w01 "line" d.w4s
 w07:Meth K d.w01 "beneath" d.w13
 w02:Meth K d.w01 "promised_beneath" d.w0y
 w1d:Meth K d.w01 "floors" d.w3n
 w0g:Meth K d.w01 "check_more" d.w23
 w0f:Meth K d.w01 "check_move" d.w1z
 w25:Meth K d.w01 "move" d.w4n
 w0k:PySem.W.findIn K (.ref d.w04) "elder" =some none
 w08:PySem.W.findIn K (.ref d.w04) "promise" =some none
 w0n:PySem.W.findIn K (.ref d.w04) "cap" =some none
 w0s:PySem.W.findIn K (.ref d.w04) "weight" =some none
 w0c:PySem.W.findIn K (.ref d.w01) "sorted_wares" =some none
 w03:PySem.W.findIn K (.ref d.w01) "houses" =some none
 wbu:My.XCls K d.w0i
 w7q:My.XCls K d.w2h
 wb6:My.XCls K d.w4h
 wd6:My.XCls K d.w4i
 wbm:My.XCls K d.w2g
 wdv:My.XCls K d.w5l
 wc8:My.XCls K d.w37
 w9m:My.XCls K d.w33
 wcn:My.XCls K d.w24
def eV:Option Str->V
 |none=> .non
 |some z=> .str z
structure Ho where
 el:Option Str
 pa:Addr
 kp:List (Key × V)
 fp:Str->Option Int
 ca:Addr
 kc:List (Key × V)
 fc:Str->Option Int
 w:Int
structure He where
 n:Str
 a:Addr
 x:Ho
structure Ts where
 sw:Addr
 ws:List Str
 hs:Addr
 hl:List He
def fsH (x:Ho):List (Str × V):=[("elder",eV x.el),("promise",.ref x.pa),("cap",.ref x.ca),("weight",.int x.w)]
def HoAt (d:Ad) (H:Hp) (a:Addr) (x:Ho):Prop:=(∃dx,H a=some (.ins d.w04 dx (fsH x)))/\H x.pa=some (.dK x.kp)/\AD x.kp x.fp/\H x.ca=some (.dK x.kc)/\AD x.kc x.fc
theorem HoAt.same {d:Ad} {H H':Hp} {a:Addr} {x:Ho} (h:HoAt d H a x) (s:qb0 H H'):HoAt d H' a x:=⟨let ⟨dx,e⟩:=h.1;⟨dx,s _ _ e⟩,s _ _ h.2.1,h.2.2.1,s _ _ h.2.2.2.1,h.2.2.2.2⟩
def Ts.keys (S:Ts):List (Str × Addr):=S.hl.map fun e=>(e.n,e.a)
def Ts.at (S:Ts) (z:Str):Option He:=S.hl.find? fun e=>decide (e.n=z)
def fsT (S:Ts):List (Str × V):=[("sorted_wares",.ref S.sw),("houses",.ref S.hs)]
def qcr (d:Ad) (H:Hp) (t:Addr) (S:Ts):Prop:=(∃dx,H t=some (.ins d.w01 dx (fsT S)))/\H S.sw=some (.lst (S.ws.map V.str))/\H S.hs=some (.dK (oK S.keys))/\(S.hl.map (·.n)).Nodup/\S.hl.length<=60/\∀e∈S.hl,HoAt d H e.a e.x
theorem qcr.same {d:Ad} {H H':Hp} {t:Addr} {S:Ts} (h:qcr d H t S) (s:qb0 H H'):qcr d H' t S:=
 ⟨let ⟨dx,e⟩:=h.1;⟨dx,s _ _ e⟩,s _ _ h.2.1,s _ _ h.2.2.1,h.2.2.2.1,h.2.2.2.2.1,fun e he=>(h.2.2.2.2.2 e he).same s⟩
theorem qd6 (S:Ts) (z:Str):qd7 S.keys z=(S.at z).map (·.a):=by
 obtain⟨sw,ws,hs,hl⟩:=S
 unfold Ts.keys Ts.at
 dsimp only
 induction hl with
 |nil=>rfl
 |cons e r ih=>
  rw [map_cons,find?_cons]
  unfold qd7
  by_cases q:e.n=z
  .rw [if_pos q,decide_eq_true q];rfl
  .rw [if_neg q,decide_eq_false q];exact ih
theorem qb9 {S:Ts} {z:Str} {e:He} (h:S.at z=some e):e∈S.hl/\e.n=z:=⟨List.mem_of_find?_eq_some h,by have:=List.find?_some h;simpa using this⟩
def NotS (K:Frag) (H:Hp) (x:V):Prop:=∃t,TyOf K H x t/\kitOne K t (.type "str")=some false
def qdv (K:Frag) (H:Hp) (x:V):Prop:=(∃z,x=.str z)\/(NotS K H x/\∀z,x≠ .str z)
def who (S:Ts):V->Option He
 | .str z=>S.at z
 |_=>none
theorem qct {S:Ts} {x:V} (h:∀z,x≠ .str z):who S x=none:=by
 cases x <;> first|rfl|(rename_i z;exact absurd rfl (h z))
def waw (K:Frag) (d:Ad):Sp:=fun vs H Q _=>∃(t:Addr) (S:Ts) (x:V),vs=[.ref t,x]/\qcr d H t S/\qdv K H x/\Q (.bl (who S x).isSome) H
def w50 (K:Frag) (d:Ad):Sp:=fun vs H Q E=>∃(t:Addr) (S:Ts) (x:V),vs=[.ref t,x]/\qcr d H t S/\qdv K H x/\(∀e,who S x=some e->Q .non H)/\(who S x=none->E (.ref d.w0i) none H)
def w6c (K:Frag) (d:Ad):Sp:=fun vs H Q E=>∃(t:Addr) (S:Ts) (x:V),vs=[.ref t,x]/\qcr d H t S/\qdv K H x/\(∀e,who S x=some e->Q (.ref e.a) H)/\(who S x=none->E (.ref d.w0i) none H)
def w6d (K:Frag) (d:Ad):Sp:=fun vs H Q E=>∃(t:Addr) (S:Ts) (x:V),vs=[.ref t,x]/\qcr d H t S/\qdv K H x/\(∀e,who S x=some e->Q (eV e.x.el) H)/\(who S x=none->E (.ref d.w0i) none H)
def w5i (K:Frag) (d:Ad):Sp:=fun vs H Q E=>∃(t:Addr) (S:Ts) (x:V),vs=[.ref t,x]/\qcr d H t S/\qdv K H x/\(∀e,who S x=some e->Q (.int e.x.w) H)/\(who S x=none->E (.ref d.w0i) none H)
def w57 (K:Frag) (d:Ad):Sp:=fun vs H Q E=>∃(t:Addr) (S:Ts) (x:V),vs=[.ref t,x]/\qcr d H t S/\qdv K H x/\(∀e,who S x=some e->∀p,H p=none->Q (.ref p) (upd H p (.dK e.x.kp)))/\(who S x=none->E (.ref d.w0i) none H)
def w79 (K:Frag) (d:Ad):Sp:=fun vs H Q E=>∃(t:Addr) (S:Ts) (x:V),vs=[.ref t,x]/\qcr d H t S/\qdv K H x/\(∀e,who S x=some e->∀p,H p=none->Q (.ref p) (upd H p (.dK e.x.kc)))/\(who S x=none->E (.ref d.w0i) none H)
def w7v (K:Frag) (d:Ad):Sp:=fun vs H Q _=>∃(t:Addr) (S:Ts),vs=[.ref t]/\qcr d H t S/\∀l ss,H l=none->ss.Perm (S.hl.map (·.n))->PyProof.Rows.sortedS ss=true->Q (.ref l) (upd H l (.lst (ss.map V.str)))
theorem r_notNs {H:Hp} {Q:VK} {a:Str} (h:Q (.bl true) H):rNotN (.str a) .non H Q:=⟨rfl,h⟩
theorem TyOf.same {K:Frag} {H H':Hp} {x:V} {t:Value} (h:TyOf K H x t) (s:qb0 H H'):TyOf K H' x t:=by
 cases h with
 |non=>exact .non
 |bl b=>exact .bl b
 |int i=>exact .int i
 |str z=>exact .str z
 |flt z=>exact .flt z
 |lst e=>exact .lst (s _ _ e)
 |frz e=>exact .frz (s _ _ e)
 |tup e=>exact .tup (s _ _ e)
 |dK e=>exact .dK (s _ _ e)
 |dT e=>exact .dT (s _ _ e)
 |ins e c a n k m=>exact .ins (s _ _ e) c a n k m
theorem qdv.same {K:Frag} {H H':Hp} {x:V} (h:qdv K H x) (s:qb0 H H'):qdv K H' x:=by
 rcases h with h|⟨⟨t,a,b⟩,n⟩
 .exact .inl h
 .exact .inr ⟨⟨t,TyOf.same a s,b⟩,n⟩
inductive LineOf (S:Ts):Str->List Str->Prop
 |top {z:Str} {e:He} (h:S.at z=some e) (n:e.x.el=none):LineOf S z [z]
 |up {z y:Str} {e:He} {zs:List Str} (h:S.at z=some e) (n:e.x.el=some y) (r:LineOf S y zs):LineOf S z (z :: zs)
def RestOf (S:Ts):Option Str->List Str->Prop
 |none,zs=>zs=[]
 |some y,zs=>LineOf S y zs
theorem LineOf.open {S:Ts} {z:Str} {zs:List Str} (h:LineOf S z zs):∃e r,S.at z=some e/\zs=z :: r/\RestOf S e.x.el r:=by
 cases h with
 |top h n=>exact⟨_, [],h,rfl,by rw [n];rfl⟩
 |up h n r=>exact⟨_,_,h,rfl,by rw [n];exact r⟩
def lenAt (l:Addr) (H:Hp):Nat:=match H l with
 |some (.lst xs)=>xs.length
 |_=>0
theorem lenAt_eq {l:Addr} {H:Hp} {xs:List V} (e:H l=some (.lst xs)):lenAt l H=xs.length:=by unfold lenAt;rw [e]
def w9l (K:Frag) (d:Ad):Sp:=fun vs H Q E=>∃(t:Addr) (S:Ts) (x:V),vs=[.ref t,x]/\qcr d H t S/\
 ((∃z zs,x=.str z/\LineOf S z zs/\zs.length<=1000/\∀l,H l=none->Q (.ref l) (upd H l (.lst (zs.map V.str))))\/(qdv K H x/\who S x=none/\∀l,H l=none->E (.ref d.w0i) none (upd H l (.lst [x]))))
def qb1 (S:Ts) (z:Str):List Str:=(S.hl.filter fun e=>decide (e.x.el=some z)).map (·.n)
def w9h (K:Frag) (d:Ad):Sp:=fun vs H Q E=>∃(t:Addr) (S:Ts) (x:V),vs=[.ref t,x]/\qcr d H t S/\qdv K H x/\(∀e,who S x=some e->∀l ss H',qb0 H H'->H l=none->H' l=some (.lst (ss.map V.str))->ss.Perm (qb1 S e.n)->PyProof.Rows.sortedS ss=true->Q (.ref l) H')/\(who S x=none->E (.ref d.w0i) none H)
def w62 (K:Frag) (d:Ad):Sp:=fun vs H Q _=>∃(a:Addr) (kvs:List (Key × V)) (f:Str->Option Int) (z:Str),vs=[.ref a,.str z]/\Rd H a (.dK kvs)/\AD kvs f/\Q (.int (gN f z)) H
def w70 (K:Frag) (d:Ad):Sp:=fun vs H Q _=>∃(a:Addr) (kvs:List (Key × V)) (f:Str->Option Int),vs=[.ref a]/\H a=some (.dK kvs)/\AD kvs f/\kvs.length<=1000/\
 ∀l k' H',qb0 H H'->H l=none->H' l=some (.dK k')->AD k' (qbb f)->Q (.ref l) H'
def wd1 (K:Frag) (d:Ad):Sp:=fun vs H Q _=>∃(a b:Addr) (ka kb:List (Key × V)) (f g:Str->Option Int),vs=[.ref a,.ref b]/\Rd H a (.dK ka)/\H b=some (.dK kb)/\AD ka f/\AD kb g/\ka.length<=1000/\kb.length<=1000/\
 ∀l k' H',qb0 H H'->H l=none->H' l=some (.dK k')->AD k' (qdh f g)->Q (.ref l) H'
def wc9 (K:Frag) (d:Ad):Sp:=fun vs H Q _=>∃(a b:Addr) (ka kb:List (Key × V)) (f g:Str->Option Int),vs=[.ref a,.ref b]/\Rd H a (.dK ka)/\Rd H b (.dK kb)/\AD ka f/\AD kb g/\ka.length < 64/\
 (∀H',qb0 H H'->(∀y,¬qew f g y)->Q .non H')/\∀z H',qb0 H H'->qew f g z->(∀y,qew f g y->leS z y)->Q (.str z) H'
structure Pt where
 a:Addr
 k:List (Key × V)
 f:Str->Option Int
def qcu (ts:List Pt):Str->Option Int:=ts.foldl (fun f t=>qdh f t.f) noF
def PtOk (H:Hp) (ws:List Str) (t:Pt):Prop:=H t.a=some (.dK t.k)/\AD t.k t.f/\∀z,t.f z≠none->z∈ws
def w9w (K:Frag) (d:Ad):Sp:=fun vs H Q _=>∃(L:Addr) (ts:List Pt) (ws:List Str),vs=[.ref L]/\SqL K H L (ts.map fun t=> .ref t.a)/\ws.length<=100/\(∀t∈ts,PtOk H ws t)/\
 ∀l k' H',qb0 H H'->H l=none->H' l=some (.dK k')->AD k' (qcu ts)->Q (.ref l) H'
section
variable {K: Frag} {d: Ad} {H: Hp} {Q: VK} {E: XK}
theorem u_amount {a:Addr} {kvs:List (Key × V)} {f:Str->Option Int} {z:Str} (hR:Rd H a (.dK kvs)) (hA:AD kvs f) (q:Q (.int (gN f z)) H):w62 K d [.ref a,.str z] H Q E:=⟨a,kvs,f,z,rfl,hR,hA,q⟩
end
local macro_rules | `(tactic| walk_at "kit") => `(tactic| (with_reducible (first
 |assumption|exact kit_int_int|exact kit_int_bool|exact kit_str_str
 |exact kit_lst_lst|exact kit_dct_dct)))
local macro_rules | `(tactic| walk_at "ty") => `(tactic| (first
 |(with_reducible assumption) |(with_reducible exact TyOf.int _) |(with_reducible exact TyOf.bl _) |(with_reducible exact TyOf.str _)
 |(with_reducible exact TyOf.non) |((with_reducible refine' TyOf.tup ?h);(case h=>walk_at "heap")) |((with_reducible refine' TyOf.lst ?h);(case h=>walk_at "heap")) |((with_reducible refine' TyOf.dK ?h);(case h=>walk_at "heap"))))
local macro_rules | `(tactic| walk_at "heap") => `(tactic| first
 |with_reducible assumption|with_reducible exact qa1|((with_reducible refine' qad ?h ?n);(case n=>with_reducible assumption);(case h=>walk_at "heap")))
local macro_rules | `(tactic| walk_at "sqL") => `(tactic| first
 |with_reducible assumption|((with_reducible refine' qdx ?h ?n);(case n=>with_reducible assumption);(case h=>walk_at "sqL")) |((with_reducible refine' SqL.of ?h);(case h=>walk_at "heap")))
local macro_rules | `(tactic| walk_at "sqT") => `(tactic| first
 |with_reducible assumption|((with_reducible refine' SqT.of ?h);(case h=>walk_at "heap")))
local macro_rules | `(tactic| walk_at "side") => `(tactic| first
 |assumption|exact rfl|omega|decide
 |(simp only [length_cons,length_nil,length_map];omega) |exact⟨by omega,by omega⟩ |exact⟨by decide,by decide⟩ |exact⟨by omega,by assumption⟩
 |exact⟨by assumption,by assumption⟩ |exact⟨by decide,by assumption⟩ |exact⟨by decide,by decide,by decide⟩)
local macro_rules | `(tactic| walk_at "size") => `(tactic| (first
 |assumption|(simp only [length_cons,length_nil,length_map,length_take];first|decide|(show _<=16777216;omega) |(show _ < 16777216;omega)) |(show _<=16777216;omega) |(show _ < 16777216;omega)))
local macro_rules | `(tactic| walk_at "sp") => `(tactic| fail)
local macro_rules | `(tactic| walk_at "r1") => `(tactic| first
 |(with_reducible refine r_var (by with_unfolding_all exact rfl) ?_) |(with_reducible first|refine r_c ?_|refine r_op ?_|refine r_un ?_|refine r_I0 ?_|refine r_U ?_) |((with_reducible refine r_I ?hc ?_);(case hc=>walk_at "side")) |(with_reducible first|refine r_eqI ?_|refine r_neI ?_|refine r_eqS ?_|refine r_neS ?_|refine r_exb ?_|refine r_test ?_|refine r_tB ?_|refine r_and ?_|refine r_or ?_|refine r_not ?_|refine r_andV ?_|refine r_notV ?_|refine r_next ?_|refine r_seq ?_|refine r_drop ?_|refine r_ret ?_|refine r_if ?_|refine r_asg ?_)
 |(with_reducible refine r_name (by with_unfolding_all (simp only [List.set];exact rfl)) ?_) |(with_reducible first|refine r_gnil ?_|refine r_gcons ?_) |((with_reducible refine' r_gtup ?s ?n ?_);(case s=>walk_at "sqT");(case n=>exact rfl)) |(with_reducible first|refine r_for ?_|refine r_iL ?_|refine r_iR ?_)
 |((with_reducible refine' r_itL ?s ?_);(case s=>walk_at "sqL")) |((with_reducible refine' r_itR ?s ?t ?_);(case s=>walk_at "side");(case t=>walk_at "side")) |(with_reducible first|refine r_nx ?_|refine r_rt ?_|refine r_nil ?_|refine r_cons ?_|refine r_lst ?_) |((with_reducible refine r_new ?n ?_);(case n=>(simp only [length_cons,length_nil];decide)))
 |((with_reducible refine r_fresh ?_);intro p hp) |(with_reducible first|refine r_call ?_|refine r_callX ?_|refine r_cb ?_|refine r_raise ?_) |((with_reducible refine' r_ixT ?s ?e ?_);(case s=>walk_at "sqT");(case e=>exact rfl)) |(with_reducible first|refine r_comp ?_|refine r_true ?_|refine r_iS ?_|refine r_itS ?_|refine r_inS ?_)
 |((with_reducible refine' r_app ?a ?z ?_);(case a=>walk_at "heap");(case z=>walk_at "size")) |((with_reducible refine' r_catS ?z ?_);(case z=>walk_at "size")) |((with_reducible refine' r_lenS ?z ?_);(case z=>walk_at "size")) |(with_reducible first|refine r_sl ?_|refine r_noPart ?_|refine r_part ?_|refine r_exi ?_|refine r_chain ?_)
 |((with_reducible refine' r_lenL ?s ?_);(case s=>walk_at "sqL")) |(with_reducible first|refine r_notNn ?_|refine r_notNi ?_) |((with_reducible refine' r_isi ?t ?k ?_);(case t=>walk_at "ty");(case k=>walk_at "kit")) |(with_reducible first|refine i_nT ?_|refine i_nF ?_|refine iteT ?_|refine iteF ?_)
 |((with_reducible refine i_t ?c ?_);(case c=>walk_at "side")) |((with_reducible refine i_f ?c ?_);(case c=>walk_at "side")) |((with_reducible refine i_nf ?c ?_);(case c=>walk_at "side")) |walk_at "sp")
local macro_rules | `(tactic| walk_at "g") => `(tactic| repeat walk_at "r1")
local macro_rules | `(tactic| walk_at "d") => `(tactic| try dsimp only [L2.cxOf, L2.Cx.nox, L2.Cx.wish, My.xw, pnd, suite])
local macro_rules | `(tactic| walk_at "rd") => `(tactic| first
 |with_reducible assumption|((with_reducible refine' rd_new ?h ?n);(case n=>with_reducible assumption);(case h=>walk_at "rd")) |((with_reducible refine' Rd.of ?h);(case h=>walk_at "heap")))
local macro_rules | `(tactic| walk_at "same") => `(tactic| first
 |with_reducible assumption|exact qb0.refl _|((with_reducible refine' same_upd ?h ?n);(case n=>with_reducible assumption);(case h=>walk_at "same")))
local macro_rules | `(tactic| walk_at "sp") => `(tactic| first
 |((with_reducible refine r_disp1 ?_);intro p hp) |((with_reducible refine' r_ds ?e ?_);(case e=>walk_at "heap")) |((with_reducible refine' r_glst ?s ?n ?_);(case s=>walk_at "sqL");(case n=>exact rfl)) |((with_reducible refine' u_amount ?r ?a ?_);(case r=>walk_at "rd");(case a=>with_reducible assumption))
 |(with_reducible refine r_intB ?_) |((with_reducible refine' qau ?s ?e ?_);(case s=>walk_at "sqL");(case e=>exact rfl)) |(with_reducible refine r_dg2 ?_) |((with_reducible refine' r_dg2a ?r ?_);(case r=>walk_at "rd"))
 |((with_reducible refine' r_dg2b ?r ?a ?_);(case r=>walk_at "rd");(case a=>with_reducible assumption)) |(with_reducible refine r_dg ?_) |((with_reducible refine' r_dgk ?r ?a ?e ?_);(case r=>walk_at "rd");(case a=>with_reducible assumption);(case e=>with_reducible assumption)) |(with_reducible refine r_dp ?_)
 |((with_reducible refine' r_dpk ?e ?z ?_);(case e=>walk_at "heap");(case z=>walk_at "size")) |((with_reducible refine r_dnew ?_);intro p hp) |(with_reducible first|refine r_thA ?_|refine r_iD ?_) |((with_reducible refine' r_dictCp ?e ?_);(case e=>walk_at "rd");intro p hp)
 |(with_reducible first|refine r_lp ?_|refine r_max ?_|refine r_min ?_|refine r_mtX ?_) |((with_reducible refine' r_mtkX ?e ?l ?_);(case e=>walk_at "heap");(case l=>exact rfl)) |(with_reducible refine r_mkX ?_) |((with_reducible refine' r_mtk ?e ?l ?_);(case e=>walk_at "heap");(case l=>exact rfl))
 |(with_reducible first|refine r_notNs ?_|refine r_di ?_) |((with_reducible refine' r_diO ?r ?_);(case r=>walk_at "rd")) |(with_reducible first|refine r_mk ?_|refine r_mt ?_|refine r_fl ?_|refine r_fs ?_) |((with_reducible refine' r_flk ?e ?c ?n ?l ?_);(case e=>walk_at "heap");(case c=>with_reducible assumption);(case n=>with_reducible assumption);(case l=>exact rfl))
 |((with_reducible refine' r_fsk ?e ?c ?n ?z ?_);(case e=>walk_at "heap");(case c=>with_reducible assumption);(case n=>with_reducible assumption);(case z=>(show _ < 1000;decide))) |(with_reducible first|refine r_bm ?_|refine r_bm0 ?_) |((with_reducible refine' r_tyL ?s ?_);(case s=>walk_at "sqL")) |((with_reducible refine' r_tyD ?s ?_);(case s=>walk_at "heap"))
 |((with_reducible refine' r_append ?h ?z ?_);(case h=>walk_at "heap");(case z=>walk_at "size")) |((with_reducible refine r_szS ?z ?_);(case z=>first|(show _<=16777216;omega) |(simp only [len_app];show _<=16777216;omega))))
theorem w9z:FnScope ["thing"] ["thing"] (qaa s_is_whole):=⟨rfl,rfl,rfl,by decide+kernel,rfl,by decide+kernel,by decide+kernel⟩
theorem wba:FnScope ["thing"] ["thing"] (qaa s_is_name):=⟨rfl,rfl,rfl,by decide+kernel,rfl,by decide+kernel,by decide+kernel⟩
theorem w6h:FnScope ["thing","least","most"] ["thing","least","most"] (qaa s_is_whole_from):=⟨rfl,rfl,rfl,by decide+kernel,rfl,by decide+kernel,by decide+kernel⟩
theorem w9i:FnScope ["thing"] ["thing"] (qaa s_is_amount):=⟨rfl,rfl,rfl,by decide+kernel,rfl,by decide+kernel,by decide+kernel⟩
theorem w3a:FnScope ["handed","wares","key","ware"] ["handed","wares"] (qaa s_amounts_of):=⟨rfl,rfl,rfl,by decide+kernel,rfl,by decide+kernel,by decide+kernel⟩
theorem w2p:FnScope ["amounts","told","ware"] ["amounts"] (qaa s_above_nought):=⟨rfl,rfl,rfl,by decide+kernel,rfl,by decide+kernel,by decide+kernel⟩
theorem w9c:FnScope ["amounts","ware"] ["amounts","ware"] (qaa s_amount_of):=⟨rfl,rfl,rfl,by decide+kernel,rfl,by decide+kernel,by decide+kernel⟩
theorem w8o:FnScope ["one","other","told","ware"] ["one","other"] (qaa s_added):=⟨rfl,rfl,rfl,by decide+kernel,rfl,by decide+kernel,by decide+kernel⟩
theorem w9f:FnScope ["one","other","ware"] ["one","other"] (qaa s_beyond):=⟨rfl,rfl,rfl,by decide+kernel,rfl,by decide+kernel,by decide+kernel⟩
theorem w3m:FnScope ["many","total","amounts"] ["many"] (qaa s_total_of):=⟨rfl,rfl,rfl,by decide+kernel,rfl,by decide+kernel,by decide+kernel⟩
theorem w8w:FnScope ["thing"] ["thing"] (qaa s_are_wares):=⟨rfl,rfl,rfl,by decide+kernel,rfl,by decide+kernel,by decide+kernel⟩
theorem w81:FnScope ["thing"] ["thing"] (qaa s_check_name):=⟨rfl,rfl,rfl,by decide+kernel,rfl,by decide+kernel,by decide+kernel⟩
theorem w3k:FnScope ["wares","elder","promise","cap","weight","own_promise","own_cap"] ["wares","elder","promise","cap","weight"] (qaa s_read_house):=⟨rfl,rfl,rfl,by decide+kernel,rfl,by decide+kernel,by decide+kernel⟩
theorem w35:FnScope ["name","promises","cap","ware"] ["name","promises","cap"] (qaa s_check_promises):=⟨rfl,rfl,rfl,by decide+kernel,rfl,by decide+kernel,by decide+kernel⟩
theorem wbc:FnScope ["_law_script","_law_k"] ["_law_script","_law_k"] (qaa s_cell_at):=⟨rfl,rfl,rfl,by decide+kernel,rfl,by decide+kernel,by decide+kernel⟩
theorem waz:FnScope ["_law_cell","_law_k","_law_number"] ["_law_cell","_law_k"] (qaa s_mixed):=⟨rfl,rfl,rfl,by decide+kernel,rfl,by decide+kernel,by decide+kernel⟩
theorem w3f:FnScope ["_law_cell","_law_k","_law_letters","_law_size","_law_at","_law_name_here","_law_j","_law_step","_law_place"] ["_law_cell","_law_k"] (qaa s_name):=⟨rfl,rfl,rfl,by decide+kernel,rfl,by decide+kernel,by decide+kernel⟩
theorem wcy:FnScope ["_law_found"] ["_law_found"] (qaa s_whole):=⟨rfl,rfl,rfl,by decide+kernel,rfl,by decide+kernel,by decide+kernel⟩
theorem wcp:FnScope ["_law_found","_law_due"] ["_law_found","_law_due"] (qaa s_alike):=⟨rfl,rfl,rfl,by decide+kernel,rfl,by decide+kernel,by decide+kernel⟩
theorem w8k:FnScope ["_law_handed","_law_some_here","_law_ware","_law_many"] ["_law_handed"] (qaa s_some):=⟨rfl,rfl,rfl,by decide+kernel,rfl,by decide+kernel,by decide+kernel⟩
theorem w31:FnScope ["_law_cells","_law_shape","_law_elders_here","_law_k","_law_at"] ["_law_cells","_law_shape"] (qaa s_elders):=⟨rfl,rfl,rfl,by decide+kernel,rfl,by decide+kernel,by decide+kernel⟩
theorem w1v:FnScope ["_law_cells","_law_wares","_law_scale","_law_promises_here","_law_k","_law_one","_law_j","_law_number"] ["_law_cells","_law_wares","_law_scale"] (qaa s_promises):=⟨rfl,rfl,rfl,by decide+kernel,rfl,by decide+kernel,by decide+kernel⟩
theorem w4w:FnScope ["_law_elders_here","_law_promises_here","_law_sums_here","_law_k","_law_at","_law_ware","_law_many"] ["_law_elders_here","_law_promises_here"] (qaa s_sums):=⟨rfl,rfl,rfl,by decide+kernel,rfl,by decide+kernel,by decide+kernel⟩
theorem w47:FnScope ["_law_cells","_law_sums_here","_law_wares","_law_scale","_law_caps_here","_law_k","_law_one","_law_j","_law_number","_law_more","_law_many"] ["_law_cells","_law_sums_here","_law_wares","_law_scale"] (qaa s_caps):=⟨rfl,rfl,rfl,by decide+kernel,rfl,by decide+kernel,by decide+kernel⟩
theorem w3j:FnScope ["_law_script","_law_start","_law_count","_law_head","_law_wares","_law_scale","_law_cells","_law_elders_here","_law_promises_here","_law_caps_here","_law_names"] ["_law_script","_law_start","_law_count"] (qaa s_plan):=⟨rfl,rfl,rfl,by decide+kernel,rfl,by decide+kernel,by decide+kernel⟩
theorem w8j:FnScope ["_law_elders_here","_law_k","_law_some_here","_law_at"] ["_law_elders_here","_law_k"] (qaa s_line):=⟨rfl,rfl,rfl,by decide+kernel,rfl,by decide+kernel,by decide+kernel⟩
theorem w71:FnScope ["_law_plan_here","_law_wide_here","_law_k","_law_one","_law_ware"] ["_law_plan_here"] (qaa s_wide):=⟨rfl,rfl,rfl,by decide+kernel,rfl,by decide+kernel,by decide+kernel⟩
theorem w4g:FnScope ["_law_names","_law_elders_here","_law_k","_law_paths","_law_j","_law_way"] ["_law_names","_law_elders_here","_law_k"] (qaa s_beneath):=⟨rfl,rfl,rfl,by decide+kernel,rfl,by decide+kernel,by decide+kernel⟩
theorem wdu:FnScope ["_law_plan_here","_law_k"] ["_law_plan_here","_law_k"] (qaa s_kids):=⟨rfl,rfl,rfl,by decide+kernel,rfl,by decide+kernel,by decide+kernel⟩
theorem w17:FnScope ["_law_plan_here","_law_weights","_law_wares","_law_names","_law_elders_here","_law_promises_here","_law_caps_here","_law_tree","_law_k"] ["_law_plan_here","_law_weights"] (qaa s_weighted):=⟨rfl,rfl,rfl,by decide+kernel,rfl,by decide+kernel,by decide+kernel⟩
theorem w4a:FnScope ["_law_tree","_law_plan_here","_law_k","_law_due","_law_turn","_law_houses","_law_parts"] ["_law_tree","_law_plan_here","_law_k"] (qaa s_stands):=⟨rfl,rfl,rfl,by decide+kernel,rfl,by decide+kernel,by decide+kernel⟩
theorem w3p:FnScope ["_law_tree","_law_plan_here","_law_cell","_law_names","_law_elders_here","_law_k","_law_some_here","_law_at","_law_old"] ["_law_tree","_law_plan_here","_law_cell"] (qaa s_moved):=⟨rfl,rfl,rfl,by decide+kernel,rfl,by decide+kernel,by decide+kernel⟩
theorem w3h:FnScope ["_law_tree","_law_plan_here","_law_k","_law_sums_here","_law_wares","_law_names","_law_elders_here","_law_promises_here","_law_caps_here","_law_name_here"] ["_law_tree","_law_plan_here","_law_k","_law_sums_here"] (qaa s_house):=⟨rfl,rfl,rfl,by decide+kernel,rfl,by decide+kernel,by decide+kernel⟩
theorem w44:FnScope ["_law_script","_law_plan_here","_law_names","_law_weights","_law_tree","_law_k","_law_told","_law_kept","_law_cell","_law_sums_here"] ["_law_script"] (qaa s_law):=⟨rfl,rfl,rfl,by decide+kernel,rfl,by decide+kernel,by decide+kernel⟩
theorem w8i:FnScope ["self","elder","promise","cap","weight"] ["self","elder","promise","cap","weight"] (qaa s_House_init):=⟨rfl,rfl,rfl,by decide+kernel,rfl,by decide+kernel,by decide+kernel⟩
theorem w63:FnScope ["self","wares","name","promise","cap","weight","house"] ["self","wares","name","promise","cap","weight"] (qaa s_Tree_init):=⟨rfl,rfl,rfl,by decide+kernel,rfl,by decide+kernel,by decide+kernel⟩
theorem w3e:FnScope ["self","name","elder","promise","cap","weight","house","elders"] ["self","name","elder","promise","cap","weight"] (qaa s_Tree_found):=⟨rfl,rfl,rfl,by decide+kernel,rfl,by decide+kernel,by decide+kernel⟩
theorem w83:FnScope ["self"] ["self"] (qaa s_Tree_names):=⟨rfl,rfl,rfl,by decide+kernel,rfl,by decide+kernel,by decide+kernel⟩
theorem wav:FnScope ["self","thing"] ["self","thing"] (qaa s_Tree_has):=⟨rfl,rfl,rfl,by decide+kernel,rfl,by decide+kernel,by decide+kernel⟩
theorem w53:FnScope ["self","thing"] ["self","thing"] (qaa s_Tree_check_house):=⟨rfl,rfl,rfl,by decide+kernel,rfl,by decide+kernel,by decide+kernel⟩
theorem w6i:FnScope ["self","name"] ["self","name"] (qaa s_Tree_house_of):=⟨rfl,rfl,rfl,by decide+kernel,rfl,by decide+kernel,by decide+kernel⟩
theorem w6f:FnScope ["self","name"] ["self","name"] (qaa s_Tree_elder_of):=⟨rfl,rfl,rfl,by decide+kernel,rfl,by decide+kernel,by decide+kernel⟩
theorem w5g:FnScope ["self","name"] ["self","name"] (qaa s_Tree_promise_of):=⟨rfl,rfl,rfl,by decide+kernel,rfl,by decide+kernel,by decide+kernel⟩
theorem w7g:FnScope ["self","name"] ["self","name"] (qaa s_Tree_cap_of):=⟨rfl,rfl,rfl,by decide+kernel,rfl,by decide+kernel,by decide+kernel⟩
theorem w5w:FnScope ["self","name"] ["self","name"] (qaa s_Tree_weight_of):=⟨rfl,rfl,rfl,by decide+kernel,rfl,by decide+kernel,by decide+kernel⟩
theorem w93:FnScope ["self","name"] ["self","name"] (qaa s_Tree_kids):=⟨rfl,rfl,rfl,by decide+kernel,rfl,by decide+kernel,by decide+kernel⟩
theorem w2q:FnScope ["self","name","told","elder"] ["self","name"] (qaa s_Tree_line):=⟨rfl,rfl,rfl,by decide+kernel,rfl,by decide+kernel,by decide+kernel⟩
theorem w2l:FnScope ["self","name","told","kid"] ["self","name"] (qaa s_Tree_beneath):=⟨rfl,rfl,rfl,by decide+kernel,rfl,by decide+kernel,by decide+kernel⟩
theorem w38:FnScope ["self","name"] ["self","name"] (qaa s_Tree_promised_beneath):=⟨rfl,rfl,rfl,by decide+kernel,rfl,by decide+kernel,by decide+kernel⟩
theorem w4k:FnScope ["self","name","deepest"] ["self","name"] (qaa s_Tree_floors):=⟨rfl,rfl,rfl,by decide+kernel,rfl,by decide+kernel,by decide+kernel⟩
theorem w2s:FnScope ["self","names","more","name"] ["self","names","more"] (qaa s_Tree_check_more):=⟨rfl,rfl,rfl,by decide+kernel,rfl,by decide+kernel,by decide+kernel⟩
theorem w1m:FnScope ["self","name","elder","own_line","elders"] ["self","name","elder"] (qaa s_Tree_check_move):=⟨rfl,rfl,rfl,by decide+kernel,rfl,by decide+kernel,by decide+kernel⟩
theorem w94:FnScope ["self","name","elder"] ["self","name","elder"] (qaa s_Tree_move):=⟨rfl,rfl,rfl,by decide+kernel,rfl,by decide+kernel,by decide+kernel⟩
theorem w7h:FnScope ["self","house","ware"] ["self","house","ware"] (qaa s_i_NoPromise):=⟨rfl,rfl,rfl,by decide+kernel,rfl,by decide+kernel,by decide+kernel⟩
variable {P: Program} {w: World} {K: Frag} {mg: Str -> Option Value} {base: Heap} {d: Ad} (T: Tx K mg d)
include T in
theorem w6q:FnOk P w K mg base CX0 1 d.w5r d.w4q ["self","thing"] (waw K d):=by
 refine T.wbl.ok wav (fun vs H Q E h=>?_) (fun cdv A outer s H vs Q E hr h=>?_)
 .obtain⟨t,S,x,rfl,_⟩:=h;rfl
 obtain⟨t,S,x,rfl,hT,hx,q⟩:=h
 refine⟨_,(qa5 (qai (qe5 (qac qbn rfl T.w0j PyProof.Rows.boot_isinstance (qa0 (pv 1) (qa0 (qcl (v:=.ty "str") rfl T.we1 PyProof.Rows.boot_str rfl) qa2))) (qe4 (pe_cmp (pc_din (qcc hr) (pv 1) (qbj (pv 0) rfl))))))),?_⟩
 walk_at "d"
 refine qaf (σ:=[some (.ref t),some (x)]) rfl ?_
 obtain⟨⟨dx,ht⟩,hw,hh,nd,hz,hE⟩:=hT
 have ct:=T.w00
 have nh:qap K d.w01 "houses":=T.w03
 rcases hx with ⟨z,rfl⟩ |⟨⟨ty,ht1,ht2⟩,nz⟩
 .walk_at "g"
  rw [qd6,Option.isSome_map]
  exact q
 .walk_at "g"
  rw [qct nz] at q
  exact q
include T in
theorem w1g:FnOk P w K mg base (My.CX1 P w) 2 d.w1o d.w1i ["self","thing"] (w50 K d):=by
 refine okX T.w5c w53 (fun vs H Q E h=>?_) (fun cdv A outer s H vs Q E hr h=>?_)
 .obtain⟨t,S,x,rfl,_⟩:=h;rfl
 obtain⟨t,S,x,rfl,hT,hx,q1,q2⟩:=h
 refine⟨_,(qa5 (qb8 (qc9 (qbz (pe_meth (pv 0) T.w00 T.w21 ((w6q T).mono (by decide)) hr T.w7m .nil qaw (qa0 (pv 1) qa2)))) (qa5 (qbq rfl T.wbu rfl T.wc0 qas (qa0 qc0 qa2))) qam)),?_⟩
 walk_at "d"
 refine qaf (σ:=[some (.ref t),some (x)]) rfl ?_
 have hT0:=hT
 obtain⟨⟨dx,ht⟩,hw,hh,nd,hz,hE⟩:=hT
 have ct:=T.w00
 have nh:qap K d.w01 "houses":=T.w03
 walk_at "g"
 refine⟨t,S,x,rfl,hT0,hx,?_⟩
 cases hw':who S x with
 |none=>
  walk_at "g"
  show if (!false)=true then _ else _
  walk_at "g"
  exact q2 hw'
 |some e=>
  walk_at "g"
  exact q1 e hw'
include T in
theorem w1f:FnOk P w K mg base (My.CX1 P w) 3 d.w2i d.w27 ["self","name"] (w6c K d):=by
 refine okX T.w6t w6i (fun vs H Q E h=>?_) (fun cdv A outer s H vs Q E hr h=>?_)
 .obtain⟨t,S,x,rfl,_⟩:=h;rfl
 obtain⟨t,S,x,rfl,hT,hx,q1,q2⟩:=h
 refine⟨_,(qa3 (qb3 (qae (pv 0) T.w00 T.w09 ((w1g T).mono (by decide)) hr T.w1p .nil qas (qa0 (pv 1) qa2)))
  (qa5 (qai (qck (qcc hr) (qbj (pv 0) rfl) (pv 1) (fun _ _=>rfl))))),?_⟩
 walk_at "d"
 refine qaf (σ:=[some (.ref t),some (x)]) rfl ?_
 have hT0:=hT
 obtain⟨⟨dx,ht⟩,hw,hh,nd,hz,hE⟩:=hT
 have ct:=T.w00
 have nh:qap K d.w01 "houses":=T.w03
 walk_at "g"
 refine⟨t,S,x,rfl,hT0,hx,fun e he=>?_,q2⟩
 have hz':∃z,x=.str z:=by
  rcases hx with h|⟨_,nz⟩
  .exact h
  .rw [qct nz] at he;cases he
 obtain⟨z,rfl⟩:=hz'
 walk_at "g"
 refine r_dgO (.inl hh) (h:=e.a) (by rw [qd6];show (S.at z).map _=_;rw [show S.at z=some e from he];rfl) ?_
 walk_at "g"
 exact q1 e he
include T in
theorem w0h:FnOk P w K mg base (My.CX1 P w) 4 d.w2n d.w2c ["self","name"] (w6d K d):=by
 refine okX T.w6z w6f (fun vs H Q E h=>?_) (fun cdv A outer s H vs Q E hr h=>?_)
 .obtain⟨t,S,x,rfl,_⟩:=h;rfl
 obtain⟨t,S,x,rfl,hT,hx,q1,q2⟩:=h
 refine⟨_,(qa5 (qai (qbj (qae (pv 0) T.w00 T.w0d ((w1f T).mono (by decide)) hr T.w1u .nil qas (qa0 (pv 1) qa2)) rfl))),?_⟩
 walk_at "d"
 refine qaf (σ:=[some (.ref t),some (x)]) rfl ?_
 have hT0:=hT
 obtain⟨⟨dx,ht⟩,hw,hh,nd,hz,hE⟩:=hT
 have ct:=T.w00
 have nh:qap K d.w01 "houses":=T.w03
 walk_at "g"
 refine⟨t,S,x,rfl,hT0,hx,fun e he=>?_,q2⟩
 obtain⟨z,rfl⟩:∃z,x=.str z:=by
  rcases hx with h|⟨_,nz⟩
  .exact h
  .rw [qct nz] at he;cases he
 obtain⟨⟨dh,ho⟩,hp,hpA,hc,hcA⟩:=hE e (qb9 he).1
 have ch:=T.w0z
 have nf:qap K d.w04 "elder":=T.w0k
 have hRp:Rd H e.x.pa (.dK e.x.kp):=.inl hp
 have hRc:Rd H e.x.ca (.dK e.x.kc):=.inl hc
 walk_at "g"
 exact q1 e he
include T in
theorem w7s:FnOk P w K mg base CX0 1 d.w45 d.w3q ["self"] (w7v K d):=by
 refine T.w9d.ok w83 (fun vs H Q E h=>?_) (fun cdv A outer s H vs Q E hr h=>?_)
 .obtain⟨t,S,rfl,_⟩:=h;rfl
 obtain⟨t,S,rfl,hT,q⟩:=h
 refine⟨_,(qa5 (qai (qac (qfk rfl) rfl T.w3o PyProof.Rows.boot_sorted (qa0 (qbj (pv 0) rfl) qa2)))),?_⟩
 walk_at "d"
 refine qaf (σ:=[some (.ref t)]) rfl ?_
 obtain⟨⟨dx,ht⟩,hw,hh,nd,hz,hE⟩:=hT
 have ct:=T.w00
 have nh:qap K d.w01 "houses":=T.w03
 walk_at "g"
 refine r_sortD (ss:=S.hl.map (·.n)) (.inl hh) (by rw [oK_keys];congr 1;unfold Ts.keys;rw [map_map];rfl) (by rw [length_map];omega) fun l ss hl hp hs=>?_
 walk_at "g"
 exact q l ss hl hp hs
include T in
theorem w65:FnOk P w K mg base CX0 1 d.w4t d.w3w ["amounts","ware"] (w62 K d):=by
 refine T.w4o.ok w9c (fun vs H Q E h=>?_) (fun cdv A outer s H vs Q E hr h=>?_)
 .obtain⟨a,kvs,f,z,rfl,_⟩:=h;rfl
 obtain⟨a,kvs,f,z,rfl,hR,hA,q⟩:=h
 refine⟨_,(qa5 (qai (qg0 (qcc hr) (pv 0) (pv 1) qa8 ⟨rfl,rfl,rfl,rfl⟩))),?_⟩
 walk_at "d"
 refine qaf (σ:=[some (.ref a),some (.str z)]) rfl ?_
 walk_at "g"
 exact q
include T in
theorem w6u:FnOk P w K mg base CX0 1 d.w2y d.w2m ["amounts"] (w70 K d):=by
 refine T.w4j.ok w2p (fun vs H Q E h=>?_) (fun cdv A outer s H vs Q E hr h=>?_)
 .obtain⟨a,kvs,f,rfl,_⟩:=h;rfl
 obtain⟨a,kvs,f,rfl,hH,hA,hz,q⟩:=h
 refine⟨_,(qa3 (qah (i:=1) w2p.nd rfl (Or.inl rfl) qcw)
  (qa3 (qf5 (qbe PassesOwn.never rfl (qek (pv 0)) (qaq (i:=2) w2p.nd rfl (Or.inl rfl)) (qa5 (qej (qb8 (qaj qey (qck (qcc hr) (pv 0) (pv 2) (fun _ _=>rfl)) qa8 (qar _)) (qa5 (qcv (qcc hr) (pv 1) (pv 2) (qck (qcc hr) (pv 0) (pv 2) (fun _ _=>rfl)) rfl)) qam)))))
  (qa5 (qai (pv 1))))),?_⟩
 walk_at "d"
 refine qaf (σ:=[some (.ref a),none,none]) rfl ?_
 walk_at "g"
 rename_i l hl
 have ea:=qad (o':=.dK []) hH hl
 have nla:l≠a:=(qa4 hH hl).symm
 refine r_itD ea fun o=>?_
 refine f_dict (fun i σ H'=>∃(k':List (Key × V)) (w:Option V),σ=[some (.ref a),some (.ref l),w]/\SameBut a H H'/\H' a=some (.frz o (.dK kvs))/\H' l=some (.dK k')/\k'.length<=i/\AD k' (fun y=>if y∈(qc5 kvs).take i then qbb f y else none))
  ⟨[],none,rfl,SameBut.at (SameBut.of (qa7 hl _)),qa1,by rw [qa6 nla];exact qa1,Nat.le_refl _,AD.nil.cast fun z=>by simp [noF]⟩ ?_ ?_ ?_
 .rintro i σ H' _ ⟨k',w,rfl,sb,fz,hl',_⟩;exact fz
 .rintro i k v σ H' hk ⟨k',w,rfl,sb,fz,hl',hlen,hA'⟩
  obtain⟨z,n,rfl,rfl,hf,hzi⟩:=hA.at hk
  have hi:i < kvs.length:=(List.getElem?_eq_some_iff.mp hk).1
  have hRd:Rd H' a (.dK kvs):=.inr ⟨o,fz⟩
  show gName _ (.str z) _ _ _
  walk_at "g"
  refine r_cut0 ?_
  walk_at "g"
  refine i_2 (fun c=>?_) (fun c=>?_)
  .walk_at "g"
   refine⟨_,_,rfl,?_,by rw [qa6 nla.symm];exact fz,qa1,?_,(hA'.put z n).cast fun y=>?_⟩
   .exact qf2 sb hl
   .have:=qbc k' (Sum.inr z) (.int n);omega
   .exact qfs hzi (qbb f) (fun _=>none) (by unfold qbb;rw [hf];exact if_pos c) y
  .walk_at "g"
   refine⟨_,_,rfl,sb,fz,hl',by omega,hA'.cast fun y=>?_⟩
   exact step_no hzi (qbb f) (fun _=>none) (by unfold qbb;rw [hf];exact if_neg c) y
 .rintro σ H' ⟨k',w,rfl,sb,fz,hl',_,hA'⟩
  refine qf4 (thaw1 fz (qch hH)) ?_
  walk_at "g"
  refine q l k' _ (qby hH sb) hl (by rw [qa6 nla];exact hl') (hA'.cast fun y=>?_)
  exact qft hA (qbb f) (fun _=>none) (fun y e=>by unfold qbb;rw [e]) y
include T in
theorem wb0:FnOk P w K mg base CX0 2 d.wax d.w7z ["one","other"] (wd1 K d):=by
 refine T.wa7.ok w8o (fun vs H Q E h=>?_) (fun cdv A outer s H vs Q E hr h=>?_)
 .obtain⟨a,b,ka,kb,f,g,rfl,_⟩:=h;rfl
 obtain⟨a,b,ka,kb,f,g,rfl,hRa,hb,hA,hB,za,zb,q⟩:=h
 refine⟨_,(qa3 (qah (i:=2) w8o.nd rfl (Or.inl rfl) (qb6 qbt rfl T.w4m PyProof.Rows.boot_dict (qa0 (pv 0) qa2)))
  (qa3 (qf5 (qbe PassesOwn.never rfl (qek (pv 1)) (qaq (i:=3) w8o.nd rfl (Or.inl rfl)) (qa5 (qcv (qcc hr) (pv 2) (pv 3) (qal qbi (qag ((w65 T).mono (by decide)) hr rfl T.w6m T.w4o.kp T.w6w .nil qaw (qa0 (pv 0) (qa0 (pv 3) qa2))) (qck (qcc hr) (pv 1) (pv 3) (fun _ _=>rfl))) rfl))))
  (qa5 (qai (pv 2))))),?_⟩
 walk_at "d"
 refine qaf (σ:=[some (.ref a),some (.ref b),none,none]) rfl ?_
 walk_at "g"
 rename_i l hl
 have eb:=qad (o':=.dK ka) hb hl
 have nlb:l≠b:=(qa4 hb hl).symm
 refine r_itD eb fun o=>?_
 refine f_dict (fun i σ H'=>∃(k':List (Key × V)) (w:Option V),σ=[some (.ref a),some (.ref b),some (.ref l),w]/\SameBut b H H'/\H' b=some (.frz o (.dK kb))/\H' l=some (.dK k')/\k'.length<=1000+i/\AD k' (fun y=>if y∈(qc5 kb).take i then qdh f g y else f y))
  ⟨ka,none,rfl,SameBut.at (SameBut.of (qa7 hl _)),qa1,by rw [qa6 nlb];exact qa1,by omega,hA.cast fun z=>by simp⟩ ?_ ?_ ?_
 .rintro i σ H' _ ⟨k',w,rfl,sb,fz,hl',_⟩;exact fz
 .rintro i k v σ H' hk ⟨k',w,rfl,sb,fz,hl',hlen,hA'⟩
  obtain⟨z,n,rfl,rfl,hf,hzi⟩:=hB.at hk
  have hi:i < kb.length:=(List.getElem?_eq_some_iff.mp hk).1
  have hRb:Rd H' b (.dK kb):=.inr ⟨o,fz⟩
  have hRa':Rd H' a (.dK ka):=rd_in hRa hb sb fz
  show gName _ (.str z) _ _ _
  walk_at "g"
  refine⟨_,_,rfl,qf2 sb hl,by rw [qa6 nlb.symm];exact fz,qa1,?_,(hA'.put z _).cast fun y=>?_⟩
  .have:=qbc k' (Sum.inr z) (.int (gN f z+n));omega
  .exact qfs hzi (qdh f g) f (by unfold qdh;rw [hf]) y
 .rintro σ H' ⟨k',w,rfl,sb,fz,hl',_,hA'⟩
  refine qf4 (thaw1 fz (qch hb)) ?_
  walk_at "g"
  refine q l k' _ (qby hb sb) hl (by rw [qa6 nlb];exact hl') (hA'.cast fun y=>?_)
  exact qft hB (qdh f g) f (fun y e=>by unfold qdh;rw [e]) y
include T in
theorem wci:FnOk P w K mg base CX0 2 d.w8l d.w6s ["one","other"] (wc9 K d):=by
 refine T.way.ok w9f (fun vs H Q E h=>?_) (fun cdv A outer s H vs Q E hr h=>?_)
 .obtain⟨a,b,ka,kb,f,g,rfl,_⟩:=h;rfl
 obtain⟨a,b,ka,kb,f,g,rfl,hRa,hRb,hA,hB,za,qn,qs⟩:=h
 refine⟨_,(qa3 (qbe PassesOwn.never rfl (qbv (qac (qfk rfl) rfl T.w3o PyProof.Rows.boot_sorted (qa0 (pv 0) qa2))) (qaq (i:=2) w9f.nd rfl (Or.inl rfl)) (qa5 (qb8 (qaj qey (qck (qcc hr) (pv 0) (pv 2) (fun _ _=>rfl)) (qag ((w65 T).mono (by decide)) hr rfl T.w6m T.w4o.kp T.w6w .nil qaw (qa0 (pv 1) (qa0 (pv 2) qa2))) (qar _)) (qa5 (qai (pv 2))) qam)))
  (qa5 (qai qdg))),?_⟩
 walk_at "d"
 refine qaf (σ:=[some (.ref a),some (.ref b),none]) rfl ?_
 walk_at "g"
 refine r_sortD hRa hA.keys (by rw [hA.klen];exact za) fun l ss hl hp hs=>?_
 have pw:=qdr hs
 have hin:∀y,y∈ss↔f y≠none:=fun y=>(hp.mem_iff).trans (hA.kin y)
 walk_at "g"
 have sm:=qa7 hl (.lst (ss.map V.str))
 have hRa':=rd_new hRa hl (u:=.lst (ss.map V.str))
 have hRb':=rd_new hRb hl (u:=.lst (ss.map V.str))
 refine qfh (xs:=ss.map V.str) (fun i σ H'=>H'=upd H l (.lst (ss.map V.str))/\(∃w,σ=[some (.ref a),some (.ref b),w])/\∀j y,j < i->ss[j]?=some y->¬qew f g y) ⟨rfl,⟨_,rfl⟩,fun j y hj=>absurd hj (Nat.not_lt_zero j)⟩ ?_ ?_ ?_
 .rintro i σ H' _ ⟨rfl,_⟩;exact SqL.of qa1
 .rintro i v σ H' hv ⟨rfl,⟨w,rfl⟩,hno⟩
  rw [getElem?_map] at hv
  obtain⟨z,hz,rfl⟩:=Option.map_eq_some_iff.mp hv
  have hfz:=(hin z).mp (mem_of_getElem? hz)
  obtain⟨n,hn⟩:∃n,f z=some n:=by
   cases e:f z with
   |none=>exact absurd e hfz
   |some n=>exact⟨n,rfl⟩
  have gz:gN f z=n:=by unfold gN;rw [hn];rfl
  walk_at "g"
  refine i_2 (fun c=>?_) (fun c=>?_)
  .walk_at "g"
   refine qs z _ sm ⟨hfz,by rw [gz];exact c⟩ fun y hy=>?_
   obtain⟨j,hj,e⟩:=mem_iff_getElem.mp ((hin y).mpr hy.1)
   have hji:i<=j:=by
    rcases Nat.lt_or_ge j i with h|h
    .exact absurd hy (hno j y h (by rw [getElem?_eq_getElem hj,e]))
    .exact h
   obtain⟨hi,ez⟩:=List.getElem?_eq_some_iff.mp hz
   rcases Nat.eq_or_lt_of_le hji with h|h
   .subst h;rw [ez] at e;subst e;exact leS_refl _
   .have:=pairwise_iff_getElem.mp pw i j hi hj h
    rw [ez,e] at this;exact this
  .walk_at "g"
   refine⟨rfl,⟨_,rfl⟩,fun j y hj hy=>?_⟩
   rcases Nat.lt_or_ge j i with h|h
   .exact hno j y h hy
   .have e:j=i:=by omega
    subst e
    rw [hz] at hy
    cases hy
    exact fun hv=>c (by have:=hv.2;rw [gz] at this;exact this)
 .rintro σ H' ⟨rfl,⟨w,rfl⟩,hno⟩
  walk_at "g"
  refine qn _ sm fun y hy=>?_
  obtain⟨j,hj,e⟩:=mem_iff_getElem.mp ((hin y).mpr hy.1)
  exact hno j y (by rw [length_map];exact hj) (by rw [getElem?_eq_getElem hj,e]) hy
theorem sum_sup {ts:List Pt} {ws:List Str} (h:∀t∈ts,∀z,t.f z≠none->z∈ws):∀f0:Str->Option Int,(∀z,f0 z≠none->z∈ws)->∀z,ts.foldl (fun f t=>qdh f t.f) f0 z≠none->z∈ws:=by
 induction ts with
 |nil=>intro f0 h0 z hz;exact h0 z hz
 |cons t ts ih=>intro f0 h0 z hz;exact ih (fun t' ht=>h t' (mem_cons_of_mem _ ht)) (qdh f0 t.f) (qgb h0 (h t (mem_cons_self ..))) z hz
include T in
theorem w9q:FnOk P w K mg base CX0 3 d.w5n d.w4z ["many"] (w9w K d):=by
 refine T.w7r.ok w3m (fun vs H Q E h=>?_) (fun cdv A outer s H vs Q E hr h=>?_)
 .obtain⟨L,ts,ws,rfl,_⟩:=h;rfl
 obtain⟨L,ts,ws,rfl,hS,hw,hts,q⟩:=h
 refine⟨_,(qa3 (qah (i:=1) w3m.nd rfl (Or.inl rfl) qcw)
  (qa3 (qbe PassesOwn.never rfl (qbv (pv 0)) (qaq (i:=2) w3m.nd rfl (Or.inl rfl)) (qa5 (qah (i:=1) w3m.nd rfl (Or.inl rfl) (qag ((wb0 T).mono (by decide)) hr rfl T.wc5 T.wa7.kp T.wbz .nil qaw (qa0 (pv 1) (qa0 (pv 2) qa2))))))
  (qa5 (qai (pv 1))))),?_⟩
 walk_at "d"
 refine qaf (σ:=[some (.ref L),none,none]) rfl ?_
 walk_at "g"
 rename_i l0 hl0
 refine qfh (xs:=ts.map fun t=> .ref t.a) (fun i σ H'=>∃(l:Addr) (k':List (Key × V)) (w:Option V),σ=[some (.ref L),some (.ref l),w]/\qb0 H H'/\H l=none/\H' l=some (.dK k')/\AD k' (qcu (ts.take i))) ⟨l0, [],none,rfl,qa7 hl0 _,hl0,qa1,AD.nil⟩ ?_ ?_ ?_
 .rintro i σ H' _ ⟨l,k',w,rfl,sm,_⟩;exact sm.seq hS
 .rintro i v σ H' hv ⟨l,k',w,rfl,sm,hl,hl',hA'⟩
  rw [getElem?_map] at hv
  obtain⟨t,ht,rfl⟩:=Option.map_eq_some_iff.mp hv
  have hm:=mem_of_getElem? ht
  obtain⟨h1,h2,h3⟩:=hts t hm
  have sup:∀z,qcu (ts.take i) z≠none->z∈ws:=sum_sup (fun t' ht'=>(hts t' (List.mem_of_mem_take ht')).2.2) noF (fun z h=>absurd rfl h)
  have c1:=hA'.le sup
  have c2:=h2.le h3
  walk_at "g"
  refine⟨l,t.a,k',t.k,qcu (ts.take i),t.f,rfl,.inl hl',sm _ _ h1,hA',h2,by omega,by omega,fun l2 k2 H2 sm2 hl2 e2 hA2=>?_⟩
  walk_at "g"
  refine⟨l2,k2,_,rfl,sm.trans sm2,sm.free hl2,e2,?_⟩
  have e:ts.take (i+1)=ts.take i++ [t]:=by rw [take_add_one,ht];rfl
  rw [e]
  unfold qcu
  rw [List.foldl_append]
  exact hA2
 .rintro σ H' ⟨l,k',w,rfl,sm,hl,hl',hA'⟩
  rw [length_map,take_length] at hA'
  walk_at "g"
  exact q l k' H' sm hl hl' hA'
include T in
theorem w0x:FnOk P w K mg base (My.CX1 P w) 5 d.w4s d.w4d ["self","name"] (w9l K d):=by
 refine okX T.waq w2q (fun vs H Q E h=>?_) (fun cdv A outer s H vs Q E hr h=>?_)
 .obtain⟨t,S,x,rfl,_⟩:=h;rfl
 obtain⟨t,S,x,rfl,hT,q⟩:=h
 refine⟨_,(qa3 (qah (i:=2) w2q.nd rfl (Or.inl rfl) (qc1 (qa0 (pv 1) qa2)))
  (qa3 (qah (i:=3) w2q.nd rfl (Or.inl rfl) (qae (pv 0) T.w00 T.w05 ((w0h T).mono (by decide)) hr T.w0m .nil qas (qa0 (pv 1) qa2)))
  (qa3 (qfy (qel rfl rfl) (qaj qcx (pv 3) qdg (qar _)) (qa3 (qb3 (qg1 PySem.F.plainAttrs_list PySem.F.slot_list_append PySem.F.type_list_append qbk (pv 2) (qa0 (pv 3) qa2)))
  (qa5 (qah (i:=3) w2q.nd rfl (Or.inl rfl) (qae (pv 0) T.w00 T.w05 ((w0h T).mono (by decide)) hr T.w0m .nil qas (qa0 (pv 3) qa2))))))
  (qa5 (qai (pv 2)))))),?_⟩
 walk_at "d"
 refine qaf (σ:=[some (.ref t),some (x),none,none]) rfl ?_
 have ct:=T.w00
 obtain⟨dx,ht⟩:=hT.1
 walk_at "g"
 rename_i l hl
 have sl:=qa7 hl (.lst [x])
 rcases q with ⟨z,zs,rfl,hL,hz,q⟩ |⟨hx,hn,q⟩
 .obtain⟨e0,r0,h0,rfl,hr0⟩:=hL.open
  refine⟨t,S,.str z,rfl,hT.same sl,.inl ⟨z,rfl⟩,fun e he=>?_,fun he=>?_⟩
  .have ee:e0=e:=Option.some.inj (h0.symm.trans he)
   subst ee
   walk_at "g"
   refine qfm (fun σ H'=>∃(ys rs:List Str) (o:Option Str),σ=[some (.ref t),some (.str z),some (.ref l),some (eV o)]/\H'=upd H l (.lst (ys.map V.str))/\ys++rs=z :: r0/\RestOf S o rs) (fun _ H'=>(r0.length+1) - lenAt l H') ⟨[z],r0,_,rfl,rfl,rfl,hr0⟩ ?_ ?_
   .rintro σ H' ⟨ys,rs,o,rfl,rfl,hyr,hR⟩
    have hlen:=congrArg List.length hyr
    rw [length_append,length_cons] at hlen
    have hz2:(z :: r0).length<=1000:=hz
    rw [length_cons] at hz2
    cases o with
    |none=>
     have:rs=[]:=hR
     subst this
     rw [append_nil] at hyr
     subst hyr
     rw [show eV none=V.non from rfl]
     walk_at "g"
     exact q l hl
    |some y=>
     obtain⟨e1,r1,h1,rfl,hr1⟩:=LineOf.open hR
     have sy:=qa7 hl (.lst (ys.map V.str))
     have eL:upd H l (.lst (ys.map V.str)) l=some (.lst (ys.map V.str)):=qa1
     have hzz:(ys.map V.str).length < sizeLine:=by rw [length_map];show _ < 16777216;omega
     rw [show eV (some y)=V.str y from rfl]
     walk_at "g"
     rw [qbr]
     have s2:=qa7 hl (.lst (ys.map V.str++ [.str y]))
     have ht2:=s2 _ _ ht
     walk_at "g"
     refine⟨t,S,.str y,rfl,hT.same s2,.inl ⟨y,rfl⟩,fun e he=>?_,fun he=>?_⟩
     .have ee:e1=e:=Option.some.inj (h1.symm.trans he)
      subst ee
      walk_at "g"
      rw [length_cons] at hlen
      refine⟨⟨ys++ [y],r1,_,rfl,by rw [map_append];rfl,by rw [append_assoc];exact hyr,hr1⟩,?_⟩
      have g1:=lenAt_eq eL
      have g2:lenAt l (upd H l (.lst (ys.map V.str++ [V.str y])))=(ys.map V.str++ [V.str y]).length:=lenAt_eq qa1
      rw [length_append,length_map] at g2
      rw [length_map] at g1
      rw [g1,g2]
      simp only [length_cons,length_nil]
      omega
     .rw [show who S (.str y)=some e1 from h1] at he;cases he
   .rintro σ H' Q1 Q2 hm ⟨v,hv,w,k,hk,hq⟩
    exact⟨v,hv,w,k,hk,hm _ _ hq⟩
  .rw [show who S (.str z)=some e0 from h0] at he;cases he
 .refine⟨t,S,x,rfl,hT.same sl,hx.same sl,fun e he=>?_,fun _=>q l hl⟩
  rw [hn] at he;cases he
theorem qf0 {S:Ts} {e:He} (nd:(S.hl.map (·.n)).Nodup) (h:e∈S.hl):S.at e.n=some e:=by
 have q:qd7 S.keys e.n=some e.a:=lookO_of (by unfold Ts.keys;rw [map_map];exact nd) (mem_map.mpr ⟨e,h,rfl⟩)
 unfold Ts.at
 revert nd h
 obtain⟨sw,ws,hs,hl⟩:=S
 dsimp only
 clear q
 intro nd h
 induction hl with
 |nil=>simp at h
 |cons y r ih=>
  rw [map_cons,nodup_cons] at nd
  rw [find?_cons]
  rcases mem_cons.mp h with h|h
  .subst h;rw [decide_eq_true rfl]
  .have ne:y.n≠e.n:=fun z=>nd.1 (by rw [z];exact mem_map.mpr ⟨e,h,rfl⟩)
   rw [decide_eq_false ne]
   exact ih nd.2 h
theorem keys_at {S:Ts} {i:Nat} {k:Key} {v:V} (h:(oK S.keys)[i]?=some (k,v)):∃e,S.hl[i]?=some e/\k=Sum.inr e.n/\v=.ref e.a:=by
 unfold oK Ts.keys at h
 rw [getElem?_map,getElem?_map] at h
 cases q:S.hl[i]? with
 |none=>rw [q] at h;cases h
 |some e=>rw [q] at h;cases h;exact⟨e,rfl,rfl,rfl⟩
theorem qed (S:Ts):(oK S.keys).length=S.hl.length:=by unfold oK Ts.keys;rw [length_map,length_map]
theorem dec_el {o:Option Str} {z:Str}:decide (eV o=V.str z)=decide (o=some z):=by
 cases o with
 |none=>rfl
 |some y=>
  by_cases h:y=z
  .subst h;show decide (V.str y=V.str y)=_;rw [decide_eq_true rfl,decide_eq_true rfl]
  .rw [decide_eq_false (fun q=>h (by cases q;rfl)),decide_eq_false (fun q=>h (Option.some.inj q))]
theorem scal_el {o:Option Str} {z:Str}:scal (eV o) (V.str z)=true:=by cases o <;> rfl
include T in
theorem w3s:FnOk P w K mg base (My.CX1 P w) 3 d.w4r d.w3z ["self","name"] (w9h K d):=by
 refine okX T.wau w93 (fun vs H Q E h=>?_) (fun cdv A outer s H vs Q E hr h=>?_)
 .obtain⟨t,S,x,rfl,_⟩:=h;rfl
 obtain⟨t,S,x,rfl,hT,hx,q1,q2⟩:=h
 refine⟨_,(qa3 (qb3 (qae (pv 0) T.w00 T.w09 ((w1g T).mono (by decide)) hr T.w1p .nil qas (qa0 (pv 1) qa2)))
  (qa5 (qai (qac qdf rfl T.w3o PyProof.Rows.boot_sorted (qa0 (pe_thV (qc4 (caps:=[0,1]) (cn:=["self","name"]) (qbd rfl rfl (by rfl) (by rfl) rfl ⟨rfl,⟨rfl,trivial⟩⟩ (by rfl) rfl ⟨⟨rfl,rfl,rfl,rfl,_,rfl⟩,⟨⟨rfl,rfl,rfl,rfl,_,rfl⟩,trivial⟩⟩ (by decide)) rfl (qek (qbj (pv 0) rfl)) (fun _ _ _ _=>(pf_one (qaj qen (qbj (qck (qcc hr) (qbj (pv 1) rfl) (pv 0) (fun _ _=>rfl)) rfl) (pv 2) (qar _)))) (fun _ _ _ _=>(pv 0)))) qa2))))),?_⟩
 walk_at "d"
 dsimp only [cxC]
 refine qaf (σ:=[some (.ref t),some (x)]) rfl ?_
 have hT0:=hT
 obtain⟨⟨dx,ht⟩,hw,hh,nd,hz,hE⟩:=hT
 have ct:=T.w00
 have ch:=T.w0z
 have nh:qap K d.w01 "houses":=T.w03
 have nf:qap K d.w04 "elder":=T.w0k
 walk_at "g"
 refine⟨t,S,x,rfl,hT0,hx,fun e he=>?_,q2⟩
 obtain⟨z,rfl⟩:∃z,x=.str z:=by
  rcases hx with h|⟨_,nz⟩
  .exact h
  .rw [qct nz] at he;cases he
 obtain⟨hme,rfl⟩:=qb9 he
 walk_at "g"
 refine r_thV ?_
 walk_at "g"
 refine r_itD hh fun o=>?_
 intro C s0 H0 fp na hna
 have hF:upd H S.hs (.frz o (.dK (oK S.keys))) S.hs=some (.frz o (.dK (oK S.keys))):=qa1
 have sb:SameBut S.hs H (upd H S.hs (.frz o (.dK (oK S.keys)))):=sb_frz hh
 have ht2:=sb _ _ (ne_of ht hh (by intro z;cases z)) ht
 have hna0:H na=none:=by
  by_cases z:na=S.hs
  .subst z;rw [hF] at hna;cases hna
  .rw [qa6 z] at hna;exact hna
 have hE2:∀e∈S.hl,∃dx,upd H S.hs (.frz o (.dK (oK S.keys))) e.a=some (.ins d.w04 dx (fsH e.x)):=fun e he=>by
  obtain⟨⟨dx,q⟩,_⟩:=hE e he
  exact⟨dx,sb _ _ (ne_of q hh (by intro z;cases z)) q⟩
 generalize upd H S.hs (.frz o (.dK (oK S.keys)))=HF at*
 refine qg9 S.hl.length (fun i H'=>H'=upd HF na (.lst ((((S.hl.take i).filter fun y=>decide (y.x.el=some e.n)).map (·.n)).map V.str))) rfl ?_ ?_ ?_ ?_
 .rintro i H' hi rfl
  exact⟨qad hF hna,by rw [qed];exact hi⟩
 .rintro H' rfl
  exact⟨qad hF hna,by rw [qed];exact Nat.le_refl _⟩
 .rintro i H' v H'' hi rfl ⟨rfl,k,v',hk,rfl⟩
  obtain⟨y,hy,rfl,rfl⟩:=keys_at hk
  have hym:=mem_of_getElem? hy
  obtain⟨dy,hya⟩:=hE2 y hym
  have nx:(S.hl.take (i+1)).filter (fun y=>decide (y.x.el=some e.n))=(S.hl.take i).filter (fun y=>decide (y.x.el=some e.n))++(if decide (y.x.el=some e.n)=true then [y] else []):=by
   rw [take_add_one,hy,filter_append]
   congr 1
   simp only [Option.toList_some,filter_cons,List.filter_nil]
  have hlen:((S.hl.take i).filter (fun y=>decide (y.x.el=some e.n))).length<=S.hl.length:=Nat.le_trans (length_filter_le ..) (by rw [length_take];omega)
  walk_at "g"
  refine r_dgO (h:=y.a) (rd_new (.inr ⟨o,hF⟩) hna) (by rw [qd6,qf0 nd hym];rfl) ?_
  walk_at "g"
  refine⟨scal_el,?_⟩
  rw [dec_el]
  refine⟨_,rfl,?_⟩
  refine i_2 (fun c=>?_) (fun c=>?_)
  .walk_at "g"
   rw [qbr,nx,if_pos (decide_eq_true c),map_append,map_append];rfl
  .rw [nx,if_neg (by rw [decide_eq_false c];decide),append_nil]
 rintro H' rfl
 rw [take_length]
 have nns:na≠S.hs:=fun z=>by subst z;rw [hF] at hna;cases hna
 have eN:upd (upd HF na (.lst ((qb1 S e.n).map V.str))) S.hs (.dK (oK S.keys)) na=some (.lst ((qb1 S e.n).map V.str)):=by rw [qa6 nns];exact qa1
 have sm:qb0 H (upd (upd HF na (.lst ((qb1 S e.n).map V.str))) S.hs (.dK (oK S.keys))):=qby hh (qf2 sb hna0)
 have hkl:(qb1 S e.n).length<=60:=by unfold qb1;rw [length_map];exact Nat.le_trans (length_filter_le ..) hz
 refine⟨_,thaw1 (qad hF hna) (qch hh),?_⟩
 show tNil _ (upd (upd HF na (.lst ((qb1 S e.n).map V.str))) S.hs (.dK (oK S.keys))) _
 generalize upd (upd HF na (.lst ((qb1 S e.n).map V.str))) S.hs (.dK (oK S.keys))=H3 at*
 walk_at "g"
 refine qfw (SqL.of eN) (by omega) fun l ss hl hp hs=>?_
 walk_at "g"
 exact q1 e he l ss _ (same_upd sm hl) (sm.free hl) qa1 hp hs
theorem r_extend {H:Hp} {Q:VK} {l b:Addr} {xs zs:List V} (h:H l=some (.lst xs)) (hb:H b=some (.lst zs)) (hz:xs.length+zs.length<=sizeLine) (q:Q .non (upd H l (.lst (xs++zs)))):rExtend (.ref l) [.ref b] H Q:=⟨l,b,xs,zs,rfl,rfl,h,hb,hz,q⟩
def flat (parts:List (Str × List Str)):List Str:=(parts.map (·.2)).flatten
def Ben (S:Ts):Nat->Str->List Str->Prop
 |0,z,zs=>∃parts:List (Str × List Str),(parts.map (·.1)).Perm (qb1 S z)/\zs=z :: flat parts/\(∀p∈parts,False)/\PyProof.Rows.sortedS (parts.map (·.1))=true
 |n+1,z,zs=>∃parts:List (Str × List Str),(parts.map (·.1)).Perm (qb1 S z)/\zs=z :: flat parts/\(∀p∈parts,Ben S n p.1 p.2)/\PyProof.Rows.sortedS (parts.map (·.1))=true
def BenP (S:Ts):Nat->Str->List Str->Prop
 |0,z,zs=>∃(parts:List (Str × List Str)) (rest:List Str),(parts.map (·.1)++rest).Perm (qb1 S z)/\zs=z :: flat parts/\∀p∈parts,False
 |n+1,z,zs=>∃(parts:List (Str × List Str)) (rest:List Str),(parts.map (·.1)++rest).Perm (qb1 S z)/\zs=z :: flat parts/\∀p∈parts,BenP S n p.1 p.2
theorem Ben.part {S:Ts}:∀{n:Nat} {z:Str} {zs:List Str},Ben S n z zs->BenP S n z zs
 |0,_,_,⟨parts,a,b,c,_⟩=>⟨parts, [],by rw [append_nil];exact a,b,c⟩
 |n+1,_,_,⟨parts,a,b,c,_⟩=>⟨parts, [],by rw [append_nil];exact a,b,fun p hp=>Ben.part (c p hp)⟩
def BenK (S:Ts):Nat->Str->List Str->Prop
 |0,_,_=>False
 |n+1,z,zs=>Ben S n z zs
theorem ben_of {S:Ts} {n:Nat} {z:Str} {parts:List (Str × List Str)} (h:(parts.map (·.1)).Perm (qb1 S z)) (hs:PyProof.Rows.sortedS (parts.map (·.1))=true) (hp:∀p∈parts,BenK S n p.1 p.2):Ben S n z (z :: flat parts):=by
 cases n with
 |zero=>exact⟨parts,h,rfl,hp,hs⟩
 |succ n=>exact⟨parts,h,rfl,hp,hs⟩
theorem benP_of {S:Ts} {n:Nat} {z:Str} {parts:List (Str × List Str)} {rest:List Str} (h:(parts.map (·.1)++rest).Perm (qb1 S z)) (hp:∀p∈parts,BenK S n p.1 p.2):BenP S n z (z :: flat parts):=by
 cases n with
 |zero=>exact⟨parts,rest,h,rfl,hp⟩
 |succ n=>exact⟨parts,rest,h,rfl,fun p q=>Ben.part (hp p q)⟩
def Slim (S:Ts):Prop:=∀n z zs,BenP S n z zs->zs.length<=1000
def Dep (S:Ts):Nat->Str->Prop
 |0,z=>qb1 S z=[]
 |n+1,z=>∀y∈qb1 S z,Dep S n y
def wb4 (n:Nat) (K:Frag) (d:Ad):Sp:=fun vs H Q E=>∃(t:Addr) (S:Ts) (x:V),vs=[.ref t,x]/\qcr d H t S/\Slim S/\qdv K H x/\(∀e,who S x=some e->Dep S n e.n/\∀l zs H',qb0 H H'->H l=none->H' l=some (.lst (zs.map V.str))->Ben S n e.n zs->Q (.ref l) H')/\(who S x=none->∀l,H l=none->E (.ref d.w0i) none (upd H l (.lst [x])))
theorem kid_at {S:Ts} {y z:Str} (nd:(S.hl.map (·.n)).Nodup) (h:y∈qb1 S z):∃e,S.at y=some e/\e.n=y:=by
 obtain⟨e,he,rfl⟩:=mem_map.mp h
 exact⟨e,qf0 nd (mem_filter.mp he).1,rfl⟩
theorem flat_app (a b:List (Str × List Str)):flat (a++b)=flat a++flat b:=by unfold flat;rw [map_append,List.flatten_append]
theorem ben_step {P:Program} {w:World} {K:Frag} {mg:Str->Option Value} {base:Heap} {d:Ad} (T:Tx K mg d) (n:Nat) (spi:Sp) (IH:FnOk P w K mg base (My.CX1 P w) (3+n) d.w13 d.w0t ["self","name"] spi)
  (use:∀(t:Addr) (S:Ts) (z y:Str) (e:He) (H:Hp) (Q:VK) (E:XK),qcr d H t S->Slim S->Dep S n z->y∈qb1 S z->S.at y=some e->e.n=y->(∀l zs H',qb0 H H'->H l=none->H' l=some (.lst (zs.map V.str))->BenK S n y zs->Q (.ref l) H')->spi [.ref t,.str y] H Q E):
  FnOk P w K mg base (My.CX1 P w) (3+n+1) d.w13 d.w0t ["self","name"] (wb4 n K d):=by
 refine okX T.w78 w2l (fun vs H Q E h=>?_) (fun cdv A outer s H vs Q E hr h=>?_)
 .obtain⟨t,S,x,rfl,_⟩:=h;rfl
 obtain⟨t,S,x,rfl,hT,hS,hx,q1,q2⟩:=h
 refine⟨_,(qa3 (qah (i:=2) w2l.nd rfl (Or.inl rfl) (qc1 (qa0 (pv 1) qa2)))
  (qa3 (qbe (qel rfl rfl) rfl (qbv (qae (pv 0) T.w00 T.w19 ((w3s T).mono (by omega)) hr T.w4p .nil qas (qa0 (pv 1) qa2))) (qaq (i:=3) w2l.nd rfl (Or.inl rfl)) (qa5 (qb3 (qg1 PySem.F.plainAttrs_list PySem.F.slot_list_extend PySem.F.type_list_extend mt_extend (pv 2) (qa0 (qae (pv 0) T.w00 T.w07 IH hr T.w14 .nil qas (qa0 (pv 3) qa2)) qa2)))))
  (qa5 (qai (pv 2))))),?_⟩
 walk_at "d"
 refine qaf (σ:=[some (.ref t),some (x),none,none]) rfl ?_
 have ct:=T.w00
 obtain⟨dx,ht⟩:=hT.1
 have nd:=hT.2.2.2.1
 walk_at "g"
 rename_i lt hlt
 have sl:=qa7 hlt (.lst [x])
 refine⟨t,S,x,rfl,hT.same sl,hx.same sl,fun e he=>?_,fun he=>q2 he lt hlt⟩
 obtain⟨hD,q⟩:=q1 e he
 obtain⟨z,rfl⟩:∃z,x=.str z:=by
  rcases hx with h|⟨_,nz⟩
  .exact h
  .rw [qct nz] at he;cases he
 obtain⟨hme,rfl⟩:=qb9 he
 intro lk ss H1 s1 hlk ek hp hs
 have eT:=s1 _ _ (qa1 (H:=H) (a:=lt) (o:=.lst [V.str e.n]))
 walk_at "g"
 have ntk:lk≠lt:=fun z=>by subst z;rw [qa1] at hlk;cases hlk
 refine qfh (xs:=ss.map V.str) (fun i σ H'=>∃(parts:List (Str × List Str)) (w:Option V),σ=[some (.ref t),some (.str e.n),some (.ref lt),w]/\parts.map (·.1)=ss.take i/\(∀p∈parts,BenK S n p.1 p.2)/\qb0 H H'/\H' lk=some (.lst (ss.map V.str))/\H' lt=some (.lst ((e.n :: flat parts).map V.str)))
  ⟨[],_,rfl,rfl,fun p hp=>absurd hp (by simp),sl.trans s1,ek,eT⟩ ?_ ?_ ?_
 .rintro i σ H' _ ⟨parts,w,_,_,_,_,ek',_⟩;exact SqL.of ek'
 .rintro i v σ H' hv ⟨parts,w,rfl,hps,hB,sm,ek',eT'⟩
  rw [getElem?_map] at hv
  obtain⟨y,hy,rfl⟩:=Option.map_eq_some_iff.mp hv
  have hyk:y∈qb1 S e.n:=hp.mem_iff.mp (mem_of_getElem? hy)
  obtain⟨ey,h1,h2⟩:=kid_at nd hyk
  have ht':=sm _ _ ht
  walk_at "g"
  refine use t S e.n y ey H' _ _ (hT.same sm) hS hD hyk h1 h2 fun l zs H2 s2 hl el hBy=>?_
  have eT2:=s2 _ _ eT'
  have hps2:(parts++ [(y,zs)]).map (·.1)=ss.take (i+1):=by rw [map_append,hps,take_add_one,hy];rfl
  have hB2:∀p∈parts++ [(y,zs)],BenK S n p.1 p.2:=fun p hp=>by
   rcases mem_append.mp hp with h|h
   .exact hB p h
   .have:=mem_singleton.mp h
    subst this;exact hBy
  have ef:flat (parts++ [(y,zs)])=flat parts++zs:=by rw [flat_app];congr 1;simp [flat]
  have hlen:=hS _ _ _ (benP_of (n:=n) (z:=e.n) (parts:=parts++ [(y,zs)]) (rest:=ss.drop (i+1)) (by rw [hps2,List.take_append_drop];exact hp) hB2)
  rw [ef,length_cons,length_append] at hlen
  walk_at "g"
  refine r_extend eT2 el (by rw [length_map,length_map,length_cons];show _<=16777216;omega) ?_
  walk_at "g"
  refine⟨parts++ [(y,zs)],_,rfl,hps2,hB2,qax (sm.trans s2) hlt,by rw [qa6 ntk];exact s2 _ _ ek',?_⟩
  rw [ef,<-map_append];exact qa1
 .rintro σ H' ⟨parts,w,rfl,hps,hB,sm,ek',eT'⟩
  rw [length_map,take_length] at hps
  walk_at "g"
  exact q lt _ H' sm hlt eT' (ben_of (by rw [hps];exact hp) (by rw [hps];exact hs) hB)
theorem wdl {P:Program} {w:World} {K:Frag} {mg:Str->Option Value} {base:Heap} {CX:CXT} {k:Nat} {f:Addr} {fd:FuncData} {ps:List Str}:FnOk P w K mg base CX k f fd ps (fun _ _ _ _=>False):=
 ⟨fun _ _ _ _ h=>h.elim,fun _ _ _ _ _ _ _ _ _ _ _ _ _ h=>h.elim⟩
theorem wd8 {P:Program} {w:World} {K:Frag} {mg:Str->Option Value} {base:Heap} {d:Ad} (T:Tx K mg d):∀n:Nat,FnOk P w K mg base (My.CX1 P w) (3+n+1) d.w13 d.w0t ["self","name"] (wb4 n K d)
 |0=>ben_step T 0 (fun _ _ _ _=>False) wdl fun t S z y e H Q E _ _ hD hy _ _ _=>by
  have:qb1 S z=[]:=hD
  rw [this] at hy;simp at hy
 |n+1=>ben_step T (n+1) (wb4 n K d) (wd8 T n) fun t S z y e H Q E hT hS hD hy h1 h2 q=>by
  refine⟨t,S,.str y,rfl,hT,hS,.inl ⟨y,rfl⟩,fun e' he'=>?_,fun he'=>?_⟩
  .have ee:e=e':=Option.some.inj (h1.symm.trans he')
   subst ee
   rw [h2]
   exact⟨hD y hy,fun l zs H' sm hl el hB=>q l zs H' sm hl el hB⟩
  .rw [show who S (.str y)=some e from h1] at he';cases he'
def w75 (K:Frag) (d:Ad):Sp:=wb4 12 K d
include T in
theorem w16:FnOk P w K mg base (My.CX1 P w) 16 d.w13 d.w0t ["self","name"] (w75 K d):=wd8 T 12
def upS (S:Ts) (y:Str):Option Str:=(S.at y).bind fun e=>e.x.el
def anc (S:Ts):Nat->Str->Option Str
 |0,y=>some y
 |k+1,y=>(upS S y).bind (anc S k)
theorem qdo {S:Ts}:∀(i j:Nat) (y:Str),anc S (i+j) y=(anc S i y).bind (anc S j)
 |0,j,y=>by rw [Nat.zero_add];rfl
 |i+1,j,y=>by
  rw [show i+1+j=(i+j)+1 by omega]
  show (upS S y).bind (anc S (i+j))=((upS S y).bind (anc S i)).bind (anc S j)
  cases upS S y with
  |none=>rfl
  |some u=>exact qdo i j u
def WF (S:Ts):Prop:=(S.hl.map (·.n)).Nodup/\∀e∈S.hl,∃zs,LineOf S e.n zs
theorem up_of {S:Ts} {z:Str} {e:He} (h:S.at z=some e):upS S z=e.x.el:=by unfold upS;rw [h];rfl
theorem line_end {S:Ts} {z:Str} {zs:List Str} (h:LineOf S z zs):anc S zs.length z=none:=by
 induction h with
 |top h n=>show (upS S _).bind _=none;rw [up_of h,n];rfl
 |up h n r ih=>show (upS S _).bind _=none;rw [up_of h,n];exact ih
theorem no_cycle {S:Ts} (w:WF S) {k:Nat} {z:Str}:anc S (k+1) z≠some z:=by
 intro c
 cases hz:S.at z with
 |none=>
  have:anc S (k+1) z=none:=by show (upS S z).bind _=none;unfold upS;rw [hz];rfl
  rw [this] at c;cases c
 |some e=>
  obtain⟨zs,hl⟩:=w.2 e (qb9 hz).1
  rw [(qb9 hz).2] at hl
  have he:=line_end hl
  have rep:∀m,anc S (m*(k+1)) z=some z:=by
   intro m
   induction m with
   |zero=>rw [Nat.zero_mul];rfl
   |succ m ih=>rw [Nat.succ_mul,qdo,ih];exact c
  have h1:=rep zs.length
  have h2:zs.length*(k+1)=zs.length+zs.length*k:=by rw [Nat.mul_add,Nat.mul_one];omega
  rw [h2,qdo,he] at h1
  cases h1
theorem kid_up {S:Ts} (w:WF S) {y z:Str} (h:y∈qb1 S z):upS S y=some z:=by
 obtain⟨e,he,rfl⟩:=mem_map.mp h
 obtain⟨hm,hd⟩:=mem_filter.mp he
 unfold upS
 rw [qf0 w.1 hm]
 exact of_decide_eq_true hd
theorem qfe {S:Ts} (w:WF S) (z:Str):(qb1 S z).Nodup:=by
 unfold qb1
 exact List.Nodup.sublist (List.Sublist.map _ List.filter_sublist) w.1
theorem ben_anc {S:Ts} (w:WF S):∀{n:Nat} {z:Str} {zs:List Str},BenP S n z zs->∀y∈zs,∃k,anc S k y=some z
 |0,z,_,⟨parts,rest,hp,rfl,hb⟩,y,hy=>by
  rcases mem_cons.mp hy with rfl|hy
  .exact⟨0,rfl⟩
  .obtain⟨l,hl,_⟩:=mem_flatten.mp hy
   obtain⟨p,hpp,_⟩:=mem_map.mp hl
   exact(hb p hpp).elim
 |n+1,z,_,⟨parts,rest,hp,rfl,hb⟩,y,hy=>by
  rcases mem_cons.mp hy with rfl|hy
  .exact⟨0,rfl⟩
  .obtain⟨l,hl,hyl⟩:=mem_flatten.mp hy
   obtain⟨p,hpp,rfl⟩:=mem_map.mp hl
   obtain⟨k,hk⟩:=ben_anc w (hb p hpp) y hyl
   have hu:=kid_up w (hp.mem_iff.mp (mem_append_left _ (mem_map.mpr ⟨p,hpp,rfl⟩)))
   exact⟨k+1,by rw [qdo,hk];show (upS S p.1).bind _=_;rw [hu];rfl⟩
theorem apart {S:Ts} (w:WF S) {p q z y:Str} {i j:Nat} (hp:upS S p=some z) (hq:upS S q=some z) (ne:p≠q) (hi:anc S i y=some p) (hj:anc S j y=some q) (le:i<=j):False:=by
 obtain⟨c,rfl⟩:=Nat.exists_eq_add_of_le le
 rw [qdo,hi] at hj
 have hj':anc S c p=some q:=hj
 cases c with
 |zero=>exact ne (Option.some.inj hj')
 |succ c=>
  have h1:(upS S p).bind (anc S c)=some q:=hj'
  rw [hp] at h1
  have h2:anc S c z=some q:=h1
  refine no_cycle w (k:=c) (z:=z) ?_
  rw [qdo,h2]
  show (upS S q).bind _=_
  rw [hq];rfl
theorem qem {S:Ts} (w:WF S) {z:Str}:∀{parts:List (Str × List Str)},(parts.map (·.1)).Nodup->(∀p∈parts,upS S p.1=some z)->(∀p∈parts,p.2.Nodup/\∀y∈p.2,∃k,anc S k y=some p.1)->(flat parts).Nodup
 | [],_,_,_=>nodup_nil
 |p :: r,nd,hu,hb=>by
  rw [map_cons,nodup_cons] at nd
  have ih:=qem w (z:=z) nd.2 (fun q hq=>hu q (mem_cons_of_mem _ hq)) fun q hq=>hb q (mem_cons_of_mem _ hq)
  show (p.2++flat r).Nodup
  rw [nodup_append]
  refine⟨(hb p (mem_cons_self ..)).1,ih,fun a ha b hbm e=>?_⟩
  subst e
  obtain⟨l,hl,hal⟩:=mem_flatten.mp hbm
  obtain⟨q,hq,rfl⟩:=mem_map.mp hl
  obtain⟨i,hi⟩:=(hb p (mem_cons_self ..)).2 a ha
  obtain⟨j,hj⟩:=(hb q (mem_cons_of_mem _ hq)).2 a hal
  have ne:p.1≠q.1:=fun z=>nd.1 (by rw [z];exact mem_map.mpr ⟨q,hq,rfl⟩)
  have up:=hu p (mem_cons_self ..)
  have uq:=hu q (mem_cons_of_mem _ hq)
  rcases Nat.le_total i j with h|h
  .exact apart w up uq ne hi hj h
  .exact apart w uq up ne.symm hj hi h
theorem qc2 {S:Ts} (w:WF S):∀{n:Nat} {z:Str} {zs:List Str},BenP S n z zs->zs.Nodup/\∀y∈zs,y=z\/y∈S.hl.map (·.n)
 |0,z,_,⟨parts,rest,hp,rfl,hb⟩=>by
  have:parts=[]:=by
   cases parts with
   |nil=>rfl
   |cons p r=>exact(hb p (mem_cons_self ..)).elim
  subst this
  exact⟨by simp [flat],fun y hy=> .inl (by simpa [flat] using hy)⟩
 |n+1,z,_,⟨parts,rest,hp,rfl,hb⟩=>by
  have kd:=qfe w z
  have hk:∀p∈parts,p.1∈qb1 S z:=fun p h=>hp.mem_iff.mp (mem_append_left _ (mem_map.mpr ⟨p,h,rfl⟩))
  have hu:∀p∈parts,upS S p.1=some z:=fun p h=>kid_up w (hk p h)
  have hn:(parts.map (·.1)).Nodup:=(nodup_append.mp (hp.nodup_iff.mpr kd)).1
  have fl:=qem w (z:=z) hn hu fun p h=>⟨(qc2 w (hb p h)).1,ben_anc w (hb p h)⟩
  refine⟨nodup_cons.mpr ⟨fun hm=>?_,fl⟩,fun y hy=>?_⟩
  .obtain⟨l,hl,hal⟩:=mem_flatten.mp hm
   obtain⟨q,hq,rfl⟩:=mem_map.mp hl
   obtain⟨k,hk'⟩:=ben_anc w (hb q hq) z hal
   refine no_cycle w (k:=k) (z:=z) ?_
   rw [qdo,hk']
   show (upS S q.1).bind _=_
   rw [hu q hq];rfl
  .rcases mem_cons.mp hy with rfl|hy
   .exact .inl rfl
   .obtain⟨l,hl,hal⟩:=mem_flatten.mp hy
    obtain⟨q,hq,rfl⟩:=mem_map.mp hl
    have hq1:q.1∈S.hl.map (·.n):=by
     obtain⟨e,he,e1⟩:=mem_map.mp (hk q hq)
     rw [<-e1];exact mem_map.mpr ⟨e,(mem_filter.mp he).1,rfl⟩
    rcases(qc2 w (hb q hq)).2 y hal with rfl|h
    .exact .inr hq1
    .exact .inr h
theorem qdi {S:Ts} (w:WF S) (hz:S.hl.length<=60):Slim S:=fun n z zs h=>by
 obtain⟨nd,hm⟩:=qc2 w h
 have:=nd_le (m:=z :: S.hl.map (·.n)) nd fun y hy=>by
  rcases hm y hy with rfl|h
  .exact mem_cons_self ..
  .exact mem_cons_of_mem _ h
 rw [length_cons,length_map] at this
 omega
def qcn (S:Ts) (y:Str):Pt:=match S.at y with
 |some e=>⟨e.x.pa,e.x.kp,e.x.fp⟩
 |none=>⟨0, [],noF⟩
theorem qdk {S:Ts} {y:Str} {e:He} (h:S.at y=some e):qcn S y=⟨e.x.pa,e.x.kp,e.x.fp⟩:=by unfold qcn;rw [h]
def qe2 (S:Ts):Prop:=S.ws.length<=100/\∀e∈S.hl,∀z,e.x.fp z≠none->z∈S.ws
def w30 (K:Frag) (d:Ad):Sp:=fun vs H Q E=>∃(t:Addr) (S:Ts) (x:V),vs=[.ref t,x]/\qcr d H t S/\WF S/\qe2 S/\qdv K H x/\
 (∀e,who S x=some e->Dep S 12 e.n/\∀l zs k' H',qb0 H H'->H l=none->H' l=some (.dK k')->Ben S 12 e.n zs->AD k' (qcu (zs.map (qcn S)))->Q (.ref l) H')/\(who S x=none->∀l,H l=none->E (.ref d.w0i) none (upd H l (.lst [x])))
include T in
theorem w0a:FnOk P w K mg base (My.CX1 P w) 17 d.w0y d.w0v ["self","name"] (w30 K d):=by
 refine okX T.w3d w38 (fun vs H Q E h=>?_) (fun cdv A outer s H vs Q E hr h=>?_)
 .obtain⟨t,S,x,rfl,_⟩:=h;rfl
 obtain⟨t,S,x,rfl,hT,hW,hO,hx,q1,q2⟩:=h
 refine⟨_,(qa5 (qai (qag ((w9q T).mono (by decide)) hr rfl T.wbh T.w7r.kp T.wbo .nil qaw (qa0 (qc4 (caps:=[0]) (cn:=["self"]) (qbd rfl rfl (by rfl) (by rfl) rfl ⟨rfl,trivial⟩ (by rfl) rfl ⟨⟨rfl,rfl,rfl,rfl,_,rfl⟩,trivial⟩ (by decide)) rfl (qbv (qae (pv 0) T.w00 T.w07 ((w16 T).mono (by decide)) hr T.w14 .nil qas (qa0 (pv 1) qa2))) (fun _ _ _ _=>qcg) (fun _ _ _ _=>(qbj (qck (qcc hr) (qbj (pv 1) rfl) (pv 0) (fun _ _=>rfl)) rfl))) qa2)))),?_⟩
 walk_at "d"
 dsimp only [cxC]
 refine qaf (σ:=[some (.ref t),some (x)]) rfl ?_
 have ct:=T.w00
 have ch:=T.w0z
 have nh:qap K d.w01 "houses":=T.w03
 have nf:qap K d.w04 "promise":=T.w08
 obtain⟨dx,ht⟩:=hT.1
 have nd:=hT.2.2.2.1
 walk_at "g"
 refine⟨t,S,x,rfl,hT,qdi hW hT.2.2.2.2.1,hx,fun e he=>⟨(q1 e he).1,?_⟩,q2⟩
 obtain⟨hD,q⟩:=q1 e he
 intro lb zs H1 s1 hlb eb hB
 walk_at "g"
 have hT1:=hT.same s1
 obtain⟨⟨_,ht1⟩,hw,hh,_,hz,hE⟩:=hT1
 have hbn:=qc2 hW (Ben.part hB)
 have hzs:=qdi hW hz 12 _ _ (Ben.part hB)
 have hin:∀y∈zs,∃ey,S.at y=some ey/\ey∈S.hl:=fun y hy=>by
  have hy':y∈S.hl.map (·.n):=by
   rcases hbn.2 y hy with rfl|h
   .obtain⟨z,rfl⟩:∃z,x=.str z:=by
     rcases hx with h|⟨_,nz⟩
     .exact h
     .rw [qct nz] at he;cases he
    exact mem_map.mpr ⟨e,(qb9 he).1,rfl⟩
   .exact h
  obtain⟨ey,hm,rfl⟩:=mem_map.mp hy'
  exact⟨ey,qf0 nd hm,hm⟩
 intro C s0 H0 fp na hna
 refine qg9 zs.length (fun i H'=>H'=upd H1 na (.lst (((zs.take i).map (qcn S)).map fun u=> .ref u.a))) rfl ?_ ?_ ?_ ?_
 .rintro i H' hi rfl
  exact⟨_,.str zs[i],SqL.of (qad eb hna),by rw [getElem?_map,getElem?_eq_getElem hi];rfl⟩
 .rintro H' rfl
  exact⟨_,SqL.of (qad eb hna),by rw [length_map];exact Nat.le_refl _⟩
 .rintro i H' v H'' hi rfl ⟨rfl,hy⟩
  have hv:=hy _ (SqL.of (qad eb hna))
  rw [getElem?_map,getElem?_eq_getElem hi] at hv
  cases hv
  obtain⟨ey,h1,hm⟩:=hin _ (getElem_mem hi)
  obtain⟨⟨dy,hya⟩,_⟩:=hE ey hm
  walk_at "g"
  refine r_dgO (h:=ey.a) (rd_new (.inl hh) hna) (by rw [qd6,h1];rfl) ?_
  walk_at "g"
  rw [qbr,take_add_one,getElem?_eq_getElem hi]
  congr 2
  simp only [Option.toList_some,map_append,map_cons,List.map_nil,qdk h1]
 rintro H' rfl
 rw [take_length]
 have s2:=qa7 hna (.lst ((zs.map (qcn S)).map fun u=>V.ref u.a))
 have eN:upd H1 na (.lst ((zs.map (qcn S)).map fun u=>V.ref u.a)) na=some (.lst ((zs.map (qcn S)).map fun u=>V.ref u.a)):=qa1
 walk_at "g"
 refine⟨na,zs.map (qcn S),S.ws,rfl,SqL.of eN,hO.1,fun u hu=>?_,fun l k' H2 s3 hl el hA=>q l zs k' H2 ((s1.trans s2).trans s3) ((s1.trans s2).free hl) el hB hA⟩
 obtain⟨y,hy,rfl⟩:=mem_map.mp hu
 obtain⟨ey,h1,hm⟩:=hin y hy
 obtain⟨_,hp,hA,_⟩:=hE ey hm
 rw [qdk h1]
 exact⟨s2 _ _ hp,hA,hO.2 ey hm⟩
def w7b (K:Frag) (d:Ad):Sp:=fun vs H Q _=>∃(a:Addr) (z1 z2:Str),vs=[.ref a,.str z1,.str z2]/\z1.length<=100/\z2.length<=100/\H a=some (XS a d.w06 none)/\
 ∀dx H',H dx=none->dx≠a->H' a=some (XS a d.w06 (some dx))->H' dx=some (XD dx [("house",.str z1),("ware",.str z2)])->(∀b,b≠a->b≠dx->H' b=H b)->Q .non H'
theorem len_app (x y:Str):(x++y).length=x.length+y.length:=by
 show (x.cps++y.cps).size=x.cps.size+y.cps.size
 simp
section
local macro_rules | `(tactic| walk_at "sp") => `(tactic| first
 |(with_reducible first|refine r_fmt ?_|refine r_join ?_|refine r_part0 ?_|refine r_part1 ?_|refine r_rI ?_|refine r_xi ?_|refine r_sxf ?_|refine r_exs ?_) |((with_reducible refine r_szS ?z ?_);(case z=>first|(show _<=16777216;omega) |(simp only [len_app];show _<=16777216;omega))))
include T in
theorem w77:FnOk P w K mg base CX0 1 d.w3i d.w2x ["self","house","ware"] (w7b K d):=by
 refine T.w8h.ok w7h (fun vs H Q E h=>?_) (fun cdv A outer s H vs Q E hr h=>?_)
 .obtain⟨a,z1,z2,rfl,_⟩:=h;rfl
 obtain⟨a,z1,z2,rfl,l1,l2,ha,q⟩:=h
 refine⟨_,(qa3 (qb3 (pe_xinit T.w69 T.w2k rfl T.wap (qa0 (pv 0) (qa0 (pe_join (My.PJ.cons qc0 (My.PJ.cons (pe_fmt (pv 1)) (My.PJ.cons qc0 (My.PJ.cons (pe_fmt (pv 2)) My.PJ.nil))))) qa2))))
  (qa3 (ps_xf (pv 0) (pv 1))
  (qa5 (ps_xf (pv 0) (pv 2))))),?_⟩
 walk_at "d"
 refine qaf (σ:=[some (.ref a),some (.str z1),some (.str z2)]) rfl ?_
 have e0:Str.empty.length=0:=by decide
 have e1:(Str.ofString "too much is promised at ").length=24:=by decide
 have e2:(Str.ofString " in ").length=4:=by decide
 walk_at "g"
 refine⟨a,none,_,rfl,(show 1<=16777216 by decide),ha,?_⟩
 walk_at "g"
 refine r_xf0 T.w1k T.web ha fun dx hd ne=>?_
 walk_at "g"
 refine r_xf1 (dx:=dx) (fs:=[(_,_)]) T.w1k T.wel qa1 (by rw [qa6 ne];exact qa1) (by show 1 < 1000;decide) ?_
 walk_at "g"
 refine q dx _ hd ne ?_ ?_ ?_
 .rw [qa6 (Ne.symm ne)];exact qa1
 .rw [qa1];rfl
 .intro b h1 h2
  rw [qa6 h2,qa6 h1,qa6 h2]
def NoP (d:Ad) (H:Hp) (z1 z2:Str) (E:XK):Prop:=∀dx H',qb0 H H'->H dx=none->H' dx=some (XD dx [("house",.str z1),("ware",.str z2)])->E (.ref d.w06) (some dx) H'
theorem NoP.same {d:Ad} {H H':Hp} {z1 z2:Str} {E:XK} (h:NoP d H z1 z2 E) (s:qb0 H H'):NoP d H' z1 z2 E:=fun dx H2 s2 hd e=>h dx H2 (s.trans s2) (s.free hd) e
def w5z (K:Frag) (d:Ad):Sp:=fun vs H Q E=>∃(x:Str) (a b:Addr) (ka kb:List (Key × V)) (f g:Str->Option Int),vs=[.str x,.ref a,.ref b]/\Rd H a (.dK ka)/\Rd H b (.dK kb)/\AD ka f/\AD kb g/\ka.length < 64/\x.length<=100/\(∀z,f z≠none->z.length<=100)/\
 ((∀y,¬qew f g y)->∀H',qb0 H H'->Q .non H')/\∀z,qew f g z->(∀y,qew f g y->leS z y)->NoP d H x z E
local macro_rules | `(tactic| walk_at "sp") => `(tactic| (with_reducible refine r_rI ?_))
include T in
theorem w20:FnOk P w K mg base (My.CX1 P w) 3 d.w2b d.w1x ["name","promises","cap"] (w5z K d):=by
 refine okX T.w1e w35 (fun vs H Q E h=>?_) (fun cdv A outer s H vs Q E hr h=>?_)
 .obtain⟨x,a,b,ka,kb,f,g,rfl,_⟩:=h;rfl
 obtain⟨x,a,b,ka,kb,f,g,rfl,ha,hb,hf,hg,hz,hx,hl,q1,q2⟩:=h
 refine⟨_,(qa3 (qah (i:=3) w35.nd rfl (Or.inl rfl) (qag ((wci T).mono (by decide)) hr rfl T.wd7 T.way.kp T.wcx .nil qaw (qa0 (pv 1) (qa0 (pv 2) qa2))))
  (qa5 (qb8 (qaj qcx (pv 3) qdg (qar _)) (qa5 (ps_raiseI rfl T.w69 ((w77 T).mono (by decide)) hr T.w8n rfl T.wal qas (qa0 (pv 0) (qa0 (pv 3) qa2)))) qam))),?_⟩
 walk_at "d"
 refine qaf (σ:=[some (.str x),some (.ref a),some (.ref b),none]) rfl ?_
 walk_at "g"
 refine⟨a,b,ka,kb,f,g,rfl,ha,hb,hf,hg,hz,fun H1 s1 hn=>?_,fun z H1 s1 hv hle=>?_⟩
 .walk_at "g"
  exact q1 hn _ s1
 .have hzl:=hl z hv.1
  walk_at "g"
  rename_i p hp
  refine⟨p,x,z,rfl,hx,hzl,qa1,fun dx H' hd ne ha hx rest=>⟨rfl,some dx,ha,?_⟩⟩
  rw [qa6 ne] at hd
  refine q2 z hv hle dx _ (fun b o e=>?_) (s1.free hd) (by rw [qd2 ne];exact hx)
  have e1:=s1 _ _ e
  have h:b≠p:=qa4 e1 hp
  rw [qd2 h,rest b h (qa4 e1 hd),qa6 h];exact e1
def Fine (S:Ts) (fm:Str->Option Int) (y:Str):Prop:=∃e bs,S.at y=some e/\Ben S 12 y bs/\∀v,¬qew (qdh (qcu (bs.map (qcn S))) fm) e.x.fc v
def w5a (K:Frag) (d:Ad):Sp:=fun vs H Q E=>∃(t lb m:Addr) (S:Ts) (zs:List Str) (km:List (Key × V)) (fm:Str->Option Int),vs=[.ref t,.ref lb,.ref m]/\qcr d H t S/\WF S/\qe2 S/\SqL K H lb (zs.map V.str)/\H m=some (.dK km)/\AD km fm/\S.ws.length<=50/\(∀z∈S.ws,z.length<=100)/\(∀z,fm z≠none->z∈S.ws)/\
 (∀y∈zs,y.length<=100/\Dep S 12 y/\∃e,S.at y=some e)/\((∀y∈zs,Fine S fm y)->∀H',qb0 H H'->Q .non H')/\
 ∀(i:Nat) (y:Str) (e:He) (bs:List Str) (z:Str),zs[i]?=some y->S.at y=some e->Ben S 12 y bs->qew (qdh (qcu (bs.map (qcn S))) fm) e.x.fc z->(∀v,qew (qdh (qcu (bs.map (qcn S))) fm) e.x.fc v->leS z v)->(∀(j:Nat) (y':Str),j < i->zs[j]?=some y'->Fine S fm y')->NoP d H y z E
include T in
theorem w2u:FnOk P w K mg base (My.CX1 P w) 18 d.w23 d.w1r ["self","names","more"] (w5a K d):=by
 refine okX T.w5v w2s (fun vs H Q E h=>?_) (fun cdv A outer s H vs Q E hr h=>?_)
 .obtain⟨t,lb,m,S,zs,km,fm,rfl,_⟩:=h;rfl
 obtain⟨t,lb,m,S,zs,km,fm,rfl,hT,hW,hO,hL,hm,hA,hws,hw100,hfm,hy,q1,q2⟩:=h
 refine⟨_,(qa5 (qbe (qel rfl rfl) rfl (qbv (pv 1)) (qaq (i:=3) w2s.nd rfl (Or.inl rfl)) (qa5 (qb3 (qc7 ((w20 T).mono (by decide)) hr rfl T.w2d T.w1e.kp T.w28 .nil qas (qa0 (pv 3) (qa0 (qag ((wb0 T).mono (by decide)) hr rfl T.wc5 T.wa7.kp T.wbz .nil qaw (qa0 (qae (pv 0) T.w00 T.w02 ((w0a T).mono (by decide)) hr T.w0b .nil qas (qa0 (pv 3) qa2)) (qa0 (pv 2) qa2))) (qa0 (qbj (qck (qcc hr) (qbj (pv 0) rfl) (pv 3) (fun _ _=>rfl)) rfl) qa2)))))))),?_⟩
 walk_at "d"
 refine qaf (σ:=[some (.ref t),some (.ref lb),some (.ref m),none]) rfl ?_
 have ct:=T.w00
 have ch:=T.w0z
 have nh:qap K d.w01 "houses":=T.w03
 have nf:qap K d.w04 "cap":=T.w0n
 walk_at "g"
 refine qfh (xs:=zs.map V.str) (fun i σ H'=>qb0 H H'/\(∃w,σ=[some (.ref t),some (.ref lb),some (.ref m),w])/\∀(j:Nat) (y':Str),j < i->zs[j]?=some y'->Fine S fm y') ⟨qb0.refl _,⟨_,rfl⟩,fun j y' h=>absurd h (by omega)⟩ ?_ ?_ ?_
 .rintro i σ H' _ ⟨sm,_⟩;exact sm.seq hL
 .rintro i v σ H' hv ⟨sm,⟨w,rfl⟩,hall⟩
  rw [getElem?_map] at hv
  obtain⟨y,hyi,rfl⟩:=Option.map_eq_some_iff.mp hv
  obtain⟨hyl,hD,e,h1⟩:=hy y (mem_of_getElem? hyi)
  obtain⟨dx,ht⟩:=(hT.same sm).1
  walk_at "g"
  have sup:∀bs:List Str,(∀b∈bs,∃eb,S.at b=some eb/\eb∈S.hl)->∀z,qcu (bs.map (qcn S)) z≠none->z∈S.ws:=fun bs hbs=>by
   refine sum_sup (fun u hu z hz=>?_) noF (fun z hz=>absurd rfl hz)
   obtain⟨b,hb1,rfl⟩:=mem_map.mp hu
   obtain⟨eb,h3,h4⟩:=hbs b hb1
   rw [qdk h3] at hz
   exact hO.2 eb h4 z hz
  refine⟨t,S,.str y,rfl,hT.same sm,hW,hO,.inl ⟨y,rfl⟩,fun e' he'=>?_,fun hn=>?_⟩
  .have ee:e=e':=Option.some.inj (h1.symm.trans he')
   subst ee
   have hme:=qb9 h1
   rw [hme.2]
   refine⟨hD,fun l bs k' H2 s2 hl el hB hA2=>?_⟩
   have hbs:∀b∈bs,∃eb,S.at b=some eb/\eb∈S.hl:=fun b hb1=>by
    have hb2:b∈S.hl.map (·.n):=by
     rcases(qc2 hW (Ben.part hB)).2 b hb1 with rfl|h
     .exact mem_map.mpr ⟨e,hme.1,hme.2⟩
     .exact h
    obtain⟨eb,h3,rfl⟩:=mem_map.mp hb2
    exact⟨eb,qf0 hW.1 h3,h3⟩
   have l1:=hA2.le (sup bs hbs)
   have l2:=hA.le hfm
   walk_at "g"
   refine⟨l,m,k',km,_,fm,rfl,.inl el,(sm.trans s2) _ _ hm,hA2,hA,by omega,by omega,fun lx kx H3 s3 hlx elx hA3=>?_⟩
   have sx:=(sm.trans s2).trans s3
   obtain⟨⟨dx3,ht3⟩,_,hh3,_,_,hE3⟩:=hT.same sx
   obtain⟨⟨dh,ho⟩,_,_,hc,hcA⟩:=hE3 e hme.1
   walk_at "g"
   refine r_dgO (h:=e.a) (.inl hh3) (by rw [qd6,h1];rfl) ?_
   walk_at "g"
   have l3:=hA3.le (ws:=S.ws) (qgb (sup bs hbs) hfm)
   refine⟨y,lx,e.x.ca,kx,e.x.kc,_,e.x.fc,rfl,.inl elx,.inl hc,hA3,hcA,by omega,hyl,fun z hz=>hw100 z (qgb (sup bs hbs) hfm z hz),fun hn H4 s4=>?_,fun z hv hle=>?_⟩
   .refine⟨sx.trans s4,⟨_,rfl⟩,fun j y' hj hy'=>?_⟩
    by_cases c:j=i
    .subst c
     rw [hyi] at hy'
     cases hy'
     exact⟨e,bs,h1,hB,hn⟩
    .exact hall j y' (by omega) hy'
   .exact(q2 i y e bs z hyi h1 hB hv hle hall).same sx
  .rw [show who S (.str y)=some e from h1] at hn;cases hn
 .rintro σ H' ⟨sm,⟨w,rfl⟩,hall⟩
  rw [length_map] at hall
  walk_at "g"
  refine q1 (fun y hy=>?_) _ sm
  obtain⟨j,hj,e⟩:=mem_iff_getElem.mp hy
  exact hall j y hj (by rw [getElem?_eq_getElem hj,e])
end
def w9u (K:Frag) (d:Ad):Sp:=fun vs H Q _=>∃i:Int,vs=[.int i]/\Q (.bl true) H
def w6b (K:Frag) (d:Ad):Sp:=fun vs H Q _=>∃i a b:Int,vs=[.int i,.int a,.int b]/\a<=i/\i<=b/\Q (.bl true) H
def w90 (K:Frag) (d:Ad):Sp:=fun vs H Q _=>∃i:Int,vs=[.int i]/\0<=i/\i<=10^30/\Q (.bl true) H
include T in
theorem w9s:FnOk P w K mg base CX0 1 d.w5s d.w4y ["thing"] (w9u K d):=by
 refine T.w7k.ok w9z (fun vs H Q E h=>?_) (fun cdv A outer s H vs Q E hr h=>?_)
 .obtain⟨i,rfl,_⟩:=h;rfl
 obtain⟨i,rfl,q⟩:=h
 refine⟨_,(qa5 (qai (qe5 (qac qbn rfl T.w0j PyProof.Rows.boot_isinstance (qa0 (pv 0) (qa0 (qcl (v:=.ty "int") rfl T.wdt PyProof.Rows.boot_int rfl) qa2))) (qe4 (pe_not (qac qbn rfl T.w0j PyProof.Rows.boot_isinstance (qa0 (pv 0) (qa0 (qcl (v:=.ty "bool") rfl T.wdj PyProof.Rows.boot_bool rfl) qa2)))))))),?_⟩
 walk_at "d"
 refine qaf (σ:=[some (.int i)]) rfl ?_
 walk_at "g"
 exact q
include T in
theorem w3r:FnOk P w K mg base CX0 2 d.w2j d.w2a ["thing","least","most"] (w6b K d):=by
 refine T.w2o.ok w6h (fun vs H Q E h=>?_) (fun cdv A outer s H vs Q E hr h=>?_)
 .obtain⟨i,a,b,rfl,_⟩:=h;rfl
 obtain⟨i,a,b,rfl,h1,h2,q⟩:=h
 refine⟨_,(qa5 (qai (qe5 (qag ((w9s T).mono (by decide)) hr rfl T.wbb T.w7k.kp T.wbf .nil qaw (qa0 (pv 0) qa2)) (qe4 (pe_chain op_le op_le (pv 1) (pv 0) (pv 2)))))),?_⟩
 walk_at "d"
 refine qaf (σ:=[some (.int i),some (.int a),some (.int b)]) rfl ?_
 walk_at "g"
 refine⟨i,rfl,?_⟩
 walk_at "g"
 rw [decide_eq_true h2]
 exact q
include T in
theorem w9p:FnOk P w K mg base CX0 3 d.w52 d.w48 ["thing"] (w90 K d):=by
 refine T.w6p.ok w9i (fun vs H Q E h=>?_) (fun cdv A outer s H vs Q E hr h=>?_)
 .obtain⟨i,rfl,_⟩:=h;rfl
 obtain⟨i,rfl,h1,h2,q⟩:=h
 refine⟨_,(qa5 (qai (qag ((w3r T).mono (by decide)) hr rfl T.w41 T.w2o.kp T.w3t .nil qaw (qa0 (pv 0) (qa0 qa8 (qa0 (qal op_pow qa8 qa8) qa2)))))),?_⟩
 walk_at "d"
 refine qaf (σ:=[some (.int i)]) rfl ?_
 walk_at "g"
 refine⟨i,0,_,rfl,h1,?_,?_⟩
 .exact h2
 walk_at "g"
 exact q
theorem inV_str {z:Str} {ws:List Str} (h:z∈ws):inV (.str z) (ws.map V.str)=true:=by
 unfold inV
 rw [List.any_eq_true]
 exact⟨.str z,mem_map.mpr ⟨z,h,rfl⟩,by simp [eqV]⟩
theorem r_notInT {K:Frag} {H:Hp} {Q:VK} {p:Addr} {z:Str} {ws:List Str} (hS:SqL K H p (ws.map V.str)) (h:z∈ws) (q:Q (.bl false) H):rIn K true (.str z) (.ref p) H Q:=by
 refine⟨p,_,rfl,.inl hS,rfl,?_,?_⟩
 .rw [all_eq_true]
  intro x hx
  obtain⟨y,_,rfl⟩:=mem_map.mp hx
  rfl
 .rw [inV_str h];exact q
def w8r (K:Frag) (d:Ad):Sp:=fun vs H Q _=>∃(a w:Addr) (k:List (Key × V)) (f:Str->Option Int) (ws:List Str),vs=[.ref a,.ref w]/\H a=some (.dK k)/\AD k f/\k.length<=1000/\H w=some (.lst (ws.map V.str))/\(∀z n,f z=some n->z∈ws/\0<=n/\n<=10^30)/\
 ∀l k' H',qb0 H H'->H l=none->H' l=some (.dK k')->AD k' (qbb f)->Q (.ref l) H'
include T in
theorem w56:FnOk P w K mg base (My.CX1 P w) 4 d.w42 d.w39 ["handed","wares"] (w8r K d):=by
 refine okX T.w3u w3a (fun vs H Q E h=>?_) (fun cdv A outer s H vs Q E hr h=>?_)
 .obtain⟨a,w,k,f,ws,rfl,_⟩:=h;rfl
 obtain⟨a,w,kvs,f,ws,rfl,ha,hA,hz,hw,hf,q⟩:=h
 refine⟨_,(qa3 (qb8 (qc9 (qbz (qac qbn rfl T.w0j PyProof.Rows.boot_isinstance (qa0 (pv 0) (qa0 (qcl (v:=.ty "dict") rfl T.w4m PyProof.Rows.boot_dict rfl) qa2))))) (qa5 (qbq rfl T.w7q rfl T.w7o qas (qa0 qc0 qa2))) qam)
  (qa3 (qf5 (qbe (qel rfl rfl) rfl (qek (pv 0)) (qaq (i:=2) w3a.nd rfl (Or.inl rfl)) (qa5 (qb8 (PW.pt (qe8 (qc9 (qbz (qac qbn rfl T.w0j PyProof.Rows.boot_isinstance (qa0 (pv 2) (qa0 (qcl (v:=.ty "str") rfl T.we1 PyProof.Rows.boot_str rfl) qa2))))) (qd3 (qaj qd5 (pv 2) (pv 1) (by rfl))))) (qa5 (qbq rfl T.wb6 rfl T.wb1 qas (qa0 qc0 qa2))) qam))))
  (qa3 (qf5 (qbe (qel rfl rfl) rfl (qek (pv 0)) (qaq (i:=3) w3a.nd rfl (Or.inl rfl)) (qa5 (qb8 (qc9 (qbz (qag ((w9p T).mono (by decide)) hr rfl T.wah T.w6p.kp T.w9y .nil qaw (qa0 (qck (qcc hr) (pv 0) (pv 3) (fun _ _=>rfl)) qa2)))) (qa5 (qbq rfl T.w7q rfl T.w7o qas (qa0 qc0 qa2))) qam))))
  (qa5 (qai (qag ((w6u T).mono (by decide)) hr rfl T.w7f T.w4j.kp T.w7e .nil qaw (qa0 (pv 0) qa2))))))),?_⟩
 walk_at "d"
 refine qaf (σ:=[some (.ref a),some (.ref w),none,none]) rfl ?_
 walk_at "g"
 refine r_itD ha fun o=>?_
 have hwa:w≠a:=ne_of hw ha (by intro z;cases z)
 refine f_dict (fun i σ H'=>H'=upd H a (.frz o (.dK kvs))/\∃w2 w3,σ=[some (.ref a),some (.ref w),w2,w3]) ⟨rfl,_,_,rfl⟩ ?_ ?_ ?_
 .rintro i σ H' _ ⟨rfl,_⟩;exact qa1
 .rintro i k v σ H' hk ⟨rfl,w2,w3,rfl⟩
  obtain⟨z,n,rfl,rfl,hfz,hzi⟩:=hA.at hk
  have hw':upd H a (.frz o (.dK kvs)) w=some (.lst (ws.map V.str)):=by rw [qa6 hwa];exact hw
  show gName _ (.str z) _ _ _
  walk_at "g"
  refine r_notInT (SqL.of hw') (hf z n hfz).1 ?_
  walk_at "g"
  exact⟨rfl,_,_,rfl⟩
 .rintro σ H' ⟨rfl,w2,w3,rfl⟩
  refine qf4 (thaw1 qa1 (qch ha)) ?_
  have s2:=qby ha (sb_frz (o:=o) ha)
  have ha2:upd (upd H a (.frz o (.dK kvs))) a (.dK kvs) a=some (.dK kvs):=qa1
  generalize upd (upd H a (.frz o (.dK kvs))) a (.dK kvs)=H2 at*
  walk_at "g"
  refine r_itD ha2 fun o2=>?_
  refine f_dict (fun i σ H'=>H'=upd H2 a (.frz o2 (.dK kvs))/\∃w3,σ=[some (.ref a),some (.ref w),w2,w3]) ⟨rfl,_,rfl⟩ ?_ ?_ ?_
  .rintro i σ H' _ ⟨rfl,_⟩;exact qa1
  .rintro i k v σ H' hk ⟨rfl,w3,rfl⟩
   obtain⟨z,n,rfl,rfl,hfz,hzi⟩:=hA.at hk
   have hRd:Rd (upd H2 a (.frz o2 (.dK kvs))) a (.dK kvs):=.inr ⟨o2,qa1⟩
   show gName _ (.str z) _ _ _
   walk_at "g"
   refine⟨n,rfl,(hf z n hfz).2.1,(hf z n hfz).2.2,?_⟩
   walk_at "g"
   exact⟨rfl,_,rfl⟩
  .rintro σ H' ⟨rfl,w3,rfl⟩
   refine qf4 (thaw1 qa1 ?_) ?_
   .exact qch ha
   have s3:=qby ha2 (sb_frz (o:=o2) ha2)
   have ha3:upd (upd H2 a (.frz o2 (.dK kvs))) a (.dK kvs) a=some (.dK kvs):=qa1
   generalize upd (upd H2 a (.frz o2 (.dK kvs))) a (.dK kvs)=H3 at*
   walk_at "g"
   refine⟨a,kvs,f,rfl,ha3,hA,hz,fun l k' H4 s4 hl el hA4=>?_⟩
   walk_at "g"
   exact q l k' H4 ((s2.trans s3).trans s4) ((s2.trans s3).free hl) el hA4
def w8t (K:Frag) (d:Ad):Sp:=fun vs H Q _=>∃(x dx:Addr) (o:Ho),vs=[.ref x,eV o.el,.ref o.pa,.ref o.ca,.int o.w]/\H x=some (.ins d.w04 dx [])/\∀H',H' x=some (.ins d.w04 dx (fsH o))->SameBut x H H'->Q .non H'
include T in
theorem w7u:FnOk P w K mg base CX0 1 d.w3v d.w3b ["self","elder","promise","cap","weight"] (w8t K d):=by
 refine T.w9e.ok w8i (fun vs H Q E h=>?_) (fun cdv A outer s H vs Q E hr h=>?_)
 .obtain⟨x,dx,o,rfl,_⟩:=h;rfl
 obtain⟨x,dx,o,rfl,hx,q⟩:=h
 refine⟨_,(qa3 (qei (pv 0) (pv 1) rfl)
  (qa3 (qei (pv 0) (pv 2) rfl)
  (qa3 (qei (pv 0) (pv 3) rfl)
  (qa5 (qei (pv 0) (pv 4) rfl))))),?_⟩
 walk_at "d"
 refine qaf (σ:=[some (.ref x),some (eV o.el),some (.ref o.pa),some (.ref o.ca),some (.int o.w)]) rfl ?_
 have cl:=T.w0z
 have n1:qap K d.w04 "elder":=T.w0k
 have n2:qap K d.w04 "promise":=T.w08
 have n3:qap K d.w04 "cap":=T.w0n
 have n4:qap K d.w04 "weight":=T.w0s
 walk_at "g"
 refine r_fsk qa1 cl n2 (by show 1 < 1000;decide) ?_
 walk_at "g"
 refine r_fsk qa1 cl n3 (by show 2 < 1000;decide) ?_
 walk_at "g"
 refine r_fsk qa1 cl n4 (by show 3 < 1000;decide) ?_
 walk_at "g"
 refine q _ (by rw [qa1];rfl) fun b u hb e=>?_
 rw [qa6 hb,qa6 hb,qa6 hb,qa6 hb]
 exact e
def w8p (K:Frag) (d:Ad):Sp:=fun vs H Q _=>∃(w a b:Addr) (el:Option Str) (ws:List Str) (ka kb:List (Key × V)) (f g:Str->Option Int) (wt:Int),vs=[.ref w,eV el,.ref a,.ref b,.int wt]/\H w=some (.lst (ws.map V.str))/\
 H a=some (.dK ka)/\AD ka f/\ka.length<=1000/\H b=some (.dK kb)/\AD kb g/\kb.length<=1000/\(∀z n,f z=some n->z∈ws/\0<=n/\n<=10^30)/\(∀z n,g z=some n->z∈ws/\0<=n/\n<=10^30)/\1<=wt/\wt<=1000/\
 ∀h o H',qb0 H H'->H h=none->H o.pa=none->H o.ca=none->HoAt d H' h o->o.el=el->o.w=wt->(∀z,o.fp z=qbb f z)->(∀z,o.fc z=qbb g z)->Q (.ref h) H'
include T in
theorem w5h:FnOk P w K mg base (My.CX1 P w) 5 d.w3y d.w3g ["wares","elder","promise","cap","weight"] (w8p K d):=by
 refine okX T.w43 w3k (fun vs H Q E h=>?_) (fun cdv A outer s H vs Q E hr h=>?_)
 .obtain⟨w,a,b,el,ws,ka,kb,f,g,wt,rfl,_⟩:=h;rfl
 obtain⟨w,a,b,el,ws,ka,kb,f,g,wt,rfl,hw,ha,hA,hz,hb,hB,hz2,hf,hg,w0,w1,q⟩:=h
 refine⟨_,(qa3 (qah (i:=5) w3k.nd rfl (Or.inl rfl) (qc7 ((w56 T).mono (by decide)) hr rfl T.w67 T.w3u.kp T.w64 .nil qas (qa0 (pv 2) (qa0 (pv 0) qa2))))
  (qa3 (qah (i:=6) w3k.nd rfl (Or.inl rfl) (qc7 ((w56 T).mono (by decide)) hr rfl T.w67 T.w3u.kp T.w64 .nil qas (qa0 (pv 3) (qa0 (pv 0) qa2))))
  (qa3 (qb8 (qc9 (qbz (qag ((w3r T).mono (by decide)) hr rfl T.w41 T.w2o.kp T.w3t .nil qaw (qa0 (pv 4) (qa0 qa8 (qa0 (qdl rfl T.w5u T.w0r) qa2)))))) (qa5 (qbq rfl T.wbm rfl T.wbr qas (qa0 qc0 qa2))) qam)
  (qa5 (qai (pe_make T.w5e ((w7u T).mono (by decide)) hr rfl T.wdr T.w97 .nil qaw (qa0 (pv 1) (qa0 (pv 5) (qa0 (pv 6) (qa0 (pv 4) qa2)))))))))),?_⟩
 walk_at "d"
 refine qaf (σ:=[some (.ref w),some (eV el),some (.ref a),some (.ref b),some (.int wt),none,none]) rfl ?_
 walk_at "g"
 refine⟨a,w,ka,f,ws,rfl,ha,hA,hz,hw,hf,fun lp kp H1 s1 hlp ep hAp=>?_⟩
 walk_at "g"
 refine⟨b,w,kb,g,ws,rfl,s1 _ _ hb,hB,hz2,s1 _ _ hw,hg,fun lc kc H2 s2 hlc ec hAc=>?_⟩
 walk_at "g"
 refine⟨wt,1,1000,rfl,w0,w1,?_⟩
 walk_at "g"
 intro x dx hx hdx ne
 have ep2:=s2 _ _ ep
 refine⟨x,dx,⟨el,lp,kp,qbb f,lc,kc,qbb g,wt⟩,rfl,qa1,fun H3 ex sb=>⟨rfl,?_⟩⟩
 have s3:qb0 H2 H3:=fun c o hc=>sb c o (qa4 hc hx) (by rw [qa6 (qa4 hc hx),qa6 (qa4 hc hdx)];exact hc)
 walk_at "g"
 exact q x ⟨el,lp,kp,qbb f,lc,kc,qbb g,wt⟩ H3 ((s1.trans s2).trans s3) ((s1.trans s2).free hx) hlp (s1.free hlc) ⟨⟨dx,ex⟩,s3 _ _ ep2,hAp,s3 _ _ ec,hAc⟩ rfl rfl (fun _=>rfl) fun _=>rfl
theorem qax {H H':Hp} {a:Addr} {o:HO} (s:qb0 H H') (n:H a=none):qb0 H (upd H' a o):=fun b u e=>by rw [qa6 (qa4 e n)];exact s b u e
def isL (c:Nat):Bool:=decide (97<=c) && decide (c<=122)
theorem inL:∀c:Nat,c < 128->(!(Builtin.Str.occurrences (Str.ofString "abcdefghijklmnopqrstuvwxyz") ⟨#[c]⟩ 0 (Str.ofString "abcdefghijklmnopqrstuvwxyz").length 1).isEmpty)=isL c:=by decide+kernel
def qe0 (x:Str):List Nat:=x.cps.toList
def qda (x:Str):Bool:=decide (1<=x.length) && decide (x.length<=8) && (qe0 x).all isL
theorem len_codes (x:Str):(qe0 x).length=x.length:=by simp [qe0,Str.length]
theorem qcj {z:Str} (h:qda z=true):1<=z.length/\z.length<=8/\∀c∈qe0 z,isL c=true:=by
 unfold qda at h
 rw [Bool.and_eq_true,Bool.and_eq_true,all_eq_true] at h
 exact⟨of_decide_eq_true h.1.1,of_decide_eq_true h.1.2,h.2⟩
theorem isL_lt {c:Nat} (h:isL c=true):c < 128:=by
 unfold isL at h
 rw [Bool.and_eq_true] at h
 have:=of_decide_eq_true h.2
 omega
def wbj (K:Frag) (d:Ad):Sp:=fun vs H Q _=>∃z,vs=[.str z]/\qda z=true/\∀H',qb0 H H'->Q (.bl true) H'
include T in
theorem w7p:FnOk P w K mg base CX0 1 d.w74 d.w5p ["thing"] (wbj K d):=by
 refine T.w72.ok wba (fun vs H Q E h=>?_) (fun cdv A outer s H vs Q E hr h=>?_)
 .obtain⟨z,rfl,_⟩:=h;rfl
 obtain⟨z,rfl,hg,q⟩:=h
 obtain⟨h1,h8,hL⟩:=qcj hg
 have lz:=len_codes z
 refine⟨_,(qa3 (qb8 (qc9 (qbz (qac qbn rfl T.w0j PyProof.Rows.boot_isinstance (qa0 (pv 0) (qa0 (qcl (v:=.ty "str") rfl T.we1 PyProof.Rows.boot_str rfl) qa2))))) (qa5 (qai qd4)) qam)
  (qa3 (qb8 (PW.pt (qe8 (qaj op_lt (qac call_lenS rfl T.w1h PySem.boot_len (qa0 (pv 0) qa2)) qa8 (qar _)) (qd3 (qaj qey (qac call_lenS rfl T.w1h PySem.boot_len (qa0 (pv 0) qa2)) (qdl rfl T.w7i T.w1c) (qar _))))) (qa5 (qai qd4)) qam)
  (qa5 (qai (qac (call_allB rfl) rfl T.wei PyProof.Rows.boot_all (qa0 (qc4 (caps:=[]) (cn:=[]) (qbd rfl rfl (by rfl) (by rfl) rfl trivial (by rfl) rfl trivial (by decide)) rfl (pi_str (pv 0)) (fun _ _ _ _=>qcg) (fun _ _ _ _=>(qdm op_inS (pv 0) (qdl rfl T.wbw T.w46) (by rfl)))) qa2)))))),?_⟩
 walk_at "d"
 try dsimp only [cxC]
 refine qaf (σ:=[some (.str z)]) rfl ?_
 walk_at "g"
 intro C s0 H0 fp acc hacc
 refine qg9 z.length (fun i H'=>H'=upd H acc (.lst (((qe0 z).take i).map fun c=>V.bl (isL c)))) (by simp) (fun i H' hi _=>hi) (fun H' _=>rfl) ?_ ?_
 .rintro i H' v H'' hi rfl ⟨rfl,c,hc,rfl⟩
  have hc':(qe0 z)[i]?=some c:=by unfold qe0;rw [Array.getElem?_toList];exact hc
  have c128:=isL_lt (hL c (mem_of_getElem? hc'))
  walk_at "g"
  rw [inL c c128,qbr]
  congr 2
  rw [take_add_one,hc',map_append]
  rfl
 .rintro H' rfl
  walk_at "g"
  have e1:((qe0 z).take z.length).map (fun c=>V.bl (isL c))=((qe0 z).map isL).map V.bl:=by
   rw [<-lz,take_length,map_map];rfl
  rw [e1]
  refine r_all (bs:=(qe0 z).map isL) (SqL.of qa1) ?_
  have e2:((qe0 z).map isL).all id=true:=by
   rw [List.all_map,all_eq_true]
   exact hL
  rw [e2]
  walk_at "g"
  exact q _ (qa7 hacc _)
def w7w (K:Frag) (d:Ad):Sp:=fun vs H Q _=>∃z,vs=[.str z]/\qda z=true/\∀H',qb0 H H'->Q .non H'
include T in
theorem w5b:FnOk P w K mg base (My.CX1 P w) 2 d.w4e d.w3c ["thing"] (w7w K d):=by
 refine okX T.w4b w81 (fun vs H Q E h=>?_) (fun cdv A outer s H vs Q E hr h=>?_)
 .obtain⟨z,rfl,_⟩:=h;rfl
 obtain⟨z,rfl,hg,q⟩:=h
 refine⟨_,(qa5 (qb8 (qc9 (qbz (qag ((w7p T).mono (by decide)) hr rfl T.w9b T.w72.kp T.w99 .nil qaw (qa0 (pv 0) qa2)))) (qa5 (qbq rfl T.wd6 rfl T.wd3 qas (qa0 qc0 qa2))) qam)),?_⟩
 walk_at "d"
 refine qaf (σ:=[some (.str z)]) rfl ?_
 walk_at "g"
 refine⟨z,rfl,hg,fun H' sm=>?_⟩
 walk_at "g"
 exact q _ sm
structure GoodT (ws:List Str):Prop where
 lo:1<=ws.length
 hi:ws.length<=6
 ok:∀z∈ws,qda z=true
 nd:ws.Nodup
def w8x (K:Frag) (d:Ad):Sp:=fun vs H Q _=>∃(a:Addr) (ws:List Str),vs=[.ref a]/\H a=some (.lst (ws.map V.str))/\GoodT ws/\∀H',qb0 H H'->Q (.bl true) H'
include T in
theorem w92:FnOk P w K mg base CX0 2 d.w4u d.w40 ["thing"] (w8x K d):=by
 refine T.w6r.ok w8w (fun vs H Q E h=>?_) (fun cdv A outer s H vs Q E hr h=>?_)
 .obtain⟨a,ws,rfl,_⟩:=h;rfl
 obtain⟨a,ws,rfl,ha,g,q⟩:=h
 have g1:=g.lo
 have g2:=g.hi
 have hl:(ws.map V.str).length=ws.length:=length_map _
 refine⟨_,(qa3 (qb8 (PW.pt (qe8 (qc9 (qbz (qac qbn rfl T.w0j PyProof.Rows.boot_isinstance (qa0 (pv 0) (qa0 (qcl (v:=.ty "list") rfl T.wb5 PyProof.Rows.boot_list rfl) qa2))))) (qe8 (qaj op_lt (qac qan rfl T.w1h PySem.boot_len (qa0 (pv 0) qa2)) qa8 (qar _)) (qd3 (qaj qey (qac qan rfl T.w1h PySem.boot_len (qa0 (pv 0) qa2)) (qdl rfl T.w9g T.w26) (qar _)))))) (qa5 (qai qd4)) qam)
  (qa5 (qai (qe5 (qac (call_allB rfl) rfl T.wei PyProof.Rows.boot_all (qa0 (qc4 (caps:=[]) (cn:=[]) (qbd rfl rfl (by rfl) (by rfl) rfl trivial (by rfl) rfl trivial (by decide)) rfl (qbv (pv 0)) (fun _ _ _ _=>qcg) (fun _ _ _ _=>(qag ((w7p T).mono (by decide)) hr rfl T.w9b T.w72.kp T.w99 .nil qaw (qa0 (pv 0) qa2)))) qa2)) (qe4 (qdm qen (qac call_lenT rfl T.w1h PySem.boot_len (qa0 (qb6 call_setT rfl T.wem PyProof.Rows.boot_set (qa0 (pv 0) qa2)) qa2)) (qac qan rfl T.w1h PySem.boot_len (qa0 (pv 0) qa2)) (qar _))))))),?_⟩
 walk_at "d"
 try dsimp only [cxC]
 refine qaf (σ:=[some (.ref a)]) rfl ?_
 walk_at "g"
 intro C s0 H0 fp acc hacc
 refine qg9 ws.length (fun i H'=>qb0 H H'/\H' acc=some (.lst ((List.replicate i true).map V.bl))) ⟨qa7 hacc _,qa1⟩ ?_ ?_ ?_ ?_
 .rintro i H' hi ⟨sm,_⟩
  exact⟨_,.str ws[i],SqL.of (sm _ _ ha),by rw [getElem?_map,getElem?_eq_getElem hi];rfl⟩
 .rintro H' ⟨sm,_⟩
  exact⟨_,SqL.of (sm _ _ ha),by rw [hl];exact Nat.le_refl _⟩
 .rintro i H' v H'' hi ⟨sm,ea⟩ ⟨rfl,hy⟩
  have hv:=hy _ (SqL.of (sm _ _ ha))
  rw [getElem?_map,getElem?_eq_getElem hi] at hv
  cases hv
  walk_at "g"
  refine⟨ws[i],rfl,g.ok _ (getElem_mem hi),fun H2 s2=>?_⟩
  refine⟨_,s2 _ _ ea,by rw [length_map,List.length_replicate];show _ < 16777216;omega,qax (sm.trans s2) hacc,?_⟩
  rw [qa1,List.replicate_succ',map_append];rfl
 rintro H' ⟨sm,ea⟩
 walk_at "g"
 refine r_all (bs:=List.replicate ws.length true) (SqL.of ea) ?_
 have e2:(List.replicate ws.length true).all id=true:=by simp
 rw [e2]
 walk_at "g"
 refine r_setT (zs:=ws) (SqL.of (sm _ _ ha)) g.nd (by omega) fun c hc=>?_
 walk_at "g"
 refine r_lenT2 qa1 ?_
 walk_at "g"
 refine r_lenL (SqL.of (qad (sm _ _ ha) hc)) ?_
 walk_at "g"
 rw [hl,decide_eq_true rfl]
 exact q _ (sm.trans (qa7 hc _))
def Fin (ws:List Str) (f:Str->Option Int):Prop:=∀z n,f z=some n->z∈ws/\0<=n/\n<=10^30
theorem posF_some {f:Str->Option Int} {y:Str} {n:Int} (h:qbb f y=some n):f y=some n/\0 < n:=by
 unfold qbb at h
 cases e:f y with
 |none=>rw [e] at h;cases h
 |some m=>
  rw [e] at h
  by_cases c:0 < m
  .have h':some m=some n:=by simpa [c] using h
   cases h'
   exact⟨rfl,c⟩
  .exact absurd h (by simp [c])
theorem qdb {ws:List Str} {f:Str->Option Int} (hf:Fin ws f) (y:Str):gN (qbb f) y=gN f y:=by
 unfold gN qbb
 cases e:f y with
 |none=>rfl
 |some m=>
  have:=(hf y m e).2.1
  by_cases c:0 < m
  .simp [c]
  .have z:m=0:=by omega
   subst z
   rfl
theorem pos_le {ws:List Str} {f g:Str->Option Int} (hg:Fin ws g) (h:∀y,gN f y<=gN g y):∀z n,qbb f z=some n->n<=gN (qbb g) z:=fun z n e=>by
 have e1:=(posF_some e).1
 have:=h z
 rw [qdb hg]
 unfold gN at this ⊢
 rw [e1] at this
 exact this
theorem qe3 {ws:List Str} {f:Str->Option Int} (hf:Fin ws f):∀z,qbb f z≠none->z∈ws:=fun z h=>by
 cases e:qbb f z with
 |none=>exact absurd e h
 |some n=>exact(hf z n (posF_some e).1).1
def w9a (K:Frag) (d:Ad):Sp:=fun vs H Q _=>∃(x dx w a b:Addr) (z:Str) (ws:List Str) (ka kb:List (Key × V)) (f g:Str->Option Int) (wt:Int),vs=[.ref x,.ref w,.str z,.ref a,.ref b,.int wt]/\H x=some (.ins d.w01 dx [])/\
 H w=some (.lst (ws.map V.str))/\GoodT ws/\qda z=true/\H a=some (.dK ka)/\AD ka f/\ka.length<=1000/\H b=some (.dK kb)/\AD kb g/\kb.length<=1000/\Fin ws f/\Fin ws g/\1<=wt/\wt<=1000/\(∀y,gN f y<=gN g y)/\
 ∀(S:Ts) (e:He) H',SameBut x H H'->qcr d H' x S->H S.hs=none->H S.sw=none->H e.a=none->H e.x.pa=none->H e.x.ca=none->S.hl=[e]->e.n=z->e.x.el=none->e.x.w=wt->(∀y,e.x.fp y=qbb f y)->(∀y,e.x.fc y=qbb g y)->S.ws.Perm ws->PyProof.Rows.sortedS S.ws=true->Q .non H'
include T in
theorem w8y:FnOk P w K mg base (My.CX1 P w) 6 d.w4x d.w2t ["self","wares","name","promise","cap","weight"] (w9a K d):=by
 refine okDX T.wac w63 (fun vs H Q E h=>?_) (fun cdv A outer s H vs Q E hr h=>?_)
 .obtain⟨x,dx,w,a,b,z,ws,ka,kb,f,g,wt,rfl,_⟩:=h;rfl
 obtain⟨x,dx,w,a,b,z,ws,ka,kb,f,g,wt,rfl,hx,hw,gt,gz,ha,hA,za,hb,hB,zb,ff,fg,w0,w1,le,q⟩:=h
 have g2:=gt.hi
 refine⟨_,(qa3 (qb8 (qc9 (qbz (qag ((w92 T).mono (by decide)) hr rfl T.wao T.w6r.kp T.wa0 .nil qaw (qa0 (pv 1) qa2)))) (qa5 (qbq rfl T.wb6 rfl T.wb1 qas (qa0 qc0 qa2))) qam)
  (qa3 (qb3 (qc7 ((w5b T).mono (by decide)) hr rfl T.w68 T.w4b.kp T.w61 .nil qas (qa0 (pv 2) qa2)))
  (qa3 (qah (i:=6) w63.nd rfl (Or.inl rfl) (qc7 ((w5h T).mono (by decide)) hr rfl T.w6a T.w43.kp T.w60 .nil qas (qa0 (pv 1) (qa0 qdg (qa0 (pv 3) (qa0 (pv 4) (qa0 (pv 5) qa2)))))))
  (qa3 (qb3 (qc7 ((w20 T).mono (by decide)) hr rfl T.w2d T.w1e.kp T.w28 .nil qas (qa0 (pv 2) (qa0 (qbj (pv 6) rfl) (qa0 (qbj (pv 6) rfl) qa2)))))
  (qa3 (qei (pv 0) (qac qdf rfl T.w3o PyProof.Rows.boot_sorted (qa0 (pv 1) qa2)) rfl)
  (qa5 (qei (pv 0) (pe_disp (pps_cons (pv 2) (pv 6) pps_nil) rfl rfl (by simp) (by decide)) rfl))))))),?_⟩
 walk_at "d"
 refine qaf (σ:=[some (.ref x),some (.ref w),some (.str z),some (.ref a),some (.ref b),some (.int wt),none]) rfl ?_
 have ct:=T.w00
 have ch:=T.w0z
 have n1:qap K d.w01 "sorted_wares":=T.w0c
 have n2:qap K d.w01 "houses":=T.w03
 have n3:qap K d.w04 "promise":=T.w08
 have n4:qap K d.w04 "cap":=T.w0n
 walk_at "g"
 refine⟨w,ws,rfl,hw,gt,fun H1 s1=>?_⟩
 walk_at "g"
 refine⟨z,rfl,gz,fun H2 s2=>?_⟩
 have t2:=s1.trans s2
 walk_at "g"
 refine⟨w,a,b,none,ws,ka,kb,f,g,wt,rfl,t2 _ _ hw,t2 _ _ ha,hA,za,t2 _ _ hb,hB,zb,ff,fg,w0,w1,fun h o H3 s3 nh np nc hO eel ew efp efc=>?_⟩
 obtain⟨⟨dh,ho⟩,hp,hpA,hc,hcA⟩:=id hO
 have efp':o.fp=qbb f:=funext efp
 have efc':o.fc=qbb g:=funext efc
 have lk:o.kp.length<=ws.length:=hpA.le (by rw [efp'];exact qe3 ff)
 walk_at "g"
 refine⟨z,o.pa,o.ca,o.kp,o.kc,o.fp,o.fc,rfl,.inl hp,.inl hc,hpA,hcA,by omega,by have:=(qcj gz).2.1;omega,fun y hy=>?_,fun _ H4 s4=>?_,fun y hv _=>?_⟩
 .rw [efp'] at hy
  have:=(qcj (gt.ok y (qe3 ff y hy))).2.1
  omega
 rotate_left
 .obtain⟨h1,h2⟩:=hv
  cases e:o.fp y with
  |none=>exact absurd e h1
  |some n=>
   have h3:=pos_le fg le y n (by rw [<-efp'];exact e)
   have h4:gN o.fp y=n:=by unfold gN;rw [e];rfl
   rw [efc'] at h2
   omega
 have t4:=(t2.trans s3).trans s4
 have hx4:=t4 _ _ hx
 have hO4:=hO.same s4
 walk_at "g"
 refine qfw (SqL.of (t4 _ _ hw)) (by omega) fun l ss hl hpm hs=>?_
 walk_at "g"
 rename_i p hpp
 rw [qbr]
 refine r_fsk (qad qa1 hpp) ct n2 (by show 1 < 1000;decide) ?_
 walk_at "g"
 have npx:p≠x:=fun e=>by subst e;rw [qa1] at hpp;cases hpp
 have np4':upd H4 l (.lst (ss.map V.str)) p=none:=by rw [qa6 npx] at hpp;exact hpp
 have nlx:x≠l:=qa4 hx4 hl
 have npl:p≠l:=fun e=>by subst e;rw [qa1] at np4';cases np4'
 have np4:H4 p=none:=by rw [qa6 npl] at np4';exact np4'
 have sF:∀b u,b≠x->H4 b=some u->upd (upd (upd (upd H4 l (.lst (ss.map V.str))) x (.ins d.w01 dx (qdp "sorted_wares" (V.ref l) []))) p (.dK [(Sum.inr z,V.ref h)])) x (.ins d.w01 dx (qdp "houses" (V.ref p) (qdp "sorted_wares" (V.ref l) []))) b=some u:=fun b u hb e=>by
  rw [qa6 hb,qa6 (qa4 e np4),qa6 hb,qa6 (qa4 e hl)];exact e
 obtain⟨⟨dh4,ho4⟩,hp4,hpA4,hc4,hcA4⟩:=hO4
 refine q ⟨l,ss,p, [⟨z,h,o⟩]⟩ ⟨z,h,o⟩ _ (fun b u hb e=>sF b u hb (t4 _ _ e)) ⟨⟨dx,by rw [qa1];rfl⟩,?_,?_,nodup_cons.mpr ⟨by simp,nodup_nil⟩,by show 1<=60;decide,fun e he=>?_⟩ (t4.free np4) (t4.free hl) (t2.free nh) (t2.free np) (t2.free nc) rfl rfl eel ew efp efc hpm hs
 .show upd _ _ _ l=_
  rw [qa6 nlx.symm,qa6 npl.symm,qa6 nlx.symm,qa1]
 .show upd _ _ _ p=_
  rw [qa6 npx,qa1]
  rfl
 .have e':e=⟨z,h,o⟩:=by simpa using he
  subst e'
  have n1:∀{b:Addr} {u:HO},H4 b=some u->u≠ .ins d.w01 dx []->b≠x:=fun e1 e2 e3=>by
   subst e3;rw [hx4] at e1;exact e2 (Option.some.inj e1).symm
  refine⟨⟨dh4,sF _ _ (n1 ho4 fun e=>?_) ho4⟩,sF _ _ (n1 hp4 fun e=>by cases e) hp4,hpA4,sF _ _ (n1 hc4 fun e=>by cases e) hc4,hcA4⟩
  have:=congrArg (fun u:HO=>match u with| .ins _ _ fs=>fs.length|_=>0) e
  simp [fsH] at this
inductive LnN (el:Nat->Nat):Nat->List Nat->Prop
 |top:LnN el 0 [0]
 |up {k:Nat} {l:List Nat} (k0:0 < k) (h:LnN el (el k) l):LnN el k (k :: l)
theorem LnN.uniq {el:Nat->Nat} {k:Nat} {l m:List Nat} (h:LnN el k l) (h':LnN el k m):l=m:=by
 induction h generalizing m with
 |top=>cases h' with
  |top=>rfl
  |up k0 _=>omega
 |up k0 h ih=>cases h' with
  |top=>omega
  |up _ h2=>rw [ih h2]
theorem LnN.self {el:Nat->Nat} {k:Nat} {l:List Nat} (h:LnN el k l):k∈l:=by
 cases h with
 |top=>exact mem_cons_self ..
 |up=>exact mem_cons_self ..
theorem LnN.zero {el:Nat->Nat} {k:Nat} {l:List Nat} (h:LnN el k l):0∈l:=by
 induction h with
 |top=>exact mem_cons_self ..
 |up _ _ ih=>exact mem_cons_of_mem _ ih
theorem LnN.tail {el:Nat->Nat} {k:Nat} {l:List Nat} (h:LnN el k l) {j:Nat} (hj:j∈l):∃p m,l=p++m/\LnN el j m:=by
 induction h with
 |top=>
  have:=mem_singleton.mp hj
  subst this
  exact⟨[], [0],rfl,.top⟩
 | @up k l k0 h ih=>
  rcases mem_cons.mp hj with e|e
  .subst e;exact⟨[],_,rfl,.up k0 h⟩
  .obtain⟨p,m,e1,e2⟩:=ih e
   exact⟨k :: p,m,by rw [e1];rfl,e2⟩
theorem LnN.nodup {el:Nat->Nat} {k:Nat} {l:List Nat} (h:LnN el k l):l.Nodup:=by
 induction h with
 |top=>exact nodup_cons.mpr ⟨by simp,nodup_nil⟩
 | @up k l k0 h ih=>
  refine nodup_cons.mpr ⟨fun hm=>?_,ih⟩
  obtain⟨p,m,e1,e2⟩:=h.tail hm
  have e3:=e2.uniq (.up k0 h)
  have:=congrArg List.length e1
  rw [e3,length_append,length_cons] at this
  omega
open Classical in
noncomputable def qa9 (el:Nat->Nat) (k:Nat):List Nat:=if h:∃l,LnN el k l then choose h else []
theorem qci {el:Nat->Nat} {k:Nat} {l:List Nat} (h:LnN el k l):qa9 el k=l:=by
 unfold qa9
 have hx:∃l,LnN el k l:=⟨l,h⟩
 rw [dif_pos hx]
 exact(Classical.choose_spec hx).uniq h
theorem qdd (el:Nat->Nat):qa9 el 0=[0]:=qci .top
def Ac (el:Nat->Nat) (n:Nat):Prop:=∀k,k < n->∃l,LnN el k l/\∀j∈l,j < n
section
variable {el: Nat -> Nat} {n k: Nat}
theorem Ac.ln (ac:Ac el n) (kn:k < n):LnN el k (qa9 el k):=by
 obtain⟨l,h,_⟩:=ac k kn
 rw [qci h];exact h
theorem Ac.lt (ac:Ac el n) (kn:k < n):∀j∈qa9 el k,j < n:=by
 obtain⟨l,h,q⟩:=ac k kn
 rw [qci h];exact q
theorem Ac.up (ac:Ac el n) (k0:0 < k) (kn:k < n):qa9 el k=k :: qa9 el (el k):=by
 obtain⟨l,h,_⟩:=ac k kn
 rw [qci h]
 cases h with
 |top=>omega
 |up _ h2=>rw [qci h2]
theorem Ac.elt (ac:Ac el n) (k0:0 < k) (kn:k < n):el k < n:=by
 obtain⟨l,h,q⟩:=ac k kn
 cases h with
 |top=>omega
 |up _ h2=>exact q _ (mem_cons_of_mem _ h2.self)
theorem Ac.self (ac:Ac el n) (kn:k < n):k∈qa9 el k:=(ac.ln kn).self
theorem Ac.tl (ac:Ac el n) (kn:k < n) {j:Nat} (hj:j∈qa9 el k):∃p,qa9 el k=p++qa9 el j:=by
 obtain⟨p,m,e1,e2⟩:=(ac.ln kn).tail hj
 exact⟨p,by rw [qci e2];exact e1⟩
theorem Ac.trans (ac:Ac el n) (kn:k < n) {i j:Nat} (hj:j∈qa9 el k) (hi:i∈qa9 el j):i∈qa9 el k:=by
 obtain⟨p,e⟩:=ac.tl kn hj
 rw [e];exact mem_append_right _ hi
theorem Ac.inn (ac:Ac el n) (kn:k < n) {j:Nat} (j0:0 < j) (hj:j∈qa9 el k):el j∈qa9 el k:=by
 have jn:=ac.lt kn j hj
 refine ac.trans kn hj ?_
 rw [ac.up j0 jn]
 exact mem_cons_of_mem _ (ac.self (ac.elt j0 jn))
theorem Ac.nd (ac:Ac el n) (kn:k < n):(qa9 el k).Nodup:=(ac.ln kn).nodup
end
theorem qf9:∀{n:Nat} {l:List Nat},l.Nodup->(∀a∈l,a < n)->l.length<=n
 |0,l,_,h=>by
  cases l with
  |nil=>exact Nat.le_refl _
  |cons a r=>exact absurd (h a (mem_cons_self ..)) (by omega)
 |n+1,l,nd,h=>by
  by_cases m:n∈l
  .have e:=List.length_erase_of_mem m
   have:=qf9 (n:=n) (nd.erase n) fun a ha=>by
    have h1:=h a (List.mem_of_mem_erase ha)
    have:a≠n:=fun z=>by subst z;exact(List.Nodup.not_mem_erase nd) ha
    omega
   omega
  .have:=qf9 (n:=n) nd fun a ha=>by
    have h1:=h a ha
    have:a≠n:=fun z=>m (z ▸ ha)
    omega
   omega
theorem Ac.len {el:Nat->Nat} {n k:Nat} (ac:Ac el n) (kn:k < n):(qa9 el k).length<=n:=qf9 (ac.nd kn) (ac.lt kn)
def Low (el:Nat->Nat) (n:Nat):Prop:=∀k,0 < k->k < n->el k < k
theorem Low.ln {el:Nat->Nat} {n:Nat} (lo:Low el n):∀k,k < n->∃l,LnN el k l/\∀j∈l,j<=k:=by
 intro k
 induction k using Nat.strongRecOn with
 |ind k ih=>
  intro kn
  by_cases k0:k=0
  .subst k0;exact⟨_,.top,fun j hj=>by have:=mem_singleton.mp hj;omega⟩
  .have l:=lo k (by omega) kn
   obtain⟨m,h1,h2⟩:=ih (el k) l (by omega)
   refine⟨k :: m,.up (by omega) h1,fun j hj=>?_⟩
   rcases mem_cons.mp hj with e|e
   .omega
   .have:=h2 j e;omega
theorem Low.ac {el:Nat->Nat} {n:Nat} (lo:Low el n):Ac el n:=fun k kn=>by
 obtain⟨l,h1,h2⟩:=lo.ln k kn
 exact⟨l,h1,fun j hj=>by have:=h2 j hj;omega⟩
theorem lineN_up {el:Nat->Nat} {n k:Nat} (lo:Low el n) (k0:0 < k) (kn:k < n):qa9 el k=k :: qa9 el (el k):=lo.ac.up k0 kn
theorem lineN_self {el:Nat->Nat} {n k:Nat} (lo:Low el n) (kn:k < n):k∈qa9 el k:=lo.ac.self kn
theorem lineN_le {el:Nat->Nat} {n:Nat} (lo:Low el n):∀k,k < n->∀j∈qa9 el k,j<=k:=fun k kn=>by
 obtain⟨l,h1,h2⟩:=lo.ln k kn
 rw [qci h1];exact h2
theorem lineN_len {el:Nat->Nat} {n:Nat} (lo:Low el n) (k:Nat) (kn:k < n):(qa9 el k).length<=k+1:=qf9 (lo.ac.nd kn) fun j hj=>by have:=lineN_le lo k kn j hj;omega
structure Pl (S:Ts) (nm:Nat->Str) (el:Nat->Nat) (n:Nat):Prop where
 len:S.hl.length=n
 nam:∀k e,S.hl[k]?=some e->e.n=nm k/\e.x.el=if k=0 then none else some (nm (el k))
 inj:∀i j,i < n->j < n->nm i=nm j->i=j
 ac:Ac el n
section
variable {S: Ts} {nm: Nat -> Str} {el: Nat -> Nat} {n: Nat}
theorem Pl.get (p:Pl S nm el n) {k:Nat} (kn:k < n):∃e,S.hl[k]?=some e/\e.n=nm k/\e.x.el=if k=0 then none else some (nm (el k)):=by
 have h:k < S.hl.length:=by rw [p.len];exact kn
 have e:=getElem?_eq_getElem h
 exact⟨_,e,p.nam k _ e⟩
theorem Pl.ix (p:Pl S nm el n) {e:He} (h:e∈S.hl):∃k,k < n/\S.hl[k]?=some e/\e.n=nm k/\e.x.el=if k=0 then none else some (nm (el k)):=by
 obtain⟨k,hk,q⟩:=mem_iff_getElem.mp h
 have e1:S.hl[k]?=some e:=by rw [getElem?_eq_getElem hk,q]
 exact⟨k,by rw [<-p.len];exact hk,e1,p.nam k e e1⟩
theorem Pl.nodup (p:Pl S nm el n):(S.hl.map (·.n)).Nodup:=by
 show List.Pairwise _ _
 rw [pairwise_map,pairwise_iff_getElem]
 intro i j hi hj lt q
 have h1:=(p.nam i _ (getElem?_eq_getElem hi)).1
 have h2:=(p.nam j _ (getElem?_eq_getElem hj)).1
 have:=p.inj i j (by rw [<-p.len];exact hi) (by rw [<-p.len];exact hj) (by rw [<-h1,<-h2];exact q)
 omega
theorem Pl.at (p:Pl S nm el n) {k:Nat} (kn:k < n):∃e,S.at (nm k)=some e/\S.hl[k]?=some e/\e.x.el=if k=0 then none else some (nm (el k)):=by
 obtain⟨e,h1,h2,h3⟩:=p.get kn
 have:=qf0 p.nodup (mem_of_getElem? h1)
 rw [h2] at this
 exact⟨e,this,h1,h3⟩
theorem Pl.lineL (p:Pl S nm el n) {k:Nat} {l:List Nat} (h:LnN el k l):k < n->LineOf S (nm k) (l.map nm):=by
 induction h with
 |top=>
  intro kn
  obtain⟨e,h1,_,h3⟩:=p.at kn
  exact .top h1 h3
 | @up k l k0 h ih=>
  intro kn
  obtain⟨e,h1,_,h3⟩:=p.at kn
  rw [if_neg (by omega)] at h3
  exact .up h1 h3 (ih (p.ac.elt k0 kn))
theorem Pl.line (p:Pl S nm el n) (k:Nat) (kn:k < n):LineOf S (nm k) ((qa9 el k).map nm):=p.lineL (p.ac.ln kn) kn
theorem Pl.wf (p:Pl S nm el n):WF S:=⟨p.nodup,fun e he=>by
 obtain⟨k,kn,_,h,_⟩:=p.ix he
 rw [h]
 exact⟨_,p.line k kn⟩⟩
theorem Pl.kid (p:Pl S nm el n) {j:Nat} {y:Str} (jn:j < n) (h:y∈qb1 S (nm j)):∃k,0 < k/\k < n/\el k=j/\y=nm k:=by
 obtain⟨e,he,rfl⟩:=mem_map.mp h
 obtain⟨hm,hd⟩:=mem_filter.mp he
 obtain⟨k,kn,_,h1,h2⟩:=p.ix hm
 have hd':e.x.el=some (nm j):=of_decide_eq_true hd
 rw [h2] at hd'
 by_cases z:k=0
 .rw [if_pos z] at hd';cases hd'
 .rw [if_neg z] at hd'
  exact⟨k,by omega,kn,p.inj _ _ (p.ac.elt (by omega) kn) jn (Option.some.inj hd'),h1⟩
theorem Pl.dep (p:Pl S nm el n):∀m j,j < n->n<=(qa9 el j).length+m->Dep S m (nm j):=by
 intro m
 induction m with
 |zero=>
  intro j jn hn
  show qb1 S (nm j)=[]
  cases e:qb1 S (nm j) with
  |nil=>rfl
  |cons y r=>
   obtain⟨k,k0,kn,ke,_⟩:=p.kid jn (y:=y) (by rw [e];exact mem_cons_self ..)
   have h1:=p.ac.len kn
   rw [p.ac.up k0 kn,length_cons,ke] at h1
   omega
 |succ m ih=>
  intro j jn hn y hy
  obtain⟨k,k0,kn,ke,rfl⟩:=p.kid jn hy
  refine ih k kn ?_
  rw [p.ac.up k0 kn,length_cons,ke]
  omega
theorem Pl.ben (p:Pl S nm el n):∀(m j:Nat) (zs:List Str),j < n->BenP S m (nm j) zs->∀y∈zs,∃k,k < n/\y=nm k/\j∈qa9 el k:=by
 intro m
 induction m with
 |zero=>
  rintro j _ jn ⟨parts,rest,hp,rfl,hb⟩ y hy
  rcases mem_cons.mp hy with h|h
  .exact⟨j,jn,h,p.ac.self jn⟩
  .obtain⟨l,hl,_⟩:=mem_flatten.mp h
   obtain⟨q,hq,_⟩:=mem_map.mp hl
   exact(hb q hq).elim
 |succ m ih=>
  rintro j _ jn ⟨parts,rest,hp,rfl,hb⟩ y hy
  rcases mem_cons.mp hy with h|h
  .exact⟨j,jn,h,p.ac.self jn⟩
  .obtain⟨l,hl,hyl⟩:=mem_flatten.mp h
   obtain⟨q,hq,rfl⟩:=mem_map.mp hl
   obtain⟨k,k0,kn,ke,e⟩:=p.kid jn (hp.mem_iff.mp (mem_append_left _ (mem_map.mpr ⟨q,hq,rfl⟩)))
   have hB:=hb q hq
   rw [e] at hB
   obtain⟨i,i1,i2,i3⟩:=ih k q.2 kn hB y hyl
   refine⟨i,i1,i2,?_⟩
   have:=p.ac.inn i1 k0 i3
   rw [ke] at this
   exact this
end
def qce:Nat->(Nat->Int)->Int
 |0,_=>0
 |n+1,f=>qce n f+f n
theorem sumR_le {f g:Nat->Int}:∀{n:Nat},(∀k,k < n->f k<=g k)->qce n f<=qce n g
 |0,_=>Int.le_refl _
 |n+1,h=>by
  have h1:=sumR_le (n:=n) fun k hk=>h k (by omega)
  have h2:=h n (by omega)
  show qce n f+f n<=qce n g+g n
  omega
theorem sumR_nn {f:Nat->Int}:∀{n:Nat},(∀k,k < n->0<=f k)->0<=qce n f
 |0,_=>Int.le_refl _
 |n+1,h=>by
  have h1:=sumR_nn (n:=n) fun k hk=>h k (by omega)
  have h2:=h n (by omega)
  show 0<=qce n f+f n
  omega
theorem sumR_mono {f:Nat->Int} {n m:Nat} (hm:n<=m) (h:∀k,k < m->0<=f k):qce n f<=qce m f:=by
 induction m with
 |zero=>have:n=0:=(by omega);subst this;exact Int.le_refl _
 |succ m ih=>
  rcases Nat.lt_or_ge n (m+1) with c|c
  .have h1:=ih (by omega) fun k hk=>h k (by omega)
   have h2:=h m (by omega)
   show _<=qce m f+f m
   omega
  .have:n=m+1:=by omega
   subst this;exact Int.le_refl _
def sumL (f:Nat->Int):List Nat->Int
 | []=>0
 |k :: r=>f k+sumL f r
theorem sumL_perm {f:Nat->Int} {a b:List Nat} (h:a.Perm b):sumL f a=sumL f b:=by
 induction h with
 |nil=>rfl
 |cons x _ ih=>show _+_=_+_;rw [ih]
 |swap x y l=>show f y+(f x+sumL f l)=f x+(f y+sumL f l);omega
 |trans _ _ h1 h2=>rw [h1,h2]
theorem qfq {f:Nat->Int}:∀{n:Nat} {ks:List Nat},ks.Nodup->(∀k∈ks,k < n)->(∀k,k < n->0<=f k)->sumL f ks<=qce n f
 |0,ks,_,h,_=>by
  cases ks with
  |nil=>exact Int.le_refl _
  |cons k r=>exact absurd (h k (mem_cons_self ..)) (by omega)
 |n+1,ks,nd,h,p=>by
  show _<=qce n f+f n
  by_cases m:n∈ks
  .rw [sumL_perm (List.perm_cons_erase m)]
   have nd2:=nd.erase n
   have:=qfq (n:=n) nd2 (fun k hk=>by
    have h1:=h k (List.mem_of_mem_erase hk)
    have:k≠n:=fun z=>by subst z;exact(List.Nodup.not_mem_erase nd) hk
    omega) fun k hk=>p k (by omega)
   show f n+_<=_
   omega
  .have:=qfq (n:=n) nd (fun k hk=>by
    have h1:=h k hk
    have:k≠n:=fun z=>m (z ▸ hk)
    omega) fun k hk=>p k (by omega)
   have:=p n (by omega)
   omega
theorem gN_add (f g:Str->Option Int) (z:Str):gN (qdh f g) z=gN f z+gN g z:=by
 unfold gN qdh
 cases e:g z with
 |none=>simp
 |some b=>rfl
theorem gN_sum (z:Str):∀(ts:List Pt) (f0:Str->Option Int),gN (ts.foldl (fun f t=>qdh f t.f) f0) z=gN f0 z+(ts.map fun t=>gN t.f z).sum
 | [],f0=>by simp
 |t :: ts,f0=>by
  rw [List.foldl_cons,gN_sum z ts,gN_add,map_cons,List.sum_cons]
  omega
section
variable {S: Ts} {nm: Nat -> Str} {el: Nat -> Nat} {n: Nat}
theorem Pl.sums (p:Pl S nm el n) {v:Str} {pr:Nat->Int} (hp:∀k e,S.hl[k]?=some e->gN e.x.fp v=pr k) (h0:∀k,k < n->0<=pr k) {m j:Nat} {bs:List Str} (jn:j < n) (hb:Ben S m (nm j) bs):
  gN (qcu (bs.map (qcn S))) v<=qce n fun k=>if j∈qa9 el k then pr k else 0:=by
 have nd:=(qc2 p.wf hb.part).1
 have hk:=p.ben m j bs jn hb.part
 have key:∀bs:List Str,bs.Nodup->(∀y∈bs,∃k,k < n/\y=nm k/\j∈qa9 el k)->∃ks:List Nat,ks.Nodup/\(∀k∈ks,k < n/\nm k∈bs)/\((bs.map (qcn S)).map fun t=>gN t.f v).sum=sumL (fun k=>if j∈qa9 el k then pr k else 0) ks:=by
  intro bs
  induction bs with
  |nil=>intro _ _;exact⟨[],nodup_nil,fun k hk=>absurd hk (by simp),rfl⟩
  |cons y r ih=>
   intro nd h
   rw [nodup_cons] at nd
   obtain⟨ks,k1,k2,k3⟩:=ih nd.2 fun y' hy=>h y' (mem_cons_of_mem _ hy)
   obtain⟨k,kn,rfl,kj⟩:=h y (mem_cons_self ..)
   obtain⟨e,e1,e2,_⟩:=p.at kn
   refine⟨k :: ks,nodup_cons.mpr ⟨fun m=>nd.1 (k2 k m).2,k1⟩,fun k' hk'=>?_,?_⟩
   .rcases mem_cons.mp hk' with rfl|hk'
    .exact⟨kn,mem_cons_self ..⟩
    .exact⟨(k2 k' hk').1,mem_cons_of_mem _ (k2 k' hk').2⟩
   .rw [map_cons,map_cons,List.sum_cons,k3,qdk e1]
    show gN e.x.fp v+_=(if j∈qa9 el k then pr k else 0)+_
    rw [hp k e e2,if_pos kj]
 obtain⟨ks,k1,k2,k3⟩:=key bs nd hk
 unfold qcu
 rw [gN_sum,k3]
 have z:gN noF v=0:=rfl
 rw [z,Int.zero_add]
 exact qfq k1 (fun k hk=>(k2 k hk).1) fun k hk=>by
  split
  .exact h0 k hk
  .exact Int.le_refl _
end
theorem ad_oK {k:List (Key × V)} {f:Str->Option Int} (hk:AD k f) {ks:List (Str × Addr)} {z:Str} {h:Addr} (hl:qd7 ks z=some h):HO.dK k≠ .dK (oK ks):=fun e=>by
 have e2:k=oK ks:=by injection e
 subst e2
 have g1:=hk.get z
 rw [qfo,hl] at g1
 cases hf:f z with
 |none=>rw [hf] at g1;cases g1
 |some n=>rw [hf] at g1;cases g1
def w8q (K:Frag) (d:Ad):Sp:=fun vs H Q E=>∃(t a b:Addr) (S:Ts) (z y:Str) (e:He) (zs:List Str) (ka kb:List (Key × V)) (f g:Str->Option Int) (wt:Int),vs=[.ref t,.str z,.str y,.ref a,.ref b,.int wt]/\qcr d H t S/\qda z=true/\S.at z=none/\S.at y=some e/\
 WF S/\qe2 S/\S.ws.length<=50/\(∀v∈S.ws,v.length<=100)/\H a=some (.dK ka)/\AD ka f/\ka.length<=1000/\H b=some (.dK kb)/\AD kb g/\kb.length<=1000/\Fin S.ws f/\Fin S.ws g/\1<=wt/\wt<=1000/\S.hl.length < 40/\LineOf S y zs/\zs.length < 12/\(∀u∈zs,u.length<=100/\Dep S 12 u/\∃e',S.at u=some e')/\
  ((∀v,¬qew (qbb f) (qbb g) v)->(∀u∈zs,Fine S (qbb f) u)->∀(e2:He) H',SameBut S.hs H H'->H e2.a=none->H e2.x.pa=none->H e2.x.ca=none->qcr d H' t {S with hl:=S.hl++ [e2]}->e2.n=z->e2.x.el=some y->e2.x.w=wt->(∀v,e2.x.fp v=qbb f v)->(∀v,e2.x.fc v=qbb g v)->Q .non H')/\
  (∀v,qew (qbb f) (qbb g) v->(∀u,qew (qbb f) (qbb g) u->leS v u)->NoP d H z v E)/\
  ((∀v,¬qew (qbb f) (qbb g) v)->∀(i:Nat) (u:Str) (e':He) (bs:List Str) (v:Str),zs[i]?=some u->S.at u=some e'->Ben S 12 u bs->qew (qdh (qcu (bs.map (qcn S))) (qbb f)) e'.x.fc v->(∀v',qew (qdh (qcu (bs.map (qcn S))) (qbb f)) e'.x.fc v'->leS v v')->(∀(j:Nat) (u':Str),j < i->zs[j]?=some u'->Fine S (qbb f) u')->NoP d H u v E)
include T in
theorem w87:FnOk P w K mg base (My.CX1 P w) 19 d.w3x d.w2e ["self","name","elder","promise","cap","weight"] (w8q K d):=by
 refine okDX T.w8v w3e (fun vs H Q E h=>?_) (fun cdv A outer s H vs Q E hr h=>?_)
 .obtain⟨t,a,b,S,z,y,e,zs,ka,kb,f,g,wt,rfl,_⟩:=h;rfl
 obtain⟨t,a,b,S,z,y,e,zs,ka,kb,f,g,wt,rfl,hT,gz,nz,he,hW,hO,hws,hw100,ha,hA,za,hb,hB,zb,ff,fg,w0,w1,h40,hL,hz12,hy,q,qo,qm⟩:=h
 have ey:e.n=y:=(qb9 he).2
 refine⟨_,(qa3 (qb3 (qc7 ((w5b T).mono (by decide)) hr rfl T.w68 T.w4b.kp T.w61 .nil qas (qa0 (pv 1) qa2)))
  (qa3 (qb8 (qbz (pe_meth (pv 0) T.w00 T.w21 ((w6q T).mono (by decide)) hr T.w7m .nil qaw (qa0 (pv 1) qa2))) (qa5 (qbq rfl T.wdv rfl T.wds qas (qa0 qc0 qa2))) qam)
  (qa3 (qb3 (qae (pv 0) T.w00 T.w09 ((w1g T).mono (by decide)) hr T.w1p .nil qas (qa0 (pv 2) qa2)))
  (qa3 (qah (i:=6) w3e.nd rfl (Or.inl rfl) (qc7 ((w5h T).mono (by decide)) hr rfl T.w6a T.w43.kp T.w60 .nil qas (qa0 (qbj (pv 0) rfl) (qa0 (pv 2) (qa0 (pv 3) (qa0 (pv 4) (qa0 (pv 5) qa2)))))))
  (qa3 (qb8 (qaj op_ge (qac qfl rfl T.w1h PySem.boot_len (qa0 (qbj (pv 0) rfl) qa2)) (qdl rfl T.w8e T.w1n) (qar _)) (qa5 (qbq rfl T.wc8 rfl T.wcm qas (qa0 qc0 qa2))) qam)
  (qa3 (qah (i:=7) w3e.nd rfl (Or.inl rfl) (qae (pv 0) T.w00 T.w0e ((w0x T).mono (by decide)) hr T.w18 .nil qas (qa0 (pv 2) qa2)))
  (qa3 (qb8 (qaj op_ge (qac qan rfl T.w1h PySem.boot_len (qa0 (pv 7) qa2)) (qdl rfl T.w4l T.w12) (qar _)) (qa5 (qbq rfl T.w9m rfl T.w91 qas (qa0 qc0 qa2))) qam)
  (qa3 (qb3 (qc7 ((w20 T).mono (by decide)) hr rfl T.w2d T.w1e.kp T.w28 .nil qas (qa0 (pv 1) (qa0 (qbj (pv 6) rfl) (qa0 (qbj (pv 6) rfl) qa2)))))
  (qa3 (qb3 (qae (pv 0) T.w00 T.w0g ((w2u T).mono (by decide)) hr T.w36 .nil qas (qa0 (pv 7) (qa0 (qbj (pv 6) rfl) qa2))))
  (qa5 (qcv (qcc hr) (qbj (pv 0) rfl) (pv 1) (pv 6) rfl))))))))))),?_⟩
 walk_at "d"
 refine qaf (σ:=[some (.ref t),some (.str z),some (.str y),some (.ref a),some (.ref b),some (.int wt),none,none]) rfl ?_
 have ct:=T.w00
 have ch:=T.w0z
 have n1:qap K d.w01 "sorted_wares":=T.w0c
 have n2:qap K d.w01 "houses":=T.w03
 have n3:qap K d.w04 "promise":=T.w08
 have n4:qap K d.w04 "cap":=T.w0n
 walk_at "g"
 refine⟨z,rfl,gz,fun H1 s1=>?_⟩
 have hT1:=hT.same s1
 obtain⟨dx,ht⟩:=id hT1.1
 walk_at "g"
 refine⟨t,S,.str z,rfl,hT1,.inl ⟨z,rfl⟩,?_⟩
 rw [show who S (.str z)=none from nz]
 walk_at "g"
 show if false=true then _ else _
 walk_at "g"
 refine⟨t,S,.str y,rfl,hT1,.inl ⟨y,rfl⟩,fun e1 he1=>?_,fun hn=>?_⟩
 rotate_left
 .rw [show who S (.str y)=some e from he] at hn;cases hn
 have hsw:=hT1.2.1
 walk_at "g"
 refine⟨S.sw,a,b,some y,S.ws,ka,kb,f,g,wt,rfl,hsw,s1 _ _ ha,hA,za,s1 _ _ hb,hB,zb,ff,fg,w0,w1,fun h o H3 s3 nh np nc hOo eel ew efp efc=>?_⟩
 obtain⟨⟨dh,ho⟩,hp,hpA,hc,hcA⟩:=id hOo
 have efp':o.fp=qbb f:=funext efp
 have efc':o.fc=qbb g:=funext efc
 have lk:o.kp.length<=S.ws.length:=hpA.le (by rw [efp'];exact qe3 ff)
 have hT3:=hT1.same s3
 obtain⟨⟨dx3,ht3⟩,hw3,hh3,nd3,hz3,hE3⟩:=id hT3
 walk_at "g"
 refine r_lenD hh3 ?_
 rw [qed]
 walk_at "g"
 refine⟨t,S,.str y,rfl,hT3,.inl ⟨y,zs,rfl,hL,by omega,fun l hl=>?_⟩⟩
 have s4:=qa7 hl (.lst (zs.map V.str))
 have eL:upd H3 l (.lst (zs.map V.str)) l=some (.lst (zs.map V.str)):=qa1
 have hzl:(zs.map V.str).length=zs.length:=length_map _
 generalize upd H3 l (.lst (zs.map V.str))=H4 at*
 have ho4:=s4 _ _ ho
 have hp4:=s4 _ _ hp
 have hc4:=s4 _ _ hc
 walk_at "g"
 have t4:=(s1.trans s3).trans s4
 refine⟨z,o.pa,o.ca,o.kp,o.kc,o.fp,o.fc,rfl,.inl hp4,.inl hc4,hpA,hcA,by omega,by have:=(qcj gz).2.1;omega,fun v hv=>?_,fun hn H5 s5=>?_,fun v hv hle=>?_⟩
 .rw [efp'] at hv
  exact hw100 v (qe3 ff v hv)
 rotate_left
 .rw [efp',efc'] at hv hle
  exact(qo v hv hle).same t4
 rw [efp',efc'] at hn
 have s35:=s4.trans s5
 have ho5:=s35 _ _ ho
 have hT5:=hT3.same s35
 obtain⟨dx5,ht5⟩:=id hT5.1
 walk_at "g"
 refine⟨t,l,o.pa,S,zs,o.kp,o.fp,rfl,hT5,hW,hO,SqL.of (s5 _ _ eL),s35 _ _ hp,hpA,hws,hw100,by rw [efp'];exact qe3 ff,hy,fun hfi H6 s6=>?_,fun i u e' bs v h1 h2 h3 h4 h5 h6=>?_⟩
 rotate_left
 .rw [efp'] at h4 h5 h6
  exact(qm hn i u e' bs v h1 h2 h3 h4 h5 h6).same (t4.trans s5)
 rw [efp'] at hfi
 have s36:=s35.trans s6
 have s16:=s3.trans s36
 have s06:=s1.trans s16
 obtain⟨⟨dx6,ht6⟩,hw6,hh6,nd6,hz6,hE6⟩:=hT3.same s36
 walk_at "g"
 have lkn:qd7 S.keys z=none:=by rw [qd6,nz];rfl
 have hksz:(oK S.keys).length < sizeLine:=by rw [qed];show _ < 16777216;omega
 refine r_dpk hh6 hksz ?_
 rw [putK_oK lkn]
 walk_at "g"
 have sF:∀b u,b≠S.hs->H6 b=some u->upd H6 S.hs (.dK (oK (S.keys++ [(z,h)]))) b=some u:=fun b u hb e=>by rw [qa6 hb];exact e
 have nH:∀{b:Addr} {u:HO},H6 b=some u->u≠ .dK (oK S.keys)->b≠S.hs:=fun e1 e2 e3=>by
  subst e3;rw [hh6] at e1;exact e2 (Option.some.inj e1).symm
 have hT1':=hT1
 have fresh:∀{b:Addr} {u:HO},H1 b=none->H6 b=some u->b≠S.hs:=fun e1 _ e3=>by
  subst e3;rw [hT1'.2.2.1] at e1;cases e1
 refine q hn hfi ⟨z,h,o⟩ _ (fun b u hb e=>sF b u hb (s06 _ _ e)) (s1.free nh) (s1.free np) (s1.free nc) ⟨⟨dx6,sF _ _ (nH ht6 (by intro e;cases e)) ht6⟩,sF _ _ (nH hw6 (by intro e;cases e)) hw6,?_,?_,?_,fun e1 he1=>?_⟩ rfl eel ew efp efc
 .show upd _ _ _ S.hs=some (.dK (oK (Ts.keys _)))
  rw [qa1]
  unfold Ts.keys
  rw [map_append];rfl
 .show (List.map _ (S.hl++ [_])).Nodup
  rw [map_append,nodup_append]
  refine⟨nd6,nodup_cons.mpr ⟨by simp,nodup_nil⟩,fun x hx1 y' hy1 e=>?_⟩
  have:y'=z:=by simpa using hy1
  subst this
  subst e
  obtain⟨e2,m2,rfl⟩:=mem_map.mp hx1
  rw [qf0 nd6 m2] at nz
  cases nz
 .show (S.hl++ [_]).length<=60
  rw [length_append]
  show _+1<=60
  omega
 .rcases mem_append.mp he1 with m|m
  .obtain⟨⟨dy,hy1⟩,hy2,hy3,hy4,hy5⟩:=hE6 e1 m
   have no:∀{k:List (Key × V)} {f:Str->Option Int},AD k f->HO.dK k≠ .dK (oK S.keys):=fun hk=>ad_oK hk (z:=e1.n) (h:=e1.a) (by rw [qd6,qf0 nd6 m];rfl)
   exact⟨⟨dy,sF _ _ (nH hy1 (by intro e;cases e)) hy1⟩,sF _ _ (nH hy2 (no hy3)) hy2,hy3,sF _ _ (nH hy4 (no hy5)) hy4,hy5⟩
  .have:e1=⟨z,h,o⟩:=by simpa using m
   subst this
   have h6:=s36 _ _ ho
   refine⟨⟨dh,sF _ _ (fresh nh h6) h6⟩,sF _ _ (fresh np (s36 _ _ hp)) (s36 _ _ hp),hpA,sF _ _ (fresh nc (s36 _ _ hc)) (s36 _ _ hc),hcA⟩
def w7c (K:Frag) (d:Ad):Sp:=fun vs H Q _=>∃(t:Addr) (S:Ts) (z:Str) (e:He) (zs:List Str),vs=[.ref t,.str z]/\qcr d H t S/\WF S/\S.at z=some e/\Dep S 12 z/\LineOf S z zs/\zs.length<=1000/\(∀bs,Ben S 12 z bs->∀u∈bs,∃us,LineOf S u us/\us.length<=1000)/\
 ∀(bs:List Str) (u:Str) (us:List Str) H',qb0 H H'->Ben S 12 z bs->u∈bs->LineOf S u us->Q (.int (((us.length:Nat):Int) - ((zs.length:Nat):Int)+1)) H'
include T in
theorem w7d:FnOk P w K mg base (My.CX1 P w) 17 d.w3n d.w2w ["self","name"] (w7c K d):=by
 refine okX T.w8a w4k (fun vs H Q E h=>?_) (fun cdv A outer s H vs Q E hr h=>?_)
 .obtain⟨t,S,z,e,zs,rfl,_⟩:=h;rfl
 obtain⟨t,S,z,e,zs,rfl,hT,hW,ae,hD,hL,hz,hlb,q⟩:=h
 refine⟨_,(qa3 (qah (i:=2) w4k.nd rfl (Or.inl rfl) (qac (call_maxL rfl) rfl T.wek PyProof.Rows.boot_max (qa0 (pe_compX rfl rfl rfl qas (caps:=[0]) (cn:=["self"]) (qbd rfl rfl (by rfl) (by rfl) rfl ⟨rfl,trivial⟩ (by rfl) rfl ⟨⟨rfl,rfl,rfl,rfl,_,rfl⟩,trivial⟩ (by decide)) rfl (qbv (qae (pv 0) T.w00 T.w07 ((w16 T).mono (by decide)) hr T.w14 .nil qas (qa0 (pv 1) qa2))) (fun _ _ _ _=>qcg) (fun _ _ _ _=>(qac qan rfl T.w1h PySem.boot_len (qa0 (pe_methB2 (pv 1) T.w00 T.w0e ((w0x T).mono (by decide)) hr T.w18 .nil (qa0 (pv 0) qa2)) qa2)))) qa2)))
  (qa5 (qai (qal qbi (qal op_sub (pv 2) (qac qan rfl T.w1h PySem.boot_len (qa0 (qae (pv 0) T.w00 T.w0e ((w0x T).mono (by decide)) hr T.w18 .nil qas (qa0 (pv 1) qa2)) qa2))) qa8)))),?_⟩
 walk_at "d"
 try dsimp only [cxC]
 refine qaf (σ:=[some (.ref t),some (.str z),none]) rfl ?_
 have ct:=T.w00
 obtain⟨dx,ht⟩:=id hT.1
 have een:=(qb9 ae).2
 walk_at "g"
 refine⟨t,S,.str z,rfl,hT,qdi hW hT.2.2.2.2.1,.inl ⟨_,rfl⟩,fun e' he'=>?_,fun hn=>?_⟩
 rotate_left
 .rw [show who S (.str z)=some e from ae] at hn;cases hn
 have ee:e=e':=Option.some.inj (ae.symm.trans he')
 subst ee
 rw [een]
 refine⟨hD,fun lb zb H1 s1 hlb1 elb hBen=>?_⟩
 have hub:=hlb zb hBen
 have hT1:=hT.same s1
 have ht1:=s1 _ _ ht
 have zb1000:zb.length<=1000:=qdi hW hT.2.2.2.2.1 12 z zb hBen.part
 clear ht he'
 walk_at "g"
 intro C s0 H0 fp acc hacc
 refine qg9 zb.length (fun i H'=>∃ns:List Int,qb0 H1 H'/\H' acc=some (.lst (ns.map V.int))/\ns.length=i/\∀m∈ns,∃u∈zb,∃us,LineOf S u us/\m=((us.length:Nat):Int)) ⟨[],qa7 hacc _,qa1,rfl,fun m hm=>by simp at hm⟩ ?_ ?_ ?_ ?_
 .rintro i H' hi ⟨ns,sm,_⟩
  exact⟨_,.str zb[i],SqL.of (sm _ _ elb),by rw [getElem?_map,getElem?_eq_getElem hi];rfl⟩
 .rintro H' ⟨ns,sm,_⟩
  exact⟨_,SqL.of (sm _ _ elb),by rw [length_map];exact Nat.le_refl _⟩
 .rintro i H' v H'' hi ⟨ns,sm,ea,hln,hns⟩ ⟨rfl,hv⟩
  have hv:=hv _ (SqL.of (sm _ _ elb))
  rw [getElem?_map,getElem?_eq_getElem hi] at hv
  cases hv
  have hm:=getElem_mem hi
  generalize zb[i]=u at*
  obtain⟨us,hLu,hu1⟩:=hub u hm
  have ht2:=sm _ _ ht1
  have zl:(ns.map V.int).length < sizeLine:=by rw [length_map];show _ < 16777216;omega
  clear hv
  walk_at "g"
  refine⟨t,S,.str u,rfl,hT1.same sm,.inl ⟨u,us,rfl,hLu,hu1,fun ll hll=>?_⟩⟩
  have s2:=qa7 hll (.lst (us.map V.str))
  have ell:upd H'' ll (.lst (us.map V.str)) ll=some (.lst (us.map V.str)):=qa1
  have ea2:=qad (o':=.lst (us.map V.str)) ea hll
  have hlen:(us.map V.str).length=us.length:=length_map _
  generalize upd H'' ll (.lst (us.map V.str))=H3 at*
  walk_at "g"
  rw [hlen]
  refine⟨ns++ [((us.length:Nat):Int)],qax (sm.trans s2) hacc,by rw [qa1,map_append];rfl,by rw [length_append,hln];rfl,fun m hm2=>?_⟩
  rcases mem_append.mp hm2 with h|h
  .exact hns m h
  .exact⟨u,hm,us,hLu,mem_singleton.mp h⟩
 rintro H2 ⟨ns,s2,en,hln,hns⟩
 have z0:0 < zb.length:=by
  cases hBen with
  |intro parts hb=>rw [hb.2.1];exact Nat.succ_pos _
 walk_at "g"
 refine r_maxL (SqL.of en) (by omega) fun m hm _=>?_
 obtain⟨u,hu,us,hLu,rfl⟩:=hns m hm
 have ht3:=s2 _ _ ht1
 walk_at "g"
 refine⟨t,S,.str z,rfl,hT1.same s2,.inl ⟨z,zs,rfl,hL,hz,fun ll hll=>?_⟩⟩
 have s3:=qa7 hll (.lst (zs.map V.str))
 have ell:upd H2 ll (.lst (zs.map V.str)) ll=some (.lst (zs.map V.str)):=qa1
 have hlen:(zs.map V.str).length=zs.length:=length_map _
 generalize upd H2 ll (.lst (zs.map V.str))=H3 at*
 walk_at "g"
 rw [hlen]
 exact q zb u us H3 ((s1.trans s2).trans s3) hBen hu hLu
def qds (ys zs:List Str):List Str:=ys.filter fun u=>!decide (u∈zs)
theorem flat_strs (L:List Str):((L.map V.str).all fun v=>qd0 v)=true:=by
 rw [List.all_map]
 exact all_eq_true.mpr fun _ _=>rfl
theorem inV_st (x:Str):∀L:List Str,inV (.str x) (L.map V.str)=decide (x∈L)
 | []=>rfl
 |y :: L=>by
  have ih:=inV_st x L
  unfold inV at ih ⊢
  rw [map_cons,any_cons,ih]
  by_cases c:y=x
  .subst c
   rw [show eqV (V.str y) (V.str y)=true from beq_self_eq_true _,decide_eq_true (mem_cons_self ..)]
   rfl
  .rw [show eqV (V.str y) (V.str x)=false from beq_false_of_ne c,Bool.false_or]
   by_cases m:x∈L
   .rw [decide_eq_true m,decide_eq_true (mem_cons_of_mem _ m)]
   .rw [decide_eq_false m,decide_eq_false fun h=>(mem_cons.mp h).elim (fun e=>c e.symm) m]
theorem r_inSt {K:Frag} {H:Hp} {Q:VK} {p:Addr} {x:Str} {L:List Str} (h:SqL K H p (L.map V.str)) (q:Q (.bl (decide (x∈L))) H):rIn K false (.str x) (.ref p) H Q:=⟨p,_,rfl,.inl h,rfl,flat_strs L,by rw [inV_st];exact q⟩
theorem r_notInSt {K:Frag} {H:Hp} {Q:VK} {p:Addr} {x:Str} {L:List Str} (h:SqL K H p (L.map V.str)) (q:Q (.bl (!decide (x∈L))) H):rIn K true (.str x) (.ref p) H Q:=⟨p,_,rfl,.inl h,rfl,flat_strs L,by rw [inV_st];exact q⟩
structure MvAt (K:Frag) (d:Ad) (H:Hp) (t:Addr) (S:Ts) (z y:Str) (ez ey:He) (zs ys:List Str):Prop where
 tr:qcr d H t S
 wf:WF S
 ow:qe2 S
 az:S.at z=some ez
 ay:S.at y=some ey
 lz:LineOf S z zs
 l1:zs.length<=1000
 ly:LineOf S y ys
 l2:ys.length<=1000
 dz:Dep S 12 z
 w5:S.ws.length<=50
 wl:∀v∈S.ws,v.length<=100
 hy:∀u∈ys,u.length<=100/\Dep S 12 u/\∃e,S.at u=some e
 bl:∀bs,Ben S 12 z bs->∀u∈bs,∃us,LineOf S u us/\us.length<=1000
 rt:ez.x.el=none->z∈ys
 dp:z∉ys->∀bs,Ben S 12 z bs->∀u∈bs,∀us,LineOf S u us->ys.length+us.length+1<=12+zs.length
theorem MvAt.same {K:Frag} {d:Ad} {H H':Hp} {t:Addr} {S:Ts} {z y:Str} {ez ey:He} {zs ys:List Str} (h:MvAt K d H t S z y ez ey zs ys) (s:qb0 H H'):MvAt K d H' t S z y ez ey zs ys:=⟨h.tr.same s,h.wf,h.ow,h.az,h.ay,h.lz,h.l1,h.ly,h.l2,h.dz,h.w5,h.wl,h.hy,h.bl,h.rt,h.dp⟩
def w5d (K:Frag) (d:Ad):Sp:=fun vs H Q E=>∃(t:Addr) (S:Ts) (z y:Str) (ez ey:He) (zs ys:List Str),vs=[.ref t,.str z,.str y]/\MvAt K d H t S z y ez ey zs ys/\
 ((z∈ys\/ez.x.el=some y)->∀H',qb0 H H'->E (.ref d.w24) none H')/\
 (z∉ys->ez.x.el≠some y->∀bs,Ben S 12 z bs->((∀u∈qds ys zs,Fine S (qcu (bs.map (qcn S))) u)->∀H',qb0 H H'->Q .non H')/\
  ∀(i:Nat) (u:Str) (e':He) (cs:List Str) (v:Str),(qds ys zs)[i]?=some u->S.at u=some e'->Ben S 12 u cs->qew (qdh (qcu (cs.map (qcn S))) (qcu (bs.map (qcn S)))) e'.x.fc v->(∀v',qew (qdh (qcu (cs.map (qcn S))) (qcu (bs.map (qcn S)))) e'.x.fc v'->leS v v')->(∀(j:Nat) (u':Str),j < i->(qds ys zs)[j]?=some u'->Fine S (qcu (bs.map (qcn S))) u')->NoP d H u v E)
include T in
theorem w2r:FnOk P w K mg base (My.CX1 P w) 19 d.w1z d.w1l ["self","name","elder"] (w5d K d):=by
 refine okX T.w5k w1m (fun vs H Q E h=>?_) (fun cdv A outer s H vs Q E hr h=>?_)
 .obtain⟨t,S,z,y,ez,ey,zs,ys,rfl,_⟩:=h;rfl
 obtain⟨t,S,z,y,ez,ey,zs,ys,rfl,hM,q1,q2⟩:=h
 refine⟨_,(qa3 (qah (i:=3) w1m.nd rfl (Or.inr rfl) (qae (pv 0) T.w00 T.w0e ((w0x T).mono (by decide)) hr T.w18 .nil qas (qa0 (pv 1) qa2)))
  (qa3 (qah (i:=4) w1m.nd rfl (Or.inl rfl) (qae (pv 0) T.w00 T.w0e ((w0x T).mono (by decide)) hr T.w18 .nil qas (qa0 (pv 2) qa2)))
  (qa3 (qb8 (PW.pt (qe8 (qaj op_in_seq (pv 1) (pv 4) (by rfl)) (qd3 (qaj qen (pv 2) (qae (pv 0) T.w00 T.w05 ((w0h T).mono (by decide)) hr T.w0m .nil qas (qa0 (pv 1) qa2)) (qar _))))) (qa5 (qbq rfl T.wcn rfl T.wct qas (qa0 qc0 qa2))) qam)
  (qa3 (qb8 (qaj qey (qal qbi (qac qan rfl T.w1h PySem.boot_len (qa0 (pv 4) qa2)) (qae (pv 0) T.w00 T.w1d ((w7d T).mono (by decide)) hr T.w7x .nil qas (qa0 (pv 1) qa2))) (qdl rfl T.w4l T.w12) (qar _)) (qa5 (qbq rfl T.w9m rfl T.w91 qas (qa0 qc0 qa2))) qam)
  (qa5 (qb3 (qae (pv 0) T.w00 T.w0g ((w2u T).mono (by decide)) hr T.w36 .nil qas (qa0 (qc4 (caps:=[3]) (cn:=["own_line"]) (qbd rfl rfl (by rfl) (by rfl) rfl ⟨rfl,trivial⟩ (by rfl) rfl ⟨⟨rfl,rfl,rfl,rfl,_,rfl⟩,trivial⟩ (by decide)) rfl (qbv (pv 4)) (fun _ _ _ _=>(pf_one (qaj qd5 (pv 0) (pv 1) (by rfl)))) (fun _ _ _ _=>(pv 0))) (qa0 (qae (pv 0) T.w00 T.w02 ((w0a T).mono (by decide)) hr T.w0b .nil qas (qa0 (pv 1) qa2)) qa2))))))))),?_⟩
 walk_at "d"
 try dsimp only [cxC]
 refine qaf (σ:=[some (.ref t),some (.str z),some (.str y),none,none]) rfl ?_
 have ct:=T.w00
 obtain⟨dx,ht⟩:=id hM.tr.1
 walk_at "g"
 refine⟨t,S,.str z,rfl,hM.tr,.inl ⟨z,zs,rfl,hM.lz,hM.l1,fun lz hlz=>?_⟩⟩
 have s1:=qa7 hlz (.lst (zs.map V.str))
 have elz:upd H lz (.lst (zs.map V.str)) lz=some (.lst (zs.map V.str)):=qa1
 generalize upd H lz (.lst (zs.map V.str))=H1 at*
 have ht1:=s1 _ _ ht
 walk_at "g"
 refine⟨t,S,.str y,rfl,hM.tr.same s1,.inl ⟨y,ys,rfl,hM.ly,hM.l2,fun ly hly=>?_⟩⟩
 have s2:=qa7 hly (.lst (ys.map V.str))
 have ely:upd H1 ly (.lst (ys.map V.str)) ly=some (.lst (ys.map V.str)):=qa1
 have elz2:=qad (o':=.lst (ys.map V.str)) elz hly
 generalize upd H1 ly (.lst (ys.map V.str))=H2 at*
 have t2:=s1.trans s2
 have hM2:=hM.same t2
 have ht2:=t2 _ _ ht
 clear ht ht1 elz hlz hly
 walk_at "g"
 refine r_inSt (SqL.of ely) ?_
 refine⟨_,rfl,?_⟩
 by_cases c1:z∈ys
 .rw [decide_eq_true c1]
  walk_at "g"
  exact q1 (.inl c1) _ t2
 rw [decide_eq_false c1]
 walk_at "g"
 refine⟨t,S,.str z,rfl,hM2.tr,.inl ⟨z,rfl⟩,fun e he=>?_,fun hn=>?_⟩
 rotate_left
 .rw [show who S (.str z)=some ez from hM.az] at hn;cases hn
 have ee:ez=e:=Option.some.inj (hM.az.symm.trans he)
 subst ee
 cases hel:ez.x.el with
 |none=>exact absurd (hM.rt hel) c1
 |some u=>
  rw [show eV (some u)=V.str u from rfl]
  walk_at "g"
  by_cases c2:y=u
  .rw [decide_eq_true c2]
   walk_at "g"
   exact q1 (.inr (by rw [hel,c2])) _ t2
  rw [decide_eq_false c2]
  have q2:=q2 c1 (fun e=>c2 (by rw [hel] at e;exact(Option.some.inj e).symm))
  have hyl:(ys.map V.str).length=ys.length:=length_map _
  walk_at "g"
  refine⟨t,S,z,ez,zs,rfl,hM2.tr,hM.wf,hM.az,hM.dz,hM.lz,hM.l1,hM.bl,fun bs0 u0 us0 H3 s3 hB0 hu0 hL0=>?_⟩
  have hdp:=hM.dp c1 bs0 hB0 u0 hu0 us0 hL0
  have t3:=t2.trans s3
  have ely3:=s3 _ _ ely
  have elz3:=s3 _ _ elz2
  have ht3:=s3 _ _ ht2
  have hM3:=hM2.same s3
  clear ely elz2 ht2 hM2 q1
  walk_at "g"
  intro C s0 H0 fp ln hln
  refine qg9 ys.length (fun i H'=>qb0 H3 H'/\H' ln=some (.lst ((qds (ys.take i) zs).map V.str))) ⟨qa7 hln _,qa1⟩ ?_ ?_ ?_ ?_
  .rintro i H' hi ⟨sm,_⟩
   exact⟨_,.str ys[i],SqL.of (sm _ _ ely3),by rw [getElem?_map,getElem?_eq_getElem hi];rfl⟩
  .rintro H' ⟨sm,_⟩
   exact⟨_,SqL.of (sm _ _ ely3),by rw [length_map];exact Nat.le_refl _⟩
  .rintro i H' v H'' hi ⟨sm,ea⟩ ⟨rfl,hv⟩
   have hv:=hv _ (SqL.of (sm _ _ ely3))
   rw [getElem?_map,getElem?_eq_getElem hi] at hv
   cases hv
   have tk:ys.take (i+1)=ys.take i++ [ys[i]]:=by rw [take_add_one,getElem?_eq_getElem hi];rfl
   generalize ys[i]=w at*
   have elz4:=sm _ _ elz3
   have zl:((qds (ys.take i) zs).map V.str).length < sizeLine:=by
    rw [length_map]
    have h1:=length_filter_le (fun u=>!decide (u∈zs)) (ys.take i)
    rw [length_take] at h1
    have:=hM.l2
    show (qds (ys.take i) zs).length < 16777216
    unfold qds
    omega
   clear hv
   walk_at "g"
   refine r_notInSt (SqL.of elz4) ?_
   by_cases c:w∈zs
   .rw [decide_eq_true c]
    walk_at "g"
    refine⟨sm,?_⟩
    rw [ea,tk]
    unfold qds
    rw [filter_append,filter_cons,if_neg (by rw [decide_eq_true c];exact Bool.false_ne_true),List.filter_nil,append_nil]
   .rw [decide_eq_false c]
    walk_at "g"
    refine⟨qax sm hln,?_⟩
    rw [qa1,tk]
    unfold qds
    rw [filter_append,filter_cons,if_pos (by rw [decide_eq_false c];rfl),map_append];rfl
  rintro H4 ⟨s4,eln⟩
  rw [take_length] at eln
  have ht4:=s4 _ _ ht3
  have hM4:=hM3.same s4
  have t4:=t3.trans s4
  clear ely3 elz3 ht3 hM3 hln
  walk_at "g"
  refine⟨t,S,.str z,rfl,hM4.tr,hM.wf,hM.ow,.inl ⟨z,rfl⟩,fun e1 he1=>?_,fun hn=>?_⟩
  rotate_left
  .rw [show who S (.str z)=some ez from hM.az] at hn;cases hn
  have ee:ez=e1:=Option.some.inj (hM.az.symm.trans he1)
  subst ee
  rw [(qb9 hM.az).2]
  refine⟨hM.dz,fun lp bs kp H5 s5 hlp elp hB hAp=>?_⟩
  obtain⟨qa,qb⟩:=q2 bs hB
  have hM5:=hM4.same s5
  have ht5:=s5 _ _ ht4
  have t5:=t4.trans s5
  have hbs:∀b∈bs,∃eb,S.at b=some eb/\eb∈S.hl:=fun b hb1=>by
   have hb2:b∈S.hl.map (·.n):=by
    rcases(qc2 hM.wf (Ben.part hB)).2 b hb1 with rfl|h
    .exact mem_map.mpr ⟨ez,(qb9 hM.az).1,(qb9 hM.az).2⟩
    .exact h
   obtain⟨eb,h3,rfl⟩:=mem_map.mp hb2
   exact⟨eb,qf0 hM.wf.1 h3,h3⟩
  have sup:∀v,qcu (bs.map (qcn S)) v≠none->v∈S.ws:=by
   refine sum_sup (fun u hu v hv=>?_) noF (fun v hv=>absurd rfl hv)
   obtain⟨b,hb1,rfl⟩:=mem_map.mp hu
   obtain⟨eb,h3,h4⟩:=hbs b hb1
   rw [qdk h3] at hv
   exact hM.ow.2 eb h4 v hv
  walk_at "g"
  refine⟨t,ln,lp,S,qds ys zs,kp,_,rfl,hM5.tr,hM.wf,hM.ow,SqL.of (s5 _ _ eln),elp,hAp,hM.w5,hM.wl,sup,fun u hu=>hM.hy u (mem_filter.mp hu).1,fun hf H6 s6=>?_,fun i u e' cs v h1 h2 h3 h4 h5 h6=>?_⟩
  .walk_at "g"
   exact qa hf _ (t5.trans s6)
  .exact(qb i u e' cs v h1 h2 h3 h4 h5 h6).same t5
def mvE (z y:Str) (e:He):He:=if e.n=z then {e with x:={e.x with el:=some y}} else e
def mvS (S:Ts) (z y:Str):Ts:={S with hl:=S.hl.map (mvE z y)}
theorem mvE_n (z y:Str) (e:He):(mvE z y e).n=e.n:=by unfold mvE;split <;> rfl
theorem mvE_a (z y:Str) (e:He):(mvE z y e).a=e.a:=by unfold mvE;split <;> rfl
theorem mvS_keys (S:Ts) (z y:Str):(mvS S z y).keys=S.keys:=by
 unfold Ts.keys mvS
 dsimp only
 rw [map_map]
 exact List.map_congr_left fun e _=>by show ((mvE z y e).n,(mvE z y e).a)=_;rw [mvE_n,mvE_a]
theorem mvS_names (S:Ts) (z y:Str):(mvS S z y).hl.map (·.n)=S.hl.map (·.n):=by
 unfold mvS
 dsimp only
 rw [map_map]
 exact List.map_congr_left fun e _=>mvE_n z y e
def w8z (K:Frag) (d:Ad):Sp:=fun vs H Q E=>∃(t:Addr) (S:Ts) (z y:Str) (ez ey:He) (zs ys:List Str),vs=[.ref t,.str z,.str y]/\MvAt K d H t S z y ez ey zs ys/\(S.hl.map (·.a)).Nodup/\
 ((z∈ys\/ez.x.el=some y)->∀H',qb0 H H'->E (.ref d.w24) none H')/\
 (z∉ys->ez.x.el≠some y->∀bs,Ben S 12 z bs->((∀u∈qds ys zs,Fine S (qcu (bs.map (qcn S))) u)->∀H',SameBut ez.a H H'->qcr d H' t (mvS S z y)->Q .non H')/\
  ∀(i:Nat) (u:Str) (e':He) (cs:List Str) (v:Str),(qds ys zs)[i]?=some u->S.at u=some e'->Ben S 12 u cs->qew (qdh (qcu (cs.map (qcn S))) (qcu (bs.map (qcn S)))) e'.x.fc v->(∀v',qew (qdh (qcu (cs.map (qcn S))) (qcu (bs.map (qcn S)))) e'.x.fc v'->leS v v')->(∀(j:Nat) (u':Str),j < i->(qds ys zs)[j]?=some u'->Fine S (qcu (bs.map (qcn S))) u')->NoP d H u v E)
include T in
theorem w8u:FnOk P w K mg base (My.CX1 P w) 20 d.w4n d.w4c ["self","name","elder"] (w8z K d):=by
 refine okX T.waf w94 (fun vs H Q E h=>?_) (fun cdv A outer s H vs Q E hr h=>?_)
 .obtain⟨t,S,z,y,ez,ey,zs,ys,rfl,_⟩:=h;rfl
 obtain⟨t,S,z,y,ez,ey,zs,ys,rfl,hM,nda,q1,q2⟩:=h
 refine⟨_,(qa3 (qb3 (qae (pv 0) T.w00 T.w0f ((w2r T).mono (by decide)) hr T.w34 .nil qas (qa0 (pv 1) (qa0 (pv 2) qa2))))
  (qa5 (qei (qck (qcc hr) (qbj (pv 0) rfl) (pv 1) (fun _ _=>rfl)) (pv 2) rfl))),?_⟩
 walk_at "d"
 refine qaf (σ:=[some (.ref t),some (.str z),some (.str y)]) rfl ?_
 have ct:=T.w00
 have ch:=T.w0z
 have nh:qap K d.w01 "houses":=T.w03
 have ne':qap K d.w04 "elder":=T.w0k
 obtain⟨dx,ht⟩:=id hM.tr.1
 walk_at "g"
 refine⟨t,S,z,y,ez,ey,zs,ys,rfl,hM,q1,fun c1 c2 bs hB=>⟨fun hf H1 s1=>?_,(q2 c1 c2 bs hB).2⟩⟩
 have q:=(q2 c1 c2 bs hB).1 hf
 have hM1:=hM.same s1
 obtain⟨⟨dx1,ht1⟩,hw1,hh1,nd1,hz1,hE1⟩:=id hM1.tr
 have hme:=qb9 hM.az
 obtain⟨⟨dh,ho⟩,hp,hpA,hc,hcA⟩:=hE1 ez hme.1
 clear ht
 walk_at "g"
 refine r_dgO (h:=ez.a) (.inl hh1) (by rw [qd6,hM.az];rfl) ?_
 walk_at "g"
 refine r_fsk ho ch ne' (by show 4 < 1000;decide) ?_
 have ef:qdp "elder" (.str y) (fsH ez.x)=fsH {ez.x with el:=some y}:=rfl
 rw [ef]
 walk_at "g"
 have sb:∀b u,b≠ez.a->H1 b=some u->upd H1 ez.a (.ins d.w04 dh (fsH {ez.x with el:=some y})) b=some u:=fun b u hb e=>by rw [qa6 hb];exact e
 have nk:∀{b:Addr} {u:HO},H1 b=some u->(∀dy f,u≠ .ins d.w04 dy f)->b≠ez.a:=fun e1 e2 e3=>by
  rw [e3,ho] at e1
  exact e2 _ _ (Option.some.inj e1).symm
 have ndT:d.w01≠d.w04\/True:=.inr trivial
 refine q _ (fun b u hb e=>sb b u hb (s1 _ _ e)) ⟨⟨dx1,?_⟩,sb _ _ (nk hw1 (fun _ _ e=>by cases e)) hw1,?_,?_,?_,fun e he=>?_⟩
 .by_cases c:t=ez.a
  .rw [c] at ht1
   rw [ht1] at ho
   have h1:=Option.some.inj ho
   injection h1 with h1 h2 h3
   exact absurd (congrArg List.length h3) (show ¬2=4 by decide)
  .exact sb _ _ c ht1
 .rw [mvS_keys]
  exact sb _ _ (nk hh1 (fun _ _ e=>by cases e)) hh1
 .rw [mvS_names];exact nd1
 .show (S.hl.map (mvE z y)).length<=60
  rw [length_map];exact hz1
 .obtain⟨e0,he0,rfl⟩:=mem_map.mp he
  obtain⟨⟨dy,h1⟩,h2,h3,h4,h5⟩:=hE1 e0 he0
  have p2:=sb _ _ (nk h2 (fun _ _ e=>by cases e)) h2
  have p4:=sb _ _ (nk h4 (fun _ _ e=>by cases e)) h4
  by_cases c:e0.n=z
  .have e1:e0=ez:=Option.some.inj (by rw [<-hM.az,<-c];exact(qf0 nd1 he0).symm)
   subst e1
   unfold mvE
   rw [if_pos c]
   exact⟨⟨dh,qa1⟩,p2,h3,p4,h5⟩
  .unfold mvE
   rw [if_neg c]
   have na:e0.a≠ez.a:=fun ea=>by
    obtain⟨i,hi,ei⟩:=mem_iff_getElem.mp he0
    obtain⟨j,hj,ej⟩:=mem_iff_getElem.mp hme.1
    have hij:i≠j:=fun x=>c (by subst x;rw [<-ei,ej];exact hme.2)
    have pw:=pairwise_iff_getElem.mp (show List.Pairwise (·≠·) (S.hl.map (·.a)) from nda)
    rcases Nat.lt_or_gt_of_ne hij with lt|lt
    .have:=pw i j (by rw [length_map];exact hi) (by rw [length_map];exact hj) lt
     rw [getElem_map,getElem_map,ei,ej] at this
     exact this ea
    .have:=pw j i (by rw [length_map];exact hj) (by rw [length_map];exact hi) lt
     rw [getElem_map,getElem_map,ei,ej] at this
     exact this ea.symm
   exact⟨⟨dy,sb _ _ na h1⟩,p2,h3,p4,h5⟩
abbrev ABC:Str:=Str.ofString "abcdefghijklmnopqrstuvwxyz"
def letc (i:Int):Nat:=97+(i%26).toNat
theorem letAt (g:Int):atI ABC.cps.toList (g%26)=some (letc g):=by
 have e0:=Int.emod_nonneg g (show (26:Int)≠0 by decide)
 have e1:=Int.emod_lt_of_pos g (show (0:Int) < 26 by decide)
 have h:∀k:Nat,k < 26->ABC.cps.toList[k]?=some (97+k):=by decide+kernel
 have e:g%26=(((g%26).toNat:Nat):Int):=by omega
 rw [e]
 rw [qat (h (g%26).toNat (by omega))]
 rfl
theorem letc_isL (g:Int):isL (letc g)=true:=by
 have e0:=Int.emod_nonneg g (show (26:Int)≠0 by decide)
 have e1:=Int.emod_lt_of_pos g (show (0:Int) < 26 by decide)
 unfold isL letc
 rw [Bool.and_eq_true,decide_eq_true_iff,decide_eq_true_iff]
 omega
theorem letc_inj {g g':Int} (h:letc g=letc g'):g%26=g'%26:=by
 have e0:=Int.emod_nonneg g (show (26:Int)≠0 by decide)
 have f0:=Int.emod_nonneg g' (show (26:Int)≠0 by decide)
 unfold letc at h
 omega
def nmJ (c k:Int) (j:Nat):Nat:=letc (c.fdiv 192+(0+(j:Int))*(c.fdiv 7%11)+k*if decide (0+(j:Int)=c.fdiv 24%(1+c.fdiv 3%8))=true then 1 else 0)
def nmL (c k:Int):List Nat:=if c%3=0 then List.replicate (1+(k+c.fdiv 78)%8).toNat (letc (c.fdiv 3+k.fdiv 8)) else (List.range (1+c.fdiv 3%8).toNat).map (nmJ c k)
def ofL (l:List Nat):Str:=⟨l.toArray⟩
def nmS (c k:Int):Str:=ofL (nmL c k)
theorem qeq (l:List Nat):qe0 (ofL l)=l:=by simp [qe0,ofL]
theorem ofL_inj {l m:List Nat} (h:ofL l=ofL m):l=m:=by rw [<-qeq l,<-qeq m,h]
theorem ofL_snoc (l:List Nat) (c:Nat):ofL l++(⟨#[c]⟩:Str)=ofL (l++ [c]):=by
 have e:(ofL l++(⟨#[c]⟩:Str)).cps=(ofL (l++ [c])).cps:=by
  rw [Str.cps_append]
  simp [ofL]
 exact congrArg Str.mk e
theorem ofL_len (l:List Nat):(ofL l).length=l.length:=by simp [ofL,Str.length]
theorem nmS_good (c k:Int):qda (nmS c k)=true:=by
 have a0:=Int.emod_nonneg (k+c.fdiv 78) (show (8:Int)≠0 by decide)
 have a1:=Int.emod_lt_of_pos (k+c.fdiv 78) (show (0:Int) < 8 by decide)
 have b0:=Int.emod_nonneg (c.fdiv 3) (show (8:Int)≠0 by decide)
 have b1:=Int.emod_lt_of_pos (c.fdiv 3) (show (0:Int) < 8 by decide)
 unfold qda nmS
 rw [ofL_len,qeq,Bool.and_eq_true,Bool.and_eq_true,decide_eq_true_iff,decide_eq_true_iff,all_eq_true]
 unfold nmL
 by_cases z:c%3=0
 .rw [if_pos z,List.length_replicate]
  refine⟨by omega,fun x hx=>?_⟩
  rw [(List.mem_replicate.mp hx).2]
  exact letc_isL _
 .rw [if_neg z,length_map,length_range]
  refine⟨by omega,fun x hx=>?_⟩
  obtain⟨j,_,rfl⟩:=mem_map.mp hx
  exact letc_isL _
theorem nmS_inj {c k k':Int} (h0:0<=k) (h1:k<=20) (g0:0<=k') (g1:k'<=20) (h:nmS c k=nmS c k'):k=k':=by
 have hl:=ofL_inj h
 unfold nmL at hl
 by_cases z:c%3=0
 .rw [if_pos z,if_pos z] at hl
  have hn:=congrArg List.length hl
  rw [List.length_replicate,List.length_replicate] at hn
  have a0:=Int.emod_nonneg (k+c.fdiv 78) (show (8:Int)≠0 by decide)
  have b0:=Int.emod_nonneg (k'+c.fdiv 78) (show (8:Int)≠0 by decide)
  have hc:letc (c.fdiv 3+k.fdiv 8)=letc (c.fdiv 3+k'.fdiv 8):=by
   have m:letc (c.fdiv 3+k.fdiv 8)∈List.replicate (1+(k+c.fdiv 78)%8).toNat (letc (c.fdiv 3+k.fdiv 8)):=List.mem_replicate.mpr ⟨by omega,rfl⟩
   rw [hl] at m
   exact(List.mem_replicate.mp m).2
  have hc':=letc_inj hc
  rw [Int.fdiv_eq_ediv_of_nonneg k (by decide),Int.fdiv_eq_ediv_of_nonneg k' (by decide)] at hc'
  generalize c.fdiv 78=x at*
  generalize c.fdiv 3=y at*
  omega
 .rw [if_neg z,if_neg z] at hl
  have b0:=Int.emod_nonneg (c.fdiv 3) (show (8:Int)≠0 by decide)
  have at0:=Int.emod_nonneg (c.fdiv 24) (show (1+c.fdiv 3%8:Int)≠0 by omega)
  have at1:=Int.emod_lt_of_pos (c.fdiv 24) (show (0:Int) < 1+c.fdiv 3%8 by omega)
  have hj:=congrArg (fun l:List Nat=>l[(c.fdiv 24%(1+c.fdiv 3%8)).toNat]?) hl
  simp only [getElem?_map] at hj
  rw [List.getElem?_range (by omega)] at hj
  have hj':nmJ c k (c.fdiv 24%(1+c.fdiv 3%8)).toNat=nmJ c k' (c.fdiv 24%(1+c.fdiv 3%8)).toNat:=by simpa using hj
  unfold nmJ at hj'
  have e:(0:Int)+(((c.fdiv 24%(1+c.fdiv 3%8)).toNat:Nat):Int)=c.fdiv 24%(1+c.fdiv 3%8):=by omega
  rw [e,decide_eq_true rfl,if_pos rfl] at hj'
  have:=letc_inj hj'
  generalize c.fdiv 192+c.fdiv 24%(1+c.fdiv 3%8)*(c.fdiv 7%11)=x at*
  omega
def wbg (K:Frag) (d:Ad):Sp:=fun vs H Q _=>∃(a:Addr) (ns:List Int) (k:Int),vs=[.ref a,.int k]/\SqL K H a (ns.map V.int)/\0<=k/\Q (.int (cell ns k)) H
include T in
theorem w4f:FnOk P w K mg base CX0 1 d.w6v d.w5q ["_law_script","_law_k"] (wbg K d):=by
 refine T.w49.ok wbc (fun vs H Q E h=>?_) (fun cdv A outer s H vs Q E hr h=>?_)
 .obtain⟨a,ns,k,rfl,_⟩:=h;rfl
 obtain⟨a,ns,k,rfl,hS,h0,q⟩:=h
 refine⟨_,(qa3 (qb8 (qaj op_lt (pv 1) (qac qan rfl T.w1h PySem.boot_len (qa0 (pv 0) qa2)) (qar _)) (qa5 (qai (qak qab (pv 0) (pv 1) (fun _ _=>rfl)))) qam)
  (qa5 (qai qa8))),?_⟩
 walk_at "d"
 refine qaf (σ:=[some (.ref a),some (.int k)]) rfl ?_
 walk_at "g"
 have hl:(ns.map V.int).length=ns.length:=length_map _
 refine i_2 (fun c=>?_) (fun c=>?_)
 .rw [hl] at c
  walk_at "g"
  refine qau hS (qg6 h0 c) ?_
  exact q
 .rw [hl] at c
  walk_at "g"
  rw [cell_out c h0] at q;exact q
def wcw (K:Frag) (d:Ad):Sp:=fun vs H Q _=>∃c k:Int,vs=[.int c,.int k]/\0<=k/\k<=10000/\∀r:Int,0<=r->Q (.int r) H
include T in
theorem w86:FnOk P w K mg base CX0 1 d.waa d.w7t ["_law_cell","_law_k"] (wcw K d):=by
 refine T.w8c.ok waz (fun vs H Q E h=>?_) (fun cdv A outer s H vs Q E hr h=>?_)
 .obtain⟨c,k,rfl,_⟩:=h;rfl
 obtain⟨c,k,rfl,k0,k1,q⟩:=h
 refine⟨_,(qa3 (qah (i:=2) waz.nd rfl (Or.inl rfl) (qal qbm (qal qbi (qal qbi (pv 0) (qal qca qa8 (pv 1))) qa8) qa8))
  (qa5 (qai (qal qbm (qal qca (qal qbm (qal qca (pv 2) (pv 2)) qa8) qa8) qa8)))),?_⟩
 walk_at "d"
 refine qaf (σ:=[some (.int c),some (.int k),none]) rfl ?_
 walk_at "g"
 have m0:=Int.emod_nonneg (c+7919*k+12345) (show (2147483629:Int)≠0 by decide)
 have m1:=Int.emod_lt_of_pos (c+7919*k+12345) (show (0:Int) < 2147483629 by decide)
 generalize (c+7919*k+12345)%2147483629=u at*
 walk_at "g"
 have n0:=Int.emod_nonneg (u*u) (show (2147483629:Int)≠0 by decide)
 have n1:=Int.emod_lt_of_pos (u*u) (show (0:Int) < 2147483629 by decide)
 generalize u*u%2147483629=y at*
 walk_at "g"
 exact q _ (Int.emod_nonneg _ (by decide))
def wdn (K:Frag) (d:Ad):Sp:=fun vs H Q _=>∃c k:Int,vs=[.int c,.int k]/\0<=k/\k<=1000/\Q (.str (nmS c k)) H
include T in
theorem wcd:FnOk P w K mg base CX0 1 d.wby d.wan ["_law_cell","_law_k"] (wdn K d):=by
 refine T.wca.ok w3f (fun vs H Q E h=>?_) (fun cdv A outer s H vs Q E hr h=>?_)
 .obtain⟨c,k,rfl,_⟩:=h;rfl
 obtain⟨c,k,rfl,k0,k1,q⟩:=h
 refine⟨_,(qa3 (qah (i:=2) w3f.nd rfl (Or.inl rfl) qc0)
  (qa3 (qb8 (qaj qen (qal qbm (pv 0) qa8) qa8 (qar _)) (qa5 (qai (qal op_repC (qak ix_str (pv 2) (qal qbm (qal qbi (qal qbh (pv 0) qa8) (qal qbh (pv 1) qa8)) qa8) (fun _ _=>rfl)) (qal qbi qa8 (qal qbm (qal qbi (pv 1) (qal qbh (pv 0) qa8)) qa8))))) qam)
  (qa3 (qah (i:=3) w3f.nd rfl (Or.inl rfl) (qal qbi qa8 (qal qbm (qal qbh (pv 0) qa8) qa8)))
  (qa3 (qah (i:=4) w3f.nd rfl (Or.inl rfl) (qal qbm (qal qbh (pv 0) qa8) (pv 3)))
  (qa3 (qah (i:=5) w3f.nd rfl (Or.inl rfl) qc0)
  (qa3 (qbe PassesOwn.never rfl (qav rfl T.w0q (qa0 (pv 3) qa2)) (qaq (i:=6) w3f.nd rfl (Or.inl rfl)) (qa3 (qah (i:=7) w3f.nd rfl (Or.inl rfl) (qal qca (pv 1) (qb6 call_intB rfl T.wdt PyProof.Rows.boot_int (qa0 (qdm qen (pv 6) (pv 4) (qar _)) qa2))))
  (qa3 (qah (i:=8) w3f.nd rfl (Or.inl rfl) (qal qbi (qal qbi (qal qbh (pv 0) qa8) (qal qca (pv 6) (qal qbm (qal qbh (pv 0) qa8) qa8))) (pv 7)))
  (qa5 (qah (i:=5) w3f.nd rfl (Or.inl rfl) (qal op_catS (pv 5) (qak ix_str (pv 2) (qal qbm (pv 8) qa8) (fun _ _=>rfl))))))))
  (qa5 (qai (pv 5))))))))),?_⟩
 walk_at "d"
 refine qaf (σ:=[some (.int c),some (.int k),none,none,none,none,none,none,none]) rfl ?_
 walk_at "g"
 refine i_2 (fun z=>?_) (fun z=>?_)
 .walk_at "g"
  refine r_ixS (by decide) (letAt _) ?_
  walk_at "g"
  have a0:=Int.emod_nonneg (k+c.fdiv 78) (show (8:Int)≠0 by decide)
  have a1:=Int.emod_lt_of_pos (k+c.fdiv 78) (show (0:Int) < 8 by decide)
  refine r_repC (by omega) (by omega) ?_
  unfold nmS nmL at q
  rw [if_pos z] at q
  exact q
 .walk_at "g"
  have b0:=Int.emod_nonneg (c.fdiv 3) (show (8:Int)≠0 by decide)
  have b1:=Int.emod_lt_of_pos (c.fdiv 3) (show (0:Int) < 8 by decide)
  have d0:=Int.emod_nonneg (c.fdiv 7) (show (11:Int)≠0 by decide)
  have d1:=Int.emod_lt_of_pos (c.fdiv 7) (show (0:Int) < 11 by decide)
  have ks:k.natAbs < 2^600:=Nat.lt_of_le_of_lt (show k.natAbs<=1000 by omega) (by decide)
  have ds:(c.fdiv 7%11).natAbs < 2^600:=Nat.lt_of_le_of_lt (show (c.fdiv 7%11).natAbs<=11 by omega) (by decide)
  refine qbx (fun i σ H'=>H'=H/\∃w1 w2 w3,σ=[some (V.int c),some (V.int k),some (V.str ABC),some (V.int (1+c.fdiv 3%8)),some (V.int (c.fdiv 24%(1+c.fdiv 3%8))),some (V.str (ofL ((List.range i).map (nmJ c k)))),w1,w2,w3]) ⟨rfl,none,none,none,rfl⟩ ?_ ?_
  .rintro i σ H' hi ⟨rfl,w1,w2,w3,rfl⟩
   have is:((0:Int)+(i:Int)).natAbs < 2^600:=Nat.lt_of_le_of_lt (show ((0:Int)+(i:Int)).natAbs<=8 by omega) (by decide)
   walk_at "g"
   refine r_ixS (by decide) (letAt _) ?_
   have lz:(ofL ((List.range i).map (nmJ c k))).length=i:=by rw [ofL_len,length_map,length_range]
   refine r_catS ?_ ?_
   .rw [lz];show _+1<=16777216;omega
   walk_at "g"
   have ee:(List.range (i+1)).map (nmJ c k)=(List.range i).map (nmJ c k)++ [nmJ c k i]:=by rw [range_succ,map_append];rfl
   rw [ofL_snoc,ee]
   exact⟨rfl,_,_,_,rfl⟩
  .rintro σ H' ⟨rfl,w1,w2,w3,rfl⟩
   walk_at "g"
   unfold nmS nmL at q
   rw [if_neg z] at q
   exact q
def iV (e:Nat):V:=.int (e:Int)
def wcb (K:Frag) (d:Ad):Sp:=fun vs H Q _=>∃(lc:Addr) (cs:List Int) (sh:Int),vs=[.ref lc,.int sh]/\SqL K H lc (cs.map V.int)/\cs.length<=12/\
 ∀(l:Addr) (es:List Nat),H l=none->es.length=cs.length->(∀(k e:Nat),es[k]?=some e->e<=k/\e<=10)->Q (.ref l) (upd H l (.lst (.non :: es.map iV)))
include T in
theorem wbx:FnOk P w K mg base CX0 1 d.w7y d.w73 ["_law_cells","_law_shape"] (wcb K d):=by
 refine T.wb7.ok w31 (fun vs H Q E h=>?_) (fun cdv A outer s H vs Q E hr h=>?_)
 .obtain⟨lc,cs,sh,rfl,_⟩:=h;rfl
 obtain⟨lc,cs,sh,rfl,hS,hn,q⟩:=h
 refine⟨_,(qa3 (qah (i:=2) w31.nd rfl (Or.inl rfl) (qc1 (qa0 qdg qa2)))
  (qa3 (qbe PassesOwn.never rfl (qav rfl T.w0q (qa0 (qac qan rfl T.w1h PySem.boot_len (qa0 (pv 0) qa2)) qa2)) (qaq (i:=3) w31.nd rfl (Or.inl rfl)) (qa3 (qah (i:=4) w31.nd rfl (Or.inl rfl) (qal qbm (qak qab (pv 0) (pv 3) (fun _ _=>rfl)) (qac (qer rfl) rfl T.wdq PyProof.Rows.boot_min (qa0 (qal qbi (pv 3) qa8) (qa0 qa8 qa2)))))
  (qa3 (qej (qb8 (qaj qen (pv 1) qa8 (qar _)) (qa5 (qah (i:=4) w31.nd rfl (Or.inl rfl) (qac (qer rfl) rfl T.wdq PyProof.Rows.boot_min (qa0 (pv 3) (qa0 qa8 qa2))))) qam))
  (qa3 (qej (qb8 (qaj qen (pv 1) qa8 (qar _)) (qa5 (qah (i:=4) w31.nd rfl (Or.inl rfl) (qac (qer rfl) rfl T.wdq PyProof.Rows.boot_min (qa0 (qac (call_maxR rfl) rfl T.wek PyProof.Rows.boot_max (qa0 qa8 (qa0 (qal op_sub (pv 3) qa8) qa2))) (qa0 qa8 qa2))))) qam))
  (qa5 (qb3 (qg1 PySem.F.plainAttrs_list PySem.F.slot_list_append PySem.F.type_list_append qbk (pv 2) (qa0 (pv 4) qa2))))))))
  (qa5 (qai (pv 2))))),?_⟩
 walk_at "d"
 refine qaf (σ:=[some (.ref lc),some (.int sh),none,none,none]) rfl ?_
 have hl:(cs.map V.int).length=cs.length:=length_map _
 walk_at "g"
 rename_i l hl0
 refine qbx (fun i σ H'=>∃(es:List Nat) (w1 w2:Option V),σ=[some (.ref lc),some (.int sh),some (.ref l),w1,w2]/\H'=upd H l (.lst (.non :: es.map iV))/\es.length=i/\∀(k e:Nat),es[k]?=some e->e<=k/\e<=10) ⟨[],none,none,rfl,rfl,rfl,fun k e h=>by simp at h⟩ ?_ ?_
 .rintro i σ H' hi ⟨es,w1,w2,rfl,rfl,hes,hp⟩
  have hi':i < cs.length:=by omega
  have eL:upd H l (.lst (.non :: es.map iV)) l=some (.lst (.non :: es.map iV)):=qa1
  have hS':=qdx (o:=.lst (.non :: es.map iV)) hS hl0
  walk_at "g"
  refine qau hS' (qg6 (by omega) (by omega)) ?_
  walk_at "g"
  generalize hm:(if (11:Int) < 0+(i:Int)+1 then (11:Int) else 0+(i:Int)+1)=m
  have m0:0 < m/\m<=(i:Int)+1/\m<=11:=by rw [<-hm];split <;> omega
  have a0:=Int.emod_nonneg (cell cs (0+(i:Int))) (show m≠0 by omega)
  have a1:=Int.emod_lt_of_pos (cell cs (0+(i:Int))) m0.1
  generalize cell cs (0+(i:Int))%m=a at*
  refine r_cut (fun σ H'=>∃a:Int,σ=[some (.ref lc),some (.int sh),some (.ref l),some (.int (0+(i:Int))),some (.int a)]/\H'=upd H l (.lst (.non :: es.map iV))/\0<=a/\a<=i/\a<=10) ?_ ?_
  .walk_at "g"
   refine i_2 (fun c=>?_) (fun c=>?_)
   .walk_at "g"
    exact⟨_,rfl,rfl,by split <;> omega,by split <;> omega,by split <;> omega⟩
   .walk_at "g"
    exact⟨_,rfl,rfl,by omega,by omega,by omega⟩
  rintro σ' H' ⟨a,rfl,rfl,a0,a1,a2⟩
  walk_at "g"
  refine r_cut (fun σ H'=>∃a:Int,σ=[some (.ref lc),some (.int sh),some (.ref l),some (.int (0+(i:Int))),some (.int a)]/\H'=upd H l (.lst (.non :: es.map iV))/\0<=a/\a<=i/\a<=10) ?_ ?_
  .walk_at "g"
   refine i_2 (fun c=>?_) (fun c=>?_)
   .walk_at "g"
    refine⟨_,rfl,rfl,?_,?_,?_⟩ <;>(split <;> split <;> omega)
   .walk_at "g"
    exact⟨_,rfl,rfl,by omega,by omega,by omega⟩
  rintro σ' H' ⟨a,rfl,rfl,a0,a1,a2⟩
  have hzz:(V.non :: es.map iV).length < sizeLine:=by rw [length_cons,length_map];show _ < 16777216;omega
  walk_at "g"
  rw [qbr]
  have ea:V.int a=iV a.toNat:=by unfold iV;rw [Int.toNat_of_nonneg a0]
  refine⟨es++ [a.toNat],_,_,rfl,by rw [ea,map_append];rfl,by rw [length_append,hes];rfl,fun k e he=>?_⟩
  rcases Nat.lt_or_ge k es.length with h|h
  .rw [List.getElem?_append_left h] at he
   exact hp k e he
  .have hk:=(List.getElem?_eq_some_iff.mp he).1
   rw [length_append,length_singleton] at hk
   have ek:k=es.length:=by omega
   subst ek
   rw [List.getElem?_append_right (Nat.le_refl _),Nat.sub_self] at he
   have:a.toNat=e:=by simpa using he
   omega
 .rintro σ H' ⟨es,w1,w2,rfl,rfl,hes,hp⟩
  walk_at "g"
  exact q l es hl0 (by omega) hp
theorem at_ws {ws:List Str} {i:Nat} (hi:i < ws.length) {k:Int} (e:k=(i:Int)):atI (ws.map V.str) k=some (.str ws[i]):=by
 subst e
 exact qat (by rw [getElem?_map,getElem?_eq_getElem hi];rfl)
def qev (ws:List Str) (B:Int) (f:Str->Option Int):Prop:=∀z n,f z=some n->z∈ws/\0<=n/\n<=B
theorem qev.put {ws:List Str} {B:Int} {f:Str->Option Int} (h:qev ws B f) {z:Str} {n:Int} (hz:z∈ws) (h0:0<=n) (h1:n<=B):qev ws B (qdy f z n):=fun y m e=>by
 unfold qdy at e
 by_cases c:y=z
 .rw [if_pos c] at e;cases e;rw [c];exact⟨hz,h0,h1⟩
 .rw [if_neg c] at e;exact h y m e
theorem qg5 {ws:List Str} {B:Int}:qev ws B noF:=fun z n e=>by cases e
structure PtN (H H':Hp) (ws:List Str) (B:Int) (t:Pt):Prop where
 fr:H t.a=none
 loc:H' t.a=some (.dK t.k)
 ad:AD t.k t.f
 fn:qev ws B t.f
structure ScOk (sc:Int):Prop where
 lo:0<=sc
 hi:sc<=10^27
def wae (K:Frag) (d:Ad):Sp:=fun vs H Q _=>∃(lc lw:Addr) (cs:List Int) (ws:List Str) (sc:Int),vs=[.ref lc,.ref lw,.int sc]/\SqL K H lc (cs.map V.int)/\cs.length<=13/\SqL K H lw (ws.map V.str)/\ws.length<=3/\ScOk sc/\
 ∀(l:Addr) (ts:List Pt) H',qb0 H H'->H l=none->H' l=some (.lst (ts.map fun t=> .ref t.a))->ts.length=cs.length->(∀t∈ts,PtN H H' ws (5*10^27) t)->Q (.ref l) H'
include T in
theorem w9r:FnOk P w K mg base CX0 2 d.w5y d.w4v ["_law_cells","_law_wares","_law_scale"] (wae K d):=by
 refine T.w7n.ok w1v (fun vs H Q E h=>?_) (fun cdv A outer s H vs Q E hr h=>?_)
 .obtain⟨lc,lw,cs,ws,sc,rfl,_⟩:=h;rfl
 obtain⟨lc,lw,cs,ws,sc,rfl,hS,hn,hW,hw,sk,q⟩:=h
 refine⟨_,(qa3 (qah (i:=3) w1v.nd rfl (Or.inl rfl) (qc1 qa2))
  (qa3 (qbe PassesOwn.never rfl (qav rfl T.w0q (qa0 (qac qan rfl T.w1h PySem.boot_len (qa0 (pv 0) qa2)) qa2)) (qaq (i:=4) w1v.nd rfl (Or.inl rfl)) (qa3 (qah (i:=5) w1v.nd rfl (Or.inl rfl) qcw)
  (qa3 (qbe PassesOwn.never rfl (qav rfl T.w0q (qa0 (qac qan rfl T.w1h PySem.boot_len (qa0 (pv 1) qa2)) qa2)) (qaq (i:=6) w1v.nd rfl (Or.inl rfl)) (qa3 (qah (i:=7) w1v.nd rfl (Or.inl rfl) (qag ((w86 T).mono (by decide)) hr rfl T.wa9 T.w8c.kp T.wa4 .nil qaw (qa0 (qal qbh (qak qab (pv 0) (pv 4) (fun _ _=>rfl)) qa8) (qa0 (qal qbi (qal qca qa8 (pv 4)) (pv 6)) qa2))))
  (qa5 (qej (qb8 (qaj qey (qal qbm (pv 7) qa8) qa8 (qar _)) (qa5 (qcv (qcc hr) (pv 5) (qak qab (pv 1) (pv 6) (fun _ _=>rfl)) (qal qca (qal qbm (qal qbh (pv 7) qa8) qa8) (pv 2)) rfl)) qam)))))
  (qa5 (qb3 (qg1 PySem.F.plainAttrs_list PySem.F.slot_list_append PySem.F.type_list_append qbk (pv 3) (qa0 (pv 5) qa2)))))))
  (qa5 (qai (pv 3))))),?_⟩
 walk_at "d"
 refine qaf (σ:=[some (.ref lc),some (.ref lw),some (.int sc),none,none,none,none,none]) rfl ?_
 have hl:(cs.map V.int).length=cs.length:=length_map _
 have hl2:(ws.map V.str).length=ws.length:=length_map _
 walk_at "g"
 rename_i l hl0
 refine qbx (fun i σ H'=>∃(ts:List Pt) (w1 w2 w3 w4:Option V),σ=[some (.ref lc),some (.ref lw),some (.int sc),some (.ref l),w1,w2,w3,w4]/\qb0 H H'/\H' l=some (.lst (ts.map fun t=> .ref t.a))/\ts.length=i/\∀t∈ts,PtN H H' ws (5*10^27) t) ⟨[],none,none,none,none,rfl,qa7 hl0 _,qa1,rfl,fun t h=>by simp at h⟩ ?_ ?_
 .rintro i σ H' hi ⟨ts,w1,w2,w3,w4,rfl,sm,eL,hts,hp⟩
  have hi':i < cs.length:=by omega
  have hW1:=sm.seq hW
  have hS1:=sm.seq hS
  walk_at "g"
  rename_i p hpn
  have hp0:H p=none:=sm.free hpn
  have nlp:l≠p:=fun z=>by subst z;rw [eL] at hpn;cases hpn
  refine qbx (fun j σ H2=>∃(k':List (Key × V)) (f:Str->Option Int) (w3 w4:Option V),σ=[some (.ref lc),some (.ref lw),some (.int sc),some (.ref l),some (.int (0+(i:Int))),some (.ref p),w3,w4]/\H2=upd H' p (.dK k')/\AD k' f/\qev ws (5*10^27) f/\k'.length<=j) ⟨[],noF,w3,w4,rfl,rfl,AD.nil,qg5,Nat.le_refl _⟩ ?_ ?_
  .rintro j σ H2 hj ⟨k',f,w3,w4,rfl,rfl,hA,hF,hk⟩
   have hj':j < ws.length:=by omega
   have s2:=qa7 hpn (.dK k')
   have hS2:=(sm.trans s2).seq hS
   have hW2:=(sm.trans s2).seq hW
   walk_at "g"
   refine qau hS2 (qg6 (by omega) (by omega)) ?_
   walk_at "g"
   refine⟨_,_,rfl,by omega,by omega,fun r r0=>?_⟩
   walk_at "g"
   have e0:=Int.emod_nonneg (r.fdiv 4) (show (6:Int)≠0 by decide)
   have e1:=Int.emod_lt_of_pos (r.fdiv 4) (show (0:Int) < 6 by decide)
   have sb:sc.natAbs < 2^600:=by
    have a:=sk.lo
    have b:=sk.hi
    exact Nat.lt_of_le_of_lt (show sc.natAbs<=10^27 by omega) (by decide)
   have eb:(r.fdiv 4%6).natAbs < 2^600:=Nat.lt_of_le_of_lt (show (r.fdiv 4%6).natAbs<=6 by omega) (by decide)
   have v0:0<=r.fdiv 4%6*sc:=Int.mul_nonneg e0 sk.lo
   have v1:r.fdiv 4%6*sc<=5*10^27:=Int.mul_le_mul (by omega) sk.hi sk.lo (by decide)
   refine r_cut0 ?_
   walk_at "g"
   refine i_2 (fun c=>?_) (fun c=>?_)
   .walk_at "g"
    refine qau hW2 (at_ws hj' (by omega)) ?_
    walk_at "g"
    rw [qbr]
    have:=qbc k' (Sum.inr ws[j]) (.int (r.fdiv 4%6*sc))
    exact⟨_,_,_,_,rfl,rfl,hA.put ws[j] _,hF.put (getElem_mem hj') v0 v1,by omega⟩
   .walk_at "g"
    exact⟨_,_,_,_,rfl,rfl,hA,hF,by omega⟩
  .rintro σ H2 ⟨k',f,w3,w4,rfl,rfl,hA,hF,hk⟩
   have eL2:upd H' p (.dK k') l=some (.lst (ts.map fun t=> .ref t.a)):=by rw [qa6 nlp];exact eL
   walk_at "g"
   refine⟨ts++ [⟨p,k',f⟩],_,_,_,_,rfl,qax (qax sm hp0) hl0,by rw [qa1,map_append];rfl,by rw [length_append,hts];rfl,fun t ht=>?_⟩
   have s3:∀b o,b≠l->b≠p->H' b=some o->upd (upd H' p (.dK k')) l (.lst (ts.map (fun t=>V.ref t.a)++ [V.ref p])) b=some o:=fun b o h1 h2 e=>by rw [qa6 h1,qa6 h2];exact e
   rcases mem_append.mp ht with h|h
   .have z:=hp t h
    refine⟨z.fr,s3 _ _ (fun e=>by have:=z.loc;rw [e,eL] at this;cases this) (fun e=>?_) z.loc,z.ad,z.fn⟩
    have:=z.loc
    rw [e,hpn] at this
    cases this
   .have:t=⟨p,k',f⟩:=by simpa using h
    subst this
    exact⟨hp0,by rw [qa6 nlp.symm];exact qa1,hA,hF⟩
 .rintro σ H' ⟨ts,w1,w2,w3,w4,rfl,sm,eL,hts,hp⟩
  walk_at "g"
  exact q l ts H' sm hl0 eL (by omega) hp
def elN (es:List Nat) (k:Nat):Nat:=(es[k - 1]?).getD 0
def ptN (ts:List Pt) (k:Nat) (v:Str):Int:=match ts[k]? with
 |some t=>gN t.f v
 |none=>0
def qc6 (H:Hp) (ws:List Str) (qs:List Addr) (G:Nat->Str->Int):Prop:=∀(j:Nat) (q:Addr),qs[j]?=some q->∃(k:List (Key × V)) (f:Str->Option Int),H q=some (.dK k)/\AD k f/\(∀z,f z≠none->z∈ws)/\∀v,gN f v=G j v
theorem qc6.cast {H:Hp} {ws:List Str} {qs:List Addr} {G G':Nat->Str->Int} (h:qc6 H ws qs G) (e:∀j v,j < qs.length->G j v=G' j v):qc6 H ws qs G':=fun j q hq=>by
 obtain⟨k,f,a,b,c,g⟩:=h j q hq
 have hj:=(List.getElem?_eq_some_iff.mp hq).1
 exact⟨k,f,a,b,c,fun v=>by rw [g,e j v hj]⟩
theorem qc6.same {H H':Hp} {ws:List Str} {qs:List Addr} {G:Nat->Str->Int} (h:qc6 H ws qs G) (s:∀q∈qs,∀o,H q=some o->H' q=some o):qc6 H' ws qs G:=fun j q hq=>by
 obtain⟨k,f,a,r⟩:=h j q hq
 exact⟨k,f,s q (mem_of_getElem? hq) _ a,r⟩
theorem gN_put (f:Str->Option Int) (z:Str) (n:Int) (v:Str):gN (qdy f z n) v=if v=z then n else gN f v:=by
 unfold gN qdy
 by_cases c:v=z
 .rw [if_pos c,if_pos c];rfl
 .rw [if_neg c,if_neg c]
theorem qc6.put {H:Hp} {ws:List Str} {qs:List Addr} {G:Nat->Str->Int} (nd:qs.Nodup) (h:qc6 H ws qs G) {at_:Nat} {q:Addr} (hq:qs[at_]?=some q) {k:List (Key × V)} {f:Str->Option Int} (hA:AD k f) (hf:∀z,f z≠none->z∈ws) (hg:∀v,gN f v=G at_ v) {z:Str} (hz:z∈ws) {n:Int}:
  qc6 (upd H q (.dK (qdj k (Sum.inr z) (.int n)))) ws qs (fun j v=>if j=at_/\v=z then n else G j v):=fun j r hr=>by
 by_cases e:j=at_
 .subst e
  rw [hq] at hr;cases hr
  refine⟨_,_,qa1,hA.put z n,fun y hy=>?_,fun v=>?_⟩
  .unfold qdy at hy
   by_cases c:y=z
   .rw [c];exact hz
   .rw [if_neg c] at hy;exact hf y hy
  .show _=if j=j/\v=z then n else G j v
   rw [gN_put]
   by_cases c:v=z
   .rw [if_pos c,if_pos ⟨rfl,c⟩]
   .rw [if_neg c,if_neg (fun x=>c x.2),hg]
 .obtain⟨k',f',a,b,c,g⟩:=h j r hr
  have ne:r≠q:=fun x=>by
   subst x
   obtain⟨h1,e1⟩:=List.getElem?_eq_some_iff.mp hr
   obtain⟨h2,e2⟩:=List.getElem?_eq_some_iff.mp hq
   rcases Nat.lt_or_ge j at_ with lt|ge
   .exact(pairwise_iff_getElem.mp nd) j at_ h1 h2 lt (by rw [e1,e2])
   .exact(pairwise_iff_getElem.mp nd) at_ j h2 h1 (by omega) (by rw [e1,e2])
  exact⟨k',f',by rw [qa6 ne];exact a,b,c,fun v=>by show _=if j=at_/\v=z then n else G j v;rw [g,if_neg (fun x=>e x.1)]⟩
def oV:Option Nat->V
 |none=> .non
 |some a=> .int (a:Int)
noncomputable def restL (el:Nat->Nat):Option Nat->List Nat
 |none=> []
 |some a=>qa9 el a
noncomputable def meas4 (es:List Nat) (σ:L2.St):Nat:=match σ[4]? with
 |some (some (V.int a))=>(qa9 (elN es) a.toNat).length
 |_=>0
def we0 (K:Frag) (d:Ad):Sp:=fun vs H Q _=>∃(le lp:Addr) (es:List Nat) (ts:List Pt) (ws:List Str),vs=[.ref le,.ref lp]/\H le=some (.lst (.non :: es.map iV))/\SqL K H lp (ts.map fun t=> .ref t.a)/\ts.length=es.length+1/\ts.length<=13/\ws.length<=3/\
 Ac (elN es) ts.length/\(∀t∈ts,H t.a=some (.dK t.k)/\AD t.k t.f/\∀z,t.f z≠none->z∈ws)/\
 ∀(l:Addr) (qs:List Addr) H',qb0 H H'->H l=none->H' l=some (.lst (qs.map V.ref))->qs.length=ts.length->(∀q∈qs,H q=none)->qc6 H' ws qs (fun j v=>qce ts.length fun k=>if j∈qa9 (elN es) k then ptN ts k v else 0)->Q (.ref l) H'
include T in
theorem wa8:FnOk P w K mg base CX0 1 d.wc2 d.wad ["_law_elders_here","_law_promises_here"] (we0 K d):=by
 refine T.wb2.ok w4w (fun vs H Q E h=>?_) (fun cdv A outer s H vs Q E hr h=>?_)
 .obtain⟨le,lp,es,ts,ws,rfl,_⟩:=h;rfl
 obtain⟨le,lp,es,ts,ws,rfl,hE,hP,hn,h13,hw,ac,hts,q⟩:=h
 refine⟨_,(qa3 (qdz (j:=2) (caps:=[]) (cn:=[]) (qbd rfl rfl (by rfl) (by rfl) rfl trivial (by rfl) rfl trivial (by decide)) rfl w4w.nd rfl rfl (qbv (pv 1)) (fun _ _ _ _=>qcg) (fun _ _ _ _=>qcw))
  (qa3 (qbe PassesOwn.never rfl (qav rfl T.w0q (qa0 (qac qan rfl T.w1h PySem.boot_len (qa0 (pv 0) qa2)) qa2)) (qaq (i:=3) w4w.nd rfl (Or.inl rfl)) (qa3 (qah (i:=4) w4w.nd rfl (Or.inl rfl) (pv 3))
  (qa5 (qfy PassesOwn.never (qaj qcx (pv 4) qdg (qar _)) (qa3 (qf5 (qbe PassesOwn.never rfl (pi_items (pe_bm0 PySem.F.plainAttrs_dict PySem.F.slot_dict_items PySem.F.type_dict_items mt_items (qak qab (pv 1) (pv 3) (fun _ _=>rfl)))) (pg_tup rfl (qbg (qaq (i:=5) w4w.nd rfl (Or.inl rfl)) (qbg (qaq (i:=6) w4w.nd rfl (Or.inl rfl)) qfz))) (qa5 (qcv (qcc hr) (qak qab (pv 2) (pv 4) (fun _ _=>rfl)) (pv 5) (qal qbi (qg0 (qcc hr) (qak qab (pv 2) (pv 4) (fun _ _=>rfl)) (pv 5) qa8 ⟨rfl,rfl,rfl,rfl⟩) (pv 6)) rfl))))
  (qa5 (qah (i:=4) w4w.nd rfl (Or.inl rfl) (qak qab (pv 0) (pv 4) (fun _ _=>rfl)))))))))
  (qa5 (qai (pv 2))))),?_⟩
 walk_at "d"
 try dsimp only [cxC]
 refine qaf (σ:=[some (.ref le),some (.ref lp),none,none,none,none,none]) rfl ?_
 have hl:(ts.map fun t=>V.ref t.a).length=ts.length:=length_map _
 walk_at "g"
 intro C s0 H0 fp na hna
 refine qg9 ts.length (fun i H'=>∃qs:List Addr,qs.length=i/\qs.Nodup/\(∀q∈qs,H q=none/\q≠na/\H' q=some (.dK []))/\qb0 H H'/\H' na=some (.lst (qs.map V.ref))) ⟨[],rfl,nodup_nil,fun q h=>by simp at h,qa7 hna _,qa1⟩ ?_ ?_ ?_ ?_
 .rintro i H' hi ⟨qs,_,_,_,sm,_⟩
  exact⟨_,.ref ts[i].a,sm.seq hP,by rw [getElem?_map,getElem?_eq_getElem hi];rfl⟩
 .rintro H' ⟨qs,_,_,_,sm,_⟩
  exact⟨_,sm.seq hP,by rw [hl];exact Nat.le_refl _⟩
 .rintro i H' v H'' hi ⟨qs,e1,e2,e3,sm,eN⟩ ⟨rfl,hy⟩
  walk_at "g"
  rename_i p hpn
  have npn:p≠na:=fun z=>by subst z;rw [eN] at hpn;cases hpn
  refine⟨qs++ [p],by rw [length_append,e1];rfl,?_,fun q hq=>?_,qax (qax sm (sm.free hpn)) hna,by rw [qa1,map_append];rfl⟩
  .rw [nodup_append]
   refine⟨e2,nodup_cons.mpr ⟨by simp,nodup_nil⟩,fun a ha b hb e=>?_⟩
   have:b=p:=by simpa using hb
   subst this
   subst e
   rw [(e3 a ha).2.2] at hpn
   cases hpn
  .rcases mem_append.mp hq with h|h
   .obtain⟨a1,a2,a3⟩:=e3 q h
    exact⟨a1,a2,by rw [qa6 a2,qa6 (qa4 a3 hpn)];exact a3⟩
   .have:q=p:=by simpa using h
    subst this
    exact⟨sm.free hpn,npn,by rw [qa6 npn];exact qa1⟩
 rintro H' ⟨qs,e1,e2,e3,sm,eN⟩
 have hE':=sm _ _ hE
 have fq:∀q∈qs,H q=none/\q≠na:=fun q hq=>⟨(e3 q hq).1,(e3 q hq).2.1⟩
 walk_at "g"
 have hll:(V.non :: es.map iV).length=ts.length:=by rw [length_cons,length_map,hn]
 refine qbx (fun i σ H2=>∃w1 w2 w3 w4,σ=[some (.ref le),some (.ref lp),some (.ref na),w1,w2,w3,w4]/\qb0 H H2/\H2 na=some (.lst (qs.map V.ref))/\qc6 H2 ws qs (fun j v=>qce i fun k=>if j∈qa9 (elN es) k then ptN ts k v else 0)) ⟨none,none,none,none,rfl,sm,eN,fun j q hq=>?_⟩ ?_ ?_
 .exact⟨[],noF,(e3 q (mem_of_getElem? hq)).2.2,AD.nil,fun z h=>absurd rfl h,fun v=>rfl⟩
 .rintro i σ H2 hi ⟨w1,w2,w3,w4,rfl,s2,eN2,hG⟩
  have hi':i < ts.length:=by omega
  have tm:=getElem_mem hi'
  generalize ht:ts[i]=t at tm
  obtain⟨ht1,ht2,ht3⟩:=hts t tm
  have pt:∀v,ptN ts i v=gN t.f v:=fun v=>by unfold ptN;rw [getElem?_eq_getElem hi',ht]
  walk_at "g"
  simp only [Int.zero_add]
  refine qfm (fun σ H3=>∃(done:List Nat) (o:Option Nat) (w5 w6:Option V),σ=[some (.ref le),some (.ref lp),some (.ref na),some (.int (i:Int)),some (oV o),w5,w6]/\done++restL (elN es) o=qa9 (elN es) i/\(∀a,o=some a->a < ts.length)/\qb0 H H3/\H3 na=some (.lst (qs.map V.ref))/\qc6 H3 ws qs (fun j v=>(qce i fun k=>if j∈qa9 (elN es) k then ptN ts k v else 0)+if j∈done then gN t.f v else 0)) (fun σ _=>meas4 es σ) ⟨[],some i,w3,w4,rfl,rfl,fun a h=>by cases h;exact hi',s2,eN2,hG.cast fun j v _=>by simp⟩ ?_ ?_
  .rintro σ H3 ⟨done,o,w5,w6,rfl,hd,ha,s3,eN3,hG3⟩
   cases o with
   |none=>
    rw [show oV none=V.non from rfl]
    walk_at "g"
    have hd':done=qa9 (elN es) i:=by rw [<-hd];exact(append_nil _).symm
    refine⟨_,_,_,_,rfl,s3,eN3,hG3.cast fun j v _=>?_⟩
    rw [hd',<-pt v]
    rfl
   |some a=>
    have hai:=ha a rfl
    have haq:a < qs.length:=by omega
    rw [show oV (some a)=V.int (a:Int) from rfl]
    have hP3:=s3.seq hP
    have ht1':=s3 _ _ ht1
    walk_at "g"
    refine r_iI ?_
    walk_at "g"
    refine qau hP3 (qat (j:=i) (by rw [getElem?_map,getElem?_eq_getElem hi',ht];rfl)) ?_
    walk_at "g"
    refine r_items (.inl ht1') fun vw hvw=>?_
    refine r_itI qa1 (qad ht1' hvw) fun o2=>?_
    have nqt:∀q∈qs,q≠t.a:=fun q hq=>(qa4 ht1 (fq q hq).1).symm
    have nnt:na≠t.a:=(qa4 ht1 hna).symm
    have sb0:SameBut t.a H (upd (upd H3 vw (ViewO vw t.a)) t.a (.frz o2 (.dK t.k))):=SameBut.at (SameBut.of (s3.trans (qa7 hvw _)))
    refine f_items (fun m σ H4=>∃(w5 w6:Option V),σ=[some (.ref le),some (.ref lp),some (.ref na),some (.int (i:Int)),some (.int (a:Int)),w5,w6]/\SameBut t.a H H4/\H4 t.a=some (.frz o2 (.dK t.k))/\H4 na=some (.lst (qs.map V.ref))/\
     qc6 H4 ws qs (fun j v=>((qce i fun k=>if j∈qa9 (elN es) k then ptN ts k v else 0)+if j∈done then gN t.f v else 0)+if j=a/\v∈(qc5 t.k).take m then gN t.f v else 0)) ⟨w5,w6,rfl,sb0,qa1,by rw [qa6 nnt,qa6 (qa4 eN3 hvw)];exact eN3,?_⟩ ?_ ?_ ?_
    .refine(hG3.same fun q hq o e=>?_).cast fun j v _=>by simp
     rw [qa6 (nqt q hq),qa6 (qa4 e hvw)];exact e
    .rintro m σ H4 _ ⟨w5,w6,rfl,sb,fz,_⟩;exact fz
    .rintro m k x T σ H4 hk ⟨w5,w6,rfl,sb,fz,eN4,hG4⟩ hT
     obtain⟨z,n,rfl,rfl,hf,hzm⟩:=ht2.at hk
     obtain⟨kq,gq,q1,q2,q3,q4⟩:=hG4 a qs[a] (getElem?_eq_getElem haq)
     have s5:=qa7 hT (.tup [.str z,.int n])
     have eT:upd H4 T (.tup [.str z,.int n]) T=some (.tup [.str z,.int n]):=qa1
     have eN5:=s5 _ _ eN4
     have q1':=s5 _ _ q1
     have fz5:=s5 _ _ fz
     have hG5:=hG4.same (H':=upd H4 T (.tup [.str z,.int n])) fun q _ o e=>s5 _ _ e
     have sb5:=sb.same s5
     show gTup K _ _ (.ref T) _ (upd H4 T (.tup [.str z,.int n])) _
     generalize upd H4 T (.tup [.str z,.int n])=H5 at*
     have hRq:Rd H5 qs[a] (.dK kq):=.inl q1'
     have atq:atI (qs.map V.ref) (a:Int)=some (.ref qs[a]):=qat (by rw [getElem?_map,getElem?_eq_getElem haq];rfl)
     walk_at "g"
     refine qau (SqL.of eN5) atq ?_
     walk_at "g"
     refine qau (SqL.of eN5) atq ?_
     have hkq:kq.length < sizeLine:=by have:=q2.le q3;show _ < 16777216;omega
     walk_at "g"
     have mq:=getElem_mem haq
     refine⟨_,_,rfl,qf2 sb5 (fq _ mq).1,by rw [qa6 (nqt _ mq).symm];exact fz5,by rw [qa6 (fq _ mq).2.symm];exact eN5,(qc6.put e2 hG5 (getElem?_eq_getElem haq) q2 q3 q4 (ht3 z (by rw [hf];simp))).cast fun j v _=>?_⟩
     have q4z:gN gq z=((qce i fun k=>if a∈qa9 (elN es) k then ptN ts k z else 0)+if a∈done then gN t.f z else 0)+(if a=a/\z∈(qc5 t.k).take m then gN t.f z else 0):=q4 z
     have nz:z∉(qc5 t.k).take m:=fun h=>by
      have:=take_in ht2.knd hzm
      rw [List.contains_iff_mem.mpr h] at this
      cases this
     have gz:gN t.f z=n:=by unfold gN;rw [hf];rfl
     have ts1:=qba hzm v
     by_cases c:j=a/\v=z
     .rw [if_neg (show ¬(a=a/\z∈(qc5 t.k).take m) from fun h=>nz h.2)] at q4z
      rw [if_pos c,q4z,if_pos (show j=a/\v∈(qc5 t.k).take (m+1) from⟨c.1,ts1.mpr (.inr c.2)⟩),c.1,c.2,gz]
      omega
     .rw [if_neg c]
      congr 1
      by_cases d1:j=a
      .have d2:v≠z:=fun h=>c ⟨d1,h⟩
       have d3:(j=a/\v∈(qc5 t.k).take m)=(j=a/\v∈(qc5 t.k).take (m+1)):=propext ⟨fun h=>⟨h.1,ts1.mpr (.inl h.2)⟩,fun h=>⟨h.1,(ts1.mp h.2).resolve_right d2⟩⟩
       simp only [d3]
      .rw [if_neg (show ¬(j=a/\v∈(qc5 t.k).take m) from fun h=>d1 h.1),if_neg (show ¬(j=a/\v∈(qc5 t.k).take (m+1)) from fun h=>d1 h.1)]
    .rintro σ H4 ⟨w5,w6,rfl,sb,fz,eN4,hG4⟩
     refine qf4 (thaw1 fz (qch ht1)) ?_
     have s6:=qby ht1 sb
     have eN6:upd H4 t.a (.dK t.k) na=some (.lst (qs.map V.ref)):=by rw [qa6 nnt];exact eN4
     have hG6:qc6 (upd H4 t.a (.dK t.k)) ws qs _:=hG4.same fun q hq o e=>by rw [qa6 (nqt q hq)];exact e
     generalize upd H4 t.a (.dK t.k)=H6 at*
     have eE:=s6 _ _ hE
     have hai':a < ts.length:=hai
     have pw:=ac.nd hi'
     rw [<-hd] at pw
     have nda:a∉done:=fun h=>by
      exact(nodup_append.mp pw).2.2 a h a (by show a∈qa9 (elN es) a;exact ac.self hai') rfl
     have gE:∀j v,j < qs.length->((qce i fun k=>if j∈qa9 (elN es) k then ptN ts k v else 0)+if j∈done then gN t.f v else 0)+(if j=a/\v∈(qc5 t.k).take t.k.length then gN t.f v else 0)=(qce i fun k=>if j∈qa9 (elN es) k then ptN ts k v else 0)+if j∈done++ [a] then gN t.f v else 0:=fun j v _=>by
      rw [<-ht2.klen,take_length]
      have z0:v∉qc5 t.k->gN t.f v=0:=fun h=>by
       have:t.f v=none:=by
        cases e:t.f v with
        |none=>rfl
        |some n=>exact absurd ((ht2.kin v).mpr (by rw [e];simp)) h
       unfold gN;rw [this];rfl
      by_cases d1:j=a
      .subst d1
       rw [if_neg nda,if_pos (mem_append_right _ (mem_singleton.mpr rfl))]
       by_cases d2:v∈qc5 t.k
       .rw [if_pos ⟨rfl,d2⟩];omega
       .rw [if_neg (show ¬(j=j/\v∈qc5 t.k) from fun h=>d2 h.2),z0 d2];omega
      .rw [if_neg (show ¬(j=a/\v∈qc5 t.k) from fun h=>d1 h.1)]
       have d3:(j∈done++ [a])=(j∈done):=propext ⟨fun h=>(mem_append.mp h).resolve_right (fun h=>d1 (mem_singleton.mp h)),fun h=>mem_append_left _ h⟩
       simp only [d3]
       omega
     walk_at "g"
     cases a with
     |zero=>
      refine qau (SqL.of eE) (qat (j:=0) rfl) ?_
      walk_at "g"
      refine⟨⟨done++ [0],none,_,_,rfl,by rw [<-hd];show (done++ [0])++ []=done++qa9 (elN es) 0;rw [append_nil,qdd],fun a h=>(by cases h),s6,eN6,hG6.cast gE⟩,?_⟩
      show 0 <(qa9 (elN es) (((0:Nat):Int)).toNat).length
      rw [show (((0:Nat):Int)).toNat=0 from rfl,qdd]
      decide
     |succ b=>
      have hb:b < es.length:=by omega
      have eb:elN es (b+1)=es[b]:=by unfold elN;rw [Nat.add_sub_cancel,getElem?_eq_getElem hb];rfl
      have lb:=ac.elt (by omega) hai'
      refine qau (v:=iV es[b]) (SqL.of eE) (qat (j:=b+1) (by rw [getElem?_cons_succ,getElem?_map,getElem?_eq_getElem hb];rfl)) ?_
      walk_at "g"
      refine⟨⟨done++ [b+1],some es[b],_,_,rfl,?_,fun a h=>by cases h;rw [eb] at lb;exact lb,s6,eN6,hG6.cast gE⟩,?_⟩
      .rw [<-hd,append_assoc]
       show done++([b+1]++qa9 (elN es) es[b])=done++qa9 (elN es) (b+1)
       rw [ac.up (by omega) hai',eb];rfl
      .show (qa9 (elN es) (((es[b]:Nat):Int)).toNat).length <(qa9 (elN es) ((((b+1:Nat)):Int)).toNat).length
       rw [show (((es[b]:Nat):Int)).toNat=es[b] by omega,show ((((b+1:Nat)):Int)).toNat=b+1 by omega,ac.up (by omega) hai',eb,length_cons]
       omega
  .rintro σ H1 Q1 Q2 h ⟨v,hv,w,k,hk,hq⟩
   exact⟨v,hv,w,k,hk,h _ _ hq⟩
 .rintro σ H2 ⟨w1,w2,w3,w4,rfl,s2,eN2,hG⟩
  walk_at "g"
  exact q na qs H2 s2 hna eN2 e1 (fun q hq=>(fq q hq).1) (hG.cast fun j v _=>by rw [hll];rfl)
theorem qev.nn {ws:List Str} {B:Int} {f:Str->Option Int} (h:qev ws B f) (v:Str):0<=gN f v:=by
 unfold gN
 cases e:f v with
 |none=>exact Int.le_refl _
 |some n=>exact(h v n e).2.1
def wdm (K:Frag) (d:Ad):Sp:=fun vs H Q _=>∃(lc ls lw:Addr) (cs:List Int) (qs:List Addr) (ws:List Str) (sc:Int) (G:Nat->Str->Int),vs=[.ref lc,.ref ls,.ref lw,.int sc]/\SqL K H lc (cs.map V.int)/\cs.length<=13/\SqL K H ls (qs.map V.ref)/\qs.length=cs.length/\SqL K H lw (ws.map V.str)/\ws.length<=3/\ScOk sc/\
 qc6 H ws qs G/\(∀j v,j < qs.length->0<=G j v/\G j v<=10^29)/\
 ∀(l:Addr) (ts:List Pt) H',qb0 H H'->H l=none->H' l=some (.lst (ts.map fun t=> .ref t.a))->ts.length=cs.length->(∀(j:Nat) (t:Pt),ts[j]?=some t->PtN H H' ws (2*10^29) t/\∀v∈ws,G j v<=gN t.f v)->Q (.ref l) H'
include T in
theorem wdz:FnOk P w K mg base CX0 2 d.wch d.w9x ["_law_cells","_law_sums_here","_law_wares","_law_scale"] (wdm K d):=by
 refine T.wdg.ok w47 (fun vs H Q E h=>?_) (fun cdv A outer s H vs Q E hr h=>?_)
 .obtain⟨lc,ls,lw,cs,qs,ws,sc,G,rfl,_⟩:=h;rfl
 obtain⟨lc,ls,lw,cs,qs,ws,sc,G,rfl,hS,hn,hQ,hqn,hW,hw,sk,hG,hB,q⟩:=h
 refine⟨_,(qa3 (qah (i:=4) w47.nd rfl (Or.inl rfl) (qc1 qa2))
  (qa3 (qbe PassesOwn.never rfl (qav rfl T.w0q (qa0 (qac qan rfl T.w1h PySem.boot_len (qa0 (pv 0) qa2)) qa2)) (qaq (i:=5) w47.nd rfl (Or.inl rfl)) (qa3 (qah (i:=6) w47.nd rfl (Or.inl rfl) qcw)
  (qa3 (qbe PassesOwn.never rfl (qav rfl T.w0q (qa0 (qac qan rfl T.w1h PySem.boot_len (qa0 (pv 2) qa2)) qa2)) (qaq (i:=7) w47.nd rfl (Or.inl rfl)) (qa3 (qah (i:=8) w47.nd rfl (Or.inl rfl) (qag ((w86 T).mono (by decide)) hr rfl T.wa9 T.w8c.kp T.wa4 .nil qaw (qa0 (qal qbh (qak qab (pv 0) (pv 5) (fun _ _=>rfl)) qa8) (qa0 (qal qbi (qal qbi (qal qca qa8 (pv 5)) (pv 7)) qa8) qa2))))
  (qa3 (qah (i:=9) w47.nd rfl (Or.inl rfl) (qak qab (qc1 (qa0 qa8 (qa0 (pv 3) (qa0 qa8 (qa0 (qal qca qa8 (pv 3)) (qa0 (qal qca qa8 (pv 3)) (qa0 qa8 (qa0 (qal op_pow qa8 qa8) (qa0 qa8 qa2))))))))) (qal qbm (pv 8) qa8) (fun _ _=>rfl)))
  (qa3 (qah (i:=10) w47.nd rfl (Or.inl rfl) (qal qbi (qg0 (qcc hr) (qak qab (pv 1) (pv 5) (fun _ _=>rfl)) (qak qab (pv 2) (pv 7) (fun _ _=>rfl)) qa8 ⟨rfl,rfl,rfl,rfl⟩) (pv 9)))
  (qa5 (qej (qb8 (PW.pt (qe8 (qaj qey (pv 10) qa8 (qar _)) (qd3 (qaj qen (qal qbm (qal qbh (pv 8) qa8) qa8) qa8 (qar _))))) (qa5 (qcv (qcc hr) (pv 6) (qak qab (pv 2) (pv 7) (fun _ _=>rfl)) (pv 10) rfl)) qam)))))))
  (qa5 (qb3 (qg1 PySem.F.plainAttrs_list PySem.F.slot_list_append PySem.F.type_list_append qbk (pv 4) (qa0 (pv 6) qa2)))))))
  (qa5 (qai (pv 4))))),?_⟩
 walk_at "d"
 refine qaf (σ:=[some (.ref lc),some (.ref ls),some (.ref lw),some (.int sc),none,none,none,none,none,none,none]) rfl ?_
 have hl:(cs.map V.int).length=cs.length:=length_map _
 have hl2:(ws.map V.str).length=ws.length:=length_map _
 walk_at "g"
 rename_i l hl0
 refine qbx (fun i σ H'=>∃(ts:List Pt) (w1 w2 w3 w4 w5 w6:Option V),σ=[some (.ref lc),some (.ref ls),some (.ref lw),some (.int sc),some (.ref l),w1,w2,w3,w4,w5,w6]/\qb0 H H'/\H' l=some (.lst (ts.map fun t=> .ref t.a))/\ts.length=i/\∀(j:Nat) (t:Pt),ts[j]?=some t->PtN H H' ws (2*10^29) t/\∀v∈ws,G j v<=gN t.f v) ⟨[],none,none,none,none,none,none,rfl,qa7 hl0 _,qa1,rfl,fun j t h=>by simp at h⟩ ?_ ?_
 .rintro i σ H' hi ⟨ts,w1,w2,w3,w4,w5,w6,rfl,sm,eL,hts,hp⟩
  have hi':i < cs.length:=by omega
  have hW1:=sm.seq hW
  have hS1:=sm.seq hS
  have hiq:i < qs.length:=by omega
  obtain⟨kq,fq,hq1,hq2,hq3,hq4⟩:=hG i qs[i] (getElem?_eq_getElem hiq)
  have eix:atI (qs.map V.ref) (0+(i:Int))=some (.ref qs[i]):=by rw [Int.zero_add];exact qat (by rw [getElem?_map,getElem?_eq_getElem hiq];rfl)
  walk_at "g"
  rename_i p hpn
  have hp0:H p=none:=sm.free hpn
  have nlp:l≠p:=fun z=>by subst z;rw [eL] at hpn;cases hpn
  refine qbx (fun j σ H2=>∃(k':List (Key × V)) (f:Str->Option Int) (w3 w4 w5 w6:Option V),σ=[some (.ref lc),some (.ref ls),some (.ref lw),some (.int sc),some (.ref l),some (.int (0+(i:Int))),some (.ref p),w3,w4,w5,w6]/\qb0 H' H2/\H2 p=some (.dK k')/\AD k' f/\qev ws (2*10^29) f/\k'.length<=j/\∀v∈ws.take j,G i v<=gN f v) ⟨[],noF,w3,w4,w5,w6,rfl,qa7 hpn _,qa1,AD.nil,qg5,Nat.le_refl _,fun v h=>by simp at h⟩ ?_ ?_
  .rintro j σ H2 hj ⟨k',f,w3,w4,w5,w6,rfl,s2,eP,hA,hF,hk,hg⟩
   have hj':j < ws.length:=by omega
   have hS2:=(sm.trans s2).seq hS
   have hW2:=(sm.trans s2).seq hW
   have hQ2:=(sm.trans s2).seq hQ
   have hq1':=(sm.trans s2) _ _ hq1
   walk_at "g"
   refine qau hS2 (qg6 (by omega) (by omega)) ?_
   walk_at "g"
   refine⟨_,_,rfl,by omega,by omega,fun r r0=>?_⟩
   have slo:=sk.lo
   have sb:sc.natAbs < 2^600:=by
    have b:=sk.hi
    exact Nat.lt_of_le_of_lt (show sc.natAbs<=10^27 by omega) (by decide)
   walk_at "g"
   rename_i pm hpm
   have s3:=qa7 hpm (.lst [V.int 0,V.int sc,V.int 0,V.int (2*sc),V.int (7*sc),V.int 1,V.int (10^Int.toNat 29),V.int 0])
   have eM:upd H2 pm (.lst [V.int 0,V.int sc,V.int 0,V.int (2*sc),V.int (7*sc),V.int 1,V.int (10^Int.toNat 29),V.int 0]) pm=some (.lst ([0,sc,0,2*sc,7*sc,1,10^Int.toNat 29,0].map V.int)):=qa1
   generalize upd H2 pm (.lst [V.int 0,V.int sc,V.int 0,V.int (2*sc),V.int (7*sc),V.int 1,V.int (10^Int.toNat 29),V.int 0])=H3 at*
   have m8:=Int.emod_nonneg r (show (8:Int)≠0 by decide)
   have m9:=Int.emod_lt_of_pos r (show (0:Int) < 8 by decide)
   refine r_menu (xs:=[0,sc,0,2*sc,7*sc,1,10^Int.toNat 29,0]) (SqL.of eM) m8 m9 fun m hm=>?_
   have mb:0<=m/\m<=10^29:=by
    have b:=sk.hi
    simp only [mem_cons,List.not_mem_nil,or_false] at hm
    have e29:(10:Int)^Int.toNat 29=10^29:=rfl
    rw [e29] at hm
    omega
   clear hm
   have s23:=s2.trans s3
   have hS3:=s3.seq hS2
   have hW3:=s3.seq hW2
   have hQ3:=s3.seq hQ2
   have hq1'':=s3 _ _ hq1'
   have eP3:=s3 _ _ eP
   have hRq:Rd H3 qs[i] (.dK kq):=.inl hq1''
   walk_at "g"
   refine qau hQ3 eix ?_
   walk_at "g"
   refine qau hW3 (at_ws hj' (by omega)) ?_
   walk_at "g"
   have gq:gN fq ws[j]=G i ws[j]:=hq4 _
   have gB:=hB i ws[j] hiq
   have tk:∀v,v∈ws.take (j+1)->v∈ws.take j\/v=ws[j]:=fun v hv=>by
    rw [take_add_one,getElem?_eq_getElem hj'] at hv
    rcases mem_append.mp hv with h|h
    .exact .inl h
    .exact .inr (by simpa using h)
   have fin:∀many:Int,many=gN fq ws[j]+m->AD (qdj k' (Sum.inr ws[j]) (.int many)) (qdy f ws[j] many)/\qev ws (2*10^29) (qdy f ws[j] many)/\(qdj k' (Sum.inr ws[j]) (.int many)).length<=j+1/\∀v,v∈ws.take (j+1)->G i v<=gN (qdy f ws[j] many) v:=fun many em=>by
    have:=qbc k' (Sum.inr ws[j]) (.int many)
    refine⟨hA.put ws[j] many,hF.put (getElem_mem hj') (by omega) (by omega),by omega,fun v hv=>?_⟩
    rw [gN_put]
    by_cases c:v=ws[j]
    .rw [if_pos c,c];omega
    .rw [if_neg c]
     rcases tk v hv with h|h
     .exact hg v h
     .exact absurd h c
   refine r_cut0 ?_
   walk_at "g"
   refine i_2 (fun c=>?_) (fun c=>?_)
   .walk_at "g"
    refine qau hW3 (at_ws hj' (by omega)) ?_
    walk_at "g"
    obtain⟨f1,f2,f3,f4⟩:=fin _ rfl
    exact⟨_,_,_,_,_,_,rfl,qax s23 hpn,qa1,f1,f2,f3,f4⟩
   .walk_at "g"
    refine i_2 (fun c2=>?_) (fun c2=>?_)
    .walk_at "g"
     refine qau hW3 (at_ws hj' (by omega)) ?_
     walk_at "g"
     obtain⟨f1,f2,f3,f4⟩:=fin _ rfl
     exact⟨_,_,_,_,_,_,rfl,qax s23 hpn,qa1,f1,f2,f3,f4⟩
    .walk_at "g"
     refine⟨_,_,_,_,_,_,rfl,s23,eP3,hA,hF,by omega,fun v hv=>?_⟩
     rcases tk v hv with h|h
     .exact hg v h
     .have:=hF.nn v
      rw [h] at this ⊢
      omega
  .rintro σ H2 ⟨k',f,w3,w4,w5,w6,rfl,s2,eP,hA,hF,hk,hg⟩
   have eL2:=s2 _ _ eL
   walk_at "g"
   refine⟨ts++ [⟨p,k',f⟩],_,_,_,_,_,_,rfl,qax (sm.trans s2) hl0,by rw [qa1,map_append];rfl,by rw [length_append,hts];rfl,fun j t ht=>?_⟩
   rw [List.take_of_length_le (by omega)] at hg
   rcases Nat.lt_or_ge j ts.length with h|h
   .rw [List.getElem?_append_left h] at ht
    obtain⟨z,zz⟩:=hp j t ht
    refine⟨⟨z.fr,?_,z.ad,z.fn⟩,zz⟩
    have n1:t.a≠l:=fun e=>by have:=z.loc;rw [e,eL] at this;cases this
    rw [qa6 n1]
    exact s2 _ _ z.loc
   .have e:j=i:=by
     have:=(List.getElem?_eq_some_iff.mp ht).1
     rw [length_append,length_singleton] at this
     omega
    subst e
    rw [List.getElem?_append_right h,hts,Nat.sub_self] at ht
    have:t=⟨p,k',f⟩:=by simpa using ht.symm
    subst this
    exact⟨⟨hp0,by rw [qa6 nlp.symm];exact eP,hA,hF⟩,hg⟩
 .rintro σ H' ⟨ts,w1,w2,w3,w4,w5,w6,rfl,sm,eL,hts,hp⟩
  walk_at "g"
  exact q l ts H' sm hl0 eL (by omega) hp
def wdw (K:Frag) (d:Ad):Sp:=fun vs H Q _=>∃(le:Addr) (es:List Nat) (k:Nat),vs=[.ref le,.int (k:Int)]/\H le=some (.lst (.non :: es.map iV))/\Ac (elN es) (es.length+1)/\k<=es.length/\es.length<=12/\
 ∀l,H l=none->Q (.ref l) (upd H l (.lst ((qa9 (elN es) k).map iV)))
theorem elN_low {es:List Nat} (lo:∀(k e:Nat),es[k]?=some e->e<=k) (n:Nat):Low (elN es) n:=fun k k0 kn=>by
 unfold elN
 cases e:es[k - 1]? with
 |none=>exact k0
 |some a=>have:=lo _ _ e;show a < k;omega
theorem qfi {es:List Nat} {b:Nat} (hb:b < es.length):elN es (b+1)=es[b]:=by unfold elN;rw [Nat.add_sub_cancel,getElem?_eq_getElem hb];rfl
noncomputable def meas3 (es:List Nat) (σ:L2.St):Nat:=match σ[3]? with
 |some (some (V.int a))=>(qa9 (elN es) a.toNat).length
 |_=>0
include T in
theorem w88:FnOk P w K mg base CX0 1 d.wcc d.was ["_law_elders_here","_law_k"] (wdw K d):=by
 refine T.w9n.ok w8j (fun vs H Q E h=>?_) (fun cdv A outer s H vs Q E hr h=>?_)
 .obtain⟨le,es,k,rfl,_⟩:=h;rfl
 obtain⟨le,es,k,rfl,hE,ac,hk,h12,q⟩:=h
 refine⟨_,(qa3 (qah (i:=2) w8j.nd rfl (Or.inl rfl) (qc1 qa2))
  (qa3 (qah (i:=3) w8j.nd rfl (Or.inl rfl) (pv 1))
  (qa3 (qfy PassesOwn.never (qaj qcx (pv 3) qdg (qar _)) (qa3 (qb3 (qg1 PySem.F.plainAttrs_list PySem.F.slot_list_append PySem.F.type_list_append qbk (pv 2) (qa0 (pv 3) qa2)))
  (qa5 (qah (i:=3) w8j.nd rfl (Or.inl rfl) (qak qab (pv 0) (pv 3) (fun _ _=>rfl))))))
  (qa5 (qai (pv 2)))))),?_⟩
 walk_at "d"
 refine qaf (σ:=[some (.ref le),some (.int (k:Int)),none,none]) rfl ?_
 generalize hki:((k:Nat):Int)=ki
 walk_at "g"
 rename_i l hl
 refine qfm (fun σ H'=>∃(done:List Nat) (o:Option Nat),σ=[some (.ref le),some (.int ki),some (.ref l),some (oV o)]/\H'=upd H l (.lst (done.map iV))/\done++restL (elN es) o=qa9 (elN es) k/\(∀a,o=some a->a < es.length+1)) (fun σ _=>meas3 es σ) ⟨[],some k,by rw [<-hki];rfl,rfl,rfl,fun a h=>by cases h;omega⟩ ?_ ?_
 .rintro σ H' ⟨done,o,rfl,rfl,hd,ha⟩
  have hdl:done.length<=14:=by
   have h1:=congrArg List.length hd
   rw [length_append] at h1
   have h2:=ac.len (k:=k) (by omega)
   omega
  cases o with
  |none=>
   rw [show oV none=V.non from rfl]
   have hd':done=qa9 (elN es) k:=by rw [<-hd];exact(append_nil _).symm
   rw [hd']
   walk_at "g"
   exact q l hl
  |some a=>
   have hak:=ha a rfl
   rw [show oV (some a)=V.int (a:Int) from rfl]
   have eE:=qad (o':=.lst (done.map iV)) hE hl
   have eL:upd H l (.lst (done.map iV)) l=some (.lst (done.map iV)):=qa1
   have hz:(done.map iV).length < sizeLine:=by rw [length_map];show _ < 16777216;omega
   generalize hai:((a:Nat):Int)=ai
   walk_at "g"
   rw [qbr]
   have eIv:V.int ai=iV a:=by rw [<-hai];rfl
   have eE2:=qad (o':=.lst (done.map iV++ [V.int ai])) hE hl
   have fin:done.map iV++ [V.int ai]=(done++ [a]).map iV:=by rw [eIv,map_append];rfl
   cases a with
   |zero=>
    refine qau (v:=.non) (SqL.of eE2) (by rw [<-hai];exact qat (j:=0) rfl) ?_
    walk_at "g"
    refine⟨⟨done++ [0],none,rfl,by rw [fin],by rw [<-hd];show (done++ [0])++ []=done++qa9 (elN es) 0;rw [append_nil,qdd],fun a h=>(by cases h)⟩,?_⟩
    show 0 <(qa9 (elN es) ai.toNat).length
    rw [<-hai,show (((0:Nat):Int)).toNat=0 from rfl,qdd]
    decide
   |succ b=>
    have hb:b < es.length:=by omega
    have eb:=qfi hb
    have lb:=ac.elt (k:=b+1) (by omega) hak
    refine qau (v:=iV es[b]) (SqL.of eE2) (by rw [<-hai];exact qat (j:=b+1) (by rw [getElem?_cons_succ,getElem?_map,getElem?_eq_getElem hb];rfl)) ?_
    walk_at "g"
    refine⟨⟨done++ [b+1],some es[b],rfl,by rw [fin],?_,fun a h=>by cases h;rw [eb] at lb;exact lb⟩,?_⟩
    .rw [<-hd,append_assoc]
     show done++([b+1]++qa9 (elN es) es[b])=done++qa9 (elN es) (b+1)
     rw [ac.up (k:=b+1) (by omega) hak,eb];rfl
    .show (qa9 (elN es) (((es[b]:Nat):Int)).toNat).length <(qa9 (elN es) ai.toNat).length
     rw [<-hai,show (((es[b]:Nat):Int)).toNat=es[b] by omega,show ((((b+1:Nat)):Int)).toNat=b+1 by omega,ac.up (k:=b+1) (by omega) hak,eb,length_cons]
     omega
 .rintro σ H1 Q1 Q2 h ⟨v,hv,w,k,hk,hq⟩
  exact⟨v,hv,w,k,hk,h _ _ hq⟩
structure PL where
 lw:Addr
 ln:Addr
 le:Addr
 lp:Addr
 lc:Addr
 ws:List Str
 nm:List Str
 es:List Nat
 tp:List Pt
 tc:List Pt
structure PlF (P:PL):Prop where
 w1:1<=P.ws.length
 w3:P.ws.length<=3
 wg:∀z∈P.ws,qda z=true
 wn:P.ws.Nodup
 nl:P.nm.length=P.es.length+1
 n12:P.nm.length<=12
 ng:∀z∈P.nm,qda z=true
 nn:P.nm.Nodup
 lo:∀(k e:Nat),P.es[k]?=some e->e<=k/\e<=10
 pl:P.tp.length=P.nm.length
 cl:P.tc.length=P.nm.length
 pa:∀t∈P.tp,AD t.k t.f/\qev P.ws (5*10^27) t.f
 ca:∀t∈P.tc,AD t.k t.f/\qev P.ws (10^30) t.f
 le:∀(j:Nat) (t:Pt),P.tc[j]?=some t->∀v∈P.ws,(qce P.tp.length fun k=>if j∈qa9 (elN P.es) k then ptN P.tp k v else 0)<=gN t.f v
structure Dst (p w n e q c:Addr):Prop where
 pw:w≠p
 pn:n≠p
 pe:e≠p
 pq:q≠p
 pc:c≠p
 wn:w≠n
 we:w≠e
 wq:w≠q
 wc:w≠c
 ne:e≠n
 nq:q≠n
 nc:c≠n
 eq:e≠q
 ec:e≠c
 qc:q≠c
structure PlAt (H:Hp) (p:Addr) (P:PL):Prop where
 top:H p=some (.lst [.ref P.lw,.ref P.ln,.ref P.le,.ref P.lp,.ref P.lc])
 w:H P.lw=some (.lst (P.ws.map V.str))
 n:H P.ln=some (.lst (P.nm.map V.str))
 e:H P.le=some (.lst (.non :: P.es.map iV))
 pr:H P.lp=some (.lst (P.tp.map fun t=> .ref t.a))
 cp:H P.lc=some (.lst (P.tc.map fun t=> .ref t.a))
 pd:∀t∈P.tp,H t.a=some (.dK t.k)
 cd:∀t∈P.tc,H t.a=some (.dK t.k)
theorem PlAt.same {H H':Hp} {p:Addr} {P:PL} (h:PlAt H p P) (s:qb0 H H'):PlAt H' p P:=
 ⟨s _ _ h.top,s _ _ h.w,s _ _ h.n,s _ _ h.e,s _ _ h.pr,s _ _ h.cp,fun t m=>s _ _ (h.pd t m),fun t m=>s _ _ (h.cd t m)⟩
theorem nm_nodup (c:Int) {n:Nat} (hn:n<=20):((List.range n).map fun k:Nat=>nmS c (0+(k:Int))).Nodup:=by
 show List.Pairwise _ _
 rw [pairwise_map]
 refine List.Pairwise.imp_of_mem (R:=fun a b=>a < b) (fun {a b} ha hb lt e=>?_) List.pairwise_lt_range
 have h1:=mem_range.mp ha
 have h2:=mem_range.mp hb
 have:=nmS_inj (by omega) (by omega) (by omega) (by omega) e
 omega
theorem qfp {f:Nat->Int} {B:Int}:∀{n:Nat},(∀k,k < n->f k<=B)->qce n f<=n*B
 |0,_=>by show (0:Int)<=((0:Nat):Int)*B;rw [Int.natCast_zero,Int.zero_mul];exact Int.le_refl _
 |n+1,h=>by
  have h1:=qfp (n:=n) fun k hk=>h k (by omega)
  have h2:=h n (by omega)
  show qce n f+f n<=((n+1:Nat):Int)*B
  rw [Int.natCast_add,Int.add_mul]
  have:((1:Nat):Int)*B=B:=by rw [Int.natCast_one,Int.one_mul]
  omega
theorem qev.gb {ws:List Str} {B:Int} {f:Str->Option Int} (h:qev ws B f) (b0:0<=B) (v:Str):gN f v<=B:=by
 unfold gN
 cases e:f v with
 |none=>exact b0
 |some n=>exact(h v n e).2.2
theorem ptN_bd {ws:List Str} {B:Int} {ts:List Pt} (b0:0<=B) (h:∀t∈ts,qev ws B t.f) (k:Nat) (v:Str):0<=ptN ts k v/\ptN ts k v<=B:=by
 unfold ptN
 cases e:ts[k]? with
 |none=>exact⟨Int.le_refl _,b0⟩
 |some t=>exact⟨(h t (mem_of_getElem? e)).nn v,(h t (mem_of_getElem? e)).gb b0 v⟩
def wea (K:Frag) (d:Ad):Sp:=fun vs H Q _=>∃(a:Addr) (ns:List Int) (st:Int) (ct:Nat),vs=[.ref a,.int st,.int ct]/\SqL K H a (ns.map V.int)/\0<=st/\ct<=11/\
 ∀(p:Addr) (P:PL) H',qb0 H H'->PlF P->PlAt H' p P->P.nm.length=ct+1->P.nm=((List.range (ct+1)).map fun k:Nat=>nmS (cell ns 2) (0+(k:Int)))->Dst p P.lw P.ln P.le P.lp P.lc->Q (.ref p) H'
include T in
theorem wdx:FnOk P w K mg base CX0 3 d.wc6 d.wa1 ["_law_script","_law_start","_law_count"] (wea K d):=by
 refine T.wdi.ok w3j (fun vs H Q E h=>?_) (fun cdv A outer s H vs Q E hr h=>?_)
 .obtain⟨a,ns,st,ct,rfl,_⟩:=h;rfl
 obtain⟨a,ns,st,ct,rfl,hS,h0,h11,q⟩:=h
 refine⟨_,(qa3 (qah (i:=3) w3j.nd rfl (Or.inr rfl) (qc4 (caps:=[0]) (cn:=["_law_script"]) (qbd rfl rfl (by rfl) (by rfl) rfl ⟨rfl,trivial⟩ (by rfl) rfl ⟨⟨rfl,rfl,rfl,rfl,_,rfl⟩,trivial⟩ (by decide)) rfl (qav rfl T.w0q (qa0 qa8 qa2)) (fun _ _ _ _=>qcg) (fun _ _ _ _=>(qag ((w4f T).mono (by decide)) hr rfl T.w5f T.w49.kp T.w58 .nil qaw (qa0 (pv 1) (qa0 (pv 0) qa2))))))
  (qa3 (qdz (j:=4) (caps:=[3]) (cn:=["_law_head"]) (qbd rfl rfl (by rfl) (by rfl) rfl ⟨rfl,trivial⟩ (by rfl) rfl ⟨⟨rfl,rfl,rfl,rfl,_,rfl⟩,trivial⟩ (by decide)) rfl w3j.nd rfl rfl (qav rfl T.w0q (qa0 (qal qbi qa8 (qal qbm (qak qab (pv 3) qa8 (fun _ _=>rfl)) qa8)) qa2)) (fun _ _ _ _=>qcg) (fun _ _ _ _=>(qag ((wcd T).mono (by decide)) hr rfl T.wdd T.wca.kp T.wdk .nil qaw (qa0 (qak qab (pv 1) qa8 (fun _ _=>rfl)) (qa0 (pv 0) qa2)))))
  (qa3 (qah (i:=5) w3j.nd rfl (Or.inl rfl) (qak qab (qc1 (qa0 qa8 (qa0 qa8 (qa0 qa8 (qa0 (qal op_pow qa8 qa8) qa2))))) (qal qbm (qal qbh (qak qab (pv 3) qa8 (fun _ _=>rfl)) qa8) qa8) (fun _ _=>rfl)))
  (qa3 (qdz (j:=6) (caps:=[0,1]) (cn:=["_law_script","_law_start"]) (qbd rfl rfl (by rfl) (by rfl) rfl ⟨rfl,⟨rfl,trivial⟩⟩ (by rfl) rfl ⟨⟨rfl,rfl,rfl,rfl,_,rfl⟩,⟨⟨rfl,rfl,rfl,rfl,_,rfl⟩,trivial⟩⟩ (by decide)) rfl w3j.nd rfl rfl (qav rfl T.w0q (qa0 (pv 2) qa2)) (fun _ _ _ _=>qcg) (fun _ _ _ _=>(qag ((w4f T).mono (by decide)) hr rfl T.w5f T.w49.kp T.w58 .nil qaw (qa0 (pv 1) (qa0 (qal qbi (pv 2) (pv 0)) qa2)))))
  (qa3 (qah (i:=7) w3j.nd rfl (Or.inl rfl) (qag ((wbx T).mono (by decide)) hr rfl T.wcz T.wb7.kp T.wd4 .nil qaw (qa0 (pv 6) (qa0 (qal qbm (qak qab (pv 3) qa8 (fun _ _=>rfl)) qa8) qa2))))
  (qa3 (qah (i:=8) w3j.nd rfl (Or.inl rfl) (qag ((w9r T).mono (by decide)) hr rfl T.wbq T.w7n.kp T.wbn .nil qaw (qa0 (qal op_cat (qc1 (qa0 (qak qab (pv 3) qa8 (fun _ _=>rfl)) qa2)) (pv 6)) (qa0 (pv 4) (qa0 (pv 5) qa2)))))
  (qa3 (qah (i:=9) w3j.nd rfl (Or.inl rfl) (qag ((wdz T).mono (by decide)) hr rfl T.weh T.wdg.kp T.wec .nil qaw (qa0 (qal op_cat (qc1 (qa0 (qak qab (pv 3) qa8 (fun _ _=>rfl)) qa2)) (pv 6)) (qa0 (qag ((wa8 T).mono (by decide)) hr rfl T.wcj T.wb2.kp T.wbv .nil qaw (qa0 (pv 7) (qa0 (pv 8) qa2))) (qa0 (pv 4) (qa0 (pv 5) qa2))))))
  (qa3 (qdz (j:=10) (caps:=[3]) (cn:=["_law_head"]) (qbd rfl rfl (by rfl) (by rfl) rfl ⟨rfl,trivial⟩ (by rfl) rfl ⟨⟨rfl,rfl,rfl,rfl,_,rfl⟩,trivial⟩ (by decide)) rfl w3j.nd rfl rfl (qav rfl T.w0q (qa0 (qal qbi (pv 2) qa8) qa2)) (fun _ _ _ _=>qcg) (fun _ _ _ _=>(qag ((wcd T).mono (by decide)) hr rfl T.wdd T.wca.kp T.wdk .nil qaw (qa0 (qak qab (pv 1) qa8 (fun _ _=>rfl)) (qa0 (pv 0) qa2)))))
  (qa5 (qai (qc1 (qa0 (pv 4) (qa0 (pv 10) (qa0 (pv 7) (qa0 (pv 8) (qa0 (pv 9) qa2)))))))))))))))),?_⟩
 walk_at "d"
 try dsimp only [cxC]
 refine qaf (σ:=[some (.ref a),some (.int st),some (.int ct),none,none,none,none,none,none,none,none]) rfl ?_
 generalize hci:((ct:Nat):Int)=ci
 walk_at "g"
 intro C s0 H0 fp lh hlh
 refine qg9 4 (fun i H'=>H'=upd H lh (.lst (((List.range i).map fun k:Nat=>cell ns (0+(k:Int))).map V.int))) rfl (fun i H' hi _=>hi) (fun H' _=>Nat.le_refl _) ?_ ?_
 .rintro i H' v H'' hi rfl ⟨rfl,rfl⟩
  have hS':=qdx (o:=.lst (((List.range i).map fun k:Nat=>cell ns (0+(k:Int))).map V.int)) hS hlh
  walk_at "g"
  refine⟨a,ns,_,rfl,hS',by omega,?_⟩
  refine⟨_,qa1,by rw [length_map,length_map,length_range];show _ < 16777216;omega,?_⟩
  rw [qbr,range_succ,map_append,map_append];rfl
 rintro H' rfl
 have eH:upd H lh (.lst (((List.range 4).map fun k:Nat=>cell ns (0+(k:Int))).map V.int)) lh=some (.lst [.int (cell ns (0+((0:Nat):Int))),.int (cell ns (0+((1:Nat):Int))),.int (cell ns (0+((2:Nat):Int))),.int (cell ns (0+((3:Nat):Int)))]):=qa1
 have s1:=qa7 hlh (.lst (((List.range 4).map fun k:Nat=>cell ns (0+(k:Int))).map V.int))
 generalize upd H lh (.lst (((List.range 4).map fun k:Nat=>cell ns (0+(k:Int))).map V.int))=H1 at*
 generalize cell ns (0+((0:Nat):Int))=c0 at*
 generalize cell ns (0+((1:Nat):Int))=c1 at*
 rw [show (0:Int)+((2:Nat):Int)=2 from rfl] at eH
 generalize hc2:cell ns 2=c2 at*
 generalize cell ns (0+((3:Nat):Int))=c3 at*
 have k0:=Int.emod_nonneg c0 (show (3:Int)≠0 by decide)
 have k1:=Int.emod_lt_of_pos c0 (show (0:Int) < 3 by decide)
 walk_at "g"
 intro C2 s2' H02 fp2 lw hlw
 generalize hnw:(1+c0%3).toNat=nw
 have nw1:1<=nw/\nw<=3:=by omega
 refine qg9 nw (fun i H'=>H'=upd H1 lw (.lst (((List.range i).map fun k:Nat=>nmS c1 (0+(k:Int))).map V.str))) rfl (fun i H' hi _=>hi) (fun H' _=>Nat.le_refl _) ?_ ?_
 .rintro i H' v H'' hi rfl ⟨rfl,rfl⟩
  have eH':=qad (o':=.lst (((List.range i).map fun k:Nat=>nmS c1 (0+(k:Int))).map V.str)) eH hlw
  walk_at "g"
  refine⟨_,_,rfl,by omega,by omega,?_⟩
  refine⟨_,qa1,by rw [length_map,length_map,length_range];show _ < 16777216;omega,?_⟩
  rw [qbr,range_succ,map_append,map_append];rfl
 rintro H' rfl
 have hwl:((List.range nw).map fun k:Nat=>nmS c1 (0+(k:Int))).length=nw:=by rw [length_map,length_range]
 have hwg:∀z∈(List.range nw).map fun k:Nat=>nmS c1 (0+(k:Int)),qda z=true:=fun z hz=>by
  obtain⟨k,_,rfl⟩:=mem_map.mp hz
  exact nmS_good _ _
 have hwn:=nm_nodup c1 (n:=nw) (by omega)
 generalize ((List.range nw).map fun k:Nat=>nmS c1 (0+(k:Int)))=ws at*
 have s2:=qa7 hlw (.lst (ws.map V.str))
 have eW:upd H1 lw (.lst (ws.map V.str)) lw=some (.lst (ws.map V.str)):=qa1
 generalize upd H1 lw (.lst (ws.map V.str))=H2 at*
 have eH2:=s2 _ _ eH
 walk_at "g"
 rename_i pm hpm
 have s3:=qa7 hpm (.lst [V.int 1,V.int 1,V.int 7000000001,V.int (10^Int.toNat 27)])
 have m0:=Int.emod_nonneg (c0.fdiv 3) (show (4:Int)≠0 by decide)
 have m1:=Int.emod_lt_of_pos (c0.fdiv 3) (show (0:Int) < 4 by decide)
 refine r_menu (xs:=[1,1,7000000001,10^Int.toNat 27]) (SqL.of qa1) m0 m1 fun sc hsc=>?_
 have sk:ScOk sc:=by
  simp only [mem_cons,List.not_mem_nil,or_false] at hsc
  have e27:(10:Int)^Int.toNat 27=10^27:=rfl
  rw [e27] at hsc
  exact⟨by omega,by omega⟩
 clear hsc
 generalize upd H2 pm (.lst [V.int 1,V.int 1,V.int 7000000001,V.int (10^Int.toNat 27)])=H3 at*
 have s13:=(s1.trans s2).trans s3
 have eH3:=s3 _ _ eH2
 have eW3:=s3 _ _ eW
 walk_at "g"
 intro C3 s3' H03 fp3 lc hlc
 have ect:ci.toNat=ct:=by omega
 refine qg9 ci.toNat (fun i H'=>∃cs:List Int,H'=upd H3 lc (.lst (cs.map V.int))/\cs.length=i) ⟨[],rfl,rfl⟩ (fun i H' hi _=>hi) (fun H' _=>Nat.le_refl _) ?_ ?_
 .rintro i H' v H'' hi ⟨cs,rfl,hc⟩ ⟨rfl,rfl⟩
  have hS':=qdx (o:=.lst (cs.map V.int)) (s13.seq hS) hlc
  walk_at "g"
  refine⟨a,ns,_,rfl,hS',by omega,?_⟩
  refine⟨_,qa1,by rw [length_map];show _ < 16777216;omega,?_⟩
  exact⟨cs++ [_],by rw [qbr,map_append];rfl,by rw [length_append,hc];rfl⟩
 rintro H' ⟨cs,rfl,hc⟩
 have s4:=qa7 hlc (.lst (cs.map V.int))
 have eC:upd H3 lc (.lst (cs.map V.int)) lc=some (.lst (cs.map V.int)):=qa1
 generalize upd H3 lc (.lst (cs.map V.int))=H4 at*
 have eH4:=s4 _ _ eH3
 have eW4:=s4 _ _ eW3
 walk_at "g"
 refine⟨lc,cs,_,rfl,SqL.of eC,by omega,fun le es hle hel hlo=>?_⟩
 have s5:=qa7 hle (.lst (.non :: es.map iV))
 have eE:upd H4 le (.lst (.non :: es.map iV)) le=some (.lst (.non :: es.map iV)):=qa1
 generalize upd H4 le (.lst (.non :: es.map iV))=H5 at*
 have eH5:=s5 _ _ eH4
 have eW5:=s5 _ _ eW4
 have eC5:=s5 _ _ eC
 walk_at "g"
 rename_i p1 hp1
 have hcl:(cs.map V.int).length=cs.length:=length_map _
 refine r_cat qa1 (qad eC5 hp1) (by rw [hcl];show 1+_<=16777216;omega) fun p2 hp2=>?_
 have s6:=(qa7 hp1 (.lst [V.int c3])).trans (qa7 hp2 (.lst ([V.int c3]++cs.map V.int)))
 have e6:upd (upd H5 p1 (.lst [V.int c3])) p2 (.lst ([V.int c3]++cs.map V.int)) p2=some (.lst ((c3 :: cs).map V.int)):=qa1
 generalize upd (upd H5 p1 (.lst [V.int c3])) p2 (.lst ([V.int c3]++cs.map V.int))=H6 at*
 walk_at "g"
 refine⟨p2,lw,c3 :: cs,ws,sc,rfl,SqL.of e6,by rw [length_cons];omega,SqL.of (s6 _ _ eW5),by omega,sk,fun lp tp H7 s7 hlp elp htl htp=>?_⟩
 rw [length_cons] at htl
 have s57:=s6.trans s7
 have eH7:=s57 _ _ eH5
 have eC7:=s57 _ _ eC5
 have eW7:=s57 _ _ eW5
 have eE7:=s57 _ _ eE
 walk_at "g"
 rename_i p3 hp3
 refine r_cat qa1 (qad eC7 hp3) (by rw [hcl];show 1+_<=16777216;omega) fun p4 hp4=>?_
 have s8:=(qa7 hp3 (.lst [V.int c3])).trans (qa7 hp4 (.lst ([V.int c3]++cs.map V.int)))
 have e8:upd (upd H7 p3 (.lst [V.int c3])) p4 (.lst ([V.int c3]++cs.map V.int)) p4=some (.lst ((c3 :: cs).map V.int)):=qa1
 generalize upd (upd H7 p3 (.lst [V.int c3])) p4 (.lst ([V.int c3]++cs.map V.int))=H8 at*
 walk_at "g"
 have tpf:∀t∈tp,qev ws (5*10^27) t.f:=fun t m=>(htp t m).fn
 refine⟨le,lp,es,tp,ws,rfl,s8 _ _ eE7,SqL.of (s8 _ _ elp),by omega,by omega,by omega,(elN_low (fun k e he=>(hlo k e he).1) _).ac,fun t m=>⟨s8 _ _ (htp t m).loc,(htp t m).ad,fun z hz=>?_⟩,fun ls qs H9 s9 hls els hql hqf hG=>?_⟩
 .cases e:t.f z with
  |none=>exact absurd e hz
  |some n=>exact(tpf t m z n e).1
 have s89:=s8.trans s9
 walk_at "g"
 refine⟨p4,ls,lw,c3 :: cs,qs,ws,sc,_,rfl,SqL.of (s9 _ _ e8),by rw [length_cons];omega,SqL.of els,by rw [length_cons];omega,SqL.of (s89 _ _ eW7),by omega,sk,hG,fun j v hj=>⟨?_,?_⟩,fun lcp tc H10 s10 hlcp elcp htcl htc=>?_⟩
 .refine sumR_nn fun k hk=>?_
  split
  .exact(ptN_bd (by decide) tpf k v).1
  .exact Int.le_refl _
 .have z:=qfp (n:=tp.length) (f:=fun k=>if j∈qa9 (elN es) k then ptN tp k v else 0) (B:=5*10^27) fun k hk=>by
   show (if j∈qa9 (elN es) k then ptN tp k v else 0)<=_
   split
   .exact(ptN_bd (by decide) tpf k v).2
   .decide
  have z2:(tp.length:Int)*(5*10^27)<=12*(5*10^27):=Int.mul_le_mul_of_nonneg_right (by omega) (by decide)
  omega
 rw [length_cons] at htcl
 have s710:=s89.trans s10
 have eH10:=s710 _ _ eH7
 walk_at "g"
 intro C4 s4' H04 fp4 ln hln
 generalize hnn:(ci+1).toNat=nn
 have nn1:nn=ct+1:=by omega
 refine qg9 nn (fun i H'=>H'=upd H10 ln (.lst (((List.range i).map fun k:Nat=>nmS c2 (0+(k:Int))).map V.str))) rfl (fun i H' hi _=>hi) (fun H' _=>Nat.le_refl _) ?_ ?_
 .rintro i H' v H'' hi rfl ⟨rfl,rfl⟩
  have eH':=qad (o':=.lst (((List.range i).map fun k:Nat=>nmS c2 (0+(k:Int))).map V.str)) eH10 hln
  walk_at "g"
  refine⟨_,_,rfl,by omega,by omega,?_⟩
  refine⟨_,qa1,by rw [length_map,length_map,length_range];show _ < 16777216;omega,?_⟩
  rw [qbr,range_succ,map_append,map_append];rfl
 rintro H' rfl
 have hnl:((List.range nn).map fun k:Nat=>nmS c2 (0+(k:Int))).length=nn:=by rw [length_map,length_range]
 have hng:∀z∈(List.range nn).map fun k:Nat=>nmS c2 (0+(k:Int)),qda z=true:=fun z hz=>by
  obtain⟨k,_,rfl⟩:=mem_map.mp hz
  exact nmS_good _ _
 have hnd:=nm_nodup c2 (n:=nn) (by omega)
 have hnmE:((List.range nn).map fun k:Nat=>nmS c2 (0+(k:Int)))=(List.range (ct+1)).map fun k:Nat=>nmS c2 (0+(k:Int)):=by rw [nn1]
 generalize hnmG:((List.range nn).map fun k:Nat=>nmS c2 (0+(k:Int)))=nm at*
 have s11:=qa7 hln (.lst (nm.map V.str))
 have eN:upd H10 ln (.lst (nm.map V.str)) ln=some (.lst (nm.map V.str)):=qa1
 generalize upd H10 ln (.lst (nm.map V.str))=H11 at*
 walk_at "g"
 rename_i pl hpl
 have s12:=qa7 hpl (.lst [V.ref lw,V.ref ln,V.ref le,V.ref lp,V.ref lcp])
 have s1012:=s11.trans s12
 have s712:=s710.trans s1012
 have sAll:qb0 H _:=((((s13.trans s4).trans s5).trans s57).trans s712)
 have a1:1<=ws.length:=by omega
 have a2:ws.length<=3:=by omega
 have a3:nm.length=es.length+1:=by omega
 have a4:nm.length<=12:=by omega
 have a5:tp.length=nm.length:=by omega
 have a6:tc.length=nm.length:=by omega
 have a7:nm.length=ct+1:=by omega
 have s711:=s710.trans s11
 have dst:Dst pl lw ln le lp lcp:=⟨qa4 (s711 _ _ eW7) hpl,qa4 eN hpl,qa4 (s711 _ _ eE7) hpl,qa4 (s711 _ _ elp) hpl,qa4 (s11 _ _ elcp) hpl,
  qa4 (s710 _ _ eW7) hln,qa4 eW4 hle,qa4 (s6 _ _ eW5) hlp,qa4 (s89 _ _ eW7) hlcp,
  qa4 (s710 _ _ eE7) hln,qa4 (s710 _ _ elp) hln,qa4 elcp hln,qa4 (s6 _ _ eE) hlp,qa4 (s89 _ _ eE7) hlcp,qa4 (s89 _ _ elp) hlcp⟩
 refine q pl ⟨lw,ln,le,lp,lcp,ws,nm,es,tp,tc⟩ _ sAll ⟨a1,a2,hwg,hwn,a3,a4,hng,hnd,hlo,a5,a6,fun t m=>⟨(htp t m).ad,(htp t m).fn⟩,fun t m=>?_,fun j t ht=>(htc j t ht).2⟩
  ⟨qa1,s712 _ _ eW7,s12 _ _ eN,s712 _ _ eE7,s712 _ _ elp,s1012 _ _ elcp,fun t m=>s712 _ _ (htp t m).loc,fun t m=>?_⟩ a7 hnmE dst
 .obtain⟨j,hj,e⟩:=mem_iff_getElem.mp m
  have:=(htc j t (by rw [getElem?_eq_getElem hj,e])).1
  exact⟨this.ad,fun z n e=>by
   obtain⟨a1,a2,a3⟩:=this.fn z n e
   exact⟨a1,a2,by omega⟩⟩
 .obtain⟨j,hj,e⟩:=mem_iff_getElem.mp m
  exact s1012 _ _ (htc j t (by rw [getElem?_eq_getElem hj,e])).1.loc
def wcq (K:Frag) (d:Ad):Sp:=fun vs H Q _=>∃i:Int,vs=[.int i]/\Q (.bl true) H
include T in
theorem wcv:FnOk P w K mg base CX0 1 d.wa2 d.w85 ["_law_found"] (wcq K d):=by
 refine T.wc7.ok wcy (fun vs H Q E h=>?_) (fun cdv A outer s H vs Q E hr h=>?_)
 .obtain⟨i,rfl,_⟩:=h;rfl
 obtain⟨i,rfl,q⟩:=h
 refine⟨_,(qa5 (qai (qe5 (qac qbn rfl T.w0j PyProof.Rows.boot_isinstance (qa0 (pv 0) (qa0 (qcl (v:=.ty "int") rfl T.wdt PyProof.Rows.boot_int rfl) qa2))) (qe4 (pe_not (qac qbn rfl T.w0j PyProof.Rows.boot_isinstance (qa0 (pv 0) (qa0 (qcl (v:=.ty "bool") rfl T.wdj PyProof.Rows.boot_bool rfl) qa2)))))))),?_⟩
 walk_at "d"
 refine qaf (σ:=[some (.int i)]) rfl ?_
 walk_at "g"
 exact q
def wdp (K:Frag) (d:Ad):Sp:=fun vs H Q _=>∃(a:Addr) (k:List (Key × V)) (f:Str->Option Int),vs=[.ref a]/\H a=some (.dK k)/\AD k f/\k.length<=1000/\∀l k' H',qb0 H H'->H l=none->H' l=some (.dK k')->AD k' (qbb f)->Q (.ref l) H'
include T in
theorem wab:FnOk P w K mg base CX0 1 d.wcf d.wak ["_law_handed"] (wdp K d):=by
 refine T.wb9.ok w8k (fun vs H Q E h=>?_) (fun cdv A outer s H vs Q E hr h=>?_)
 .obtain⟨a,kvs,f,rfl,_⟩:=h;rfl
 obtain⟨a,kvs,f,rfl,hH,hA,hz,q⟩:=h
 refine⟨_,(qa3 (qah (i:=1) w8k.nd rfl (Or.inl rfl) qcw)
  (qa3 (qf5 (qbe PassesOwn.never rfl (pi_items (pe_bm0 PySem.F.plainAttrs_dict PySem.F.slot_dict_items PySem.F.type_dict_items mt_items (pv 0))) (pg_tup rfl (qbg (qaq (i:=2) w8k.nd rfl (Or.inl rfl)) (qbg (qaq (i:=3) w8k.nd rfl (Or.inl rfl)) qfz))) (qa5 (qej (qb8 (qaj qey (pv 3) qa8 (qar _)) (qa5 (qcv (qcc hr) (pv 1) (pv 2) (pv 3) rfl)) qam)))))
  (qa5 (qai (pv 1))))),?_⟩
 walk_at "d"
 refine qaf (σ:=[some (.ref a),none,none,none]) rfl ?_
 walk_at "g"
 rename_i p hpn
 have ea:=qad (o':=.dK []) hH hpn
 have npa:p≠a:=(qa4 hH hpn).symm
 refine r_iI ?_
 walk_at "g"
 refine r_items (.inl ea) fun vw hvw=>?_
 refine r_itI qa1 (qad ea hvw) fun o2=>?_
 have npv:p≠vw:=fun z=>by subst z;rw [qa1] at hvw;cases hvw
 refine f_items (fun i σ H'=>∃(k':List (Key × V)) (w1 w2:Option V),σ=[some (.ref a),some (.ref p),w1,w2]/\SameBut a H H'/\H' a=some (.frz o2 (.dK kvs))/\H' p=some (.dK k')/\k'.length<=i/\AD k' (fun y=>if y∈(qc5 kvs).take i then qbb f y else none))
  ⟨[],none,none,rfl,SameBut.at (SameBut.of ((qa7 hpn _).trans (qa7 hvw _))),qa1,by rw [qa6 npa,qa6 npv];exact qa1,Nat.le_refl _,AD.nil.cast fun z=>by simp [noF]⟩ ?_ ?_ ?_
 .rintro i σ H' _ ⟨k',w1,w2,rfl,sb,fz,_⟩;exact fz
 .rintro i k x T' σ H' hk ⟨k',w1,w2,rfl,sb,fz,ep,hlen,hA'⟩ hT
  obtain⟨z,n,rfl,rfl,hf,hzi⟩:=hA.at hk
  have hi:i < kvs.length:=(List.getElem?_eq_some_iff.mp hk).1
  have s5:=qa7 hT (.tup [.str z,.int n])
  have eT:upd H' T' (.tup [.str z,.int n]) T'=some (.tup [.str z,.int n]):=qa1
  have ep5:=s5 _ _ ep
  have fz5:=s5 _ _ fz
  have sb5:=sb.same s5
  show gTup K _ _ (.ref T') _ (upd H' T' (.tup [.str z,.int n])) _
  generalize upd H' T' (.tup [.str z,.int n])=H5 at*
  have hk5:k'.length < sizeLine:=by show _ < 16777216;omega
  walk_at "g"
  refine r_cut0 ?_
  walk_at "g"
  refine i_2 (fun c=>?_) (fun c=>?_)
  .walk_at "g"
   refine⟨_,_,_,rfl,qf2 sb5 hpn,by rw [qa6 npa.symm];exact fz5,qa1,?_,(hA'.put z n).cast fun y=>?_⟩
   .have:=qbc k' (Sum.inr z) (.int n);omega
   .exact qfs hzi (qbb f) (fun _=>none) (by unfold qbb;rw [hf];exact if_pos c) y
  .walk_at "g"
   refine⟨_,_,_,rfl,sb5,fz5,ep5,by omega,hA'.cast fun y=>?_⟩
   exact step_no hzi (qbb f) (fun _=>none) (by unfold qbb;rw [hf];exact if_neg c) y
 .rintro σ H' ⟨k',w1,w2,rfl,sb,fz,ep,_,hA'⟩
  refine qf4 (thaw1 fz (qch hH)) ?_
  walk_at "g"
  refine q p k' _ (qby hH sb) hpn (by rw [qa6 npa];exact ep) (hA'.cast fun y=>?_)
  exact qft hA (qbb f) (fun _=>none) (fun y e=>by unfold qbb;rw [e]) y
theorem deq_ad {K:Frag} {H:Hp} {n:Nat} {a b:Addr} {ka kb:List (Key × V)} {f:Str->Option Int} (ha:H a=some (.dK ka)) (hb:H b=some (.dK kb)) (ne:a≠b) (A:AD ka f) (B:AD kb f):DEq K H (n+1) (.ref a) (.ref b) true:=by
 have z:=DEq.dd (K:=K) (n:=n) (.inl ha) (.inl hb) ne A.flat B.flat
 rw [A.eq B] at z
 exact z
def wd5 (K:Frag) (d:Ad):Sp:=fun vs H Q _=>∃(a b:Addr) (ka kb:List (Key × V)) (f:Str->Option Int),vs=[.ref a,.ref b]/\H a=some (.dK ka)/\H b=some (.dK kb)/\a≠b/\AD ka f/\AD kb f/\ka.length<=1000/\∀H',qb0 H H'->Q (.bl true) H'
include T in
theorem w6k:FnOk P w K mg base CX0 2 d.wa6 d.w8f ["_law_found","_law_due"] (wd5 K d):=by
 refine T.w6o.ok wcp (fun vs H Q E h=>?_) (fun cdv A outer s H vs Q E hr h=>?_)
 .obtain⟨a,b,ka,kb,f,rfl,_⟩:=h;rfl
 obtain⟨a,b,ka,kb,f,rfl,ha,hb,ne,hA,hB,hz,q⟩:=h
 refine⟨_,(qa3 (qb8 (PW.pt (qe8 (qc9 (qbz (qac qbn rfl T.w0j PyProof.Rows.boot_isinstance (qa0 (pv 0) (qa0 (qcl (v:=.ty "dict") rfl T.w4m PyProof.Rows.boot_dict rfl) qa2))))) (qd3 (qaj (qf6 (hu8 hr)) (pv 0) (pv 1) (qar _))))) (qa5 (qai qd4)) qam)
  (qa5 (qai (qdm qen (qac qan rfl T.w1h PySem.boot_len (qa0 (pe_thV (qc4 (caps:=[]) (cn:=[]) (qbd rfl rfl (by rfl) (by rfl) rfl trivial (by rfl) rfl trivial (by decide)) rfl (pi_vals (pe_bm0 PySem.F.plainAttrs_dict PySem.F.slot_dict_values PySem.F.type_dict_values mt_vals (pv 0))) (fun _ _ _ _=>(pf_one (qbz (qag ((wcv T).mono (by decide)) hr rfl T.we9 T.wc7.kp T.we4 .nil qaw (qa0 (pv 0) qa2))))) (fun _ _ _ _=>(pv 0)))) qa2)) (qac qfl rfl T.w1h PySem.boot_len (qa0 (pv 1) qa2)) (qar _))))),?_⟩
 walk_at "d"
 try dsimp only [cxC]
 refine qaf (σ:=[some (.ref a),some (.ref b)]) rfl ?_
 walk_at "g"
 refine r_neD (n:=1) ne (by decide) (deq_ad (n:=0) ha hb ne hA hB) ?_
 walk_at "g"
 refine r_thV ?_
 walk_at "g"
 refine r_iVl ?_
 walk_at "g"
 refine r_vals (.inl ha) fun vw hvw=>?_
 refine r_itVl qa1 (qad ha hvw) fun o2=>?_
 intro C s0 H0 fp na hna
 have nva:vw≠a:=(qa4 ha hvw).symm
 have hF:upd (upd H vw (ValO vw a)) a (.frz o2 (.dK ka)) a=some (.frz o2 (.dK ka)):=qa1
 have sb:SameBut a H (upd (upd H vw (ValO vw a)) a (.frz o2 (.dK ka))):=SameBut.at (SameBut.of (qa7 hvw _))
 have hna0:H na=none:=by
  by_cases z:na=a
  .subst z;rw [hF] at hna;cases hna
  .rw [qa6 z] at hna
   by_cases z2:na=vw
   .subst z2;rw [qa1] at hna;cases hna
   .rw [qa6 z2] at hna;exact hna
 generalize upd (upd H vw (ValO vw a)) a (.frz o2 (.dK ka))=HF at*
 refine qg9 ka.length (fun i H'=>H'=upd HF na (.lst ((ka.take i).map (·.2)))) rfl ?_ ?_ ?_ ?_
 .rintro i H' hi rfl
  exact⟨qad hF hna,hi⟩
 .rintro H' rfl
  exact⟨qad hF hna,Nat.le_refl _⟩
 .rintro i H' v H'' hi rfl ⟨rfl,k,hk⟩
  obtain⟨z,n,rfl,rfl,hf,hzi⟩:=hA.at hk
  walk_at "g"
  refine⟨n,rfl,?_⟩
  have hzz:((ka.take i).map (·.2)).length < sizeLine:=by rw [length_map,length_take];show _ < 16777216;omega
  walk_at "g"
  rw [qbr,take_add_one,hk,map_append];rfl
 rintro H' rfl
 rw [take_length]
 have nna:na≠a:=fun z=>by subst z;rw [hF] at hna;cases hna
 have sT:qb0 H (upd (upd HF na (.lst (ka.map (·.2)))) a (.dK ka)):=qby ha (qf2 sb hna0)
 have eN:upd (upd HF na (.lst (ka.map (·.2)))) a (.dK ka) na=some (.lst (ka.map (·.2))):=by rw [qa6 nna];exact qa1
 refine⟨_,thaw1 (qad hF hna) (qch ha),?_⟩
 show tNil _ (upd (upd HF na (.lst (ka.map (·.2)))) a (.dK ka)) _
 generalize upd (upd HF na (.lst (ka.map (·.2)))) a (.dK ka)=H3 at*
 walk_at "g"
 refine r_lenD (sT _ _ hb) ?_
 walk_at "g"
 have el:ka.length=kb.length:=by
  have z:=hA.eq hB
  rw [Bool.and_eq_true,beq_iff_eq] at z
  exact z.1
 rw [length_map,el,decide_eq_true rfl]
 exact q _ sT
theorem qev.fin {ws:List Str} {B:Int} {f:Str->Option Int} (h:qev ws B f) (hB:B<=10^30):Fin ws f:=fun z n e=>by
 obtain⟨a,b,c⟩:=h z n e
 exact⟨a,b,by omega⟩
theorem fin_perm {ws ws':List Str} {f:Str->Option Int} (h:Fin ws f) (p:ws'.Perm ws):Fin ws' f:=fun z n e=>by
 obtain⟨a,b,c⟩:=h z n e
 exact⟨p.mem_iff.mpr a,b,c⟩
def nmF (P:PL) (k:Nat):Str:=(P.nm[k]?).getD (ofL [])
def tfF (ts:List Pt) (k:Nat):Str->Option Int:=match ts[k]? with
 |some t=>t.f
 |none=>noF
theorem ptN_eq (ts:List Pt) (k:Nat) (v:Str):ptN ts k v=gN (tfF ts k) v:=by
 unfold ptN tfF
 cases ts[k]? <;> rfl
structure TInv (S:Ts) (P:PL) (n:Nat) (wt:Nat->Int):Prop where
 pl:Pl S (nmF P) (elN P.es) n
 wp:S.ws.Perm P.ws
 ws:PyProof.Rows.sortedS S.ws=true
 da:∀(k:Nat) (e:He),S.hl[k]?=some e->(∀v,e.x.fp v=qbb (tfF P.tp k) v)/\(∀v,e.x.fc v=qbb (tfF P.tc k) v)/\e.x.w=wt k
theorem qcb {P:PL} {k:Nat} (h:k < P.nm.length):nmF P k=P.nm[k]:=by unfold nmF;rw [getElem?_eq_getElem h];rfl
theorem nmF_inj {P:PL} (f:PlF P) {n:Nat} (hn:n<=P.nm.length):∀i j,i < n->j < n->nmF P i=nmF P j->i=j:=fun i j hi hj e=>by
 rw [qcb (by omega),qcb (by omega)] at e
 rcases Nat.lt_trichotomy i j with h|h|h
 .exact absurd e ((pairwise_iff_getElem.mp f.nn) i j (by omega) (by omega) h)
 .exact h
 .exact absurd e.symm ((pairwise_iff_getElem.mp f.nn) j i (by omega) (by omega) h)
theorem PlF.low {P:PL} (f:PlF P) (n:Nat):Low (elN P.es) n:=elN_low (fun k e h=>(f.lo k e h).1) n
theorem qeg {P:PL} (f:PlF P) {k:Nat} (hk:k < P.nm.length):∃t,P.tp[k]?=some t/\t∈P.tp/\tfF P.tp k=t.f/\AD t.k t.f/\Fin P.ws t.f:=by
 have h:k < P.tp.length:=by rw [f.pl];exact hk
 have e:=getElem?_eq_getElem h
 refine⟨_,e,getElem_mem h,by unfold tfF;rw [e],(f.pa _ (getElem_mem h)).1,(f.pa _ (getElem_mem h)).2.fin (by decide)⟩
theorem tc_fin {P:PL} (f:PlF P) {k:Nat} (hk:k < P.nm.length):∃t,P.tc[k]?=some t/\t∈P.tc/\tfF P.tc k=t.f/\AD t.k t.f/\Fin P.ws t.f:=by
 have h:k < P.tc.length:=by rw [f.cl];exact hk
 have e:=getElem?_eq_getElem h
 refine⟨_,e,getElem_mem h,by unfold tfF;rw [e],(f.ca _ (getElem_mem h)).1,(f.ca _ (getElem_mem h)).2.fin (by decide)⟩
theorem fin_nn {ws:List Str} {f:Str->Option Int} (h:Fin ws f) (v:Str):0<=gN f v:=by
 unfold gN
 cases e:f v with
 |none=>exact Int.le_refl _
 |some n=>exact(h v n e).2.1
theorem fin_out {ws:List Str} {f:Str->Option Int} (h:Fin ws f) {v:Str} (hv:v∉ws):gN f v=0:=by
 unfold gN
 cases e:f v with
 |none=>rfl
 |some n=>exact absurd (h v n e).1 hv
theorem pr_nn {P:PL} (f:PlF P) {k:Nat} (hk:k < P.nm.length) (v:Str):0<=gN (tfF P.tp k) v:=by
 obtain⟨t,_,_,e,_,h⟩:=qeg f hk
 rw [e];exact fin_nn h v
theorem cap_ge {P:PL} (f:PlF P) {j:Nat} (hj:j < P.nm.length) (v:Str):(qce P.nm.length fun k=>if j∈qa9 (elN P.es) k then gN (tfF P.tp k) v else 0)<=gN (tfF P.tc j) v:=by
 obtain⟨t,e1,e2,e3,e4,e5⟩:=tc_fin f hj
 rw [e3]
 by_cases hv:v∈P.ws
 .have z:=f.le j t e1 v hv
  rw [f.pl] at z
  have:(fun k=>if j∈qa9 (elN P.es) k then ptN P.tp k v else 0)=fun k=>if j∈qa9 (elN P.es) k then gN (tfF P.tp k) v else 0:=funext fun k=>by rw [ptN_eq]
  rw [this] at z
  exact z
 .have z:(qce P.nm.length fun k=>if j∈qa9 (elN P.es) k then gN (tfF P.tp k) v else 0)<=qce P.nm.length fun _=>0:=sumR_le fun k hk=>by
   split
   .obtain⟨t',_,_,q,_,h⟩:=qeg f hk
    rw [q,fin_out h hv];exact Int.le_refl _
   .exact Int.le_refl _
  have z0:∀n,(qce n fun _=>0)=0:=fun n=>by
   induction n with
   |zero=>rfl
   |succ n ih=>show qce n _+0=0;rw [ih];rfl
  rw [z0] at z
  have:=fin_nn e5 v
  omega
theorem own_le {P:PL} (f:PlF P) {k:Nat} (hk:k < P.nm.length) (v:Str):gN (tfF P.tp k) v<=gN (tfF P.tc k) v:=by
 have z:=cap_ge f hk v
 have h:gN (tfF P.tp k) v<=qce P.nm.length fun i=>if k∈qa9 (elN P.es) i then gN (tfF P.tp i) v else 0:=by
  have h1:sumL (fun i=>if k∈qa9 (elN P.es) i then gN (tfF P.tp i) v else 0) [k]<=qce P.nm.length fun i=>if k∈qa9 (elN P.es) i then gN (tfF P.tp i) v else 0:=
   qfq (nodup_cons.mpr ⟨by simp,nodup_nil⟩) (fun i hi=>by have:i=k:=(by simpa using hi);omega) fun i hi=>by
    split
    .exact pr_nn f hi v
    .exact Int.le_refl _
  have h2:sumL (fun i=>if k∈qa9 (elN P.es) i then gN (tfF P.tp i) v else 0) [k]=gN (tfF P.tp k) v:=by
   show (if k∈qa9 (elN P.es) k then gN (tfF P.tp k) v else 0)+0=_
   rw [if_pos (lineN_self (f.low P.nm.length) hk),Int.add_zero]
  omega
 omega
theorem TInv.ask {S:Ts} {P:PL} {k:Nat} {wt:Nat->Int} (h:TInv S P k wt) (f:PlF P) (k0:0 < k) (kn:k < P.nm.length):∃e,S.at (nmF P (elN P.es k))=some e/\e.n=nmF P (elN P.es k)/\WF S/\qe2 S/\S.ws.length<=50/\S.hl.length < 40/\S.at (nmF P k)=none/\
  ∃zs,LineOf S e.n zs/\zs.length < 12/\∀y∈zs,∃e',S.at y=some e'/\Dep S 12 y/\∀bs,Ben S 12 y bs->∀v n,qdh (qcu (bs.map (qcn S))) (qbb (tfF P.tp k)) v=some n->n<=gN e'.x.fc v:=by
 have low:=f.low P.nm.length
 have lk:=low k k0 kn
 have n12:=f.n12
 obtain⟨e,h1,h2,h3⟩:=h.pl.at lk
 have en:e.n=nmF P (elN P.es k):=(qb9 h1).2
 refine⟨e,h1,en,h.pl.wf,⟨by have:=h.wp.length_eq;have:=f.w3;omega,fun e' he z hz=>?_⟩,by have:=h.wp.length_eq;have:=f.w3;omega,by rw [h.pl.len];omega,?_,(qa9 (elN P.es) (elN P.es k)).map (nmF P),by rw [en];exact h.pl.line _ lk,?_,fun y hy=>?_⟩
 .obtain⟨i,hi,q,_⟩:=h.pl.ix he
  obtain⟨t,_,_,q2,_,q3⟩:=qeg f (k:=i) (by omega)
  rw [(h.da i e' q).1,q2] at hz
  exact h.wp.mem_iff.mpr (qe3 q3 z hz)
 .cases c:S.at (nmF P k) with
  |none=>rfl
  |some e'=>
   obtain⟨i,hi,_,q,_⟩:=h.pl.ix (qb9 c).1
   have:=nmF_inj f (n:=P.nm.length) (Nat.le_refl _) i k (by omega) kn (by rw [<-q,(qb9 c).2])
   omega
 .rw [length_map]
  have hl:=lineN_len low (elN P.es k) (by omega)
  have:elN P.es k<=10:=by
   obtain⟨b,rfl⟩:∃b,k=b+1:=⟨k - 1,by omega⟩
   have hb:b < P.es.length:=by have:=f.nl;omega
   rw [qfi hb]
   exact(f.lo b _ (getElem?_eq_getElem hb)).2
  omega
 .obtain⟨j,hj,rfl⟩:=mem_map.mp hy
  have jl:=lineN_le low (elN P.es k) (by omega) j hj
  have jk:j < k:=by omega
  obtain⟨e',q1,q2,_⟩:=h.pl.at jk
  refine⟨e',q1,h.pl.dep 12 j jk (by omega),fun bs hb v n hn=>?_⟩
  have hs:=h.pl.sums (v:=v) (pr:=fun i=>gN (tfF P.tp i) v) (fun i e2 he2=>?_) (fun i hi=>pr_nn f (by omega) v) jk hb
  .have g1:n=gN (qdh (qcu (bs.map (qcn S))) (qbb (tfF P.tp k))) v:=by unfold gN;rw [hn];rfl
   obtain⟨t,_,_,t3,_,t5⟩:=qeg f kn
   rw [gN_add,t3,qdb t5,<-t3] at g1
   obtain⟨u,_,_,u3,_,u5⟩:=tc_fin f (k:=j) (by omega)
   have fc:e'.x.fc=qbb u.f:=by rw [<-u3];exact funext (h.da j e' q2).2.1
   rw [fc,qdb u5,<-u3]
   have cg:=cap_ge f (j:=j) (by omega) v
   have mono:=sumR_mono (f:=fun i=>if j∈qa9 (elN P.es) i then gN (tfF P.tp i) v else 0) (n:=k+1) (m:=P.nm.length) (by omega) fun i hi=>by
    try dsimp only
    split
    .exact pr_nn f hi v
    .exact Int.le_refl _
   have top:(qce (k+1) fun i=>if j∈qa9 (elN P.es) i then gN (tfF P.tp i) v else 0)=(qce k fun i=>if j∈qa9 (elN P.es) i then gN (tfF P.tp i) v else 0)+gN (tfF P.tp k) v:=by
    show qce k _+(if j∈qa9 (elN P.es) k then gN (tfF P.tp k) v else 0)=_
    rw [if_pos]
    rw [lineN_up low k0 kn]
    exact mem_cons_of_mem _ hj
   omega
  .obtain⟨t,_,_,t3,_,t5⟩:=qeg f (k:=i) (by have:=(List.getElem?_eq_some_iff.mp he2).1;rw [h.pl.len] at this;omega)
   rw [show e2.x.fp=qbb (tfF P.tp i) from funext (h.da i e2 he2).1,t3]
   exact qdb t5 v
theorem TInv.next {S:Ts} {P:PL} {k:Nat} {wt:Nat->Int} (h:TInv S P k wt) (f:PlF P) (k0:0 < k) (kn:k < P.nm.length) {e2:He} {w:Int} (en:e2.n=nmF P k) (el:e2.x.el=some (nmF P (elN P.es k))) (ew:e2.x.w=w) (ep:∀v,e2.x.fp v=qbb (tfF P.tp k) v) (ec:∀v,e2.x.fc v=qbb (tfF P.tc k) v):
  TInv {S with hl:=S.hl++ [e2]} P (k+1) (fun i=>if i=k then w else wt i):=by
 have hl:=h.pl.len
 have split:∀(i:Nat) (e:He),(S.hl++ [e2])[i]?=some e->(i < k/\S.hl[i]?=some e)\/(i=k/\e=e2):=fun i e he=>by
  rcases Nat.lt_or_ge i S.hl.length with c|c
  .rw [List.getElem?_append_left c] at he
   exact .inl ⟨by omega,he⟩
  .have:=(List.getElem?_eq_some_iff.mp he).1
   rw [length_append,length_singleton] at this
   have ei:i=S.hl.length:=by omega
   rw [List.getElem?_append_right c,ei,Nat.sub_self] at he
   exact .inr ⟨by omega,by simpa using he.symm⟩
 refine⟨⟨by show (S.hl++ [e2]).length=_;rw [length_append,hl];rfl,fun i e he=>?_,nmF_inj f (by omega),(f.low (k+1)).ac⟩,h.wp,h.ws,fun i e he=>?_⟩
 .rcases split i e he with ⟨a,b⟩ |⟨rfl,rfl⟩
  .exact h.pl.nam i e b
  .exact⟨en,by rw [if_neg (by omega)];exact el⟩
 .rcases split i e he with ⟨a,b⟩ |⟨rfl,rfl⟩
  .obtain⟨x,y,z⟩:=h.da i e b
   exact⟨x,y,by rw [if_neg (by omega)];exact z⟩
  .exact⟨ep,ec,by rw [if_pos rfl];exact ew⟩
structure Apart (S:Ts) (t q:Addr):Prop where
 t:t≠q
 sw:S.sw≠q
 hs:S.hs≠q
 ho:∀e∈S.hl,e.a≠q/\e.x.pa≠q/\e.x.ca≠q
theorem qcr.put {d:Ad} {H:Hp} {t q:Addr} {S:Ts} {o:HO} (h:qcr d H t S) (a:Apart S t q):qcr d (upd H q o) t S:=by
 obtain⟨⟨dx,h1⟩,h2,h3,h4,h5,h6⟩:=h
 refine⟨⟨dx,by rw [qa6 a.t];exact h1⟩,by rw [qa6 a.sw];exact h2,by rw [qa6 a.hs];exact h3,h4,h5,fun e he=>?_⟩
 obtain⟨⟨dy,g1⟩,g2,g3,g4,g5⟩:=h6 e he
 obtain⟨n1,n2,n3⟩:=a.ho e he
 exact⟨⟨dy,by rw [qa6 n1];exact g1⟩,by rw [qa6 n2];exact g2,g3,by rw [qa6 n3];exact g4,g5⟩
theorem sort_eq {ss ss':List Str} (h:ss.Perm ss') (a:PyProof.Rows.sortedS ss=true) (b:PyProof.Rows.sortedS ss'=true):ss=ss':=
 List.Perm.eq_of_pairwise (le:=leS) (fun x y _ _ h1 h2=>qg2 h1 h2) (qdr a) (qdr b) h
theorem pl_one {S:Ts} {P:PL} {e:He} (f:PlF P) (hl:S.hl=[e]) (en:e.n=nmF P 0) (el:e.x.el=none):Pl S (nmF P) (elN P.es) 1:=by
 refine⟨by rw [hl];rfl,fun k e' he=>?_,fun i j hi hj _=>by omega,(show Low (elN P.es) 1 from fun k k0 k1=>by omega).ac⟩
 rw [hl] at he
 have hk:=(List.getElem?_eq_some_iff.mp he).1
 have e0:k=0:=by rw [length_singleton] at hk;omega
 subst e0
 have:e'=e:=by simpa using he.symm
 subst this
 exact⟨en,el⟩
theorem TInv.cast {S:Ts} {P:PL} {n:Nat} {wt wt':Nat->Int} (h:TInv S P n wt) (e:∀j,j < n->wt j=wt' j):TInv S P n wt':=⟨h.pl,h.wp,h.ws,fun k x hx=>by
 have hk:=(List.getElem?_eq_some_iff.mp hx).1
 rw [h.pl.len] at hk
 obtain⟨a,b,c⟩:=h.da k x hx
 exact⟨a,b,c.trans (e k hk)⟩⟩
theorem LnN.kid {el:Nat->Nat} {k:Nat} {l:List Nat} (h:LnN el k l) {j:Nat} (hj:j∈l) (ne:j≠k):∃c∈l,0 < c/\el c=j:=by
 induction h with
 |top=>exact absurd (mem_singleton.mp hj) ne
 | @up k l k0 h ih=>
  rcases mem_cons.mp hj with e|e
  .exact absurd e ne
  .by_cases c:j=el k
   .exact⟨k,mem_cons_self ..,k0,c.symm⟩
   .obtain⟨x,x1,x2,x3⟩:=ih e c
    exact⟨x,mem_cons_of_mem _ x1,x2,x3⟩
section
variable {S: Ts} {nm: Nat -> Str} {el: Nat -> Nat} {n: Nat}
theorem Pl.isKid (p:Pl S nm el n) {c:Nat} (c0:0 < c) (cn:c < n):nm c∈qb1 S (nm (el c)):=by
 obtain⟨e,h1,h2,h3⟩:=p.get cn
 rw [if_neg (by omega)] at h3
 rw [<-h2]
 exact mem_map.mpr ⟨e,mem_filter.mpr ⟨mem_of_getElem? h1,decide_eq_true h3⟩,rfl⟩
theorem flat_in {parts:List (Str × List Str)} {q:Str × List Str} {y:Str} (hq:q∈parts) (hy:y∈q.2):y∈flat parts:=mem_flatten.mpr ⟨q.2,mem_map.mpr ⟨q,hq,rfl⟩,hy⟩
theorem Pl.allBen (p:Pl S nm el n):∀(m j:Nat) (zs:List Str),j < n->Ben S m (nm j) zs->∀k,k < n->j∈qa9 el k->nm k∈zs:=by
 intro m
 induction m with
 |zero=>
  rintro j _ jn ⟨parts,hp,rfl,hb,_⟩ k kn hk
  by_cases c:j=k
  .rw [c];exact mem_cons_self ..
  .obtain⟨x,x3,x0,x2⟩:=(p.ac.ln kn).kid hk c
   have z:=p.isKid x0 (p.ac.lt kn x x3)
   rw [x2] at z
   obtain⟨q,hq,_⟩:=mem_map.mp (hp.mem_iff.mpr z)
   exact(hb q hq).elim
 |succ m ih=>
  rintro j _ jn ⟨parts,hp,rfl,hb,_⟩ k kn hk
  by_cases c:j=k
  .rw [c];exact mem_cons_self ..
  .obtain⟨x,x3,x0,x2⟩:=(p.ac.ln kn).kid hk c
   have x1:=p.ac.lt kn x x3
   have z:=p.isKid x0 x1
   rw [x2] at z
   obtain⟨q,hq,e⟩:=mem_map.mp (hp.mem_iff.mpr z)
   have hB:=hb q hq
   rw [e] at hB
   exact mem_cons_of_mem _ (flat_in hq (ih x q.2 x1 hB k kn x3))
theorem Pl.benIff (p:Pl S nm el n) {m j:Nat} {zs:List Str} (jn:j < n) (h:Ben S m (nm j) zs) {k:Nat} (kn:k < n):nm k∈zs↔j∈qa9 el k:=by
 refine⟨fun hk=>?_,p.allBen m j zs jn h k kn⟩
 obtain⟨i,i1,i2,i3⟩:=p.ben m j zs jn h.part _ hk
 rw [p.inj k i kn i1 i2]
 exact i3
theorem sumL_eq {f:Nat->Int}:∀{n:Nat} {ks:List Nat},ks.Nodup->(∀k∈ks,k < n)->(∀k,k < n->k∉ks->f k=0)->sumL f ks=qce n f
 |0,ks,_,h,_=>by
  cases ks with
  |nil=>rfl
  |cons k r=>exact absurd (h k (mem_cons_self ..)) (by omega)
 |n+1,ks,nd,h,p=>by
  show _=qce n f+f n
  by_cases m:n∈ks
  .rw [sumL_perm (List.perm_cons_erase m)]
   have:=sumL_eq (n:=n) (nd.erase n) (fun k hk=>by
    have h1:=h k (List.mem_of_mem_erase hk)
    have:k≠n:=fun z=>by subst z;exact(List.Nodup.not_mem_erase nd) hk
    omega) fun k hk hn=>p k (by omega) fun hm=>hn ((List.mem_erase_of_ne (by omega)).mpr hm)
   show f n+_=_
   omega
  .have:=sumL_eq (n:=n) nd (fun k hk=>by
    have h1:=h k hk
    have:k≠n:=fun z=>m (z ▸ hk)
    omega) fun k hk hn=>p k (by omega) hn
   have:=p n (by omega) m
   omega
theorem Pl.sumE (p:Pl S nm el n) {v:Str} {pr:Nat->Int} (hp:∀k e,S.hl[k]?=some e->gN e.x.fp v=pr k) {m j:Nat} {bs:List Str} (jn:j < n) (hb:Ben S m (nm j) bs):
  gN (qcu (bs.map (qcn S))) v=qce n fun k=>if j∈qa9 el k then pr k else 0:=by
 have nd:=(qc2 p.wf hb.part).1
 have hk:=p.ben m j bs jn hb.part
 have key:∀cs:List Str,(∀y∈cs,∃k,k < n/\y=nm k/\j∈qa9 el k)->∃ks:List Nat,cs=ks.map nm/\(∀k∈ks,k < n)/\((cs.map (qcn S)).map fun t=>gN t.f v).sum=sumL (fun k=>if j∈qa9 el k then pr k else 0) ks:=by
  intro cs
  induction cs with
  |nil=>intro _;exact⟨[],rfl,fun k hk=>absurd hk (by simp),rfl⟩
  |cons y r ih=>
   intro h
   obtain⟨ks,k1,k2,k3⟩:=ih fun y' hy=>h y' (mem_cons_of_mem _ hy)
   obtain⟨k,kn,rfl,kj⟩:=h y (mem_cons_self ..)
   obtain⟨e,e1,e2,_⟩:=p.at kn
   refine⟨k :: ks,by rw [map_cons,k1],fun k' hk'=>?_,?_⟩
   .rcases mem_cons.mp hk' with rfl|hk'
    .exact kn
    .exact k2 k' hk'
   .rw [map_cons,map_cons,List.sum_cons,k3,qdk e1]
    show gN e.x.fp v+_=(if j∈qa9 el k then pr k else 0)+_
    rw [hp k e e2,if_pos kj]
 obtain⟨ks,k1,k2,k3⟩:=key bs hk
 unfold qcu
 rw [gN_sum,k3]
 have z:gN noF v=0:=rfl
 rw [z,Int.zero_add]
 refine sumL_eq ?_ k2 fun k kn hn=>?_
 .rw [k1] at nd
  exact(pairwise_map.mp nd).imp fun h e=>h (by rw [e])
 .refine if_neg fun hj=>hn ?_
  have:=(p.benIff jn hb kn).mpr hj
  rw [k1] at this
  obtain⟨k',h1,h2⟩:=mem_map.mp this
  rw [<-p.inj k' k (k2 k' h1) kn h2]
  exact h1
end
structure GF (P:PL):Prop where
 w1:1<=P.ws.length
 w3:P.ws.length<=3
 wg:∀z∈P.ws,qda z=true
 wn:P.ws.Nodup
 nl:P.nm.length=P.es.length+1
 n10:P.nm.length<=9
 ng:∀z∈P.nm,qda z=true
 nn:P.nm.Nodup
 ac:Ac (elN P.es) P.nm.length
 pl:P.tp.length=P.nm.length
 cl:P.tc.length=P.nm.length
 pa:∀t∈P.tp,AD t.k t.f/\Fin P.ws t.f
 pb:∀t∈P.tp,qev P.ws (5*10^27) t.f
 ca:∀t∈P.tc,AD t.k t.f/\qev P.ws (10^30) t.f
 cb:∀t∈P.tc,∀v∈P.ws,10^30 - 100<=gN t.f v
structure GT (S:Ts) (P:PL):Prop where
 pl:Pl S (nmF P) (elN P.es) P.nm.length
 wp:S.ws.Perm P.ws
 ws:PyProof.Rows.sortedS S.ws=true
 da:∀(k:Nat) (e:He),S.hl[k]?=some e->(∀v,e.x.fp v=qbb (tfF P.tp k) v)/\(∀v,e.x.fc v=qbb (tfF P.tc k) v)
 nda:(S.hl.map (·.a)).Nodup
noncomputable def sumP (P:PL) (j:Nat) (v:Str):Int:=qce P.nm.length fun k=>if j∈qa9 (elN P.es) k then gN (tfF P.tp k) v else 0
section
variable {S: Ts} {P: PL}
theorem GF.tf (f:GF P) {k:Nat} (hk:k < P.nm.length):∃t,P.tp[k]?=some t/\t∈P.tp/\tfF P.tp k=t.f/\AD t.k t.f/\Fin P.ws t.f:=by
 have h:k < P.tp.length:=by rw [f.pl];exact hk
 have e:=getElem?_eq_getElem h
 exact⟨_,e,getElem_mem h,by unfold tfF;rw [e],(f.pa _ (getElem_mem h)).1,(f.pa _ (getElem_mem h)).2⟩
theorem GF.tc (f:GF P) {k:Nat} (hk:k < P.nm.length):∃t,P.tc[k]?=some t/\t∈P.tc/\tfF P.tc k=t.f/\AD t.k t.f/\Fin P.ws t.f:=by
 have h:k < P.tc.length:=by rw [f.cl];exact hk
 have e:=getElem?_eq_getElem h
 exact⟨_,e,getElem_mem h,by unfold tfF;rw [e],(f.ca _ (getElem_mem h)).1,(f.ca _ (getElem_mem h)).2.fin (Int.le_refl _)⟩
theorem GF.prn (f:GF P) {k:Nat} (hk:k < P.nm.length) (v:Str):0<=gN (tfF P.tp k) v:=by
 obtain⟨t,_,_,e,_,h⟩:=f.tf hk
 rw [e];exact fin_nn h v
theorem GF.capn (f:GF P) {k:Nat} (hk:k < P.nm.length) (v:Str):0<=gN (tfF P.tc k) v:=by
 obtain⟨t,_,_,e,_,h⟩:=f.tc hk
 rw [e];exact fin_nn h v
theorem GF.inj (f:GF P):∀i j,i < P.nm.length->j < P.nm.length->nmF P i=nmF P j->i=j:=fun i j hi hj e=>by
 rw [qcb hi,qcb hj] at e
 rcases Nat.lt_trichotomy i j with h|h|h
 .exact absurd e ((pairwise_iff_getElem.mp f.nn) i j hi hj h)
 .exact h
 .exact absurd e.symm ((pairwise_iff_getElem.mp f.nn) j i hj hi h)
theorem GT.sum (g:GT S P) (f:GF P) {m j:Nat} {bs:List Str} (jn:j < P.nm.length) (hb:Ben S m (nmF P j) bs) (v:Str):gN (qcu (bs.map (qcn S))) v=sumP P j v:=
 g.pl.sumE (pr:=fun k=>gN (tfF P.tp k) v) (fun k e he=>by
  have hk:=(List.getElem?_eq_some_iff.mp he).1
  rw [g.pl.len] at hk
  obtain⟨t,_,_,t3,_,t5⟩:=f.tf hk
  rw [show e.x.fp=qbb (tfF P.tp k) from funext (g.da k e he).1,t3]
  exact qdb t5 v) jn hb
theorem GT.cap (g:GT S P) (f:GF P) {j:Nat} {e:He} (jn:j < P.nm.length) (ae:S.at (nmF P j)=some e) (v:Str):gN e.x.fc v=gN (tfF P.tc j) v:=by
 obtain⟨e',h1,h2,_⟩:=g.pl.at jn
 rw [ae] at h1
 cases h1
 obtain⟨t,_,_,t3,_,t5⟩:=f.tc jn
 rw [show e.x.fc=qbb (tfF P.tc j) from funext (g.da j e h2).2,t3]
 exact qdb t5 v
theorem GT.vioA (g:GT S P) (f:GF P) {fm:Str->Option Int} {j:Nat} {e:He} {bs:List Str} {v:Str} (jn:j < P.nm.length) (ae:S.at (nmF P j)=some e) (hb:Ben S 12 (nmF P j) bs) (h:qew (qdh (qcu (bs.map (qcn S))) fm) e.x.fc v):gN (tfF P.tc j) v < sumP P j v+gN fm v:=by
 have:=h.2
 rw [gN_add,g.sum f jn hb v,g.cap f jn ae v] at this
 exact this
end
theorem LnN.cong {el el':Nat->Nat} {k:Nat} {l:List Nat} (h:LnN el k l) (e:∀j∈l,0 < j->el j=el' j):LnN el' k l:=by
 induction h with
 |top=>exact .top
 | @up k l k0 h ih=>
  have e1:=e k (mem_cons_self ..) k0
  refine .up k0 ?_
  rw [<-e1]
  exact ih fun j hj=>e j (mem_cons_of_mem _ hj)
theorem LnN.moved {el el':Nat->Nat} {k a:Nat} {la:List Nat} (k0:0 < k) (ek:el' k=a) (eo:∀j,0 < j->j≠k->el' j=el j) (hla:LnN el a la) (na:k∉la) {i:Nat} {l:List Nat} (h:LnN el i l):∃l',LnN el' i l'/\(k∉l->l'=l)/\
  ∀lk,LnN el k lk->k∈l->∀j,j∈l'↔(j∈l/\j∉lk)\/j=k\/j∈la:=by
 have hla':LnN el' a la:=hla.cong fun j hj j0=>(eo j j0 fun e=>na (e ▸ hj)).symm
 induction h with
 |top=>exact⟨[0],.top,fun _=>rfl,fun lk _ hk=>absurd (mem_singleton.mp hk) (by omega)⟩
 | @up i l i0 h ih=>
  by_cases c:i=k
  .subst c
   refine⟨i :: la,.up i0 (by rw [ek];exact hla'),fun hn=>absurd (mem_cons_self ..) hn,fun lk hlk _ j=>?_⟩
   rw [hlk.uniq (.up i0 h)]
   constructor
   .intro hj
    rcases mem_cons.mp hj with e|e
    .exact .inr (.inl e)
    .exact .inr (.inr e)
   .rintro(⟨a1,a2⟩ |e|e)
    .exact absurd a1 a2
    .rw [e];exact mem_cons_self ..
    .exact mem_cons_of_mem _ e
  .obtain⟨l',h1,h2,h3⟩:=ih
   refine⟨i :: l',.up i0 (by rw [eo i i0 c];exact h1),fun hn=>by rw [h2 fun z=>hn (mem_cons_of_mem _ z)],fun lk hlk hk j=>?_⟩
   have hk':k∈l:=(mem_cons.mp hk).resolve_left fun e=>c e.symm
   have h4:=h3 lk hlk hk' j
   have ni:i∉lk:=fun hi=>by
    obtain⟨p,m,e1,e2⟩:=h.tail hk'
    have e3:=e2.uniq hlk
    subst e3
    exact(nodup_cons.mp (LnN.up i0 h).nodup).1 (by rw [e1];exact mem_append_right _ hi)
   constructor
   .intro hj
    rcases mem_cons.mp hj with e|e
    .exact .inl ⟨by rw [e];exact mem_cons_self ..,by rw [e];exact ni⟩
    .rcases h4.mp e with ⟨a1,a2⟩ |b
     .exact .inl ⟨mem_cons_of_mem _ a1,a2⟩
     .exact .inr b
   .rintro(⟨a1,a2⟩ |b)
    .rcases mem_cons.mp a1 with e|e
     .rw [e];exact mem_cons_self ..
     .exact mem_cons_of_mem _ (h4.mpr (.inl ⟨e,a2⟩))
    .exact mem_cons_of_mem _ (h4.mpr (.inr b))
theorem qdw {f g:Nat->Int}:∀{n:Nat},(∀k,k < n->f k=g k)->qce n f=qce n g
 |0,_=>rfl
 |n+1,h=>by
  show qce n f+f n=qce n g+g n
  rw [qdw fun k hk=>h k (by omega),h n (by omega)]
section
variable {el: Nat -> Nat} {n: Nat}
theorem Ac.two (ac:Ac el n) {i j k:Nat} (hi:i < n) (hj:j∈qa9 el i) (hk:k∈qa9 el i):j∈qa9 el k\/k∈qa9 el j:=by
 obtain⟨p,e⟩:=ac.tl hi hj
 rw [e] at hk
 rcases mem_append.mp hk with h|h
 .left
  obtain⟨q,e2⟩:=ac.tl hi (j:=k) (by rw [e];exact mem_append_left _ h)
  obtain⟨p1,p2,rfl⟩:=List.append_of_mem h
  have kn:=ac.lt hi k (by rw [e];simp)
  have:qa9 el k=k :: p2++qa9 el j:=by
   have nd:=ac.nd hi
   rw [e2] at e
   have e3:q++qa9 el k=p1++(k :: p2++qa9 el j):=by rw [e,append_assoc]
   obtain⟨t,ht⟩:∃t,qa9 el k=k :: t:=by
    cases hz:qa9 el k with
    |nil=>have:=ac.self kn;rw [hz] at this;cases this
    |cons x t=>
     have h5:=ac.ln kn
     rw [hz] at h5
     cases h5 with
     |top=>exact⟨_,rfl⟩
     |up _ _=>exact⟨_,rfl⟩
   rw [e2,ht] at nd
   rw [ht] at e3
   have n1:k∉q:=fun hq=>(nodup_append.mp nd).2.2 k hq k (mem_cons_self ..) rfl
   have n2:k∉p1:=fun hq=>by
    rw [e3] at nd
    exact(nodup_append.mp nd).2.2 k hq k (mem_cons_self ..) rfl
   rw [ht]
   have key:∀(a b:List Nat) (s t:List Nat),k∉a->k∉b->a++k :: s=b++k :: t->s=t:=by
    intro a
    induction a with
    |nil=>
     intro b s t _ hb he
     cases b with
     |nil=>exact(List.cons.inj he).2
     |cons y b=>exact absurd (mem_cons.mpr (.inl (List.cons.inj he).1)) hb
    |cons x a ih=>
     intro b s t ha hb he
     cases b with
     |nil=>exact absurd (mem_cons.mpr (.inl (List.cons.inj he).1.symm)) ha
     |cons y b=>exact ih b s t (fun z=>ha (mem_cons_of_mem _ z)) (fun z=>hb (mem_cons_of_mem _ z)) (List.cons.inj he).2
   rw [key _ _ _ _ n1 n2 e3];rfl
  rw [this]
  exact mem_append_right _ (ac.self (ac.lt hi j hj))
 .exact .inr h
end
theorem elN_set {es:List Nat} {k a:Nat} (k0:0 < k) (kn:k < es.length+1):elN (es.set (k - 1) a) k=a/\∀j,0 < j->j≠k->elN (es.set (k - 1) a) j=elN es j:=by
 refine⟨?_,fun j j0 ne=>?_⟩
 .unfold elN;rw [List.getElem?_set_self (by omega)];rfl
 .unfold elN;rw [List.getElem?_set_ne (by omega)]
section
variable {es: List Nat} {k a: Nat}
theorem set_ac (ac:Ac (elN es) (es.length+1)) (k0:0 < k) (kn:k < es.length+1) (an:a < es.length+1) (na:k∉qa9 (elN es) a):Ac (elN (es.set (k - 1) a)) (es.length+1)/\
  ∀i,i < es.length+1->(k∉qa9 (elN es) i->qa9 (elN (es.set (k - 1) a)) i=qa9 (elN es) i)/\(k∈qa9 (elN es) i->∀j,j∈qa9 (elN (es.set (k - 1) a)) i↔(j∈qa9 (elN es) i/\j∉qa9 (elN es) k)\/j=k\/j∈qa9 (elN es) a):=by
 obtain⟨e1,e2⟩:=elN_set (es:=es) (a:=a) k0 kn
 have key:∀i,i < es.length+1->∃l',LnN (elN (es.set (k - 1) a)) i l'/\(k∉qa9 (elN es) i->l'=qa9 (elN es) i)/\(k∈qa9 (elN es) i->∀j,j∈l'↔(j∈qa9 (elN es) i/\j∉qa9 (elN es) k)\/j=k\/j∈qa9 (elN es) a):=fun i hi=>by
  obtain⟨l',h1,h2,h3⟩:=LnN.moved k0 e1 e2 (ac.ln an) na (ac.ln hi)
  exact⟨l',h1,h2,h3 _ (ac.ln kn)⟩
 refine⟨fun i hi=>?_,fun i hi=>?_⟩
 .obtain⟨l',h1,h2,h3⟩:=key i hi
  refine⟨l',h1,fun j hj=>?_⟩
  by_cases c:k∈qa9 (elN es) i
  .rcases(h3 c j).mp hj with ⟨x,_⟩ |x|x
   .exact ac.lt hi j x
   .omega
   .exact ac.lt an j x
  .rw [h2 c] at hj
   exact ac.lt hi j hj
 .obtain⟨l',h1,h2,h3⟩:=key i hi
  rw [qci h1]
  exact⟨h2,h3⟩
end
def mvP (P:PL) (k a:Nat):PL:={P with es:=P.es.set (k - 1) a}
theorem TInv.gt {S:Ts} {P:PL} {wt:Nat->Int} (h:TInv S P P.nm.length wt) (nd:(S.hl.map (·.a)).Nodup):GT S P:=⟨h.pl,h.wp,h.ws,fun k e he=>⟨(h.da k e he).1,(h.da k e he).2.1⟩,nd⟩
theorem LineOf.uniq {S:Ts} {z:Str} {l m:List Str} (h:LineOf S z l) (h':LineOf S z m):l=m:=by
 induction h generalizing m with
 |top h n=>cases h' with
  |top=>rfl
  |up h2 n2 r2=>rw [h] at h2;cases h2;rw [n] at n2;cases n2
 |up h n r ih=>cases h' with
  |top h2 n2=>rw [h] at h2;cases h2;rw [n] at n2;cases n2
  |up h2 n2 r2=>
   rw [h] at h2;cases h2;rw [n] at n2;cases n2
   rw [ih r2]
section
variable {S: Ts} {P: PL}
theorem GF.acE (f:GF P):Ac (elN P.es) (P.es.length+1):=by rw [<-f.nl];exact f.ac
theorem GF.mv (f:GF P) {k a:Nat} (k0:0 < k) (kn:k < P.nm.length) (an:a < P.nm.length) (na:k∉qa9 (elN P.es) a):GF (mvP P k a):=by
 have nl:=f.nl
 have ac:=(set_ac (a:=a) f.acE k0 (by omega) (by omega) na).1
 refine⟨f.w1,f.w3,f.wg,f.wn,?_,f.n10,f.ng,f.nn,?_,f.pl,f.cl,f.pa,f.pb,f.ca,f.cb⟩
 .show P.nm.length=(P.es.set (k - 1) a).length+1
  rw [List.length_set];exact nl
 .show Ac (elN (P.es.set (k - 1) a)) P.nm.length
  rw [nl];exact ac
theorem GT.mv (g:GT S P) (f:GF P) {k a:Nat} (k0:0 < k) (kn:k < P.nm.length) (an:a < P.nm.length) (f':GF (mvP P k a)):GT (mvS S (nmF P k) (nmF P a)) (mvP P k a):=by
 have nl:=f.nl
 obtain⟨e1,e2⟩:=elN_set (es:=P.es) (a:=a) k0 (by omega)
 have at_:∀(i:Nat) (e:He),(S.hl.map (mvE (nmF P k) (nmF P a)))[i]?=some e->∃e0,S.hl[i]?=some e0/\e=mvE (nmF P k) (nmF P a) e0/\i < P.nm.length:=fun i e he=>by
  rw [getElem?_map] at he
  cases h:S.hl[i]? with
  |none=>rw [h] at he;cases he
  |some e0=>
   rw [h] at he
   have hi:=(List.getElem?_eq_some_iff.mp h).1
   rw [g.pl.len] at hi
   exact⟨e0,rfl,(Option.some.inj he).symm,hi⟩
 refine⟨⟨by show (S.hl.map _).length=P.nm.length;rw [length_map];exact g.pl.len,fun i e he=>?_,f'.inj,f'.ac⟩,g.wp,g.ws,fun i e he=>?_,?_⟩
 .obtain⟨e0,h0,rfl,hi⟩:=at_ i e he
  obtain⟨x,y⟩:=g.pl.nam i e0 h0
  refine⟨by rw [mvE_n];exact x,?_⟩
  show (mvE (nmF P k) (nmF P a) e0).x.el=if i=0 then none else some (nmF P (elN (P.es.set (k - 1) a) i))
  unfold mvE
  by_cases c:i=k
  .subst c
   rw [if_pos x,if_neg (by omega),e1]
  .rw [if_neg fun z=>c (f.inj i k hi kn (by rw [<-x,z])),y]
   by_cases i0:i=0
   .rw [if_pos i0,if_pos i0]
   .rw [if_neg i0,if_neg i0,e2 i (by omega) c]
 .obtain⟨e0,h0,rfl,hi⟩:=at_ i e he
  have:=g.da i e0 h0
  unfold mvE
  split
  .exact this
  .exact this
 .show ((S.hl.map (mvE (nmF P k) (nmF P a))).map (·.a)).Nodup
  rw [map_map]
  have:((·.a)∘mvE (nmF P k) (nmF P a):He->Addr)=(·.a):=funext fun e=>mvE_a _ _ e
  rw [this]
  exact g.nda
theorem GT.hs (g:GT S P) (f:GF P):qe2 S/\S.ws.length<=50/\(∀v∈S.ws,v.length<=100)/\(∀k,k < P.nm.length->(nmF P k).length<=100):=by
 have h50:S.ws.length<=50:=by have:=g.wp.length_eq;have:=f.w3;omega
 refine⟨⟨by omega,fun e' he z hz=>?_⟩,h50,fun v hv=>?_,fun k hk=>?_⟩
 .obtain⟨i,hi,q,_⟩:=g.pl.ix he
  obtain⟨t,_,_,q2,_,q3⟩:=f.tf (k:=i) (by omega)
  rw [(g.da i e' q).1,q2] at hz
  exact g.wp.mem_iff.mpr (qe3 q3 z hz)
 .have:=(qcj (f.wg v (g.wp.mem_iff.mp hv))).2.1
  omega
 .rw [qcb hk]
  have:=(qcj (f.ng _ (getElem_mem hk))).2.1
  omega
theorem GT.mvAt (g:GT S P) (f:GF P) {K:Frag} {d:Ad} {H:Hp} {t:Addr} (hT:qcr d H t S) {k a:Nat} (kn:k < P.nm.length) (an:a < P.nm.length):∃ez ey,MvAt K d H t S (nmF P k) (nmF P a) ez ey ((qa9 (elN P.es) k).map (nmF P)) ((qa9 (elN P.es) a).map (nmF P))/\ez.x.el=if k=0 then none else some (nmF P (elN P.es k)):=by
 obtain⟨ez,z1,z2,z3⟩:=g.pl.at kn
 obtain⟨ey,y1,y2,y3⟩:=g.pl.at an
 obtain⟨ow,w5,wl,nl⟩:=g.hs f
 have n10:=f.n10
 have lz:=f.ac.len kn
 have ly:=f.ac.len an
 have mem:∀{j i:Nat},j < P.nm.length->i < P.nm.length->(nmF P j∈(qa9 (elN P.es) i).map (nmF P)↔j∈qa9 (elN P.es) i):=fun {j i} hj hi=>⟨fun h=>by
  obtain⟨x,hx,e⟩:=mem_map.mp h
  rw [<-f.inj x j (f.ac.lt hi x hx) hj e];exact hx,fun h=>mem_map.mpr ⟨j,h,rfl⟩⟩
 refine⟨ez,ey,⟨hT,g.pl.wf,ow,z1,y1,g.pl.line k kn,by rw [length_map];omega,g.pl.line a an,by rw [length_map];omega,g.pl.dep 12 k kn (by omega),w5,wl,fun u hu=>?_,fun bs hb u hu=>?_,fun hn=>?_,fun hn bs hb u hu us hus=>?_⟩,z3⟩
 .obtain⟨j,hj,rfl⟩:=mem_map.mp hu
  have jn:=f.ac.lt an j hj
  obtain⟨e,h1,_⟩:=g.pl.at jn
  exact⟨nl j jn,g.pl.dep 12 j jn (by omega),e,h1⟩
 .obtain⟨i,i1,i2,i3⟩:=g.pl.ben 12 k bs kn hb.part u hu
  refine⟨_,by rw [i2];exact g.pl.line i i1,by rw [length_map];have:=f.ac.len i1;omega⟩
 .rw [z3] at hn
  by_cases c:k=0
  .subst c
   exact mem_map.mpr ⟨0,(f.ac.ln an).zero,rfl⟩
  .rw [if_neg c] at hn;cases hn
 .obtain⟨i,i1,i2,i3⟩:=g.pl.ben 12 k bs kn hb.part u hu
  have hk:k∉qa9 (elN P.es) a:=fun h=>hn ((mem kn an).mpr h)
  rw [i2] at hus
  have eu:=hus.uniq (g.pl.line i i1)
  rw [eu,length_map,length_map,length_map]
  obtain⟨p,e⟩:=f.ac.tl i1 i3
  have nd:=f.ac.nd i1
  rw [e] at nd
  have nd2:(k :: p++qa9 (elN P.es) a).Nodup:=by
   refine nodup_append.mpr ⟨nodup_cons.mpr ⟨fun h=>(nodup_append.mp nd).2.2 k h k (f.ac.self kn) rfl,(nodup_append.mp nd).1⟩,f.ac.nd an,fun x hx y hy exy=>?_⟩
   subst exy
   rcases mem_cons.mp hx with h|h
   .exact hk (h ▸ hy)
   .have xi:x∈qa9 (elN P.es) i:=by rw [e];exact mem_append_left _ h
    rcases f.ac.two i1 xi i3 with h2|h2
    .exact(nodup_append.mp nd).2.2 x h x h2 rfl
    .exact hk (f.ac.trans an hy h2)
  have:=qf9 (n:=P.nm.length) nd2 fun x hx=>by
   rcases mem_append.mp hx with h|h
   .rcases mem_cons.mp h with h|h
    .omega
    .exact f.ac.lt i1 x (by rw [e];exact mem_append_left _ h)
   .exact f.ac.lt an x h
  rw [length_append,length_cons] at this
  rw [e,length_append]
  omega
end
theorem qc8 {K:Frag} {H:Hp} {n:Nat} {a b:Addr} {xs ys:List Str} (ha:SqL K H a (xs.map V.str)) (hb:SqL K H b (ys.map V.str)) (ne:a≠b):DEq K H (n+1) (.ref a) (.ref b) (decide (xs=ys)):=by
 by_cases hl:xs.length=ys.length
 .have hl':(xs.map V.str).length=(ys.map V.str).length:=by rw [length_map,length_map,hl]
  have z:=DEq.ls (K:=K) (n:=n) (e:=fun j=>decide (xs[j]?=ys[j]?)) ha hb ne hl' fun j h1 h2=>by
   rw [length_map] at h1 h2
   rw [getElem_map,getElem_map,getElem?_eq_getElem h1,getElem?_eq_getElem h2]
   have:=DEq.flat (K:=K) (H:=H) (n:=n) (x:=V.str xs[j]) (y:=V.str ys[j]) rfl rfl
   have e:eqV (V.str xs[j]) (V.str ys[j])=decide (some xs[j]=some ys[j]):=by
    show (xs[j]==ys[j])=_
    by_cases c:xs[j]=ys[j]
    .rw [c,decide_eq_true rfl];exact beq_self_eq_true _
    .rw [decide_eq_false fun h=>c (Option.some.inj h)];exact beq_false_of_ne c
   rw [e] at this
   exact this
  have e:((List.range (xs.map V.str).length).all fun j=>decide (xs[j]?=ys[j]?))=decide (xs=ys):=by
   rw [Bool.eq_iff_iff,all_eq_true,decide_eq_true_iff]
   constructor
   .intro h
    apply List.ext_getElem?
    intro j
    rcases Nat.lt_or_ge j xs.length with c|c
    .exact of_decide_eq_true (h j (mem_range.mpr (by rw [length_map];exact c)))
    .rw [List.getElem?_eq_none c,List.getElem?_eq_none (by omega)]
   .rintro rfl j _
    exact decide_eq_true rfl
  rw [e] at z
  exact z
 .rw [decide_eq_false fun e=>hl (by rw [e])]
  exact .lsN ha hb ne (by rw [length_map,length_map];exact hl)
theorem inV_iN (x:Nat):∀L:List Nat,inV (.int (x:Int)) (L.map iV)=decide (x∈L)
 | []=>rfl
 |y :: L=>by
  have ih:=inV_iN x L
  unfold inV at ih ⊢
  rw [map_cons,any_cons,ih]
  by_cases c:y=x
  .subst c
   rw [show eqV (iV y) (V.int (y:Int))=true from decide_eq_true rfl,decide_eq_true (mem_cons_self ..)]
   rfl
  .rw [show eqV (iV y) (V.int (x:Int))=false from decide_eq_false (by omega),Bool.false_or]
   by_cases m:x∈L
   .rw [decide_eq_true m,decide_eq_true (mem_cons_of_mem _ m)]
   .rw [decide_eq_false m,decide_eq_false fun h=>(mem_cons.mp h).elim (fun e=>c e.symm) m]
theorem flat_iN (L:List Nat):((L.map iV).all fun v=>qd0 v)=true:=by
 rw [List.all_map]
 exact all_eq_true.mpr fun _ _=>rfl
theorem r_inN {K:Frag} {H:Hp} {Q:VK} {p:Addr} {x:Nat} {L:List Nat} (h:SqL K H p (L.map iV)) (q:Q (.bl (decide (x∈L))) H):rIn K false (.int (x:Int)) (.ref p) H Q:=⟨p,_,rfl,.inl h,rfl,flat_iN L,by rw [inV_iN];exact q⟩
theorem r_notInN {K:Frag} {H:Hp} {Q:VK} {p:Addr} {x:Nat} {L:List Nat} (h:SqL K H p (L.map iV)) (q:Q (.bl (!decide (x∈L))) H):rIn K true (.int (x:Int)) (.ref p) H Q:=⟨p,_,rfl,.inl h,rfl,flat_iN L,by rw [inV_iN];exact q⟩
theorem GF.sumE {P:PL} (f:GF P) (j:Nat) (v:Str):(qce P.tp.length fun k=>if j∈qa9 (elN P.es) k then ptN P.tp k v else 0)=sumP P j v:=by
 unfold sumP
 rw [f.pl]
 exact qdw fun k _=>by rw [ptN_eq]
theorem GF.sumn {P:PL} (f:GF P) (j:Nat) (v:Str):0<=sumP P j v:=sumR_nn fun k hk=>by
 split
 .exact f.prn hk v
 .exact Int.le_refl _
theorem GF.sum_out {P:PL} (f:GF P) {v:Str} (hv:v∉P.ws) (j:Nat):sumP P j v=0:=by
 have z0:∀n,(qce n fun _=>0)=0:=fun n=>by
  induction n with
  |zero=>rfl
  |succ n ih=>show qce n _+0=0;rw [ih];rfl
 unfold sumP
 rw [qdw (g:=fun _=>0) fun k hk=>?_,z0]
 split
 .obtain⟨t,_,_,e,_,h⟩:=f.tf hk
  rw [e];exact fin_out h hv
 .rfl
theorem PlAt.sbI {H H':Hp} {p q C:Addr} {P:PL} {fs:List (Str × V)} (h:PlAt H p P) (hq:∃dy,H q=some (.ins C dy fs)) (sb:SameBut q H H'):PlAt H' p P:=by
 obtain⟨dy,hq⟩:=hq
 have nL:∀{b:Addr} {xs:List V},H b=some (.lst xs)->b≠q:=fun e1 e2=>by subst e2;rw [hq] at e1;cases e1
 have nD:∀{b:Addr} {k:List (Key × V)},H b=some (.dK k)->b≠q:=fun e1 e2=>by subst e2;rw [hq] at e1;cases e1
 exact⟨sb _ _ (nL h.top) h.top,sb _ _ (nL h.w) h.w,sb _ _ (nL h.n) h.n,sb _ _ (nL h.e) h.e,sb _ _ (nL h.pr) h.pr,sb _ _ (nL h.cp) h.cp,
  fun t m=>sb _ _ (nD (h.pd t m)) (h.pd t m),fun t m=>sb _ _ (nD (h.cd t m)) (h.cd t m)⟩
def qf1 (f:Str->Option Int):Prop:=∀v n,f v=some n->0 < n
theorem qf1.nn {f:Str->Option Int} (h:qf1 f) (v:Str):0<=gN f v:=by
 unfold gN
 cases e:f v with
 |none=>exact Int.le_refl _
 |some n=>have:=h v n e;show 0<=n;omega
theorem qf1.pos (f:Str->Option Int):qf1 (qbb f):=fun v n e=>by
 unfold qbb at e
 cases h:f v with
 |none=>rw [h] at e;cases e
 |some a=>
  rw [h] at e
  dsimp only at e
  by_cases c:0 < a
  .rw [if_pos c] at e;cases e;exact c
  .rw [if_neg c] at e;cases e
theorem qf1.add {f g:Str->Option Int} (hf:qf1 f) (hg:qf1 g):qf1 (qdh f g):=fun v n e=>by
 unfold qdh at e
 cases h:g v with
 |none=>rw [h] at e;exact hf v n e
 |some b=>
  rw [h] at e
  cases e
  have:=hf.nn v
  have:=hg v b h
  omega
theorem qf1.sum:∀{ts:List Pt} {f0:Str->Option Int},qf1 f0->(∀t∈ts,qf1 t.f)->qf1 (ts.foldl (fun f t=>qdh f t.f) f0)
 | [],_,h0,_=>h0
 |t :: ts,f0,h0,h=>by
  rw [List.foldl_cons]
  exact qf1.sum (h0.add (h t (mem_cons_self ..))) fun t' ht=>h t' (mem_cons_of_mem _ ht)
theorem qf1.ext {f g:Str->Option Int} (hf:qf1 f) (hg:qf1 g) (e:∀v,gN f v=gN g v):f=g:=funext fun v=>by
 have e:=e v
 unfold gN at e
 cases h1:f v with
 |none=>
  cases h2:g v with
  |none=>rfl
  |some b=>
   rw [h1,h2] at e
   have:=hg v b h2
   have e:(0:Int)=b:=e
   omega
 |some a=>
  cases h2:g v with
  |none=>
   rw [h1,h2] at e
   have:=hf v a h1
   have e:a=(0:Int):=e
   omega
  |some b=>
   rw [h1,h2] at e
   have e:a=b:=e
   rw [e]
theorem gN_pos0 {f:Str->Option Int} {v:Str} (h:0<=gN f v):gN (qbb f) v=gN f v:=by
 unfold gN qbb at*
 cases e:f v with
 |none=>rfl
 |some a=>
  rw [e] at h
  have h:0<=a:=h
  show (if 0 < a then some a else none).getD 0=a
  by_cases c:0 < a
  .rw [if_pos c];rfl
  .rw [if_neg c];show (0:Int)=a;omega
theorem GT.told {S:Ts} {P:PL} (g:GT S P) (f:GF P) {j:Nat} (jn:j < P.nm.length) {bs:List Str} (hb:Ben S 12 (nmF P j) bs) {fq:Str->Option Int} (hq:∀v,gN fq v=sumP P j v):qcu (bs.map (qcn S))=qbb fq:=by
 refine qf1.ext (qf1.sum (fun v n e=>by cases e) fun t ht=>?_) (qf1.pos fq) fun v=>?_
 .obtain⟨y,hy,rfl⟩:=mem_map.mp ht
  obtain⟨k,kn,rfl,_⟩:=g.pl.ben 12 j bs jn hb.part y hy
  obtain⟨e,h1,h2,_⟩:=g.pl.at kn
  rw [qdk h1]
  show qf1 e.x.fp
  rw [show e.x.fp=qbb (tfF P.tp k) from funext (g.da k e h2).1]
  exact qf1.pos _
 .rw [g.sum f jn hb v,gN_pos0 (by rw [hq v];exact f.sumn j v),hq v]
theorem GT.names {S:Ts} {P:PL} (g:GT S P):S.hl.map (·.n)=P.nm:=by
 apply List.ext_getElem?
 intro i
 rw [getElem?_map]
 rcases Nat.lt_or_ge i P.nm.length with c|c
 .obtain⟨e,h1,h2,_⟩:=g.pl.get c
  rw [h1,getElem?_eq_getElem c,<-qcb c]
  show some e.n=_
  rw [h2]
 .rw [List.getElem?_eq_none (by rw [g.pl.len];exact c),List.getElem?_eq_none c]
  rfl
structure Fr (S:Ts) (P:PL) (b:Addr):Prop where
 hs:b≠S.hs
 n:b≠P.ln
 e:b≠P.le
 p:b≠P.lp
 c:b≠P.lc
 ho:∀x∈S.hl,b≠x.a
structure Sep (S:Ts) (P:PL):Prop where
 n:P.ln≠S.sw
 e:P.le≠S.sw
 p:P.lp≠S.sw
 c:P.lc≠S.sw
def Keep (S:Ts) (P:PL) (S':Ts) (P':PL) (H H':Hp):Prop:=∀b o,H b=some o->Fr S P b->H' b=some o/\Fr S' P' b
theorem qcr.apL {d:Ad} {H:Hp} {t q:Addr} {S:Ts} {xs:List V} (h:qcr d H t S) (e:H q=some (.lst xs)) (ne:q≠S.sw):Apart S t q:=by
 obtain⟨⟨dx,h1⟩,h2,h3,h4,h5,h6⟩:=h
 refine⟨fun z=>?_,ne.symm,fun z=>?_,fun x hx=>?_⟩
 .rw [z,e] at h1;cases h1
 .rw [z,e] at h3;cases h3
 .obtain⟨⟨dy,g1⟩,g2,g3,g4,g5⟩:=h6 x hx
  refine⟨fun z=>?_,fun z=>?_,fun z=>?_⟩
  .rw [z,e] at g1;cases g1
  .rw [z,e] at g2;cases g2
  .rw [z,e] at g4;cases g4
theorem GF.two {P:PL} (f:GF P) {j k:Nat} (hj:j < P.nm.length) (v:Str):sumP P j v+sumP P k v<=gN (tfF P.tc j) v:=by
 by_cases hv:v∈P.ws
 .obtain⟨t,_,t2,t3,_,_⟩:=f.tc hj
  have h1:=f.cb t t2 v hv
  rw [t3]
  have h2:∀j,sumP P j v<=(P.nm.length:Int)*(5*10^27):=fun j=>qfp fun k hk=>by
   obtain⟨u,_,u2,u3,_,_⟩:=f.tf hk
   rw [u3]
   split
   .exact(f.pb u u2).gb (by decide) v
   .decide
  have:=f.n10
  have:=h2 j
  have:=h2 k
  omega
 .rw [f.sum_out hv j,f.sum_out hv k];exact f.capn hj v
def WtAt (S:Ts) (wt:Nat->Int):Prop:=∀k e,S.hl[k]?=some e->e.x.w=wt k
theorem WtAt.mv {S:Ts} {wt:Nat->Int} (h:WtAt S wt) (z y:Str):WtAt (mvS S z y) wt:=fun k e he=>by
 have he':(S.hl.map (mvE z y))[k]?=some e:=he
 rw [getElem?_map] at he'
 obtain⟨e0,h0,rfl⟩:=Option.map_eq_some_iff.mp he'
 have:=h k e0 h0
 unfold mvE
 split
 .exact this
 .exact this
noncomputable def qe6 (P:PL) (k:Nat):List Str:=(qa9 (elN P.es) k).reverse.map (nmF P)
structure Ord (P:PL) (j:Nat) (ks:List Nat):Prop where
 mem:∀k,k∈ks↔k < P.nm.length/\j∈qa9 (elN P.es) k
 pw:(ks.map (qe6 P)).Pairwise fun x y=>ltP x y=true
theorem ltP_irr:∀x:List Str,ltP x x=false
 | []=>rfl
 |a :: x=>by unfold ltP;rw [if_pos rfl];exact ltP_irr x
theorem ltP_pre:∀(p:List Str) (a:Str) (q:List Str),ltP p (p++a :: q)=true
 | [],_,_=>rfl
 |b :: p,a,q=>by
  show (if b=b then ltP p (p++a :: q) else _)=true
  rw [if_pos rfl];exact ltP_pre p a q
theorem ltP_mid:∀(p:List Str) {a b:Str} (x y:List Str),a.cps.toList < b.cps.toList->ltP (p++a :: x) (p++b :: y)=true
 | [],a,b,x,y,h=>by
  show (if a=b then ltP x y else decide (a.cps.toList < b.cps.toList))=true
  rw [if_neg (lts_ne h)];exact decide_eq_true h
 |c :: p,a,b,x,y,h=>by
  show (if c=c then ltP (p++a :: x) (p++b :: y) else _)=true
  rw [if_pos rfl];exact ltP_mid p x y h
theorem qec {P:PL} (f:GF P) {k:Nat} (hk:k < P.nm.length):(qe6 P k).getLast?=some (nmF P k):=by
 unfold qe6
 have h:=f.ac.ln hk
 rw [List.map_reverse,List.getLast?_reverse]
 generalize qa9 (elN P.es) k=l at h
 cases h with
 |top=>rfl
 |up=>rfl
theorem way_ne {P:PL} (f:GF P) {k:Nat} (hk:k < P.nm.length):qe6 P k≠ []:=fun e=>by
 have:=qec f hk
 rw [e] at this
 cases this
theorem wayN_inj {P:PL} (f:GF P) {i k:Nat} (hi:i < P.nm.length) (hk:k < P.nm.length) (e:qe6 P i=qe6 P k):i=k:=by
 have h1:=qec f hi
 rw [e,qec f hk] at h1
 exact(f.inj k i hk hi (Option.some.inj h1)).symm
theorem Ord.nd {P:PL} {j:Nat} {ks:List Nat} (o:Ord P j ks):ks.Nodup:=by
 have:=pairwise_map.mp o.pw
 refine this.imp fun h e=>?_
 subst e
 rw [ltP_irr] at h
 cases h
theorem Ord.uniq {P:PL} (f:GF P) {j:Nat} {ks ks':List Nat} (o:Ord P j ks) (o':Ord P j ks'):ks=ks':=by
 have pm:ks.Perm ks':=(List.perm_ext_iff_of_nodup o.nd o'.nd).mpr fun k=>by rw [o.mem,o'.mem]
 refine List.Perm.eq_of_pairwise (le:=fun a b=>ltP (qe6 P a) (qe6 P b)=true) (fun a b _ _ h1 h2=>?_) (pairwise_map.mp o.pw) (pairwise_map.mp o'.pw) pm
 have:=ltP_tr h1 h2
 rw [ltP_irr] at this
 cases this
theorem way_up {P:PL} (f:GF P) {i k:Nat} (hi:i < P.nm.length) (k0:0 < k) (hk:k∈qa9 (elN P.es) i):∃r,qe6 P i=qe6 P (elN P.es k)++nmF P k :: r:=by
 obtain⟨p,e⟩:=f.ac.tl hi hk
 refine⟨p.reverse.map (nmF P),?_⟩
 unfold qe6
 rw [e,f.ac.up k0 (f.ac.lt hi k hk),List.reverse_append,List.reverse_cons,map_append,map_append,append_assoc]
 rfl
theorem sorted_lt {l:List Str} (h:PyProof.Rows.sortedS l=true) (nd:l.Nodup):l.Pairwise fun a b=>a.cps.toList < b.cps.toList:=by
 refine((qdr h).and nd).imp fun {a b} ⟨h1,h2⟩=>?_
 exact Decidable.byContradiction fun c=>h2 (qg2 h1 (qcz.mpr (List.not_lt.mp c)))
theorem GT.ord {S:Ts} {P:PL} (g:GT S P) (f:GF P):∀(m j:Nat) (bs:List Str),j < P.nm.length->Ben S m (nmF P j) bs->∃ks:List Nat,bs=ks.map (nmF P)/\Ord P j ks:=by
 have kidx:∀{i j},i < P.nm.length->j∈qa9 (elN P.es) i->j≠i->∃c,0 < c/\c < P.nm.length/\elN P.es c=j/\c∈qa9 (elN P.es) i:=fun {i j} hi hj ne=>by
  obtain⟨c,h1,h2,h3⟩:=(f.ac.ln hi).kid hj ne
  exact⟨c,h2,f.ac.lt hi c h1,h3,h1⟩
 have glue:∀(j:Nat) (parts:List (Str × List Str)),j < P.nm.length->(parts.map (·.1)).Perm (qb1 S (nmF P j))->PyProof.Rows.sortedS (parts.map (·.1))=true->
   (∀q∈parts,∀c,c < P.nm.length->q.1=nmF P c->∃ks:List Nat,q.2=ks.map (nmF P)/\Ord P c ks)->∃ks:List Nat,nmF P j :: flat parts=ks.map (nmF P)/\Ord P j ks:=by
  intro j parts jn hp hs hq
  have nd:(parts.map (·.1)).Nodup:=hp.nodup_iff.mpr (qfe g.pl.wf _)
  have slt:=sorted_lt hs nd
  have hkid:∀q∈parts,∃c,0 < c/\c < P.nm.length/\elN P.es c=j/\q.1=nmF P c:=fun q hq=>g.pl.kid jn (hp.mem_iff.mp (mem_map.mpr ⟨q,hq,rfl⟩))
  have sub:∀ps:List (Str × List Str),(∀q∈ps,q∈parts)->(ps.map (·.1)).Pairwise (fun a b=>a.cps.toList < b.cps.toList)->∃ks:List Nat,flat ps=ks.map (nmF P)/\(∀k,k∈ks↔∃q∈ps,∃c,0 < c/\c < P.nm.length/\elN P.es c=j/\q.1=nmF P c/\k < P.nm.length/\c∈qa9 (elN P.es) k)/\(ks.map (qe6 P)).Pairwise fun x y=>ltP x y=true:=by
   intro ps
   induction ps with
   |nil=>intro _ _;exact⟨[],rfl,fun k=>⟨fun h=>by simp at h,fun⟨q,h,_⟩=>by simp at h⟩,List.Pairwise.nil⟩
   |cons q ps ih=>
    intro hin hpw
    rw [map_cons,List.pairwise_cons] at hpw
    obtain⟨ks,e1,e2,e3⟩:=ih (fun q' h=>hin q' (mem_cons_of_mem _ h)) hpw.2
    obtain⟨c,c0,cn,ce,cq⟩:=hkid q (hin q (mem_cons_self ..))
    obtain⟨k1,d1,d2⟩:=hq q (hin q (mem_cons_self ..)) c cn cq
    refine⟨k1++ks,?_,fun k=>?_,?_⟩
    .show (q.2 :: ps.map (·.2)).flatten=_
     rw [List.flatten_cons,map_append,<-d1]
     show q.2++flat ps=_
     rw [e1]
    .rw [mem_append,d2.mem,e2]
     constructor
     .rintro(⟨h1,h2⟩ |⟨q',h,r⟩)
      .exact⟨q,mem_cons_self ..,c,c0,cn,ce,cq,h1,h2⟩
      .exact⟨q',mem_cons_of_mem _ h,r⟩
     .rintro⟨q',h,c',c0',cn',ce',cq',h1,h2⟩
      rcases mem_cons.mp h with e|h
      .subst e
       have:c=c':=f.inj _ _ cn cn' (cq.symm.trans cq')
       subst this
       exact .inl ⟨h1,h2⟩
      .exact .inr ⟨q',h,c',c0',cn',ce',cq',h1,h2⟩
    .rw [map_append,List.pairwise_append]
     refine⟨d2.pw,e3,fun x hx y hy=>?_⟩
     obtain⟨i,hi,rfl⟩:=mem_map.mp hx
     obtain⟨i',hi',rfl⟩:=mem_map.mp hy
     obtain⟨h1,h2⟩:=(d2.mem i).mp hi
     obtain⟨q',hq',c',c0',cn',ce',cq',h1',h2'⟩:=(e2 i').mp hi'
     obtain⟨r,er⟩:=way_up f h1 c0 h2
     obtain⟨r',er'⟩:=way_up f h1' c0' h2'
     rw [er,er',ce,ce']
     refine ltP_mid _ _ _ ?_
     rw [<-cq,<-cq']
     exact hpw.1 q'.1 (mem_map.mpr ⟨q',hq',rfl⟩)
  obtain⟨ks,e1,e2,e3⟩:=sub parts (fun q h=>h) slt
  refine⟨j :: ks,by rw [map_cons,e1],fun k=>?_,?_⟩
  .rw [mem_cons,e2]
   constructor
   .rintro(rfl|⟨q,hq,c,c0,cn,ce,cq,h1,h2⟩)
    .exact⟨jn,f.ac.self jn⟩
    .refine⟨h1,?_⟩
     have:=f.ac.inn h1 c0 h2
     rw [ce] at this
     exact this
   .rintro⟨kn,hj⟩
    by_cases e:j=k
    .exact .inl e.symm
    .obtain⟨c,c0,cn,ce,hc⟩:=kidx kn hj e
     have hk:nmF P c∈qb1 S (nmF P j):=by rw [<-ce];exact g.pl.isKid c0 cn
     obtain⟨q,hq,eq⟩:=mem_map.mp (hp.mem_iff.mpr hk)
     exact .inr ⟨q,hq,c,c0,cn,ce,eq,kn,hc⟩
  .rw [map_cons,List.pairwise_cons]
   refine⟨fun y hy=>?_,e3⟩
   obtain⟨i,hi,rfl⟩:=mem_map.mp hy
   obtain⟨q,hq,c,c0,cn,ce,cq,h1,h2⟩:=(e2 i).mp hi
   obtain⟨r,er⟩:=way_up f h1 c0 h2
   rw [er,ce]
   exact ltP_pre _ _ _
 intro m
 induction m with
 |zero=>
  rintro j _ jn ⟨parts,hp,rfl,hb,hs⟩
  exact glue j parts jn hp hs fun q hq=>(hb q hq).elim
 |succ m ih=>
  rintro j _ jn ⟨parts,hp,rfl,hb,hs⟩
  refine glue j parts jn hp hs fun q hq c cn e=>?_
  have:=hb q hq
  rw [e] at this
  exact ih c q.2 cn this
theorem r_slL {K:Frag} {H:Hp} {Q:VK} {a:Addr} {xs:List V} {lo hi:Option Int} (h:SqL K H a xs) (q:∀p,H p=none->Q (.ref p) (upd H p (.lst (cutV xs lo hi)))):rSlL K (.ref a) lo hi H Q:=⟨a,xs,rfl,h,q⟩
def we7 (K:Frag) (d:Ad):Sp:=fun vs H Q _=>∃(p:Addr) (P:PL),vs=[.ref p]/\PlF P/\P.nm.length<=9/\PlAt H p P/\Dst p P.lw P.ln P.le P.lp P.lc/\
 ∀(p' lc:Addr) (tc:List Pt) H',qb0 H H'->PlF {P with lc:=lc,tc:=tc}->GF {P with lc:=lc,tc:=tc}->PlAt H' p' {P with lc:=lc,tc:=tc}->Dst p' P.lw P.ln P.le P.lp lc->Q (.ref p') H'
include T in
theorem we8:FnOk P w K mg base CX0 2 d.wc3 d.w9t ["_law_plan_here"] (we7 K d):=by
 refine T.wda.ok w71 (fun vs H Q E h=>?_) (fun cdv A outer s H vs Q E hr h=>?_)
 .obtain⟨p,P,rfl,_⟩:=h;rfl
 obtain⟨p,P,rfl,pf,n9,pa,dst,q⟩:=h
 refine⟨_,(qa3 (qah (i:=1) w71.nd rfl (Or.inl rfl) (qc1 qa2))
  (qa3 (qbe PassesOwn.never rfl (qav rfl T.w0q (qa0 (qac qan rfl T.w1h PySem.boot_len (qa0 (qak qab (pv 0) qa8 (fun _ _=>rfl)) qa2)) qa2)) (qaq (i:=2) w71.nd rfl (Or.inl rfl)) (qa3 (qah (i:=3) w71.nd rfl (Or.inl rfl) qcw)
  (qa3 (qbe PassesOwn.never rfl (qbv (qak qab (pv 0) qa8 (fun _ _=>rfl))) (qaq (i:=4) w71.nd rfl (Or.inl rfl)) (qa5 (qcv (qcc hr) (pv 3) (pv 4) (qal op_sub (qal op_pow qa8 qa8) (qal qca qa8 (pv 2))) rfl)))
  (qa5 (qb3 (qg1 PySem.F.plainAttrs_list PySem.F.slot_list_append PySem.F.type_list_append qbk (pv 1) (qa0 (pv 3) qa2)))))))
  (qa5 (qai (qal op_cat (pe_slice sl_list (pv 0) po_none (po_some qa8)) (qc1 (qa0 (pv 1) qa2))))))),?_⟩
 walk_at "d"
 refine qaf (σ:=[some (.ref p),none,none,none,none]) rfl ?_
 have w3:=pf.w3
 have etop:=pa.top
 have en:=pa.n
 have hnl2:(P.nm.map V.str).length=P.nm.length:=length_map _
 walk_at "g"
 rename_i l hl0
 rw [hnl2,show (((P.nm.length:Nat):Int)).toNat=P.nm.length by omega]
 refine qbx (fun i σ H'=>∃(ts:List Pt) (w1 w2 w3:Option V),σ=[some (.ref p),some (.ref l),w1,w2,w3]/\qb0 H H'/\H' l=some (.lst (ts.map fun t=> .ref t.a))/\ts.length=i/\∀(j:Nat) (t:Pt),ts[j]?=some t->PtN H H' P.ws (10^30) t/\∀v∈P.ws,10^30 - 100<=gN t.f v) ⟨[],none,none,none,rfl,qa7 hl0 _,qa1,rfl,fun j t h=>by simp at h⟩ ?_ ?_
 .rintro i σ H' hi ⟨ts,w1,w2,w3',rfl,sm,eL,hts,hp⟩
  have pa':=pa.same sm
  have etop':=pa'.top
  have ew':=pa'.w
  rw [show (0:Int)+(i:Int)=(i:Int) by omega]
  generalize hiI:((i:Nat):Int)=iI
  walk_at "g"
  rename_i dp hdp
  have s1:=qa7 hdp (.dK [])
  have ew1:=s1 _ _ ew'
  refine qfh (xs:=P.ws.map V.str) (fun m σ H2=>∃(k':List (Key × V)) (f:Str->Option Int) (w3:Option V),σ=[some (.ref p),some (.ref l),some (.int iI),some (.ref dp),w3]/\qb0 H' H2/\H2 dp=some (.dK k')/\AD k' f/\qev P.ws (10^30) f/\k'.length<=m/\∀v∈P.ws.take m,10^30 - 100<=gN f v) ⟨[],noF,w3',rfl,s1,qa1,AD.nil,qg5,Nat.le_refl _,fun v h=>by simp at h⟩ ?_ ?_ ?_
  .rintro m σ H2 _ ⟨k',f,w3,rfl,s2,_⟩;exact SqL.of (s2 _ _ ew')
  .rintro m v σ H2 hv ⟨k',f,w3',rfl,s2,eP,hA,hF,hk,hg⟩
   rw [getElem?_map] at hv
   obtain⟨u,hu,rfl⟩:=Option.map_eq_some_iff.mp hv
   have hm:=(List.getElem?_eq_some_iff.mp hu).1
   have hum:=mem_of_getElem? hu
   have lput:=qbc k' (Sum.inr u) (.int (10^30 - 3*iI))
   have tk:∀v,v∈P.ws.take (m+1)->v∈P.ws.take m\/v=u:=fun v hv=>by
    rw [take_add_one,hu] at hv
    rcases mem_append.mp hv with h|h
    .exact .inl h
    .exact .inr (by simpa using h)
   clear hv
   walk_at "g"
   refine⟨_,qdy f u (10^30 - 3*iI),_,rfl,qax s2 hdp,qa1,hA.put u _,hF.put hum (by omega) (by omega),by rw [show (10:Int)^Int.toNat 30=10^30 from rfl];omega,fun v hv=>?_⟩
   rw [gN_put]
   by_cases c:v=u
   .rw [if_pos c];omega
   .rw [if_neg c]
    rcases tk v hv with h|h
    .exact hg v h
    .exact absurd h c
  .rintro σ H2 ⟨k',f,w3',rfl,s2,eP,hA,hF,hk,hg⟩
   have eL2:=s2 _ _ eL
   rw [length_map,take_length] at hg
   have nlp:l≠dp:=qa4 eL hdp
   walk_at "g"
   refine⟨ts++ [⟨dp,k',f⟩],_,_,_,rfl,qax (sm.trans s2) hl0,by rw [qa1,map_append];rfl,by rw [length_append,hts];rfl,fun j t ht=>?_⟩
   rcases Nat.lt_or_ge j ts.length with h|h
   .rw [List.getElem?_append_left h] at ht
    obtain⟨z,zz⟩:=hp j t ht
    refine⟨⟨z.fr,?_,z.ad,z.fn⟩,zz⟩
    have n1:t.a≠l:=fun e=>by have:=z.loc;rw [e,eL] at this;cases this
    rw [qa6 n1]
    exact s2 _ _ z.loc
   .have e:j=i:=by
     have:=(List.getElem?_eq_some_iff.mp ht).1
     rw [length_append,length_singleton] at this
     omega
    subst e
    rw [List.getElem?_append_right h,hts,Nat.sub_self] at ht
    have:t=⟨dp,k',f⟩:=by simpa using ht.symm
    subst this
    exact⟨⟨sm.free hdp,by show upd _ _ _ dp=_;rw [qa6 nlp.symm];exact eP,hA,hF⟩,hg⟩
 .rintro σ H' ⟨ts,w1,w2,w3',rfl,sm,eL,hts,hp⟩
  have pa':=pa.same sm
  have etop':=pa'.top
  have en':=pa'.n
  have ee':=pa'.e
  have ew':=pa'.w
  have ep':=pa'.pr
  walk_at "g"
  refine r_slL (SqL.of etop') fun s4 hs4=>?_
  rw [show cutV [V.ref P.lw,V.ref P.ln,V.ref P.le,V.ref P.lp,V.ref P.lc] none (some 4)=[V.ref P.lw,V.ref P.ln,V.ref P.le,V.ref P.lp] from rfl]
  walk_at "g"
  rename_i p1 hp1
  refine r_cat (qad qa1 hp1) qa1 (by show 5<=16777216;decide) fun u hu=>?_
  have s5:=((qa7 hs4 (.lst [V.ref P.lw,V.ref P.ln,V.ref P.le,V.ref P.lp])).trans (qa7 hp1 (.lst [V.ref l])))
  have s6:=s5.trans (qa7 hu (.lst ([V.ref P.lw,V.ref P.ln,V.ref P.le,V.ref P.lp]++ [V.ref l])))
  have eu:upd (upd (upd H' s4 (.lst [V.ref P.lw,V.ref P.ln,V.ref P.le,V.ref P.lp])) p1 (.lst [V.ref l])) u (.lst ([V.ref P.lw,V.ref P.ln,V.ref P.le,V.ref P.lp]++ [V.ref l])) u=some (.lst [V.ref P.lw,V.ref P.ln,V.ref P.le,V.ref P.lp,V.ref l]):=qa1
  have nu:∀{b:Addr} {o:HO},H' b=some o->b≠u:=fun e=>qa4 (s5 _ _ e) hu
  generalize upd (upd (upd H' s4 (.lst [V.ref P.lw,V.ref P.ln,V.ref P.le,V.ref P.lp])) p1 (.lst [V.ref l])) u (.lst ([V.ref P.lw,V.ref P.ln,V.ref P.le,V.ref P.lp]++ [V.ref l]))=H6 at*
  have le':∀(j:Nat) (t:Pt),ts[j]?=some t->∀v∈P.ws,(qce P.tp.length fun k=>if j∈qa9 (elN P.es) k then ptN P.tp k v else 0)<=gN t.f v:=fun j t ht v hv=>by
   have h1:=(hp j t ht).2 v hv
   have h2:(qce P.tp.length fun k=>if j∈qa9 (elN P.es) k then ptN P.tp k v else 0)<=(P.tp.length:Int)*(5*10^27):=qfp fun k hk=>by
    have:=ptN_bd (B:=5*10^27) (by decide) (fun t m=>(pf.pa t m).2) k v
    split
    .exact this.2
    .decide
   have:=pf.pl
   omega
  have ca':∀t∈ts,AD t.k t.f/\qev P.ws (10^30) t.f:=fun t m=>by
   obtain⟨j,hj,e⟩:=mem_iff_getElem.mp m
   have:=(hp j t (by rw [getElem?_eq_getElem hj,e])).1
   exact⟨this.ad,this.fn⟩
  have at_:∀t∈ts,∃j,ts[j]?=some t:=fun t m=>by
   obtain⟨j,hj,e⟩:=mem_iff_getElem.mp m
   exact⟨j,by rw [getElem?_eq_getElem hj,e]⟩
  refine q u l ts H6 (sm.trans s6) ⟨pf.w1,pf.w3,pf.wg,pf.wn,pf.nl,pf.n12,pf.ng,pf.nn,pf.lo,pf.pl,hts,pf.pa,ca',le'⟩
   ⟨pf.w1,pf.w3,pf.wg,pf.wn,pf.nl,n9,pf.ng,pf.nn,(pf.low P.nm.length).ac,pf.pl,hts,fun t m=>⟨(pf.pa t m).1,(pf.pa t m).2.fin (by decide)⟩,fun t m=>(pf.pa t m).2,ca',fun t m v hv=>by
    obtain⟨j,hj⟩:=at_ t m
    exact(hp j t hj).2 v hv⟩
   ⟨eu,s6 _ _ ew',s6 _ _ en',s6 _ _ ee',s6 _ _ ep',s6 _ _ eL,fun t m=>s6 _ _ (pa'.pd t m),fun t m=>?_⟩
   ⟨nu ew',nu en',nu ee',nu ep',nu eL,dst.wn,dst.we,dst.wq,qa4 pa.w hl0,dst.ne,dst.nq,(qa4 pa.n hl0).symm,dst.eq,qa4 pa.e hl0,qa4 pa.pr hl0⟩
  obtain⟨j,hj⟩:=at_ t m
  exact s6 _ _ (hp j t hj).1.loc
def wtF (ws:List Int) (k:Nat):Int:=ws.getD k 1
theorem wtF_at {ws:List Int} {k:Nat} (h:k < ws.length):atI (ws.map V.int) (k:Int)=some (.int (wtF ws k)):=by
 unfold wtF
 rw [getD_eq_getElem?_getD,getElem?_eq_getElem h]
 exact qat (by rw [getElem?_map,getElem?_eq_getElem h];rfl)
def wai (K:Frag) (d:Ad):Sp:=fun vs H Q _=>∃(p lw:Addr) (P:PL) (wts:List Int),vs=[.ref p,.ref lw]/\PlF P/\PlAt H p P/\SqL K H lw (wts.map V.int)/\wts.length=P.nm.length/\(∀x∈wts,1<=x/\x<=1000)/\∀(t:Addr) (S:Ts) H',qb0 H H'->H t=none->H S.hs=none->H S.sw=none->qcr d H' t S->TInv S P P.nm.length (wtF wts)->(S.hl.map (·.a)).Nodup->Q (.ref t) H'
include T in
theorem waj:FnOk P w K mg base CX0 20 d.w5j d.w51 ["_law_plan_here","_law_weights"] (wai K d):=by
 refine T.w7l.ok w17 (fun vs H Q E h=>?_) (fun cdv A outer s H vs Q E hr h=>?_)
 .obtain⟨p,lw,P,wts,rfl,_⟩:=h;rfl
 obtain⟨p,lw,P,wts,rfl,pf,pa,hWt,wl,wb,q⟩:=h
 have wtb:∀k,k < P.nm.length->1<=wtF wts k/\wtF wts k<=1000:=fun k hk=>by
  have h:k < wts.length:=by omega
  unfold wtF
  rw [getD_eq_getElem?_getD,getElem?_eq_getElem h]
  exact wb _ (getElem_mem h)
 have n12:=pf.n12
 have nl:=pf.nl
 have gt:GoodT P.ws:=⟨pf.w1,by have:=pf.w3;omega,pf.wg,pf.wn⟩
 refine⟨_,(qa3 (ps_asg (pv 0) (pg_lst rfl (qbg (qaq (i:=2) w17.nd rfl (Or.inl rfl)) (qbg (qaq (i:=3) w17.nd rfl (Or.inl rfl)) (qbg (qaq (i:=4) w17.nd rfl (Or.inl rfl)) (qbg (qaq (i:=5) w17.nd rfl (Or.inl rfl)) (qbg (qaq (i:=6) w17.nd rfl (Or.inl rfl)) qfz)))))))
  (qa3 (qah (i:=7) w17.nd rfl (Or.inl rfl) (pe_makeX (W:=fun _ _ _ _=>False) T.w6n ((w8y T).mono (by decide)) hr rfl T.weg T.wat .nil qbl (qa0 (qb6 qe1 rfl T.wb5 PyProof.Rows.boot_list (qa0 (pv 2) qa2)) (qa0 (qak qab (pv 3) qa8 (fun _ _=>rfl)) (qa0 (qb6 qbt rfl T.w4m PyProof.Rows.boot_dict (qa0 (qak qab (pv 5) qa8 (fun _ _=>rfl)) qa2)) (qa0 (qb6 qbt rfl T.w4m PyProof.Rows.boot_dict (qa0 (qak qab (pv 6) qa8 (fun _ _=>rfl)) qa2)) (qa0 (qak qab (pv 1) qa8 (fun _ _=>rfl)) qa2)))))))
  (qa3 (qbe PassesOwn.never rfl (pi_range2 rfl T.w0q (qa0 qa8 (qa0 (qac qan rfl T.w1h PySem.boot_len (qa0 (pv 3) qa2)) qa2))) (qaq (i:=8) w17.nd rfl (Or.inl rfl)) (qa5 (qb3 (qae (W:=fun _ _ _ _=>False) (pv 7) T.w00 T.w1q ((w87 T).mono (by decide)) hr T.w9o .nil qbl (qa0 (qak qab (pv 3) (pv 8) (fun _ _=>rfl)) (qa0 (qak qab (pv 3) (qak qab (pv 4) (pv 8) (fun _ _=>rfl)) (fun _ _=>rfl)) (qa0 (qb6 qbt rfl T.w4m PyProof.Rows.boot_dict (qa0 (qak qab (pv 5) (pv 8) (fun _ _=>rfl)) qa2)) (qa0 (qb6 qbt rfl T.w4m PyProof.Rows.boot_dict (qa0 (qak qab (pv 6) (pv 8) (fun _ _=>rfl)) qa2)) (qa0 (qak qab (pv 1) (pv 8) (fun _ _=>rfl)) qa2)))))))))
  (qa5 (qai (pv 7)))))),?_⟩
 walk_at "d"
 refine qaf (σ:=[some (.ref p),some (.ref lw),none,none,none,none,none,none,none]) rfl ?_
 have ct:=T.w00
 have etop:=pa.top
 have ew:=pa.w
 have hz0:P.nm[0]?=some (nmF P 0):=by rw [qcb (by omega)];exact getElem?_eq_getElem (by omega)
 have gz:qda (nmF P 0)=true:=pf.ng _ (mem_of_getElem? hz0)
 have xn0:atI (P.nm.map V.str) 0=some (.str (nmF P 0)):=qat (j:=0) (by rw [getElem?_map,hz0];rfl)
 obtain⟨tp,tp1,tp2,tp3,tp4,tp5⟩:=qeg pf (k:=0) (by omega)
 obtain⟨tc,tc1,tc2,tc3,tc4,tc5⟩:=tc_fin pf (k:=0) (by omega)
 have xp:atI (P.tp.map fun t=>V.ref t.a) 0=some (.ref tp.a):=qat (j:=0) (by rw [getElem?_map,tp1];rfl)
 have xc:atI (P.tc.map fun t=>V.ref t.a) 0=some (.ref tc.a):=qat (j:=0) (by rw [getElem?_map,tc1];rfl)
 have lp1:tp.k.length<=1000:=by have:=tp4.le (fun z hz=>by cases e:tp.f z with|none=>exact absurd e hz|some n=>exact(tp5 z n e).1);have:=pf.w3;omega
 have lc1:tc.k.length<=1000:=by have:=tc4.le (fun z hz=>by cases e:tc.f z with|none=>exact absurd e hz|some n=>exact(tc5 z n e).1);have:=pf.w3;omega
 have ole:=own_le pf (k:=0) (by omega)
 walk_at "g"
 refine r_listL (SqL.of ew) fun h0 hh0=>?_
 have s1:=qa7 hh0 (.lst (P.ws.map V.str))
 have e0:upd H h0 (.lst (P.ws.map V.str)) h0=some (.lst (P.ws.map V.str)):=qa1
 generalize upd H h0 (.lst (P.ws.map V.str))=H1 at*
 have pa1:=pa.same s1
 have en1:=pa1.n
 have ep1:=pa1.pr
 walk_at "g"
 refine qau (SqL.of en1) xn0 ?_
 walk_at "g"
 refine qau (SqL.of ep1) xp ?_
 have hRp:Rd H1 tp.a (.dK tp.k):=.inl (pa1.pd tp tp2)
 walk_at "g"
 rename_i h1 hh1
 have s2:=qa7 hh1 (.dK tp.k)
 have e1:upd H1 h1 (.dK tp.k) h1=some (.dK tp.k):=qa1
 generalize upd H1 h1 (.dK tp.k)=H2 at*
 have pa2:=pa1.same s2
 have ec2:=pa2.cp
 refine qau (SqL.of ec2) xc ?_
 have hRc:Rd H2 tc.a (.dK tc.k):=.inl (pa2.cd tc tc2)
 walk_at "g"
 rename_i h2 hh2
 have s3:=qa7 hh2 (.dK tc.k)
 have e2:upd H2 h2 (.dK tc.k) h2=some (.dK tc.k):=qa1
 generalize upd H2 h2 (.dK tc.k)=H3 at*
 have s03:=(s1.trans s2).trans s3
 refine qau (s03.seq hWt) (wtF_at (k:=0) (by omega)) ?_
 walk_at "g"
 intro x dx hx hdx ne
 have sN:∀b u,H3 b=some u->upd (upd H3 dx (.own x)) x (.ins d.w01 dx []) b=some u:=fun b u e=>by rw [qa6 (qa4 e hx),qa6 (qa4 e hdx)];exact e
 refine⟨x,dx,h0,h1,h2,nmF P 0,P.ws,tp.k,tc.k,tp.f,tc.f,wtF wts 0,rfl,qa1,sN _ _ ((s2.trans s3) _ _ e0),gt,gz,sN _ _ (s3 _ _ e1),tp4,lp1,sN _ _ e2,tc4,lc1,tp5,tc5,(wtb 0 (by omega)).1,(wtb 0 (by omega)).2,fun y=>by rw [<-tp3,<-tc3];exact ole y,fun S e H4 sb hT hs' f1 f2 f3 f4 hl en' ee ew' efp efc hpm hso=>⟨rfl,?_⟩⟩
 have s4:qb0 H3 H4:=fun b u e=>sb b u (qa4 e hx) (sN b u e)
 have fr:H3 S.hs=none:=by
  cases r:H3 S.hs with
  |none=>rfl
  |some u=>rw [sN _ _ r] at hs';cases hs'
 have fr2:H3 S.sw=none:=by
  cases r:H3 S.sw with
  |none=>rfl
  |some u=>rw [sN _ _ r] at f1;cases f1
 have hw0:H S.sw=none:=s03.free fr2
 have s04:=s03.trans s4
 have hs0:H S.hs=none:=s03.free fr
 have hx0:H x=none:=s03.free hx
 have tI:TInv S P (1+0) (wtF wts):=⟨pl_one pf hl en' ee,hpm,hso,fun k e' he=>by
  rw [hl] at he
  have hk:=(List.getElem?_eq_some_iff.mp he).1
  have e0:k=0:=by rw [length_singleton] at hk;omega
  subst e0
  have:e'=e:=by simpa using he.symm
  subst this
  exact⟨by rw [tp3];exact efp,by rw [tc3];exact efc,ew'⟩⟩
 have nd0:(S.hl.map (·.a)).Nodup:=by rw [hl];exact nodup_cons.mpr ⟨by simp,nodup_nil⟩
 have hnl2:(P.nm.map V.str).length=P.nm.length:=length_map _
 have hrn1:((((P.nm.map V.str).length:Nat):Int) - 1).toNat=P.nm.length - 1:=by rw [hnl2];omega
 have en4:=s04 _ _ pa.n
 clear sN fr fr2 hs' sb f1 f2 f3 f4 hpm hso efp efc ew' ee hl en' s4 s03 s3 s2 s1 hRp hRc e0 e1 e2 pa1 pa2 en1 ep1 ec2 hx hdx ne hh0 hh1 hh2 xp xc tp4 tp5 tc4 tc5 tp1 tp2 tp3 tc1 tc2 tc3 lp1 lc1 ole gt etop ew
 walk_at "g"
 unfold iRng2
 walk_at "g"
 refine⟨1,_,rfl,⟨by decide,by decide,by rw [hnl2];omega,by rw [hnl2];omega⟩,?_⟩
 rw [hrn1]
 refine qbx (fun i σ H'=>∃(w:Option V) (S':Ts),σ=[some (V.ref p),some (V.ref lw),some (V.ref P.lw),some (V.ref P.ln),some (V.ref P.le),some (V.ref P.lp),some (V.ref P.lc),some (V.ref x),w]/\H S'.hs=none/\H S'.sw=none/\qcr d H' x S'/\TInv S' P (1+i) (wtF wts)/\qb0 H H'/\(S'.hl.map (·.a)).Nodup) ⟨none,S,rfl,hs0,hw0,hT,tI,s04,nd0⟩ ?_ ?_
 .rintro i σ H' hi ⟨w,S',rfl,hs1,hw1,hT',hI',sm,nd1⟩
  clear hT tI s04 hs0 nd0
  have kn:1+i < P.nm.length:=by omega
  obtain⟨e',ae,een,hW,hOw,hw50,h40,nk,line⟩:=hI'.ask pf (by omega) kn
  obtain⟨tp,tp1,tp2,tp3,tp4,tp5⟩:=qeg pf kn
  obtain⟨tc,tc1,tc2,tc3,tc4,tc5⟩:=tc_fin pf kn
  have low:=pf.low P.nm.length (1+i) (by omega) kn
  have hb:i < P.es.length:=by omega
  have eb:elN P.es (1+i)=P.es[i]:=by rw [Nat.add_comm 1 i];exact qfi hb
  have xe:atI (V.non :: P.es.map iV) (((1+i:Nat)):Int)=some (V.int ((elN P.es (1+i):Nat):Int)):=by rw [eb];exact qat (by rw [Nat.add_comm 1 i,getElem?_cons_succ,getElem?_map,getElem?_eq_getElem hb];rfl)
  have xn2:atI (P.nm.map V.str) ((elN P.es (1+i):Nat):Int)=some (.str (nmF P (elN P.es (1+i)))):=by rw [qcb (by omega)];exact qat (by rw [getElem?_map,getElem?_eq_getElem (by omega)];rfl)
  have xp:atI (P.tp.map fun t=>V.ref t.a) (((1+i:Nat)):Int)=some (.ref tp.a):=qat (by rw [getElem?_map,tp1];rfl)
  have xc:atI (P.tc.map fun t=>V.ref t.a) (((1+i:Nat)):Int)=some (.ref tc.a):=qat (by rw [getElem?_map,tc1];rfl)
  have xn:atI (P.nm.map V.str) (((1+i:Nat)):Int)=some (.str (nmF P (1+i))):=by rw [qcb kn];exact qat (by rw [getElem?_map,getElem?_eq_getElem kn];rfl)
  have gzk:qda (nmF P (1+i))=true:=by rw [qcb kn];exact pf.ng _ (getElem_mem kn)
  have lp1:tp.k.length<=1000:=by have:=tp4.le (fun z hz=>by cases e:tp.f z with|none=>exact absurd e hz|some n=>exact(tp5 z n e).1);have:=pf.w3;omega
  have lc1:tc.k.length<=1000:=by have:=tc4.le (fun z hz=>by cases e:tc.f z with|none=>exact absurd e hz|some n=>exact(tc5 z n e).1);have:=pf.w3;omega
  have ole:=own_le pf kn
  rw [show (1:Int)+(i:Int)=(((1+i:Nat)):Int) by omega]
  generalize ((elN P.es (1+i):Nat):Int)=ej at xe xn2
  generalize hki:(((1+i:Nat)):Int)=ki at*
  have pa':=pa.same sm
  have en':=pa'.n
  have ee':=pa'.e
  have ep':=pa'.pr
  obtain⟨dx',ht'⟩:=id hT'.1
  clear hrn1 hnl2
  walk_at "g"
  refine qau (SqL.of en') xn ?_
  walk_at "g"
  refine qau (SqL.of ee') xe ?_
  walk_at "g"
  refine qau (SqL.of en') xn2 ?_
  walk_at "g"
  refine qau (SqL.of ep') xp ?_
  have hRp:Rd H' tp.a (.dK tp.k):=.inl (pa'.pd tp tp2)
  walk_at "g"
  rename_i h1 hh1
  have s1:=qa7 hh1 (.dK tp.k)
  have e1:upd H' h1 (.dK tp.k) h1=some (.dK tp.k):=qa1
  generalize upd H' h1 (.dK tp.k)=H1 at*
  have pa1:=pa'.same s1
  refine qau (SqL.of pa1.cp) xc ?_
  have hRc:Rd H1 tc.a (.dK tc.k):=.inl (pa1.cd tc tc2)
  walk_at "g"
  rename_i h2 hh2
  have s2:=qa7 hh2 (.dK tc.k)
  have e2:upd H1 h2 (.dK tc.k) h2=some (.dK tc.k):=qa1
  generalize upd H1 h2 (.dK tc.k)=H2 at*
  have s12:=s1.trans s2
  have xw:atI (wts.map V.int) ki=some (.int (wtF wts (1+i))):=by rw [<-hki];exact wtF_at (by omega)
  have wbi:=wtb (1+i) kn
  refine qau ((sm.trans s12).seq hWt) xw ?_
  walk_at "g"
  obtain⟨zs,hL,hz12,hy⟩:=line
  rw [een] at hL
  have wl:∀v∈S'.ws,v.length<=100:=fun v hv=>by
   have:=(qcj (pf.wg v (hI'.wp.mem_iff.mp hv))).2.1
   omega
  have nl:∀u∈zs,u.length<=100:=fun u hu=>by
   obtain⟨e3,h3,_⟩:=hy u hu
   obtain⟨k3,k3n,_,h4,_⟩:=hI'.pl.ix (qb9 h3).1
   rw [(qb9 h3).2,qcb (by omega)] at h4
   have:=(qcj (pf.ng _ (getElem_mem (by omega:k3 < P.nm.length)))).2.1
   rw [h4];omega
  refine⟨x,h1,h2,S',nmF P (1+i),nmF P (elN P.es (1+i)),e',zs,tp.k,tc.k,tp.f,tc.f,wtF wts (1+i),rfl,hT'.same s12,gzk,nk,ae,hW,hOw,hw50,wl,s2 _ _ e1,tp4,lp1,e2,tc4,lc1,fin_perm tp5 hI'.wp,fin_perm tc5 hI'.wp,wbi.1,wbi.2,h40,hL,hz12,fun u hu=>⟨nl u hu,(hy u hu).elim fun e3 h3=>h3.2.1,(hy u hu).elim fun e3 h3=>⟨e3,h3.1⟩⟩,fun _ _ e4 H5 sb f1 f2 f3 hT5 n1 n2 n3 n4 n5=>?_,fun v hv _=>?_,fun _ i2 u e5 bs v g1 g2 g3 g4 _ _=>?_⟩
  .walk_at "g"
   refine⟨_,{S' with hl:=S'.hl++ [e4]},rfl,hs1,hw1,hT5,(hI'.next pf (by omega) kn n1 n2 n3 (by rw [tp3];exact n4) (by rw [tc3];exact n5)).cast fun j hj=>by
    split
    .rename_i e;rw [e]
    .rfl,fun b u e=>sb b u (qa4 e hs1) ((sm.trans s12) b u e),?_⟩
   show ((S'.hl++ [e4]).map (·.a)).Nodup
   rw [map_append,nodup_append]
   refine⟨nd1,nodup_cons.mpr ⟨by simp,nodup_nil⟩,fun a1 ha1 b1 hb1 e=>?_⟩
   have:b1=e4.a:=by simpa using hb1
   subst this
   subst e
   obtain⟨e6,m6,e6a⟩:=mem_map.mp ha1
   obtain⟨⟨dy,hy6⟩,_⟩:=(hT'.same s12).2.2.2.2.2 e6 m6
   rw [e6a,f1] at hy6
   cases hy6
  .obtain⟨v1,v2⟩:=hv
   rw [qdb tp5,qdb tc5] at v2
   have:=ole v
   rw [tp3,tc3] at this
   omega
  .obtain⟨e7,h7,_,h8⟩:=hy u (mem_of_getElem? g1)
   rw [g2] at h7
   cases h7
   obtain⟨v1,v2⟩:=g4
   rw [<-tp3] at v1 v2
   cases e:qdh (qcu (bs.map (qcn S'))) (qbb (tfF P.tp (1+i))) v with
   |none=>exact absurd e v1
   |some n=>
    have h9:=h8 bs g3 v n e
    have:gN (qdh (qcu (bs.map (qcn S'))) (qbb (tfF P.tp (1+i)))) v=n:=by unfold gN;rw [e];rfl
    omega
 rintro σ H' ⟨w,S',rfl,hs1,hw1,hT',hI',sm,nd1⟩
 walk_at "g"
 exact q x S' H' sm hx0 hs1 hw1 hT' (by rw [show P.nm.length=1+(P.nm.length - 1) by omega];exact hI') nd1
def isKid (es:List Nat) (k j:Nat):Bool:=decide (0 < j) && decide (elN es j=k)
def kidN (P:PL) (k:Nat):List Str:=((List.range P.nm.length).filter (isKid P.es k)).map (nmF P)
theorem GT.kids {S:Ts} {P:PL} {k:Nat} (h:GT S P) (kn:k < P.nm.length):qb1 S (nmF P k)=kidN P k:=by
 have key:∀m,m<=P.nm.length->((S.hl.take m).filter fun e=>decide (e.x.el=some (nmF P k))).map (·.n)=((List.range m).filter (isKid P.es k)).map (nmF P):=by
  intro m
  induction m with
  |zero=>intro _;rfl
  |succ m ih=>
   intro hm
   obtain⟨e,e1,e2,e3⟩:=h.pl.get (k:=m) (by omega)
   have same:decide (e.x.el=some (nmF P k))=isKid P.es k m:=by
    unfold isKid
    rw [e3]
    by_cases c:m=0
    .rw [if_pos c,decide_eq_false (show ¬0 < m by omega)];rfl
    .rw [if_neg c,decide_eq_true (show 0 < m by omega),Bool.true_and]
     have l:=h.pl.ac.elt (k:=m) (by omega) (by omega)
     by_cases c2:elN P.es m=k
     .rw [c2,decide_eq_true rfl,decide_eq_true rfl]
     .rw [decide_eq_false c2,decide_eq_false fun z=>c2 (h.pl.inj _ _ (by omega) kn (Option.some.inj z))]
   rw [take_add_one,e1,filter_append,map_append,ih (by omega),range_succ,filter_append,map_append]
   congr 1
   simp only [Option.toList_some,filter_cons,List.filter_nil,same]
   cases isKid P.es k m
   .rfl
   .show [e.n]=[nmF P m];rw [e2]
 have z:=key P.nm.length (Nat.le_refl _)
 rw [List.take_of_length_le (by rw [h.pl.len];exact Nat.le_refl _)] at z
 exact z
def es' (es:List Nat) (j:Nat):Int:=(((es[j]?).getD 0:Nat):Int)
def we5 (K:Frag) (d:Ad):Sp:=fun vs H Q _=>∃(p:Addr) (P:PL) (k:Nat),vs=[.ref p,.int (k:Int)]/\GF P/\PlAt H p P/\k < P.nm.length/\∀(l:Addr) (ss:List Str) H',qb0 H H'->H l=none->H' l=some (.lst (ss.map V.str))->ss.Perm (kidN P k)->PyProof.Rows.sortedS ss=true->Q (.ref l) H'
include T in
theorem wce:FnOk P w K mg base CX0 1 d.wbt d.w9v ["_law_plan_here","_law_k"] (we5 K d):=by
 refine T.wbs.ok wdu (fun vs H Q E h=>?_) (fun cdv A outer s H vs Q E hr h=>?_)
 .obtain⟨p,P,k,rfl,_⟩:=h;rfl
 obtain⟨p,P,k,rfl,f,pa,kn,q⟩:=h
 refine⟨_,(qa5 (qai (qac qdf rfl T.w3o PyProof.Rows.boot_sorted (qa0 (qc4 (caps:=[0,1]) (cn:=["_law_plan_here","_law_k"]) (qbd rfl rfl (by rfl) (by rfl) rfl ⟨rfl,⟨rfl,trivial⟩⟩ (by rfl) rfl ⟨⟨rfl,rfl,rfl,rfl,_,rfl⟩,⟨⟨rfl,rfl,rfl,rfl,_,rfl⟩,trivial⟩⟩ (by decide)) rfl (qav rfl T.w0q (qa0 (qac qan rfl T.w1h PySem.boot_len (qa0 (qak qab (pv 0) qa8 (fun _ _=>rfl)) qa2)) qa2)) (fun _ _ _ _=>(pf_one (qaj qen (qak qab (qak qab (pv 1) qa8 (fun _ _=>rfl)) (pv 0) (fun _ _=>rfl)) (pv 2) (qar _)))) (fun _ _ _ _=>(qak qab (qak qab (pv 1) qa8 (fun _ _=>rfl)) (pv 0) (fun _ _=>rfl)))) qa2)))),?_⟩
 walk_at "d"
 try dsimp only [cxC]
 generalize hki:((k:Nat):Int)=ki
 refine qaf (σ:=[some (.ref p),some (.int ki)]) rfl ?_
 have n9:=f.n10
 have nl:=f.nl
 have etop:=pa.top
 have en:=pa.n
 have ee:=pa.e
 have hnl2:(P.nm.map V.str).length=P.nm.length:=length_map _
 walk_at "g"
 intro C s0 H0 fp na hna
 rw [hnl2,show (((P.nm.length:Nat):Int)).toNat=P.nm.length by omega]
 refine qg9 P.nm.length (fun i H'=>H'=upd H na (.lst ((((List.range i).filter (isKid P.es k)).map (nmF P)).map V.str))) rfl (fun i H' hi _=>hi) (fun H' _=>Nat.le_refl _) ?_ ?_
 .rintro i H' v H'' hi rfl ⟨rfl,rfl⟩
  have ee8:=qad (o':=.lst ((((List.range i).filter (isKid P.es k)).map (nmF P)).map V.str)) ee hna
  have en8:=qad (o':=.lst ((((List.range i).filter (isKid P.es k)).map (nmF P)).map V.str)) en hna
  have et8:=qad (o':=.lst ((((List.range i).filter (isKid P.es k)).map (nmF P)).map V.str)) etop hna
  have hzz:((((List.range i).filter (isKid P.es k)).map (nmF P)).map V.str).length < sizeLine:=by
   have:=length_filter_le (isKid P.es k) (List.range i)
   rw [length_range] at this
   rw [length_map,length_map];show _ < 16777216;omega
  have nxt:(((List.range (i+1)).filter (isKid P.es k)).map (nmF P)).map V.str=((((List.range i).filter (isKid P.es k)).map (nmF P)).map V.str)++(if isKid P.es k i=true then [V.str (nmF P i)] else []):=by
   rw [range_succ,filter_append,map_append,map_append]
   congr 1
   simp only [filter_cons,List.filter_nil]
   cases isKid P.es k i <;> rfl
  have xni:atI (P.nm.map V.str) (0+(i:Int))=some (.str (nmF P i)):=by rw [Int.zero_add,qcb hi];exact qat (by rw [getElem?_map,getElem?_eq_getElem hi];rfl)
  walk_at "g"
  cases i with
  |zero=>
   refine qau (v:=.non) (SqL.of ee8) (by rw [Int.zero_add];exact qat (j:=0) rfl) ?_
   walk_at "g"
   refine⟨rfl,?_⟩
   rw [decide_eq_false (show ¬V.non=V.int ki from fun z=>by cases z)]
   walk_at "g"
   rw [nxt,show isKid P.es k 0=false from rfl,if_neg (by decide),append_nil]
  |succ j=>
   have hj:j < P.es.length:=by omega
   have ej':=qfi hj
   have kid:isKid P.es k (j+1)=decide (es' P.es j=ki):=by
    have qe:es' P.es j=((P.es[j]:Nat):Int):=by unfold es';rw [getElem?_eq_getElem hj];rfl
    unfold isKid
    rw [qe,decide_eq_true (show 0 < j+1 by omega),Bool.true_and,ej']
    by_cases c:P.es[j]=k
    .rw [decide_eq_true c,decide_eq_true (show ((P.es[j]:Nat):Int)=ki by omega)]
    .rw [decide_eq_false c,decide_eq_false (show ¬((P.es[j]:Nat):Int)=ki by omega)]
   refine qau (v:=.int (es' P.es j)) (SqL.of ee8) (by rw [Int.zero_add];exact qat (j:=j+1) (by rw [getElem?_cons_succ,getElem?_map];unfold es';rw [getElem?_eq_getElem hj];rfl)) ?_
   generalize es' P.es j=x at kid
   walk_at "g"
   refine i_2 (fun c=>?_) (fun c=>?_)
   .rw [nxt,kid,decide_eq_true c,if_pos rfl]
    walk_at "g"
    refine qau (SqL.of en8) xni ?_
    refine⟨_,qa1,hzz,?_⟩
    rw [qbr]
   .rw [nxt,kid,decide_eq_false c]
    walk_at "g"
    rw [if_neg (by decide),append_nil]
 rintro H' rfl
 have s8:=qa7 hna (.lst ((kidN P k).map V.str))
 have el8:upd H na (.lst ((kidN P k).map V.str)) na=some (.lst ((kidN P k).map V.str)):=qa1
 show tNil _ (upd H na (.lst ((kidN P k).map V.str))) _
 generalize upd H na (.lst ((kidN P k).map V.str))=H8 at*
 walk_at "g"
 have c60:(kidN P k).length < 64:=by
  unfold kidN
  rw [length_map]
  have:=length_filter_le (isKid P.es k) (List.range P.nm.length)
  rw [length_range] at this
  omega
 refine qfw (SqL.of el8) c60 fun l9 ss9 hl9 hp9 hs9=>?_
 exact q l9 ss9 _ (s8.trans (qa7 hl9 _)) (s8.free hl9) qa1 hp9 hs9
theorem way_at {P:PL} (f:GF P) {k:Nat} (hk:k < P.nm.length):atI ((qe6 P k).map V.str) (-1)=some (.str (nmF P k)):=by
 have h:=qec f hk
 have hn:=way_ne f hk
 generalize qe6 P k=l at h hn
 have hl:0 < l.length:=List.length_pos_iff.mpr hn
 have e:l[l.length - 1]?=some (nmF P k):=by rw [<-List.getLast?_eq_getElem?];exact h
 unfold atI
 have hx:ixN (l.map V.str).length (-1)=some (l.length - 1):=by
  unfold ixN
  rw [length_map,if_neg (by decide)]
  rw [if_pos (by omega)]
  congr 1
  omega
 rw [hx]
 show (l.map V.str)[l.length - 1]?=_
 rw [getElem?_map,e];rfl
noncomputable def benL (P:PL) (k n:Nat):List Nat:=(List.range n).filter fun j=>@decide (k∈qa9 (elN P.es) j) (Classical.propDecidable _)
def wbe (K:Frag) (d:Ad):Sp:=fun vs H Q _=>∃(P:PL) (k:Nat),vs=[.ref P.ln,.ref P.le,.int (k:Int)]/\GF P/\H P.ln=some (.lst (P.nm.map V.str))/\H P.le=some (.lst (.non :: P.es.map iV))/\k < P.nm.length/\∀(l:Addr) (ks:List Nat) H',qb0 H H'->H l=none->H' l=some (.lst ((ks.map (nmF P)).map V.str))->Ord P k ks->Q (.ref l) H'
include T in
theorem w7j:FnOk P w K mg base CX0 2 d.w6y d.w5o ["_law_names","_law_elders_here","_law_k"] (wbe K d):=by
 refine T.w6l.ok w4g (fun vs H Q E h=>?_) (fun cdv A outer s H vs Q E hr h=>?_)
 .obtain⟨P,k,rfl,_⟩:=h;rfl
 obtain⟨P,k,rfl,f,en,ee,kn,q⟩:=h
 refine⟨_,(qa3 (qah (i:=3) w4g.nd rfl (Or.inl rfl) (qc1 qa2))
  (qa3 (qbe PassesOwn.never rfl (qav rfl T.w0q (qa0 (qac qan rfl T.w1h PySem.boot_len (qa0 (pv 0) qa2)) qa2)) (qaq (i:=4) w4g.nd rfl (Or.inl rfl)) (qa3 (qah (i:=5) w4g.nd rfl (Or.inl rfl) (qag ((w88 T).mono (by decide)) hr rfl T.wb8 T.w9n.kp T.wb3 .nil qaw (qa0 (pv 1) (qa0 (pv 4) qa2))))
  (qa5 (qej (qb8 (qaj op_in_seq (pv 2) (pv 5) (by rfl)) (qa5 (qb3 (qg1 PySem.F.plainAttrs_list PySem.F.slot_list_append PySem.F.type_list_append qbk (pv 3) (qa0 (qb6 call_tupL rfl T.we3 PyProof.Rows.boot_tuple (qa0 (qc4 (caps:=[0]) (cn:=["_law_names"]) (qbd rfl rfl (by rfl) (by rfl) rfl ⟨rfl,trivial⟩ (by rfl) rfl ⟨⟨rfl,rfl,rfl,rfl,_,rfl⟩,trivial⟩ (by decide)) rfl (pi_revL rfl T.wbd (qa0 (pv 5) qa2)) (fun _ _ _ _=>qcg) (fun _ _ _ _=>(qak qab (pv 1) (pv 0) (fun _ _=>rfl)))) qa2)) qa2)))) qam)))))
  (qa5 (qai (qc4 (caps:=[]) (cn:=[]) (qbd rfl rfl (by rfl) (by rfl) rfl trivial (by rfl) rfl trivial (by decide)) rfl (qbv (qac call_sortT rfl T.w3o PyProof.Rows.boot_sorted (qa0 (pv 3) qa2))) (fun _ _ _ _=>qcg) (fun _ _ _ _=>(qak ix_tup (pv 0) (pe_un un_neg qa8) (fun _ _=>rfl)))))))),?_⟩
 walk_at "d"
 try dsimp only [cxC]
 generalize hki:((k:Nat):Int)=ki
 refine qaf (σ:=[some (.ref P.ln),some (.ref P.le),some (.int ki),none,none,none]) rfl ?_
 have n9:=f.n10
 have nl:=f.nl
 have hnl2:(P.nm.map V.str).length=P.nm.length:=length_map _
 walk_at "g"
 rename_i l0 hl0
 rw [hnl2,show (((P.nm.length:Nat):Int)).toNat=P.nm.length by omega]
 refine qbx (fun i σ H'=>∃(rows:List Rw1) (w1 w2:Option V),σ=[some (.ref P.ln),some (.ref P.le),some (.int ki),some (.ref l0),w1,w2]/\qb0 H H'/\H' l0=some (.lst (rows.map fun r=>V.ref r.1))/\rows.map (·.2)=(benL P k i).map (qe6 P)/\∀r∈rows,H' r.1=some (.tup (r.2.map V.str))) ⟨[],none,none,rfl,qa7 hl0 _,qa1,rfl,fun r h=>by simp at h⟩ ?_ ?_
 .rintro i σ H' hi ⟨rows,w1,w2,rfl,sm,eL,er,hr⟩
  have en':=sm _ _ en
  have ee':=sm _ _ ee
  rw [show (0:Int)+(i:Int)=(i:Int) by omega]
  generalize hiI:((i:Nat):Int)=iI
  walk_at "g"
  refine⟨P.le,P.es,i,by rw [hiI],ee',f.acE,by omega,by omega,fun l1 hl1=>?_⟩
  have s1:=qa7 hl1 (.lst ((qa9 (elN P.es) i).map iV))
  have el1:upd H' l1 (.lst ((qa9 (elN P.es) i).map iV)) l1=some (.lst ((qa9 (elN P.es) i).map iV)):=qa1
  have eL1:=qad (o':=.lst ((qa9 (elN P.es) i).map iV)) eL hl1
  generalize upd H' l1 (.lst ((qa9 (elN P.es) i).map iV))=H1 at*
  have nx:benL P k (i+1)=benL P k i++(if k∈qa9 (elN P.es) i then [i] else []):=by
   unfold benL
   rw [range_succ,filter_append]
   congr 1
   by_cases c:k∈qa9 (elN P.es) i
   .rw [if_pos c,filter_cons,if_pos (by simpa using c)];rfl
   .rw [if_neg c,filter_cons,if_neg (by simpa using c)];rfl
  have lrow:rows.length<=9:=by
   have h1:=congrArg List.length er
   rw [length_map,length_map] at h1
   have h2:=length_filter_le (fun j=>@decide (k∈qa9 (elN P.es) j) (Classical.propDecidable _)) (List.range i)
   rw [length_range] at h2
   have h3:(benL P k i).length<=i:=h2
   omega
  walk_at "g"
  refine r_cut0 ?_
  walk_at "g"
  rw [<-hki]
  refine r_inN (SqL.of el1) ?_
  rw [hki]
  by_cases c:k∈qa9 (elN P.es) i
  .rw [decide_eq_true c]
   have en1:=s1 _ _ en'
   have lle:=f.ac.lt hi
   have lll:=f.ac.len hi
   walk_at "g"
   refine r_iRL ?_
   walk_at "g"
   refine r_itRL (SqL.of el1) ?_
   rw [length_map]
   intro C s0 H0 fp acc hacc
   refine qg9 (qa9 (elN P.es) i).length (fun m H'=>qb0 H1 H'/\H' acc=some (.lst ((((qa9 (elN P.es) i).reverse.take m).map (nmF P)).map V.str))) ⟨qa7 hacc _,qa1⟩ (fun m H' hm ⟨sx,_⟩=>⟨hm,_,SqL.of (sx _ _ el1),length_map _⟩) (fun H' _=>Nat.le_refl _) ?_ ?_
   .rintro m H' v H'' hm ⟨sx,ea⟩ ⟨rfl,hv⟩
    have hv:=hv _ (SqL.of (sx _ _ el1))
    rw [<-List.map_reverse,getElem?_map] at hv
    obtain⟨j,hj,rfl⟩:=Option.map_eq_some_iff.mp hv
    have jn:=lle j (List.mem_reverse.mp (mem_of_getElem? hj))
    have tk:(qa9 (elN P.es) i).reverse.take (m+1)=(qa9 (elN P.es) i).reverse.take m++ [j]:=by rw [take_add_one,hj];rfl
    have en7:=sx _ _ en1
    have zl:((((qa9 (elN P.es) i).reverse.take m).map (nmF P)).map V.str).length < sizeLine:=by
     rw [length_map,length_map,length_take]
     show _ < 16777216
     omega
    have xj:atI (P.nm.map V.str) (j:Int)=some (.str (nmF P j)):=by rw [qcb jn];exact qat (by rw [getElem?_map,getElem?_eq_getElem jn];rfl)
    clear hv
    rw [show iV j=V.int (j:Int) from rfl]
    generalize ((j:Nat):Int)=jI at*
    walk_at "g"
    refine qau (SqL.of en7) xj ?_
    walk_at "g"
    refine⟨qax sx hacc,?_⟩
    rw [qa1,tk,map_append,map_append];rfl
   rintro H3 ⟨s3,eacc⟩
   rw [List.take_of_length_le (by rw [List.length_reverse];exact Nat.le_refl _)] at eacc
   have eL3:=s3 _ _ eL1
   walk_at "g"
   refine⟨acc,_,rfl,SqL.of eacc,fun tp htp=>?_⟩
   have s4:=qa7 htp (.tup (((qa9 (elN P.es) i).reverse.map (nmF P)).map V.str))
   have etp:upd H3 tp (.tup (((qa9 (elN P.es) i).reverse.map (nmF P)).map V.str)) tp=some (.tup ((qe6 P i).map V.str)):=qa1
   have eL4:=s4 _ _ eL3
   generalize upd H3 tp (.tup (((qa9 (elN P.es) i).reverse.map (nmF P)).map V.str))=H4 at*
   have s14:=(s1.trans s3).trans s4
   have ntp:tp≠l0:=fun e=>by subst e;rw [eL3] at htp;cases htp
   have zz:(rows.map fun r=>V.ref r.1).length < sizeLine:=by rw [length_map];show _ < 16777216;omega
   walk_at "g"
   refine⟨rows++ [(tp,qe6 P i)],_,_,rfl,qax (sm.trans s14) hl0,by rw [qa1,map_append];rfl,by rw [nx,if_pos c,map_append,map_append,er];rfl,fun r m=>?_⟩
   rcases mem_append.mp m with h|h
   .have n1:r.1≠l0:=fun e=>by have:=hr r h;rw [e,eL] at this;cases this
    rw [qa6 n1]
    exact s14 _ _ (hr r h)
   .have:r=(tp,qe6 P i):=by simpa using h
    subst this
    rw [qa6 ntp]
    exact etp
  .rw [decide_eq_false c]
   walk_at "g"
   refine⟨rows,_,_,rfl,sm.trans s1,eL1,by rw [nx,if_neg c,append_nil];exact er,fun r m=>s1 _ _ (hr r m)⟩
 .rintro σ H' ⟨rows,w1,w2,rfl,sm,eL,er,hr⟩
  have lrow:rows.length<=9:=by
   have h1:=congrArg List.length er
   rw [length_map,length_map] at h1
   have h2:=length_filter_le (fun j=>@decide (k∈qa9 (elN P.es) j) (Classical.propDecidable _)) (List.range P.nm.length)
   rw [length_range] at h2
   have h3:(benL P k P.nm.length).length<=P.nm.length:=h2
   omega
  have bmem:∀j,j∈benL P k P.nm.length↔j < P.nm.length/\k∈qa9 (elN P.es) j:=fun j=>by
   unfold benL
   rw [mem_filter,mem_range]
   simp
  have bnd:(benL P k P.nm.length).Nodup:=List.nodup_range.filter _
  have rne:∀r∈rows,r.2≠ []:=fun r m=>by
   have:r.2∈(benL P k P.nm.length).map (qe6 P):=by rw [<-er];exact mem_map.mpr ⟨r,m,rfl⟩
   obtain⟨j,hj,e⟩:=mem_map.mp this
   rw [<-e]
   exact way_ne f ((bmem j).mp hj).1
  have rnd:(rows.map (·.2)).Nodup:=by
   rw [er]
   refine pairwise_map.mpr (List.Pairwise.imp_of_mem (fun {a b} ha hb ne e=>ne ?_) bnd)
   exact wayN_inj f ((bmem a).mp ha).1 ((bmem b).mp hb).1 e
  walk_at "g"
  refine r_sortT (SqL.of eL) (fun r m=>⟨hr r m,rne r m⟩) rnd (by omega) fun l2 rows' hl2 hso=>?_
  obtain⟨ks,ek,ok⟩:∃ks:List Nat,rows'.map (·.2)=ks.map (qe6 P)/\Ord P k ks:=by
   have pm:(rows'.map (·.2)).Perm ((benL P k P.nm.length).map (qe6 P)):=by rw [<-er];exact hso.1.map _
   have ex:∀l:List (List Str),(∀x∈l,x∈(benL P k P.nm.length).map (qe6 P))->∃ks:List Nat,l=ks.map (qe6 P)/\∀j∈ks,j∈benL P k P.nm.length:=by
    intro l
    induction l with
    |nil=>intro _;exact⟨[],rfl,fun j h=>by simp at h⟩
    |cons x l ih=>
     intro h
     obtain⟨ks,e1,e2⟩:=ih fun y hy=>h y (mem_cons_of_mem _ hy)
     obtain⟨j,hj,e⟩:=mem_map.mp (h x (mem_cons_self ..))
     refine⟨j :: ks,by rw [map_cons,e,<-e1],fun i hi=>?_⟩
     rcases mem_cons.mp hi with rfl|hi
     .exact hj
     .exact e2 i hi
   obtain⟨ks,e1,e2⟩:=ex _ fun x hx=>pm.mem_iff.mp hx
   refine⟨ks,e1,⟨fun j=>⟨fun h=>(bmem j).mp (e2 j h),fun h=>?_⟩,by rw [<-e1];exact pairwise_map.mpr hso.2⟩⟩
   have:qe6 P j∈rows'.map (·.2):=pm.mem_iff.mpr (mem_map.mpr ⟨j,(bmem j).mpr h,rfl⟩)
   rw [e1] at this
   obtain⟨i,hi,e⟩:=mem_map.mp this
   rw [<-wayN_inj f ((bmem i).mp (e2 i hi)).1 h.1 e]
   exact hi
  have lks:ks.length=rows'.length:=by have:=congrArg List.length ek;rw [length_map,length_map] at this;exact this.symm
  have lr':=hso.1.length_eq
  have s2:=qa7 hl2 (.lst (rows'.map fun r=>V.ref r.1))
  have el2:upd H' l2 (.lst (rows'.map fun r=>V.ref r.1)) l2=some (.lst (rows'.map fun r=>V.ref r.1)):=qa1
  generalize upd H' l2 (.lst (rows'.map fun r=>V.ref r.1))=H2 at*
  have hr2:∀(i:Nat) (r:Rw1),rows'[i]?=some r->∃j,ks[i]?=some j/\j < P.nm.length/\H2 r.1=some (.tup ((qe6 P j).map V.str)):=fun i r hi=>by
   have h1:(rows'.map (·.2))[i]?=some r.2:=by rw [getElem?_map,hi];rfl
   rw [ek,getElem?_map] at h1
   obtain⟨j,hj,e⟩:=Option.map_eq_some_iff.mp h1
   refine⟨j,hj,((ok.mem j).mp (mem_of_getElem? hj)).1,?_⟩
   rw [e]
   exact s2 _ _ (hr r (hso.1.mem_iff.mp (mem_of_getElem? hi)))
  walk_at "g"
  intro C s0 H0 fp acc hacc
  refine qg9 rows'.length (fun m H'=>qb0 H2 H'/\H' acc=some (.lst (((ks.take m).map (nmF P)).map V.str))) ⟨qa7 hacc _,qa1⟩ ?_ ?_ ?_ ?_
  .rintro m H' hm ⟨sx,_⟩
   exact⟨_,.ref rows'[m].1,SqL.of (sx _ _ el2),by rw [getElem?_map,getElem?_eq_getElem hm];rfl⟩
  .rintro H' ⟨sx,_⟩
   exact⟨_,SqL.of (sx _ _ el2),by rw [length_map];exact Nat.le_refl _⟩
  .rintro m H' v H'' hm ⟨sx,ea⟩ ⟨rfl,hv⟩
   have hv:=hv _ (SqL.of (sx _ _ el2))
   rw [getElem?_map] at hv
   obtain⟨r,hr',rfl⟩:=Option.map_eq_some_iff.mp hv
   obtain⟨j,hj,jn,hjt⟩:=hr2 m r hr'
   have ejt:=sx _ _ hjt
   have tk:ks.take (m+1)=ks.take m++ [j]:=by rw [take_add_one,hj];rfl
   have zl:(((ks.take m).map (nmF P)).map V.str).length < sizeLine:=by
    rw [length_map,length_map,length_take]
    show _ < 16777216
    omega
   clear hv
   walk_at "g"
   refine r_ixT (SqT.of ejt) (way_at f jn) ?_
   walk_at "g"
   refine⟨qax sx hacc,?_⟩
   rw [qa1,tk,map_append,map_append];rfl
  rintro H3 ⟨s3,eacc⟩
  rw [List.take_of_length_le (by omega)] at eacc
  exact q acc ks H3 ((sm.trans s2).trans s3) ((sm.trans s2).free hacc) eacc ok
theorem qez {P:PL} {k:Nat} (hk:k < P.nm.length):atI (P.nm.map V.str) (k:Int)=some (.str (nmF P k)):=by
 rw [qcb hk];exact qat (by rw [getElem?_map,getElem?_eq_getElem hk];rfl)
def wcg (K:Frag) (d:Ad):Sp:=fun vs H Q _=>∃(t p:Addr) (S:Ts) (P:PL) (k:Nat),vs=[.ref t,.ref p,.int (k:Int)]/\GF P/\PlAt H p P/\qcr d H t S/\GT S P/\k < P.nm.length/\∀H',qb0 H H'->Q (.bl true) H'
include T in
theorem w76:FnOk P w K mg base CX0 20 d.w8d d.w6x ["_law_tree","_law_plan_here","_law_k"] (wcg K d):=by
 refine T.w6j.ok w4a (fun vs H Q E h=>?_) (fun cdv A outer s H vs Q E hr h=>?_)
 .obtain⟨t,p,S,P,k,rfl,_⟩:=h;rfl
 obtain⟨t,p,S,P,k,rfl,f,pa,hT,g,kn,q⟩:=h
 refine⟨_,(qa3 (qah (i:=3) w4a.nd rfl (Or.inl rfl) (qag ((wab T).mono (by decide)) hr rfl T.wc1 T.wb9.kp T.wc4 .nil qaw (qa0 (qak qab (qag ((wa8 T).mono (by decide)) hr rfl T.wcj T.wb2.kp T.wbv .nil qaw (qa0 (qak qab (pv 1) qa8 (fun _ _=>rfl)) (qa0 (qak qab (pv 1) qa8 (fun _ _=>rfl)) qa2))) (pv 2) (fun _ _=>rfl)) qa2)))
  (qa3 (qbe PassesOwn.never rfl (qav rfl T.w0q (qa0 qa8 qa2)) (qaq (i:=4) w4a.nd rfl (Or.inl rfl)) (qa3 (qah (i:=5) w4a.nd rfl (Or.inl rfl) (qae (W:=fun _ _ _ _=>False) (pv 0) T.w00 T.w07 ((w16 T).mono (by decide)) hr T.w14 .nil qbl (qa0 (qak qab (qak qab (pv 1) qa8 (fun _ _=>rfl)) (pv 2) (fun _ _=>rfl)) qa2)))
  (qa3 (qah (i:=6) w4a.nd rfl (Or.inl rfl) (qae (W:=fun _ _ _ _=>False) (pv 0) T.w00 T.w02 ((w0a T).mono (by decide)) hr T.w0b .nil qbl (qa0 (qak qab (qak qab (pv 1) qa8 (fun _ _=>rfl)) (pv 2) (fun _ _=>rfl)) qa2)))
  (qa3 (qb8 (PW.pt (qe8 (qaj (qf6 (hu8 hr)) (pv 5) (qag ((w7j T).mono (by decide)) hr rfl T.w9j T.w6l.kp T.w95 .nil qaw (qa0 (qak qab (pv 1) qa8 (fun _ _=>rfl)) (qa0 (qak qab (pv 1) qa8 (fun _ _=>rfl)) (qa0 (pv 2) qa2)))) (qar _)) (qd3 (qc9 (qbz (qag ((w6k T).mono (by decide)) hr rfl T.w82 T.w6o.kp T.w8b .nil qaw (qa0 (pv 6) (qa0 (pv 3) qa2)))))))) (qa5 (qai qd4)) qam)
  (qa3 (qb3 (qg1 PySem.F.plainAttrs_list PySem.F.slot_list_append PySem.F.type_list_append qbk (pv 5) (qa0 qc0 qa2)))
  (qa5 (qcv (qcc hr) (pv 6) (qak qab (qak qab (pv 1) qa8 (fun _ _=>rfl)) qa8 (fun _ _=>rfl)) qa8 rfl)))))))
  (qa5 (qai (qdm (op_eqD (hu8 hr)) (qae (W:=fun _ _ _ _=>False) (pv 0) T.w00 T.w19 ((w3s T).mono (by decide)) hr T.w4p .nil qbl (qa0 (qak qab (qak qab (pv 1) qa8 (fun _ _=>rfl)) (pv 2) (fun _ _=>rfl)) qa2)) (qag ((wce T).mono (by decide)) hr rfl T.wdf T.wbs.kp T.wdh .nil qaw (qa0 (pv 1) (qa0 (pv 2) qa2))) (qar _)))))),?_⟩
 walk_at "d"
 have xn:=qez kn
 generalize hki:((k:Nat):Int)=ki at xn
 refine qaf (σ:=[some (.ref t),some (.ref p),some (.int ki),none,none,none,none]) rfl ?_
 have ct:=T.w00
 have n9:=f.n10
 have w3:=f.w3
 have w1:=f.w1
 have nl:=f.nl
 have etop:=pa.top
 obtain⟨ow,w5,wl,nlen⟩:=g.hs f
 obtain⟨e,ae,_⟩:=g.pl.at kn
 have een:=(qb9 ae).2
 have whoN:who S (.str (nmF P k))≠none:=fun h=>by rw [show who S (.str (nmF P k))=some e from ae] at h;cases h
 walk_at "g"
 refine⟨P.le,P.lp,P.es,P.tp,P.ws,rfl,pa.e,SqL.of pa.pr,by rw [f.pl];omega,by rw [f.pl];omega,by omega,by rw [f.pl];exact f.ac,fun x m=>⟨pa.pd x m,(f.pa x m).1,fun y hy=>?_⟩,fun ls qs H1 s1 hls els hql hqf hG=>?_⟩
 .cases e:x.f y with
  |none=>exact absurd e hy
  |some n=>exact((f.pa x m).2 y n e).1
 rw [f.pl] at hql
 obtain⟨qa,kq,fq,xq,hq1,hq2,hq3,hq4⟩:∃(qa:Addr) (kq:List (Key × V)) (fq:Str->Option Int),atI (qs.map V.ref) ki=some (.ref qa)/\H1 qa=some (.dK kq)/\AD kq fq/\(∀v,fq v≠none->v∈P.ws)/\∀v,gN fq v=sumP P k v:=by
  have jq:k < qs.length:=by omega
  obtain⟨kq,fq,hq1,hq2,hq3,hq4⟩:=hG k qs[k] (getElem?_eq_getElem jq)
  exact⟨qs[k],kq,fq,by rw [<-hki];exact qat (by rw [getElem?_map,getElem?_eq_getElem jq];rfl),hq1,hq2,hq3,fun v=>by rw [hq4 v];exact f.sumE k v⟩
 clear hG hqf hql etop
 walk_at "g"
 refine qau (SqL.of els) xq ?_
 walk_at "g"
 have lkq:=hq2.le hq3
 refine⟨qa,kq,fq,rfl,hq1,hq2,by omega,fun l3 k3 H3 s3 hl3 el3 hA3=>?_⟩
 have s03:=s1.trans s3
 clear els hq1 xq
 walk_at "g"
 refine qbx (fun i σ H'=>∃(w1 w2 w3:Option V),σ=[some (.ref t),some (.ref p),some (.int ki),some (.ref l3),w1,w2,w3]/\qb0 H3 H') ⟨none,none,none,rfl,qb0.refl _⟩ ?_ ?_
 .rintro i σ H4 hi ⟨w1',w2',w3',rfl,s4⟩
  have s04:=s03.trans s4
  have pa4:=pa.same s04
  have hT4:=hT.same s04
  have el34:=s4 _ _ el3
  have et4:=pa4.top
  have en4:=pa4.n
  obtain⟨dx,ht4⟩:=id hT4.1
  walk_at "g"
  refine qau (SqL.of en4) xn ?_
  walk_at "g"
  refine⟨t,S,.str (nmF P k),rfl,hT4,qdi g.pl.wf hT4.2.2.2.2.1,.inl ⟨_,rfl⟩,fun e1 he1=>?_,fun hn=>absurd hn whoN⟩
  have ee:e=e1:=Option.some.inj (ae.symm.trans he1)
  subst ee
  rw [een]
  refine⟨g.pl.dep 12 k kn (by omega),fun lb bs H5 s5 hlb elb hB=>?_⟩
  have et5:=s5 _ _ et4
  have en5:=s5 _ _ en4
  have ht5:=s5 _ _ ht4
  clear et4 en4 ht4
  walk_at "g"
  refine qau (SqL.of en5) xn ?_
  walk_at "g"
  refine⟨t,S,.str (nmF P k),rfl,hT4.same s5,g.pl.wf,ow,.inl ⟨_,rfl⟩,fun e1 he1=>?_,fun hn=>absurd hn whoN⟩
  have ee:e=e1:=Option.some.inj (ae.symm.trans he1)
  subst ee
  rw [een]
  refine⟨g.pl.dep 12 k kn (by omega),fun lp bs2 kp H6 s6 hlp elp hB2 hAp=>?_⟩
  have etold:=g.told f kn hB2 hq4
  rw [etold] at hAp
  obtain⟨ks,ebs,ok⟩:=g.ord f 12 k bs kn hB
  have s46:=s5.trans s6
  have pa6:=pa4.same s46
  have et6:=pa6.top
  have en6:=pa6.n
  have ee6:=pa6.e
  have elb6:=s6 _ _ elb
  clear et5 en5 ht5 elb
  walk_at "g"
  refine⟨P,k,by rw [hki],f,en6,ee6,kn,fun l7 ks7 H7 s7 hl7 el7 ok7=>?_⟩
  have ek:=ok7.uniq f ok
  subst ek
  rw [ebs] at elb6
  have ne7:lb≠l7:=qa4 elb6 hl7
  refine r_neD (n:=1) ne7 (by decide) (qc8 (n:=0) (SqL.of (s7 _ _ elb6)) (SqL.of el7) ne7) ?_
  rw [decide_eq_true rfl]
  walk_at "g"
  have elp7:=s7 _ _ elp
  have el37:=(s46.trans s7) _ _ el34
  have ne3:lp≠l3:=fun e=>by
   subst e
   rw [s5 _ _ el34] at hlp
   cases hlp
  have lkp:kp.length<=1000:=by
   have:=hAp.le (fun v hv=>hq3 v fun e=>by unfold qbb at hv;rw [e] at hv;exact hv rfl)
   omega
  refine⟨lp,l3,kp,k3,qbb fq,rfl,elp7,el37,ne3,hAp,hA3,lkp,fun H8 s8=>?_⟩
  have s48:=(s46.trans s7).trans s8
  have pa8:=pa4.same s48
  have et8:=pa8.top
  have ew8:=pa8.w
  have elb8:=(s7.trans s8) _ _ elb6
  have elp8:=s8 _ _ elp7
  have hlb4:H4 lb=none:=hlb
  have hlp4:H4 lp=none:=s5.free hlp
  have zb:((ks7.map (nmF P)).map V.str).length < sizeLine:=by
   have h1:=qf9 ok7.nd fun j hj=>((ok7.mem j).mp hj).1
   rw [length_map,length_map]
   show _ < 16777216
   omega
  have zp:kp.length < sizeLine:=by show _ < 16777216;omega
  have xw:atI (P.ws.map V.str) 0=some (.str P.ws[0]):=qat (j:=0) (by rw [getElem?_map,getElem?_eq_getElem (by omega)];rfl)
  have nbp:lb≠p:=fun e=>by subst e;rw [pa4.top] at hlb;cases hlb
  have nbw:lb≠P.lw:=fun e=>by subst e;rw [pa4.w] at hlb;cases hlb
  have nbl:lp≠lb:=fun e=>by subst e;rw [elp8] at elb8;cases elb8
  clear et6 en6 ee6 elb6 elp elp7 el37
  walk_at "g"
  have et9:upd H8 lb (.lst ((ks7.map (nmF P)).map V.str++ [V.str (Str.ofString "c")])) p=some (.lst [V.ref P.lw,V.ref P.ln,V.ref P.le,V.ref P.lp,V.ref P.lc]):=by rw [qa6 nbp.symm];exact et8
  have ew9:upd H8 lb (.lst ((ks7.map (nmF P)).map V.str++ [V.str (Str.ofString "c")])) P.lw=some (.lst (P.ws.map V.str)):=by rw [qa6 nbw.symm];exact ew8
  have ep9:upd H8 lb (.lst ((ks7.map (nmF P)).map V.str++ [V.str (Str.ofString "c")])) lp=some (.dK kp):=by rw [qa6 nbl];exact elp8
  have s49:qb0 H4 (upd H8 lb (.lst ((ks7.map (nmF P)).map V.str++ [V.str (Str.ofString "c")]))):=qax s48 hlb4
  generalize upd H8 lb (.lst ((ks7.map (nmF P)).map V.str++ [V.str (Str.ofString "c")]))=H9 at*
  clear et8 ew8
  walk_at "g"
  refine qau (SqL.of ew9) xw ?_
  walk_at "g"
  exact⟨_,_,_,rfl,s4.trans (qax s49 hlp4)⟩
 .rintro σ H4 ⟨w1',w2',w3',rfl,s4⟩
  have s04:=s03.trans s4
  have pa4:=pa.same s04
  have hT4:=hT.same s04
  have et4:=pa4.top
  have en4:=pa4.n
  obtain⟨dx,ht4⟩:=id hT4.1
  walk_at "g"
  refine qau (SqL.of en4) xn ?_
  walk_at "g"
  refine⟨t,S,.str (nmF P k),rfl,hT4,.inl ⟨_,rfl⟩,fun e1 he1 l5 ss5 H5 s5 hl5 el5 hp5 hs5=>?_,fun hn=>absurd hn whoN⟩
  have ee:e=e1:=Option.some.inj (ae.symm.trans he1)
  subst ee
  rw [een,g.kids kn] at hp5
  have pa5:=pa4.same s5
  walk_at "g"
  refine⟨p,P,k,by rw [hki],f,pa5,kn,fun l6 ss6 H6 s6 hl6 el6 hp6 hs6=>?_⟩
  have ess:ss5=ss6:=sort_eq (hp5.trans hp6.symm) hs5 hs6
  have ne6:l5≠l6:=qa4 el5 hl6
  refine r_eqD (n:=1) ne6 (by decide) (qc8 (n:=0) (SqL.of (s6 _ _ el5)) (SqL.of el6) ne6) ?_
  rw [decide_eq_true ess]
  exact q _ ((s04.trans s5).trans s6)
noncomputable def qfb (P:PL) (k n:Nat):List Nat:=(List.range n).filter fun j=>!decide (k∈qa9 (elN P.es) j) && !decide (elN P.es k=j)
def wcu (K:Frag) (d:Ad):Sp:=fun vs H Q _=>∃(t p:Addr) (S:Ts) (P:PL) (c:Int) (wt:Nat->Int),vs=[.ref t,.ref p,.int c]/\GF P/\2<=P.nm.length/\PlAt H p P/\qcr d H t S/\GT S P/\WtAt S wt/\Dst p P.lw P.ln P.le P.lp P.lc/\Sep S P/\
 (∀H',qb0 H H'->Q (.bl true) H')/\
 ∀(S':Ts) (k a:Nat) H',S'.sw=S.sw->GF (mvP P k a)->PlAt H' p (mvP P k a)->qcr d H' t S'->GT S' (mvP P k a)->WtAt S' wt->Keep S P S' (mvP P k a) H H'->Q (.bl true) H'
include T in
theorem wcs:FnOk P w K mg base CX0 22 d.wam d.w8g ["_law_tree","_law_plan_here","_law_cell"] (wcu K d):=by
 refine T.wck.ok w3p (fun vs H Q E h=>?_) (fun cdv A outer s H vs Q E hr h=>?_)
 .obtain⟨t,p,S,P,c,wt,rfl,_⟩:=h;rfl
 obtain⟨t,p,S,P,c,wt,rfl,f,n2,pa,hT,g,hwt,dst,sep,q0,q⟩:=h
 refine⟨_,(qa3 (qah (i:=3) w3p.nd rfl (Or.inr rfl) (qak qab (pv 1) qa8 (fun _ _=>rfl)))
  (qa3 (qah (i:=4) w3p.nd rfl (Or.inr rfl) (qak qab (pv 1) qa8 (fun _ _=>rfl)))
  (qa3 (qah (i:=5) w3p.nd rfl (Or.inr rfl) (qal qbi qa8 (qal qbm (pv 2) (qal op_sub (qac qan rfl T.w1h PySem.boot_len (qa0 (pv 3) qa2)) qa8))))
  (qa3 (qdz (j:=6) (caps:=[4,5]) (cn:=["_law_elders_here","_law_k"]) (qbd rfl rfl (by rfl) (by rfl) rfl ⟨rfl,⟨rfl,trivial⟩⟩ (by rfl) rfl ⟨⟨rfl,rfl,rfl,rfl,_,rfl⟩,⟨⟨rfl,rfl,rfl,rfl,_,rfl⟩,trivial⟩⟩ (by decide)) rfl w3p.nd rfl rfl (qav rfl T.w0q (qa0 (qac qan rfl T.w1h PySem.boot_len (qa0 (pv 3) qa2)) qa2)) (fun _ _ _ _=>(pf_one (PW.pt (pw_and (qaj qd5 (pv 2) (qag ((w88 T).mono (by decide)) hr rfl T.wb8 T.w9n.kp T.wb3 .nil qaw (qa0 (pv 1) (qa0 (pv 0) qa2))) (by rfl)) (qfx (qaj op_ne (qak qab (pv 1) (pv 2) (fun _ _=>rfl)) (pv 0) (qar _))))))) (fun _ _ _ _=>(pv 0)))
  (qa3 (qb8 (qaj (op_eqD (hu8 hr)) (pv 6) (qc1 qa2) (qar _)) (qa5 (qai qd4)) qam)
  (qa3 (qah (i:=7) w3p.nd rfl (Or.inl rfl) (qak qab (pv 6) (qal qbm (qal qbh (pv 2) qa8) (qac qan rfl T.w1h PySem.boot_len (qa0 (pv 6) qa2))) (fun _ _=>rfl)))
  (qa3 (qah (i:=8) w3p.nd rfl (Or.inl rfl) (qak qab (pv 4) (pv 5) (fun _ _=>rfl)))
  (qa3 (qb8 (PW.pt (qe8 (qaj qcx (qae (W:=fun _ _ _ _=>False) (pv 0) T.w00 T.w0f ((w2r T).mono (by decide)) hr T.w34 .nil qbl (qa0 (qak qab (pv 3) (pv 5) (fun _ _=>rfl)) (qa0 (qak qab (pv 3) (pv 7) (fun _ _=>rfl)) qa2))) qdg (qar _)) (qd3 (qaj op_ne (qae (W:=fun _ _ _ _=>False) (pv 0) T.w00 T.w05 ((w0h T).mono (by decide)) hr T.w0m .nil qbl (qa0 (qak qab (pv 3) (pv 5) (fun _ _=>rfl)) qa2)) (qak qab (pv 3) (pv 8) (fun _ _=>rfl)) (qar _))))) (qa5 (qai qd4)) qam)
  (qa3 (qb8 (qaj qcx (qae (W:=fun _ _ _ _=>False) (pv 0) T.w00 T.w25 ((w8u T).mono (by decide)) hr T.wa3 .nil qbl (qa0 (qak qab (pv 3) (pv 5) (fun _ _=>rfl)) (qa0 (qak qab (pv 3) (pv 7) (fun _ _=>rfl)) qa2))) qdg (qar _)) (qa5 (qai qd4)) qam)
  (qa3 (ps_lput (pv 4) (pv 5) (pv 7) rfl)
  (qa3 (qb8 (qaj op_ne (qae (W:=fun _ _ _ _=>False) (pv 0) T.w00 T.w05 ((w0h T).mono (by decide)) hr T.w0m .nil qbl (qa0 (qak qab (pv 3) (pv 5) (fun _ _=>rfl)) qa2)) (qak qab (pv 3) (pv 7) (fun _ _=>rfl)) (qar _)) (qa5 (qai qd4)) qam)
  (qa3 (qb8 (qaj (qf6 (hu8 hr)) (qae (W:=fun _ _ _ _=>False) (pv 0) T.w00 T.w0e ((w0x T).mono (by decide)) hr T.w18 .nil qbl (qa0 (qak qab (pv 3) (pv 5) (fun _ _=>rfl)) qa2)) (qc4 (caps:=[3]) (cn:=["_law_names"]) (qbd rfl rfl (by rfl) (by rfl) rfl ⟨rfl,trivial⟩ (by rfl) rfl ⟨⟨rfl,rfl,rfl,rfl,_,rfl⟩,trivial⟩ (by decide)) rfl (qbv (qag ((w88 T).mono (by decide)) hr rfl T.wb8 T.w9n.kp T.wb3 .nil qaw (qa0 (pv 4) (qa0 (pv 5) qa2)))) (fun _ _ _ _=>qcg) (fun _ _ _ _=>(qak qab (pv 1) (pv 0) (fun _ _=>rfl)))) (qar _)) (qa5 (qai qd4)) qam)
  (qa5 (qai (qe5 (qag ((w76 T).mono (by decide)) hr rfl T.w84 T.w6j.kp T.w8s .nil qaw (qa0 (pv 0) (qa0 (pv 1) (qa0 (pv 8) qa2)))) (qe4 (qag ((w76 T).mono (by decide)) hr rfl T.w84 T.w6j.kp T.w8s .nil qaw (qa0 (pv 0) (qa0 (pv 1) (qa0 (pv 7) qa2)))))))))))))))))))),?_⟩
 walk_at "d"
 try dsimp only [cxC]
 refine qaf (σ:=[some (.ref t),some (.ref p),some (.int c),none,none,none,none,none,none]) rfl ?_
 have ct:=T.w00
 have n9:=f.n10
 have nl:=f.nl
 have etop:=pa.top
 have en:=pa.n
 have hnl2:(P.nm.map V.str).length=P.nm.length:=length_map _
 walk_at "g"
 rw [hnl2]
 have m0:=Int.emod_nonneg c (show (P.nm.length:Int) - 1≠0 by omega)
 have m1:=Int.emod_lt_of_pos c (show (0:Int) <(P.nm.length:Int) - 1 by omega)
 generalize c%((P.nm.length:Int) - 1)=m at*
 obtain⟨k,ek⟩:∃k:Nat,1+m=(k:Int):=⟨(1+m).toNat,by omega⟩
 have k0:0 < k:=by omega
 have kn:k < P.nm.length:=by omega
 rw [ek]
 clear m0 m1 ek etop
 have xk:=qez kn
 have eln:elN P.es k < P.nm.length:=f.ac.elt k0 kn
 have xe:atI (V.non :: P.es.map iV) ((k:Nat):Int)=some (V.int ((elN P.es k:Nat):Int)):=by
  obtain⟨b,rfl⟩:∃b,k=b+1:=⟨k - 1,by omega⟩
  have hb:b < P.es.length:=by omega
  rw [qfi hb]
  exact qat (by rw [getElem?_cons_succ,getElem?_map,getElem?_eq_getElem hb];rfl)
 have xo:=qez eln
 generalize hkI:((k:Nat):Int)=kI at*
 generalize hoI:((elN P.es k:Nat):Int)=oI at*
 walk_at "g"
 rw [show (((P.nm.length:Nat):Int)).toNat=P.nm.length by omega]
 intro C s0 H0 fp acc hacc
 refine qg9 P.nm.length (fun i H'=>qb0 H H'/\H' acc=some (.lst ((qfb P k i).map iV))) ⟨qa7 hacc _,qa1⟩ (fun i H' hi _=>hi) (fun H' _=>Nat.le_refl _) ?_ ?_
 .rintro i H' v H'' hi ⟨sm,ea⟩ ⟨rfl,rfl⟩
  have pa':=pa.same sm
  have ee':=pa'.e
  have nx:qfb P k (i+1)=qfb P k i++(if !decide (k∈qa9 (elN P.es) i) && !decide (elN P.es k=i) then [i] else []):=by
   unfold qfb
   rw [range_succ,filter_append]
   congr 1
   rw [filter_cons,List.filter_nil]
  have zl:((qfb P k i).map iV).length < sizeLine:=by
   rw [length_map]
   have h1:=length_filter_le (fun j=>!decide (k∈qa9 (elN P.es) j) && !decide (elN P.es k=j)) (List.range i)
   rw [length_range] at h1
   have h2:(qfb P k i).length<=i:=h1
   show _ < 16777216
   omega
  rw [show (0:Int)+(i:Int)=(i:Int) by omega]
  generalize hiI:((i:Nat):Int)=iI
  walk_at "g"
  refine⟨P.le,P.es,i,by rw [hiI],ee',f.acE,by omega,by omega,fun l1 hl1=>?_⟩
  have s1:=qa7 hl1 (.lst ((qa9 (elN P.es) i).map iV))
  have el1:upd H'' l1 (.lst ((qa9 (elN P.es) i).map iV)) l1=some (.lst ((qa9 (elN P.es) i).map iV)):=qa1
  have ea1:=qad (o':=.lst ((qa9 (elN P.es) i).map iV)) ea hl1
  have ee1:=qad (o':=.lst ((qa9 (elN P.es) i).map iV)) ee' hl1
  generalize upd H'' l1 (.lst ((qa9 (elN P.es) i).map iV))=H1 at*
  rw [<-hkI]
  refine r_notInN (SqL.of el1) ?_
  rw [hkI]
  by_cases c1:k∈qa9 (elN P.es) i
  .rw [decide_eq_true c1]
   walk_at "g"
   refine⟨sm.trans s1,?_⟩
   rw [ea1,nx,decide_eq_true c1]
   simp
  .rw [decide_eq_false c1]
   walk_at "g"
   refine qau (SqL.of ee1) xe ?_
   walk_at "g"
   by_cases c2:elN P.es k=i
   .rw [if_neg (by rw [decide_eq_true (show oI=iI by omega)];decide)]
    refine⟨sm.trans s1,?_⟩
    rw [ea1,nx,decide_eq_true c2]
    simp
   .rw [if_pos (by rw [decide_eq_false (show ¬oI=iI by omega)];rfl)]
    walk_at "g"
    refine⟨qax (sm.trans s1) hacc,?_⟩
    rw [qa1,nx,decide_eq_false c1,decide_eq_false c2,<-hiI,map_append];rfl
 rintro H1 ⟨s1,eacc⟩
 have mmem:∀j,j∈qfb P k P.nm.length↔j < P.nm.length/\k∉qa9 (elN P.es) j/\elN P.es k≠j:=fun j=>by
  unfold qfb
  rw [mem_filter,mem_range]
  simp
 have zm:(qfb P k P.nm.length).length<=9:=by
  have h1:=length_filter_le (fun j=>!decide (k∈qa9 (elN P.es) j) && !decide (elN P.es k=j)) (List.range P.nm.length)
  rw [length_range] at h1
  have h2:(qfb P k P.nm.length).length<=P.nm.length:=h1
  omega
 walk_at "g"
 rename_i l2 hl2
 have ne2:acc≠l2:=qa4 eacc hl2
 refine r_eqD (n:=1) ne2 (by decide) (deq_nilL (n:=0) (SqL.of (qad eacc hl2)) (SqL.of qa1) ne2) ?_
 have s2:=s1.trans (qa7 hl2 (.lst []))
 have eacc2:=qad (o':=.lst []) eacc hl2
 generalize upd H1 l2 (.lst [])=H2 at*
 by_cases cm:(qfb P k P.nm.length).map iV=[]
 .rw [decide_eq_true cm]
  walk_at "g"
  exact q0 _ s2
 rw [decide_eq_false cm]
 have lm:0 <(qfb P k P.nm.length).length:=by
  refine List.length_pos_iff.mpr fun e=>cm ?_
  rw [e];rfl
 have hml:((qfb P k P.nm.length).map iV).length=(qfb P k P.nm.length).length:=length_map _
 have pa2:=pa.same s2
 have ee2:=pa2.e
 clear eacc hl2 ne2
 walk_at "g"
 rw [hml]
 have m2:=Int.emod_nonneg (c.fdiv 16) (show ((qfb P k P.nm.length).length:Int)≠0 by omega)
 have m3:=Int.emod_lt_of_pos (c.fdiv 16) (show (0:Int) <((qfb P k P.nm.length).length:Int) by omega)
 generalize c.fdiv 16%((qfb P k P.nm.length).length:Int)=m' at*
 obtain⟨b,rfl⟩:∃b:Nat,m'=(b:Int):=⟨m'.toNat,by omega⟩
 have bn:b <(qfb P k P.nm.length).length:=by omega
 obtain⟨a,ha⟩:∃a,(qfb P k P.nm.length)[b]?=some a:=⟨_,getElem?_eq_getElem bn⟩
 obtain⟨an,c1,c2⟩:=(mmem a).mp (mem_of_getElem? ha)
 have xb:atI ((qfb P k P.nm.length).map iV) ((b:Nat):Int)=some (V.int ((a:Nat):Int)):=qat (by rw [getElem?_map,ha];rfl)
 have xa:=qez an
 generalize haI:((a:Nat):Int)=aI at*
 generalize ((b:Nat):Int)=bI at*
 clear m2 m3 bn ha lm hml zm mmem cm
 have en2:=pa2.n
 have hT2:=hT.same s2
 obtain⟨dx2,ht2⟩:=id hT2.1
 obtain⟨ez,ey,hM,hel⟩:=g.mvAt f (K:=K) hT2 kn an
 rw [if_neg (by omega)] at hel
 have zk:nmF P k∉(qa9 (elN P.es) a).map (nmF P):=fun h=>by
  obtain⟨x,hx,e⟩:=mem_map.mp h
  rw [f.inj x k (f.ac.lt an x hx) kn e] at hx
  exact c1 hx
 have zl:ez.x.el≠some (nmF P a):=fun h=>by
  rw [hel] at h
  exact c2 (f.inj _ _ eln an (Option.some.inj h))
 have bad:∀{bs cs:List Str} {i:Nat} {u:Str} {e':He} {v:Str},Ben S 12 (nmF P k) bs->(qds ((qa9 (elN P.es) a).map (nmF P)) ((qa9 (elN P.es) k).map (nmF P)))[i]?=some u->S.at u=some e'->Ben S 12 u cs->qew (qdh (qcu (cs.map (qcn S))) (qcu (bs.map (qcn S)))) e'.x.fc v->False:=fun {bs cs i u e' v} hB h1 h2 h3 h4=>by
  obtain⟨j,hj,rfl⟩:=mem_map.mp (mem_filter.mp (mem_of_getElem? h1)).1
  have jn:=f.ac.lt an j hj
  have:=g.vioA f jn h2 h3 h4
  rw [g.sum f kn hB v] at this
  have:=f.two (k:=k) jn v
  omega
 have whoK:∀e',who S (.str (nmF P k))=some e'->ez=e':=fun e' h=>Option.some.inj (hM.az.symm.trans h)
 have whoN:who S (.str (nmF P k))≠none:=fun h=>by rw [show who S (.str (nmF P k))=some ez from hM.az] at h;cases h
 refine qau (SqL.of eacc2) xb ?_
 walk_at "g"
 refine qau (SqL.of ee2) xe ?_
 walk_at "g"
 refine qau (SqL.of en2) xk ?_
 walk_at "g"
 refine qau (SqL.of en2) xa ?_
 walk_at "g"
 refine⟨t,S,nmF P k,nmF P a,ez,ey,_,_,rfl,hM,fun hc=>absurd hc (fun h=>h.elim zk zl),fun _ _ bs hB=>⟨fun _ H3 s3=>?_,fun i u e' cs v h1 h2 h3 h4 _ _=>(bad hB h1 h2 h3 h4).elim⟩⟩
 have s23:=s2.trans s3
 have en3:=s3 _ _ en2
 have ht3:=s3 _ _ ht2
 clear eacc2 ee2 en2 ht2
 walk_at "g"
 refine qau (SqL.of en3) xk ?_
 walk_at "g"
 refine⟨t,S,.str (nmF P k),rfl,hT2.same s3,.inl ⟨_,rfl⟩,fun e1 he1=>?_,fun hn=>absurd hn whoN⟩
 have ee1:=whoK e1 he1
 subst ee1
 rw [hel,show eV (some (nmF P (elN P.es k)))=V.str (nmF P (elN P.es k)) from rfl]
 walk_at "g"
 refine qau (SqL.of en3) xo ?_
 walk_at "g"
 refine qau (SqL.of en3) xk ?_
 walk_at "g"
 refine qau (SqL.of en3) xa ?_
 walk_at "g"
 refine⟨t,S,nmF P k,nmF P a,ez,ey,_,_,rfl,hM.same s3,g.nda,fun hc=>absurd hc (fun h=>h.elim zk zl),fun _ _ bs hB=>⟨fun _ H4 sb hT4=>?_,fun i u e' cs v h1 h2 h3 h4 _ _=>(bad hB h1 h2 h3 h4).elim⟩⟩
 have hme:=qb9 hM.az
 have insz:∃dy,H3 ez.a=some (.ins d.w04 dy (fsH ez.x)):=((hT2.same s3).2.2.2.2.2 ez hme.1).1
 have pa4:PlAt H4 p P:=((pa2.same s3)).sbI insz sb
 have ee4:=pa4.e
 have kz:k <(V.non :: P.es.map iV).length:=by rw [length_cons,length_map];omega
 clear en3 ht3 bad
 walk_at "g"
 refine r_lpk ee4 kz ?_ hkI.symm
 have eset:(V.non :: P.es.map iV).set k (V.int aI)=.non ::(P.es.set (k - 1) a).map iV:=by
  obtain⟨b,rfl⟩:∃b,k=b+1:=⟨k - 1,by omega⟩
  rw [List.set_cons_succ,Nat.add_sub_cancel,List.map_set,<-haI];rfl
 rw [eset]
 have nkd:∀{b:Addr} {k':List (Key × V)},H4 b=some (.dK k')->upd H4 P.le (.lst (.non ::(P.es.set (k - 1) a).map iV)) b=some (.dK k'):=fun {b k'} h=>by
  rw [qa6 (fun e=>by rw [e,ee4] at h;cases h)]
  exact h
 have pa5:PlAt (upd H4 P.le (.lst (.non ::(P.es.set (k - 1) a).map iV))) p (mvP P k a):=by
  refine⟨?_,?_,?_,qa1,?_,?_,fun x hx=>nkd (pa4.pd x hx),fun x hx=>nkd (pa4.cd x hx)⟩
  .rw [qa6 dst.pe.symm];exact pa4.top
  .show upd _ _ _ P.lw=_
   rw [qa6 dst.we];exact pa4.w
  .show upd _ _ _ P.ln=_
   rw [qa6 dst.ne.symm];exact pa4.n
  .show upd _ _ _ P.lp=_
   rw [qa6 dst.eq.symm];exact pa4.pr
  .show upd _ _ _ P.lc=_
   rw [qa6 dst.ec.symm];exact pa4.cp
 have hT5:=hT4.put (o:=.lst (.non ::(P.es.set (k - 1) a).map iV)) (hT4.apL ee4 sep.e)
 have gm:=f.mv k0 kn an c1
 have g5:=g.mv f k0 kn an gm
 have hw5:=hwt.mv (nmF P k) (nmF P a)
 have kp:Keep S P (mvS S (nmF P k) (nmF P a)) (mvP P k a) H (upd H4 P.le (.lst (.non ::(P.es.set (k - 1) a).map iV))):=fun b o hb fr=>by
  refine⟨?_,fr.hs,fr.n,fr.e,fr.p,fr.c,fun x hx=>?_⟩
  .rw [qa6 fr.e]
   exact sb _ _ (fr.ho ez hme.1) (s23 _ _ hb)
  .obtain⟨e0,he0,rfl⟩:=mem_map.mp hx
   rw [mvE_a]
   exact fr.ho e0 he0
 have q:=fun H6 s6=>q (mvS S (nmF P k) (nmF P a)) k a H6 rfl gm (pa5.same s6) (hT5.same s6) g5 hw5 fun b o hb fr=>⟨s6 _ _ (kp b o hb fr).1,(kp b o hb fr).2⟩
 generalize upd H4 P.le (.lst (.non ::(P.es.set (k - 1) a).map iV))=H5 at*
 have eel:elN (mvP P k a).es k=a:=(elN_set (es:=P.es) (a:=a) k0 (by omega)).1
 obtain⟨e5,ae5,_,hel5⟩:=g5.pl.at kn
 rw [if_neg (by omega),eel] at hel5
 have een5:nmF (mvP P k a) k=nmF P k:=rfl
 have nl5:(mvP P k a).nm.length=P.nm.length:=rfl
 have ln5:(mvP P k a).ln=P.ln:=rfl
 have le5:(mvP P k a).le=P.le:=rfl
 have enm:(mvP P k a).nm=P.nm:=rfl
 have en5:=pa5.n
 have ee5:=pa5.e
 rw [ln5,enm] at en5
 rw [le5] at ee5
 have hel5':e5.x.el=some (nmF P a):=hel5
 have ae5':(mvS S (nmF P k) (nmF P a)).at (nmF P k)=some e5:=ae5
 have lin:=g5.pl.line k kn
 obtain⟨dx5,ht5⟩:=id hT5.1
 generalize mvS S (nmF P k) (nmF P a)=S5 at*
 generalize hP5:mvP P k a=P5 at*
 clear pa4 ee4 nkd hT4 sb kp eset kz insz hme zk zl hel hel5 hM whoK whoN s23 s3 hT2 pa2 s2 hwt hw5 ae5
 have enF:nmF P5=nmF P:=funext fun j=>by unfold nmF;rw [enm]
 rw [enF] at lin
 have whoK:∀e',who S5 (.str (nmF P k))=some e'->e5=e':=fun e' h=>Option.some.inj (ae5'.symm.trans h)
 have whoN:who S5 (.str (nmF P k))≠none:=fun h=>by rw [show who S5 (.str (nmF P k))=some e5 from ae5'] at h;cases h
 have nl6:=gm.nl
 walk_at "g"
 refine qau (SqL.of en5) xk ?_
 walk_at "g"
 refine⟨t,S5,.str (nmF P k),rfl,hT5,.inl ⟨_,rfl⟩,fun e1 he1=>?_,fun hn=>absurd hn whoN⟩
 have ee1:=whoK e1 he1
 subst ee1
 rw [hel5',show eV (some (nmF P a))=V.str (nmF P a) from rfl]
 walk_at "g"
 refine qau (SqL.of en5) xa ?_
 walk_at "g"
 refine qau (SqL.of en5) xk ?_
 walk_at "g"
 have ll5:=gm.ac.len (show k < P5.nm.length by rw [enm];exact kn)
 have lt5:=gm.ac.lt (show k < P5.nm.length by rw [enm];exact kn)
 rw [enm] at ll5 lt5
 refine⟨t,S5,.str (nmF P k),rfl,hT5,.inl ⟨_,_,rfl,lin,by rw [length_map];omega,fun l6 hl6=>?_⟩⟩
 have s6:=qa7 hl6 (.lst (((qa9 (elN P5.es) k).map (nmF P)).map V.str))
 have el6:upd H5 l6 (.lst (((qa9 (elN P5.es) k).map (nmF P)).map V.str)) l6=some (.lst (((qa9 (elN P5.es) k).map (nmF P)).map V.str)):=qa1
 generalize upd H5 l6 (.lst (((qa9 (elN P5.es) k).map (nmF P)).map V.str))=H6 at*
 have ee6:=s6 _ _ ee5
 walk_at "g"
 refine⟨P.le,P5.es,k,by rw [hkI],ee6,gm.acE,by rw [enm] at nl6;omega,by rw [enm] at nl6;omega,fun l7 hl7=>?_⟩
 have s7:=s6.trans (qa7 hl7 (.lst ((qa9 (elN P5.es) k).map iV)))
 have el7:upd H6 l7 (.lst ((qa9 (elN P5.es) k).map iV)) l7=some (.lst ((qa9 (elN P5.es) k).map iV)):=qa1
 have el67:=qad (o':=.lst ((qa9 (elN P5.es) k).map iV)) el6 hl7
 generalize upd H6 l7 (.lst ((qa9 (elN P5.es) k).map iV))=H7 at*
 have en7:=s7 _ _ en5
 clear el6 hl6 hl7 ee6 ee5 en5
 walk_at "g"
 intro C2 s02 H02 fp2 nb hnb
 refine qg9 (qa9 (elN P5.es) k).length (fun m H'=>qb0 H7 H'/\H' nb=some (.lst ((((qa9 (elN P5.es) k).take m).map (nmF P)).map V.str))) ⟨qa7 hnb _,qa1⟩ ?_ ?_ ?_ ?_
 .rintro m H' hm ⟨sx,_⟩
  exact⟨_,iV (qa9 (elN P5.es) k)[m],SqL.of (sx _ _ el7),by rw [getElem?_map,getElem?_eq_getElem hm];rfl⟩
 .rintro H' ⟨sx,_⟩
  exact⟨_,SqL.of (sx _ _ el7),by rw [length_map];exact Nat.le_refl _⟩
 .rintro m H' v H'' hm ⟨sx,ea⟩ ⟨rfl,hv⟩
  have hv:=hv _ (SqL.of (sx _ _ el7))
  rw [getElem?_map,getElem?_eq_getElem hm] at hv
  cases hv
  have tk:(qa9 (elN P5.es) k).take (m+1)=(qa9 (elN P5.es) k).take m++ [(qa9 (elN P5.es) k)[m]]:=by rw [take_add_one,getElem?_eq_getElem hm];rfl
  have jn:=lt5 _ (getElem_mem hm)
  generalize (qa9 (elN P5.es) k)[m]=j at*
  have en8:=sx _ _ en7
  have zl:((((qa9 (elN P5.es) k).take m).map (nmF P)).map V.str).length < sizeLine:=by
   rw [length_map,length_map,length_take]
   show _ < 16777216
   omega
  have xj:=qez jn
  clear hv
  rw [show iV j=V.int (j:Int) from rfl]
  generalize ((j:Nat):Int)=jI at*
  walk_at "g"
  refine qau (SqL.of en8) xj ?_
  walk_at "g"
  refine⟨qax sx hnb,?_⟩
  rw [qa1,tk,map_append,map_append];rfl
 rintro H8 ⟨s8,enb⟩
 rw [take_length] at enb
 have ne8:l6≠nb:=qa4 el67 hnb
 refine r_neD (n:=1) ne8 (by decide) (qc8 (n:=0) (SqL.of (s8 _ _ el67)) (SqL.of enb) ne8) ?_
 rw [decide_eq_true rfl]
 have s58:=s7.trans s8
 have pa8:=pa5.same s58
 have hT8:=hT5.same s58
 walk_at "g"
 refine⟨t,p,S5,P5,elN P.es k,by rw [hoI],gm,pa8,hT8,g5,by rw [enm];exact eln,fun H9 s9=>?_⟩
 have pa9:=pa8.same s9
 have hT9:=hT8.same s9
 walk_at "g"
 refine⟨t,p,S5,P5,a,by rw [haI],gm,pa9,hT9,g5,by rw [enm];exact an,fun H10 s10=>?_⟩
 exact q _ ((s58.trans s9).trans s10)
include T in
theorem w5x:FnOk P w K mg base (My.CX1 P w) 4 d.w29 d.w1w ["self","name"] (w5i K d):=by
 refine okX T.w6g w5w (fun vs H Q E h=>?_) (fun cdv A outer s H vs Q E hr h=>?_)
 .obtain⟨t,S,x,rfl,_⟩:=h;rfl
 obtain⟨t,S,x,rfl,hT,hx,q1,q2⟩:=h
 refine⟨_,(qa5 (qai (qbj (qae (pv 0) T.w00 T.w0d ((w1f T).mono (by decide)) hr T.w1u .nil qas (qa0 (pv 1) qa2)) rfl))),?_⟩
 walk_at "d"
 refine qaf (σ:=[some (.ref t),some (x)]) rfl ?_
 have hT0:=hT
 obtain⟨⟨dx,ht⟩,hw,hh,nd,hz,hE⟩:=hT
 have ct:=T.w00
 have nh:qap K d.w01 "houses":=T.w03
 walk_at "g"
 refine⟨t,S,x,rfl,hT0,hx,fun e he=>?_,q2⟩
 obtain⟨z,rfl⟩:∃z,x=.str z:=by
  rcases hx with h|⟨_,nz⟩
  .exact h
  .rw [qct nz] at he;cases he
 obtain⟨⟨dh,ho⟩,hp,hpA,hc,hcA⟩:=hE e (qb9 he).1
 have ch:=T.w0z
 have nf:qap K d.w04 "weight":=T.w0s
 have hRp:Rd H e.x.pa (.dK e.x.kp):=.inl hp
 have hRc:Rd H e.x.ca (.dK e.x.kc):=.inl hc
 walk_at "g"
 exact q1 e he
include T in
theorem w55:FnOk P w K mg base (My.CX1 P w) 4 d.w1y d.w1s ["self","name"] (w57 K d):=by
 refine okX T.w5m w5g (fun vs H Q E h=>?_) (fun cdv A outer s H vs Q E hr h=>?_)
 .obtain⟨t,S,x,rfl,_⟩:=h;rfl
 obtain⟨t,S,x,rfl,hT,hx,q1,q2⟩:=h
 refine⟨_,(qa5 (qai (qb6 qbt rfl T.w4m PyProof.Rows.boot_dict (qa0 (qbj (qae (pv 0) T.w00 T.w0d ((w1f T).mono (by decide)) hr T.w1u .nil qas (qa0 (pv 1) qa2)) rfl) qa2)))),?_⟩
 walk_at "d"
 refine qaf (σ:=[some (.ref t),some (x)]) rfl ?_
 have hT0:=hT
 obtain⟨⟨dx,ht⟩,hw,hh,nd,hz,hE⟩:=hT
 have ct:=T.w00
 have nh:qap K d.w01 "houses":=T.w03
 walk_at "g"
 refine⟨t,S,x,rfl,hT0,hx,fun e he=>?_,q2⟩
 obtain⟨z,rfl⟩:∃z,x=.str z:=by
  rcases hx with h|⟨_,nz⟩
  .exact h
  .rw [qct nz] at he;cases he
 obtain⟨⟨dh,ho⟩,hp,hpA,hc,hcA⟩:=hE e (qb9 he).1
 have ch:=T.w0z
 have nf:qap K d.w04 "promise":=T.w08
 have hRp:Rd H e.x.pa (.dK e.x.kp):=.inl hp
 have hRc:Rd H e.x.ca (.dK e.x.kc):=.inl hc
 walk_at "g"
 rename_i p hp
 exact q1 e he p hp
include T in
theorem w7a:FnOk P w K mg base (My.CX1 P w) 4 d.w3l d.w2v ["self","name"] (w79 K d):=by
 refine okX T.w80 w7g (fun vs H Q E h=>?_) (fun cdv A outer s H vs Q E hr h=>?_)
 .obtain⟨t,S,x,rfl,_⟩:=h;rfl
 obtain⟨t,S,x,rfl,hT,hx,q1,q2⟩:=h
 refine⟨_,(qa5 (qai (qb6 qbt rfl T.w4m PyProof.Rows.boot_dict (qa0 (qbj (qae (pv 0) T.w00 T.w0d ((w1f T).mono (by decide)) hr T.w1u .nil qas (qa0 (pv 1) qa2)) rfl) qa2)))),?_⟩
 walk_at "d"
 refine qaf (σ:=[some (.ref t),some (x)]) rfl ?_
 have hT0:=hT
 obtain⟨⟨dx,ht⟩,hw,hh,nd,hz,hE⟩:=hT
 have ct:=T.w00
 have nh:qap K d.w01 "houses":=T.w03
 walk_at "g"
 refine⟨t,S,x,rfl,hT0,hx,fun e he=>?_,q2⟩
 obtain⟨z,rfl⟩:∃z,x=.str z:=by
  rcases hx with h|⟨_,nz⟩
  .exact h
  .rw [qct nz] at he;cases he
 obtain⟨⟨dh,ho⟩,hp,hpA,hc,hcA⟩:=hE e (qb9 he).1
 have ch:=T.w0z
 have nf:qap K d.w04 "cap":=T.w0n
 have hRp:Rd H e.x.pa (.dK e.x.kp):=.inl hp
 have hRc:Rd H e.x.ca (.dK e.x.kc):=.inl hc
 walk_at "g"
 rename_i p hp
 exact q1 e he p hp
theorem pos_same {ws:List Str} {f:Str->Option Int} (h:qev ws (10^30) f) (hb:∀v∈ws,10^30 - 100<=gN f v):qbb f=f:=funext fun v=>by
 unfold qbb
 cases e:f v with
 |none=>rfl
 |some n=>
  have h1:=hb v (h v n e).1
  unfold gN at h1
  rw [e] at h1
  have h1:(10:Int)^30 - 100<=n:=h1
  show (if 0 < n then some n else none)=some n
  rw [if_pos (by omega)]
structure Bx (C:Prop):Prop where
 o:C
theorem once {C G:Prop} (h:Bx C->G) (c:C):G:=h ⟨c⟩
def wcr (K:Frag) (d:Ad):Sp:=fun vs H Q _=>∃(t p ls:Addr) (S:Ts) (P:PL) (k:Nat) (qs:List Addr) (qa:Addr) (kq:List (Key × V)) (fq:Str->Option Int),vs=[.ref t,.ref p,.int (k:Int),.ref ls]/\GF P/\PlAt H p P/\qcr d H t S/\GT S P/\k < P.nm.length/\
 SqL K H ls (qs.map V.ref)/\qs[k]?=some qa/\H qa=some (.dK kq)/\AD kq fq/\(∀v,fq v≠none->v∈P.ws)/\(∀v,gN fq v=sumP P k v)/\∀H',qb0 H H'->Q (.bl true) H'
include T in
theorem wco:FnOk P w K mg base CX0 20 d.war d.w8m ["_law_tree","_law_plan_here","_law_k","_law_sums_here"] (wcr K d):=by
 refine T.wcl.ok w3h (fun vs H Q E h=>?_) (fun cdv A outer s H vs Q E hr h=>?_)
 .obtain⟨t,p,ls,S,P,k,qs,qa,kq,fq,rfl,_⟩:=h;rfl
 obtain⟨t,p,ls,S,P,k,qs,qa,kq,fq,rfl,f,pa,hT,g,kn,els,xq0,hq1,hq2,hq3,hq4,q⟩:=h
 refine⟨_,(qa3 (ps_asg (pv 1) (pg_lst rfl (qbg (qaq (i:=4) w3h.nd rfl (Or.inl rfl)) (qbg (qaq (i:=5) w3h.nd rfl (Or.inr rfl)) (qbg (qaq (i:=6) w3h.nd rfl (Or.inl rfl)) (qbg (qaq (i:=7) w3h.nd rfl (Or.inl rfl)) (qbg (qaq (i:=8) w3h.nd rfl (Or.inl rfl)) qfz)))))))
  (qa3 (qah (i:=9) w3h.nd rfl (Or.inl rfl) (qak qab (pv 5) (pv 2) (fun _ _=>rfl)))
  (qa3 (qb8 (PW.pt (qe8 (PW.pt (pw_and (qaj qen (pv 2) qa8 (qar _)) (qfx (qaj qcx (qae (W:=fun _ _ _ _=>False) (pv 0) T.w00 T.w05 ((w0h T).mono (by decide)) hr T.w0m .nil qbl (qa0 (pv 9) qa2)) qdg (qar _))))) (qd3 (PW.pt (pw_and (qaj qey (pv 2) qa8 (qar _)) (qfx (qaj op_ne (qae (W:=fun _ _ _ _=>False) (pv 0) T.w00 T.w05 ((w0h T).mono (by decide)) hr T.w0m .nil qbl (qa0 (pv 9) qa2)) (qak qab (pv 5) (qak qab (pv 6) (pv 2) (fun _ _=>rfl)) (fun _ _=>rfl)) (qar _)))))))) (qa5 (qai qd4)) qam)
  (qa3 (qb8 (PW.pt (qe8 (qaj (qf6 (hu8 hr)) (qae (W:=fun _ _ _ _=>False) (pv 0) T.w00 T.w19 ((w3s T).mono (by decide)) hr T.w4p .nil qbl (qa0 (pv 9) qa2)) (qag ((wce T).mono (by decide)) hr rfl T.wdf T.wbs.kp T.wdh .nil qaw (qa0 (pv 1) (qa0 (pv 2) qa2))) (qar _)) (qd3 (qaj (qf6 (hu8 hr)) (qae (W:=fun _ _ _ _=>False) (pv 0) T.w00 T.w07 ((w16 T).mono (by decide)) hr T.w14 .nil qbl (qa0 (pv 9) qa2)) (qag ((w7j T).mono (by decide)) hr rfl T.w9j T.w6l.kp T.w95 .nil qaw (qa0 (pv 5) (qa0 (pv 6) (qa0 (pv 2) qa2)))) (qar _))))) (qa5 (qai qd4)) qam)
  (qa3 (qb8 (qaj (qf6 (hu8 hr)) (qae (W:=fun _ _ _ _=>False) (pv 0) T.w00 T.w0e ((w0x T).mono (by decide)) hr T.w18 .nil qbl (qa0 (pv 9) qa2)) (qc4 (caps:=[5]) (cn:=["_law_names"]) (qbd rfl rfl (by rfl) (by rfl) rfl ⟨rfl,trivial⟩ (by rfl) rfl ⟨⟨rfl,rfl,rfl,rfl,_,rfl⟩,trivial⟩ (by decide)) rfl (qbv (qag ((w88 T).mono (by decide)) hr rfl T.wb8 T.w9n.kp T.wb3 .nil qaw (qa0 (pv 6) (qa0 (pv 2) qa2)))) (fun _ _ _ _=>qcg) (fun _ _ _ _=>(qak qab (pv 1) (pv 0) (fun _ _=>rfl)))) (qar _)) (qa5 (qai qd4)) qam)
  (qa3 (qb8 (qc9 (qbz (qag ((w6k T).mono (by decide)) hr rfl T.w82 T.w6o.kp T.w8b .nil qaw (qa0 (qae (W:=fun _ _ _ _=>False) (pv 0) T.w00 T.w02 ((w0a T).mono (by decide)) hr T.w0b .nil qbl (qa0 (pv 9) qa2)) (qa0 (qag ((wab T).mono (by decide)) hr rfl T.wc1 T.wb9.kp T.wc4 .nil qaw (qa0 (qak qab (pv 3) (pv 2) (fun _ _=>rfl)) qa2)) qa2))))) (qa5 (qai qd4)) qam)
  (qa5 (qai (qe5 (qag ((w6k T).mono (by decide)) hr rfl T.w82 T.w6o.kp T.w8b .nil qaw (qa0 (qae (W:=fun _ _ _ _=>False) (pv 0) T.w00 T.w0p ((w55 T).mono (by decide)) hr T.w5t .nil qbl (qa0 (pv 9) qa2)) (qa0 (qag ((wab T).mono (by decide)) hr rfl T.wc1 T.wb9.kp T.wc4 .nil qaw (qa0 (qak qab (pv 7) (pv 2) (fun _ _=>rfl)) qa2)) qa2))) (qe4 (qag ((w6k T).mono (by decide)) hr rfl T.w82 T.w6o.kp T.w8b .nil qaw (qa0 (qae (W:=fun _ _ _ _=>False) (pv 0) T.w00 T.w1b ((w7a T).mono (by decide)) hr T.w89 .nil qbl (qa0 (pv 9) qa2)) (qa0 (qak qab (pv 8) (pv 2) (fun _ _=>rfl)) qa2))))))))))))),?_⟩
 walk_at "d"
 try dsimp only [cxC]
 have xn:=qez kn
 have xq:atI (qs.map V.ref) ((k:Nat):Int)=some (.ref qa):=qat (by rw [getElem?_map,xq0];rfl)
 obtain⟨tp,tp1,tp2,tp3,tp4,tp5⟩:=f.tf kn
 obtain⟨tc,tc1,tc2,tc3,tc4,tc5⟩:=f.tc kn
 have xp:atI (P.tp.map fun t=>V.ref t.a) ((k:Nat):Int)=some (.ref tp.a):=qat (by rw [getElem?_map,tp1];rfl)
 have xc:atI (P.tc.map fun t=>V.ref t.a) ((k:Nat):Int)=some (.ref tc.a):=qat (by rw [getElem?_map,tc1];rfl)
 have nl:=f.nl
 have n9:=f.n10
 have w3:=f.w3
 have xe:0 < k->atI (V.non :: P.es.map iV) ((k:Nat):Int)=some (V.int ((elN P.es k:Nat):Int)):=fun k0=>by
  obtain⟨b,rfl⟩:∃b,k=b+1:=⟨k - 1,by omega⟩
  have hb:b < P.es.length:=by omega
  rw [qfi hb];exact qat (by rw [getElem?_cons_succ,getElem?_map,getElem?_eq_getElem hb];rfl)
 have xn2:0 < k->atI (P.nm.map V.str) ((elN P.es k:Nat):Int)=some (.str (nmF P (elN P.es k))):=fun k0=>qez (f.ac.elt k0 kn)
 obtain⟨e,ae,hek,hel⟩:=g.pl.at kn
 have een:=(qb9 ae).2
 obtain⟨da1,da2⟩:=g.da k e hek
 obtain⟨_,hkp,hkpA,hkc,hkcA⟩:=hT.2.2.2.2.2 e (qb9 ae).1
 have efp:e.x.fp=qbb tp.f:=by rw [<-tp3];exact funext da1
 have efc:e.x.fc=tc.f:=by rw [<-pos_same (f.ca tc tc2).2 (f.cb tc tc2),<-tc3];exact funext da2
 have who':∀e',who S (.str (nmF P k))=some e'->e=e':=fun e' h=>Option.some.inj (ae.symm.trans h)
 have whoN:who S (.str (nmF P k))≠none:=fun h=>by rw [show who S (.str (nmF P k))=some e from ae] at h;cases h
 generalize hki:((k:Nat):Int)=ki at*
 generalize ((elN P.es k:Nat):Int)=ej at xe xn2
 refine qaf (σ:=[some (.ref t),some (.ref p),some (.int ki),some (.ref ls),none,none,none,none,none,none]) rfl ?_
 have ct:=T.w00
 obtain⟨dx,ht⟩:=id hT.1
 have etop:=pa.top
 have en:=pa.n
 have ee:=pa.e
 obtain⟨ow,w5,wl,nlen⟩:=g.hs f
 walk_at "g"
 refine qau (SqL.of en) xn ?_
 walk_at "g"
 refine' once (fun rest=>?main) ?rst
 case main=>
  refine i_2 (fun c=>?_) (fun c=>?_)
  .have k0:k=0:=by omega
   walk_at "g"
   refine⟨t,S,.str (nmF P k),rfl,hT,.inl ⟨_,rfl⟩,fun e' he'=>?_,fun hn=>absurd hn whoN⟩
   have ee':=who' e' he'
   subst ee'
   rw [hel,if_pos k0,show eV none=V.non from rfl]
   walk_at "g"
   exact rest.o
  .have k0:0 < k:=by omega
   walk_at "g"
   refine⟨t,S,.str (nmF P k),rfl,hT,.inl ⟨_,rfl⟩,fun e' he'=>?_,fun hn=>absurd hn whoN⟩
   have ee':=who' e' he'
   subst ee'
   rw [hel,if_neg (show ¬k=0 by omega),show eV (some (nmF P (elN P.es k)))=V.str (nmF P (elN P.es k)) from rfl]
   walk_at "g"
   refine qau (SqL.of ee) (xe k0) ?_
   walk_at "g"
   refine qau (SqL.of en) (xn2 k0) ?_
   walk_at "g"
   exact rest.o
 case rst=>
  clear xe xn2 etop xn
  refine⟨t,S,.str (nmF P k),rfl,hT,.inl ⟨_,rfl⟩,fun e1 he1 l1 ss1 H1 s1 hl1 el1 hp1 hs1=>?_,fun hn=>absurd hn whoN⟩
  have ee1:=who' e1 he1
  subst ee1
  rw [een,g.kids kn] at hp1
  have pa1:=pa.same s1
  walk_at "g"
  refine⟨p,P,k,by rw [hki],f,pa1,kn,fun l2 ss2 H2 s2 hl2 el2 hp2 hs2=>?_⟩
  have ess:ss1=ss2:=sort_eq (hp1.trans hp2.symm) hs1 hs2
  subst ess
  have ne2:l1≠l2:=qa4 el1 hl2
  refine r_neD (n:=1) ne2 (by decide) (qc8 (n:=0) (SqL.of (s2 _ _ el1)) (SqL.of el2) ne2) ?_
  rw [decide_eq_true rfl]
  have u2:=s1.trans s2
  have ht2:=u2 _ _ ht
  clear el1 el2 hl1 hl2 ht pa1
  walk_at "g"
  have hT2:=hT.same u2
  refine⟨t,S,.str (nmF P k),rfl,hT2,qdi g.pl.wf hT2.2.2.2.2.1,.inl ⟨_,rfl⟩,fun e1 he1=>?_,fun hn=>absurd hn whoN⟩
  have ee1:=who' e1 he1
  subst ee1
  rw [een]
  refine⟨g.pl.dep 12 k kn (by omega),fun lb bs H3 s3 hlb elb hB=>?_⟩
  obtain⟨ks,ebs,ok⟩:=g.ord f 12 k bs kn hB
  have u3:=u2.trans s3
  have pa3:=pa.same u3
  walk_at "g"
  refine⟨P,k,by rw [hki],f,pa3.n,pa3.e,kn,fun l4 ks4 H4 s4 hl4 el4 ok4=>?_⟩
  have ek:=ok4.uniq f ok
  subst ek
  rw [ebs] at elb
  have ne4:lb≠l4:=qa4 elb hl4
  refine r_neD (n:=1) ne4 (by decide) (qc8 (n:=0) (SqL.of (s4 _ _ elb)) (SqL.of el4) ne4) ?_
  rw [decide_eq_true rfl]
  have u4:=u3.trans s4
  have hT4:=hT.same u4
  have ht4:=(s3.trans s4) _ _ ht2
  have ee4:=u4 _ _ ee
  clear elb el4 hlb hl4 ht2 pa3 hT2
  walk_at "g"
  have ll5:=f.ac.len kn
  have lt5:=f.ac.lt kn
  refine⟨t,S,.str (nmF P k),rfl,hT4,.inl ⟨_,_,rfl,g.pl.line k kn,by rw [length_map];omega,fun l6 hl6=>?_⟩⟩
  have s6:=qa7 hl6 (.lst (((qa9 (elN P.es) k).map (nmF P)).map V.str))
  have el6:upd H4 l6 (.lst (((qa9 (elN P.es) k).map (nmF P)).map V.str)) l6=some (.lst (((qa9 (elN P.es) k).map (nmF P)).map V.str)):=qa1
  generalize upd H4 l6 (.lst (((qa9 (elN P.es) k).map (nmF P)).map V.str))=H6 at*
  have ee6:=s6 _ _ ee4
  walk_at "g"
  refine⟨P.le,P.es,k,by rw [hki],ee6,f.acE,by omega,by omega,fun l7 hl7=>?_⟩
  have s7:=s6.trans (qa7 hl7 (.lst ((qa9 (elN P.es) k).map iV)))
  have el7:upd H6 l7 (.lst ((qa9 (elN P.es) k).map iV)) l7=some (.lst ((qa9 (elN P.es) k).map iV)):=qa1
  have el67:=qad (o':=.lst ((qa9 (elN P.es) k).map iV)) el6 hl7
  generalize upd H6 l7 (.lst ((qa9 (elN P.es) k).map iV))=H7 at*
  have u7:=u4.trans s7
  have en7:=u7 _ _ en
  have ht7:=s7 _ _ ht4
  clear el6 hl6 hl7 ee6 ee4 ee en ht4
  walk_at "g"
  intro C2 s02 H02 fp2 nb hnb
  refine qg9 (qa9 (elN P.es) k).length (fun m H'=>qb0 H7 H'/\H' nb=some (.lst ((((qa9 (elN P.es) k).take m).map (nmF P)).map V.str))) ⟨qa7 hnb _,qa1⟩ ?_ ?_ ?_ ?_
  .rintro m H' hm ⟨sx,_⟩
   exact⟨_,iV (qa9 (elN P.es) k)[m],SqL.of (sx _ _ el7),by rw [getElem?_map,getElem?_eq_getElem hm];rfl⟩
  .rintro H' ⟨sx,_⟩
   exact⟨_,SqL.of (sx _ _ el7),by rw [length_map];exact Nat.le_refl _⟩
  .rintro m H' v H'' hm ⟨sx,ea⟩ ⟨rfl,hv⟩
   have hv:=hv _ (SqL.of (sx _ _ el7))
   rw [getElem?_map,getElem?_eq_getElem hm] at hv
   cases hv
   have tk:(qa9 (elN P.es) k).take (m+1)=(qa9 (elN P.es) k).take m++ [(qa9 (elN P.es) k)[m]]:=by rw [take_add_one,getElem?_eq_getElem hm];rfl
   have jn:=lt5 _ (getElem_mem hm)
   generalize (qa9 (elN P.es) k)[m]=j at*
   have en8:=sx _ _ en7
   have zl:((((qa9 (elN P.es) k).take m).map (nmF P)).map V.str).length < sizeLine:=by
    rw [length_map,length_map,length_take]
    show _ < 16777216
    omega
   have xj:=qez jn
   clear hv
   rw [show iV j=V.int (j:Int) from rfl]
   generalize ((j:Nat):Int)=jI at*
   walk_at "g"
   refine qau (SqL.of en8) xj ?_
   walk_at "g"
   refine⟨qax sx hnb,?_⟩
   rw [qa1,tk,map_append,map_append];rfl
  rintro H8 ⟨s8,enb⟩
  rw [take_length] at enb
  have ne8:l6≠nb:=qa4 el67 hnb
  refine r_neD (n:=1) ne8 (by decide) (qc8 (n:=0) (SqL.of (s8 _ _ el67)) (SqL.of enb) ne8) ?_
  rw [decide_eq_true rfl]
  have u8:=u7.trans s8
  have hT8:=hT.same u8
  have ht8:=s8 _ _ ht7
  clear enb el67 el7 hnb en7 ht7
  walk_at "g"
  refine⟨t,S,.str (nmF P k),rfl,hT8,g.pl.wf,ow,.inl ⟨_,rfl⟩,fun e1 he1=>?_,fun hn=>absurd hn whoN⟩
  have ee1:=who' e1 he1
  subst ee1
  rw [een]
  refine⟨g.pl.dep 12 k kn (by omega),fun lp bs2 kp H9 s9 hlp elp hB2 hAp=>?_⟩
  have etold:=g.told f kn hB2 hq4
  rw [etold] at hAp
  have u9:=u8.trans s9
  have els9:=u9.seq els
  have hq19:=u9 _ _ hq1
  walk_at "g"
  refine qau els9 xq ?_
  walk_at "g"
  have lkq:=hq2.le hq3
  refine⟨qa,kq,fq,rfl,hq19,hq2,by omega,fun l3 k3 H10 s10 hl3 el3 hA3=>?_⟩
  walk_at "g"
  have lkp:kp.length<=1000:=by
   have:=hAp.le (fun v hv=>hq3 v fun e=>by unfold qbb at hv;rw [e] at hv;exact hv rfl)
   omega
  refine⟨lp,l3,kp,k3,qbb fq,rfl,s10 _ _ elp,el3,qa4 elp hl3,hAp,hA3,lkp,fun H11 s11=>?_⟩
  have u11:=(u9.trans s10).trans s11
  have hT11:=hT.same u11
  have pa11:=pa.same u11
  have ht11:=((s9.trans s10).trans s11) _ _ ht8
  clear elp el3 hl3 hlp hAp hA3 ht8 els9 hq19
  walk_at "g"
  refine⟨t,S,.str (nmF P k),rfl,hT11,.inl ⟨_,rfl⟩,fun e1 he1=>?_,fun hn=>absurd hn whoN⟩
  have ee1:=who' e1 he1
  subst ee1
  intro m1 hm1
  have s12:=qa7 hm1 (.dK e.x.kp)
  have em1:upd H11 m1 (.dK e.x.kp) m1=some (.dK e.x.kp):=qa1
  generalize upd H11 m1 (.dK e.x.kp)=H12 at*
  have ep12:=s12 _ _ pa11.pr
  have lp1:tp.k.length<=1000:=by have:=tp4.le (fun z hz=>by cases e:tp.f z with|none=>exact absurd e hz|some n=>exact(tp5 z n e).1);omega
  walk_at "g"
  refine qau (SqL.of ep12) xp ?_
  walk_at "g"
  refine⟨tp.a,tp.k,tp.f,rfl,s12 _ _ (pa11.pd tp tp2),tp4,lp1,fun m2 k2 H13 s13 hm2 em2 hA2=>?_⟩
  walk_at "g"
  refine⟨m1,m2,e.x.kp,k2,qbb tp.f,rfl,s13 _ _ em1,em2,qa4 em1 hm2,by rw [<-efp];exact hkpA,hA2,?_,fun H14 s14=>?_⟩
  .have a:=hkpA.le (ws:=P.ws) (by rw [efp];exact qe3 tp5);omega
  have u14:=((u11.trans s12).trans s13).trans s14
  have hT14:=hT.same u14
  have pa14:=pa.same u14
  have ht14:=((s12.trans s13).trans s14) _ _ ht11
  clear em1 em2 hm1 hm2 hA2 ep12 ht11
  walk_at "g"
  refine⟨t,S,.str (nmF P k),rfl,hT14,.inl ⟨_,rfl⟩,fun e1 he1=>?_,fun hn=>absurd hn whoN⟩
  have ee1:=who' e1 he1
  subst ee1
  intro m4 hm4
  have s15:=qa7 hm4 (.dK e.x.kc)
  have em4:upd H14 m4 (.dK e.x.kc) m4=some (.dK e.x.kc):=qa1
  generalize upd H14 m4 (.dK e.x.kc)=H15 at*
  have pa15:=pa14.same s15
  have ec15:=pa15.cp
  have etc:=pa15.cd tc tc2
  have n4:m4≠tc.a:=fun z=>by rw [z,pa14.cd tc tc2] at hm4;cases hm4
  walk_at "g"
  refine qau (SqL.of ec15) xc ?_
  walk_at "g"
  refine⟨m4,tc.a,e.x.kc,tc.k,tc.f,rfl,em4,etc,n4,by rw [<-efc];exact hkcA,tc4,?_,fun H16 s16=>?_⟩
  .have a:=hkcA.le (ws:=P.ws) (by rw [efc];exact fun z hz=>by cases e:tc.f z with|none=>exact absurd e hz|some n=>exact(tc5 z n e).1);omega
  exact q _ ((u14.trans s15).trans s16)
theorem cut_sub {α:Type} (f:α->V) (L:List α) (lo hi:Option Int):∃m:List α,cutV (L.map f) lo hi=m.map f/\m.length<=L.length/\∀x∈m,x∈L:=by
 unfold cutV
 refine⟨(L.drop (HT.sIx (L.map f).length 0 lo)).take (HT.sIx (L.map f).length (L.map f).length hi - HT.sIx (L.map f).length 0 lo),by rw [List.map_take,List.map_drop],?_,fun x hx=>List.mem_of_mem_drop (List.mem_of_mem_take hx)⟩
 rw [length_take,List.length_drop];omega
theorem fr_ints {d:Ad} {H:Hp} {t p b:Addr} {S:Ts} {P:PL} {cs:List Int} {o:HO} (hT:qcr d H t S) (pa:PlAt H p P) (f:GF P) (ho:o=.lst (cs.map V.int)\/∃x,o=.frz x (.lst (cs.map V.int))) (h:H b=some o):Fr S P b:=by
 have nl:=f.nl
 have nL:∀{q:Addr} {v:V} {xs:List V},H q=some (.lst (v :: xs))->(∀i:Int,v≠ .int i)->b≠q:=fun e1 hv e2=>by
  subst e2
  rw [h] at e1
  have e3:=Option.some.inj e1
  rcases ho with e|⟨x,e⟩
  .rw [e] at e3
   have e4:=HO.lst.inj e3
   cases cs with
   |nil=>cases e4
   |cons c cs=>exact hv c (List.cons.inj e4).1.symm
  .rw [e] at e3;cases e3
 have no:∀{q:Addr} {u:HO},H q=some u->(∀xs,u≠ .lst xs)->(∀x w,u≠ .frz x w)->b≠q:=fun e1 h1 h2 e2=>by
  subst e2
  rw [h] at e1
  have e3:=Option.some.inj e1
  rcases ho with e|⟨x,e⟩
  .exact h1 _ (e3.symm.trans e)
  .exact h2 _ _ (e3.symm.trans e)
 have hn:∃z zs,P.nm=z :: zs:=by
  cases e:P.nm with
  |nil=>rw [e] at nl;cases nl
  |cons z zs=>exact⟨z,zs,rfl⟩
 obtain⟨z,zs,hz⟩:=hn
 have hl:P.nm.length=zs.length+1:=by rw [hz];rfl
 have hp:∃z zs,P.tp=z :: zs:=by
  cases e:P.tp with
  |nil=>have:=f.pl;rw [e,hl] at this;cases this
  |cons z zs=>exact⟨z,zs,rfl⟩
 have hc:∃z zs,P.tc=z :: zs:=by
  cases e:P.tc with
  |nil=>have:=f.cl;rw [e,hl] at this;cases this
  |cons z zs=>exact⟨z,zs,rfl⟩
 obtain⟨y,ys,hy⟩:=hp
 obtain⟨x,xs,hx⟩:=hc
 have e1:=pa.n
 have e2:=pa.pr
 have e3:=pa.cp
 rw [hz] at e1
 rw [hy] at e2
 rw [hx] at e3
 refine⟨no hT.2.2.1 (fun _ e=>by cases e) (fun _ _ e=>by cases e),nL e1 (fun _ e=>by cases e),nL pa.e (fun _ e=>by cases e),nL e2 (fun _ e=>by cases e),nL e3 (fun _ e=>by cases e),fun w hw=>?_⟩
 obtain⟨⟨dy,hy⟩,_⟩:=hT.2.2.2.2.2 w hw
 exact no hy (fun _ e=>by cases e) (fun _ _ e=>by cases e)
theorem Keep.seq {K:Frag} {d:Ad} {H H':Hp} {t p a:Addr} {S S':Ts} {P P':PL} {ns:List Int} (k:Keep S P S' P' H H') (hT:qcr d H t S) (pa:PlAt H p P) (f:GF P) (h:SqL K H a (ns.map V.int)):SqL K H' a (ns.map V.int):=by
 rcases h with (h|⟨o,h⟩) |h
 .exact .inl (.inl (k _ _ h (fr_ints hT pa f (.inl rfl) h)).1)
 .exact .inl (.inr ⟨o,(k _ _ h (fr_ints hT pa f (.inr ⟨_,rfl⟩) h)).1⟩)
 .exact .inr h
theorem Fr.mono {d:Ad} {H:Hp} {t p b:Addr} {S:Ts} {P:PL} (hT:qcr d H t S) (pa:PlAt H p P) (h:H b=none):Fr S P b:=by
 have no:∀{q:Addr} {u:HO},H q=some u->b≠q:=fun e1 e2=>by subst e2;rw [h] at e1;cases e1
 refine⟨no hT.2.2.1,no pa.n,no pa.e,no pa.pr,no pa.cp,fun w hw=>?_⟩
 obtain⟨⟨dy,hy⟩,_⟩:=hT.2.2.2.2.2 w hw
 exact no hy
def sp_law0 (K:Frag):Sp:=fun vs H Q _=>∃(a:Addr) (ns:List Int),vs=[.ref a]/\SqL K H a (ns.map V.int)/\ns.length<=63/\∀H',Q (.bl true) H'
def sp_law (K:Frag) (d:Ad):Sp:=sp_law0 K
structure LSt (K:Frag) (d:Ad) (H:Hp) (a lw t p:Addr) (ns wts:List Int) (ob:List (Addr × HO)) (S:Ts) (P:PL):Prop where
 sq:SqL K H a (ns.map V.int)
 wq:H lw=some (.lst (wts.map V.int))
 f:GF P
 pa:PlAt H p P
 tr:qcr d H t S
 g:GT S P
 wt:WtAt S (wtF wts)
 dst:Dst p P.lw P.ln P.le P.lp P.lc
 sep:Sep S P
 ob:∀x∈ob,H x.1=some x.2/\Fr S P x.1
section
variable {K: Frag} {d: Ad} {H H': Hp} {a lw t p: Addr} {ns wts: List Int} {ob: List (Addr × HO)} {S S': Ts} {P: PL}
theorem LSt.same (h:LSt K d H a lw t p ns wts ob S P) (s:qb0 H H'):LSt K d H' a lw t p ns wts ob S P:=⟨s.seq h.sq,s _ _ h.wq,h.f,h.pa.same s,h.tr.same s,h.g,h.wt,h.dst,h.sep,fun x m=>⟨s _ _ (h.ob x m).1,(h.ob x m).2⟩⟩
theorem LSt.mv {k b:Nat} (h:LSt K d H a lw t p ns wts ob S P) (esw:S'.sw=S.sw) (gf:GF (mvP P k b)) (pa:PlAt H' p (mvP P k b)) (tr:qcr d H' t S') (g:GT S' (mvP P k b)) (wt:WtAt S' (wtF wts)) (kp:Keep S P S' (mvP P k b) H H'):LSt K d H' a lw t p ns wts ob S' (mvP P k b):=
 ⟨kp.seq h.tr h.pa h.f h.sq,(kp _ _ h.wq (fr_ints h.tr h.pa h.f (.inl rfl) h.wq)).1,gf,pa,tr,g,wt,h.dst,⟨by rw [esw];exact h.sep.n,by rw [esw];exact h.sep.e,by rw [esw];exact h.sep.p,by rw [esw];exact h.sep.c⟩,fun x m=>kp _ _ (h.ob x m).1 (h.ob x m).2⟩
end
include T in
theorem ok_law:FnOk P w K mg base CX0 23 d.wag d.w96 ["_law_script"] (sp_law K d):=by
 refine T.wen.ok w44 (fun vs H Q E h=>?_) (fun cdv A outer s H vs Q E hr h=>?_)
 .obtain⟨a,ns,rfl,_⟩:=h;rfl
 obtain⟨a,ns,rfl,hS,hn,q⟩:=h
 refine⟨_,(qa3 (qah (i:=1) w44.nd rfl (Or.inl rfl) (qag ((we8 T).mono (by decide)) hr rfl T.wed T.wda.kp T.wee .nil qaw (qa0 (qag ((wdx T).mono (by decide)) hr rfl T.wej T.wdi.kp T.wef .nil qaw (qa0 (pv 0) (qa0 qa8 (qa0 (qal qbm (qal qbh (qag ((w4f T).mono (by decide)) hr rfl T.w5f T.w49.kp T.w58 .nil qaw (qa0 (pv 0) (qa0 qa8 qa2))) qa8) qa8) qa2)))) qa2)))
  (qa3 (qah (i:=2) w44.nd rfl (Or.inl rfl) (qak qab (pv 1) qa8 (fun _ _=>rfl)))
  (qa3 (qdz (j:=3) (caps:=[0]) (cn:=["_law_script"]) (qbd rfl rfl (by rfl) (by rfl) rfl ⟨rfl,trivial⟩ (by rfl) rfl ⟨⟨rfl,rfl,rfl,rfl,_,rfl⟩,trivial⟩ (by decide)) rfl w44.nd rfl rfl (qav rfl T.w0q (qa0 (qac qan rfl T.w1h PySem.boot_len (qa0 (pv 2) qa2)) qa2)) (fun _ _ _ _=>qcg) (fun _ _ _ _=>(qal qbi qa8 (qal qbm (qag ((w86 T).mono (by decide)) hr rfl T.wa9 T.w8c.kp T.wa4 .nil qaw (qa0 (qag ((w4f T).mono (by decide)) hr rfl T.w5f T.w49.kp T.w58 .nil qaw (qa0 (pv 1) (qa0 (qal qbi qa8 (pv 0)) qa2))) (qa0 (qal qbi (pv 0) qa8) qa2))) qa8))))
  (qa3 (qah (i:=4) w44.nd rfl (Or.inl rfl) (qag ((waj T).mono (by decide)) hr rfl T.wbk T.w7l.kp T.wbp .nil qaw (qa0 (pv 1) (qa0 (pv 3) qa2))))
  (qa3 (qbe PassesOwn.never rfl (qav rfl T.w0q (qa0 (qac qan rfl T.w1h PySem.boot_len (qa0 (pv 2) qa2)) qa2)) (qaq (i:=5) w44.nd rfl (Or.inl rfl)) (qa5 (qb8 (qc9 (qbz (qag ((w76 T).mono (by decide)) hr rfl T.w84 T.w6j.kp T.w8s .nil qaw (qa0 (pv 4) (qa0 (pv 1) (qa0 (pv 5) qa2)))))) (qa5 (qai qd4)) qam)))
  (qa3 (qah (i:=6) w44.nd rfl (Or.inl rfl) (qc1 (qa0 (qae (W:=fun _ _ _ _=>False) (pv 4) T.w00 T.w0e ((w0x T).mono (by decide)) hr T.w18 .nil qbl (qa0 (qak qab (pv 2) (pe_un un_neg qa8) (fun _ _=>rfl)) qa2)) (qa0 (qae (W:=fun _ _ _ _=>False) (pv 4) T.w00 T.w07 ((w16 T).mono (by decide)) hr T.w14 .nil qbl (qa0 (qak qab (pv 2) qa8 (fun _ _=>rfl)) qa2)) (qa0 (qae (W:=fun _ _ _ _=>False) (pv 4) T.w00 T.w02 ((w0a T).mono (by decide)) hr T.w0b .nil qbl (qa0 (qak qab (pv 2) qa8 (fun _ _=>rfl)) qa2)) qa2)))))
  (qa3 (qah (i:=7) w44.nd rfl (Or.inl rfl) (qc1 (qa0 (qb6 qe1 rfl T.wb5 PyProof.Rows.boot_list (qa0 (qak qab (pv 6) qa8 (fun _ _=>rfl)) qa2)) (qa0 (qb6 qe1 rfl T.wb5 PyProof.Rows.boot_list (qa0 (qak qab (pv 6) qa8 (fun _ _=>rfl)) qa2)) (qa0 (qb6 qbt rfl T.w4m PyProof.Rows.boot_dict (qa0 (qak qab (pv 6) qa8 (fun _ _=>rfl)) qa2)) qa2)))))
  (qa3 (qbe PassesOwn.never rfl (qbv (pe_slice sl_list (pv 0) (po_some qa8) (po_some qa8))) (qaq (i:=8) w44.nd rfl (Or.inl rfl)) (qa5 (qb8 (PW.pt (pw_and (qaj qey (qac qan rfl T.w1h PySem.boot_len (qa0 (pv 2) qa2)) qa8 (qar _)) (qfx (qc9 (qbz (qag ((wcs T).mono (by decide)) hr rfl T.we6 T.wck.kp T.wdo .nil qaw (qa0 (pv 4) (qa0 (pv 1) (qa0 (pv 8) qa2))))))))) (qa5 (qai qd4)) qam)))
  (qa3 (qah (i:=9) w44.nd rfl (Or.inl rfl) (qag ((wa8 T).mono (by decide)) hr rfl T.wcj T.wb2.kp T.wbv .nil qaw (qa0 (qak qab (pv 1) qa8 (fun _ _=>rfl)) (qa0 (qak qab (pv 1) qa8 (fun _ _=>rfl)) qa2))))
  (qa3 (qbe PassesOwn.never rfl (qav rfl T.w0q (qa0 (qac qan rfl T.w1h PySem.boot_len (qa0 (pv 2) qa2)) qa2)) (qaq (i:=5) w44.nd rfl (Or.inl rfl)) (qa5 (qb8 (PW.pt (qe8 (qc9 (qbz (qag ((wco T).mono (by decide)) hr rfl T.wdy T.wcl.kp T.we2 .nil qaw (qa0 (pv 4) (qa0 (pv 1) (qa0 (pv 5) (qa0 (pv 9) qa2))))))) (qd3 (qaj op_ne (qae (W:=fun _ _ _ _=>False) (pv 4) T.w00 T.w0u ((w5x T).mono (by decide)) hr T.w6e .nil qbl (qa0 (qak qab (pv 2) (pv 5) (fun _ _=>rfl)) qa2)) (qak qab (pv 3) (pv 5) (fun _ _=>rfl)) (qar _))))) (qa5 (qai qd4)) qam)))
  (qa5 (qai (qe5 (qdm (op_eqD (hu8 hr)) (pv 6) (pv 7) (qar _)) (qe4 (qdm (op_eqD (hu8 hr)) (pe_meth0 (pv 4) T.w00 T.w1t ((w7s T).mono (by decide)) hr T.w9k .nil qaw) (qac qdf rfl T.w3o PyProof.Rows.boot_sorted (qa0 (pv 2) qa2)) (qar _)))))))))))))))),?_⟩
 walk_at "d"
 try dsimp only [cxC]
 refine qaf (σ:=[some (.ref a),none,none,none,none,none,none,none,none,none]) rfl ?_
 walk_at "g"
 refine⟨a,ns,_,rfl,hS,by decide,?_⟩
 walk_at "g"
 have m0:=Int.emod_nonneg ((cell ns 3).fdiv 4) (show (9:Int)≠0 by decide)
 have m1:=Int.emod_lt_of_pos ((cell ns 3).fdiv 4) (show (0:Int) < 9 by decide)
 generalize (cell ns 3).fdiv 4%9=m at*
 obtain⟨n,rfl⟩:∃n:Nat,m=(n:Int):=⟨m.toNat,by omega⟩
 refine⟨a,ns,_,n,rfl,hS,by decide,by omega,fun p0 P0 H1 s1 pf0 pa0 hlen hnm dst0=>?_⟩
 have n8:n<=8:=by omega
 clear m0 m1 hnm
 have hS1:=s1.seq hS
 walk_at "g"
 refine⟨p0,P0,rfl,pf0,by omega,pa0,dst0,fun p lc tc H2 s2 pf f pa dst=>?_⟩
 have hS2:=s2.seq hS1
 have n9:=f.n10
 generalize hP: {P0 with lc:=lc,tc:=tc}=P at*
 have dst:Dst p P.lw P.ln P.le P.lp P.lc:=by subst hP;exact dst
 clear pa0 pf0 dst0 hP hS1 s1 s2 hlen
 have etop:=pa.top
 have en:=pa.n
 have hnl2:(P.nm.map V.str).length=P.nm.length:=length_map _
 walk_at "g"
 rw [hnl2,show (((P.nm.length:Nat):Int)).toNat=P.nm.length by omega]
 intro C s0 H0 fp lw hlw
 refine qg9 P.nm.length (fun i H'=>∃wts:List Int,H'=upd H2 lw (.lst (wts.map V.int))/\wts.length=i/\∀x∈wts,1<=x/\x<=1000) ⟨[],rfl,rfl,fun x h=>by simp at h⟩ (fun i H' hi _=>hi) (fun H' _=>Nat.le_refl _) ?_ ?_
 .rintro i H' v H'' hi ⟨wts,rfl,hwl,hwb⟩ ⟨rfl,rfl⟩
  have hS':=qdx (o:=.lst (wts.map V.int)) hS2 hlw
  have zl:(wts.map V.int).length < sizeLine:=by rw [length_map];show _ < 16777216;omega
  rw [show (0:Int)+(i:Int)=(i:Int) by omega]
  generalize hiI:((i:Nat):Int)=iI
  walk_at "g"
  refine⟨a,ns,_,rfl,hS',by omega,?_⟩
  walk_at "g"
  refine⟨_,_,rfl,by omega,by omega,fun r r0=>?_⟩
  clear r0
  walk_at "g"
  have m8:=Int.emod_nonneg r (show (1000:Int)≠0 by decide)
  have m9:=Int.emod_lt_of_pos r (show (0:Int) < 1000 by decide)
  refine⟨wts++ [1+r%1000],by rw [map_append,qbr];rfl,by rw [length_append,hwl];rfl,fun x hx=>?_⟩
  rcases mem_append.mp hx with h|h
  .exact hwb x h
  .have:x=1+r%1000:=by simpa using h
   omega
 rintro H' ⟨wts,rfl,hwl,hwb⟩
 have s3:=qa7 hlw (.lst (wts.map V.int))
 have ew3:upd H2 lw (.lst (wts.map V.int)) lw=some (.lst (wts.map V.int)):=qa1
 have hS3:=qdx (o:=.lst (wts.map V.int)) hS2 hlw
 generalize upd H2 lw (.lst (wts.map V.int))=H3 at*
 have pa3:=pa.same s3
 clear hS2 pa s3 etop en
 walk_at "g"
 refine⟨p,lw,P,wts,rfl,pf,pa3,SqL.of ew3,hwl,hwb,fun t S H4 s4 ht hhs hsw hT hI nd=>?_⟩
 have g:=hI.gt nd
 have hwt:WtAt S (wtF wts):=fun k e he=>(hI.da k e he).2.2
 have sep:Sep S P:=⟨qa4 pa3.n hsw,qa4 pa3.e hsw,qa4 pa3.pr hsw,qa4 pa3.cp hsw⟩
 have st:LSt K d H4 a lw t p ns wts [] S P:=⟨s4.seq hS3,s4 _ _ ew3,f,pa3.same s4,hT,g,hwt,dst,sep,fun x m=>by simp at m⟩
 clear hI nd hsw hhs ht pf hS3 pa3 s4 hT g f hwt dst sep hS ew3 n8
 have etop:=st.pa.top
 have en:=st.pa.n
 walk_at "g"
 rw [hnl2,show (((P.nm.length:Nat):Int)).toNat=P.nm.length by omega]
 refine qbx (fun i σ H'=>∃w1:Option V,σ=[some (.ref a),some (.ref p),some (.ref P.ln),some (.ref lw),some (.ref t),w1,none,none,none,none]/\qb0 H4 H') ⟨none,rfl,qb0.refl _⟩ ?_ ?_
 .rintro i σ H' hi ⟨w1,rfl,sm⟩
  have st':=st.same sm
  rw [show (0:Int)+(i:Int)=(i:Int) by omega]
  generalize hiI:((i:Nat):Int)=iI
  walk_at "g"
  refine⟨t,p,S,P,i,by rw [hiI],st'.f,st'.pa,st'.tr,st'.g,hi,fun H5 s5=>?_⟩
  walk_at "g"
  exact⟨_,rfl,sm.trans s5⟩
 rintro σ H5 ⟨w1,rfl,s5⟩
 have st5:=st.same s5
 clear st s5 etop en
 have en5:=st5.pa.n
 obtain⟨dx5,ht5⟩:=id st5.tr.1
 have nl:=st5.f.nl
 have n1:P.nm.length - 1 < P.nm.length:=by omega
 have xl:atI (P.nm.map V.str) (-1)=some (.str (nmF P (P.nm.length - 1))):=by
  unfold atI
  have hx:ixN (P.nm.map V.str).length (-1)=some (P.nm.length - 1):=by
   unfold ixN
   rw [length_map,if_neg (by decide),if_pos (by omega)]
   congr 1
   omega
  rw [hx]
  show (P.nm.map V.str)[P.nm.length - 1]?=_
  rw [getElem?_map,getElem?_eq_getElem n1,qcb n1];rfl
 have x0:atI (P.nm.map V.str) 0=some (.str (nmF P 0)):=qez (k:=0) (by omega)
 obtain⟨e,ae,_⟩:=st5.g.pl.at (k:=0) (by omega)
 have een:=(qb9 ae).2
 have who':∀e',who S (.str (nmF P 0))=some e'->e=e':=fun e' h=>Option.some.inj (ae.symm.trans h)
 have whoN:who S (.str (nmF P 0))≠none:=fun h=>by rw [show who S (.str (nmF P 0))=some e from ae] at h;cases h
 have ll5:=st5.f.ac.len n1
 have w3:=st5.f.w3
 obtain⟨ow,w5,wl,nlen⟩:=st5.g.hs st5.f
 walk_at "g"
 refine qau (SqL.of en5) xl ?_
 walk_at "g"
 refine⟨t,S,.str (nmF P (P.nm.length - 1)),rfl,st5.tr,.inl ⟨_,_,rfl,st5.g.pl.line _ n1,by rw [length_map];omega,fun l1 hl1=>?_⟩⟩
 generalize (qa9 (elN P.es) (P.nm.length - 1)).map (nmF P)=z1 at*
 have s6:=qa7 hl1 (.lst (z1.map V.str))
 have el1:upd H5 l1 (.lst (z1.map V.str)) l1=some (.lst (z1.map V.str)):=qa1
 generalize upd H5 l1 (.lst (z1.map V.str))=H6 at*
 have en6:=s6 _ _ en5
 have ht6:=s6 _ _ ht5
 clear en5 ht5
 walk_at "g"
 refine qau (SqL.of en6) x0 ?_
 walk_at "g"
 have hT6:=st5.tr.same s6
 refine⟨t,S,.str (nmF P 0),rfl,hT6,qdi st5.g.pl.wf hT6.2.2.2.2.1,.inl ⟨_,rfl⟩,fun e1 he1=>?_,fun hn=>absurd hn whoN⟩
 have ee1:=who' e1 he1
 subst ee1
 rw [een]
 refine⟨st5.g.pl.dep 12 0 (by omega) (by omega),fun l2 z2 H7 s7 hl2 el2 _=>?_⟩
 have s57:=s6.trans s7
 have en7:=s7 _ _ en6
 have ht7:=s7 _ _ ht6
 have el17:=s7 _ _ el1
 clear en6 ht6 el1
 walk_at "g"
 refine qau (SqL.of en7) x0 ?_
 walk_at "g"
 refine⟨t,S,.str (nmF P 0),rfl,st5.tr.same s57,st5.g.pl.wf,ow,.inl ⟨_,rfl⟩,fun e1 he1=>?_,fun hn=>absurd hn whoN⟩
 have ee1:=who' e1 he1
 subst ee1
 rw [een]
 refine⟨st5.g.pl.dep 12 0 (by omega) (by omega),fun l3 z3 k3 H8 s8 hl3 el3 _ hA3=>?_⟩
 have s58:=s57.trans s8
 have el18:=s8 _ _ el17
 have el28:=s8 _ _ el2
 generalize qcu (z3.map (qcn S))=f3 at hA3
 clear en7 ht7 el17 el2 xl
 walk_at "g"
 rename_i to hto
 have s9:=s58.trans (qa7 hto (.lst [V.ref l1,V.ref l2,V.ref l3]))
 have eto:upd H8 to (.lst [V.ref l1,V.ref l2,V.ref l3]) to=some (.lst [V.ref l1,V.ref l2,V.ref l3]):=qa1
 have el19:=qad (o':=.lst [V.ref l1,V.ref l2,V.ref l3]) el18 hto
 have el29:=qad (o':=.lst [V.ref l1,V.ref l2,V.ref l3]) el28 hto
 have el39:=qad (o':=.lst [V.ref l1,V.ref l2,V.ref l3]) el3 hto
 have fto:H5 to=none:=s58.free hto
 generalize upd H8 to (.lst [V.ref l1,V.ref l2,V.ref l3])=H9 at*
 refine r_listL (SqL.of el19) fun c1 hc1=>?_
 have sA:=qa7 hc1 (.lst (z1.map V.str))
 have ec1:upd H9 c1 (.lst (z1.map V.str)) c1=some (.lst (z1.map V.str)):=qa1
 have fc1:H5 c1=none:=s9.free hc1
 have nc1:l1≠c1:=qa4 el19 hc1
 generalize upd H9 c1 (.lst (z1.map V.str))=HA at*
 have etoA:=sA _ _ eto
 have el2A:=sA _ _ el29
 walk_at "g"
 refine r_listL (SqL.of el2A) fun c2 hc2=>?_
 have sB:=sA.trans (qa7 hc2 (.lst (z2.map V.str)))
 have ec2:upd HA c2 (.lst (z2.map V.str)) c2=some (.lst (z2.map V.str)):=qa1
 have ec1B:=qad (o':=.lst (z2.map V.str)) ec1 hc2
 have fc2:H5 c2=none:=(s9.trans sA).free hc2
 have nc2:l2≠c2:=qa4 el2A hc2
 generalize upd HA c2 (.lst (z2.map V.str))=HB at*
 have etoB:=sB _ _ eto
 have el3B:=sB _ _ el39
 have hRd:Rd HB l3 (.dK k3):=.inl el3B
 clear etoA el2A ec1
 walk_at "g"
 rename_i c3 hc3 ke hke
 have sC:=sB.trans (qa7 hc3 (.dK k3))
 have nc3:l3≠c3:=qa4 el3B hc3
 have fc3:H5 c3=none:=(s9.trans sB).free hc3
 have sD:=sC.trans (qa7 hke (.lst [V.ref c1,V.ref c2,V.ref c3]))
 have fke:H5 ke=none:=(s9.trans sC).free hke
 have nke:to≠ke:=qa4 (sC _ _ eto) hke
 have hD1:upd (upd HB c3 (.dK k3)) ke (.lst [V.ref c1,V.ref c2,V.ref c3]) ke=some (.lst [V.ref c1,V.ref c2,V.ref c3]):=qa1
 have hD2:upd (upd HB c3 (.dK k3)) ke (.lst [V.ref c1,V.ref c2,V.ref c3]) c3=some (.dK k3):=qad qa1 hke
 have hD3:=qad (o':=.lst [V.ref c1,V.ref c2,V.ref c3]) (qad (o':=.dK k3) ec1B hc3) hke
 have hD4:=qad (o':=.lst [V.ref c1,V.ref c2,V.ref c3]) (qad (o':=.dK k3) ec2 hc3) hke
 generalize upd (upd HB c3 (.dK k3)) ke (.lst [V.ref c1,V.ref c2,V.ref c3])=HD at*
 have s5D:=s9.trans sD
 have fr:∀{b:Addr},H5 b=none->Fr S P b:=fun h=>Fr.mono st5.tr st5.pa h
 have fl1:=fr hl1
 have fl2:=fr (s6.free hl2)
 have fl3:=fr (s57.free hl3)
 have stD:=st5.same s5D
 have hSD:=stD.sq
 have oto:=sD _ _ eto
 have ol1:=sD _ _ el19
 have ol2:=sD _ _ el29
 have ol3:=sD _ _ el39
 have gto:=fr fto
 have gc1:=fr fc1
 have gc2:=fr fc2
 have gc3:=fr fc3
 have gke:=fr fke
 clear fr fto fc1 fc2 fc3 fke hl1 hl2 hl3 hto hc1 hc2 hc3 hke eto el19 el29 el39 etoB el3B hRd ec1B ec2 el18 el28 el3 sA sB sC sD s9 s58 s57 s6 s7 s8 st5 hT6 who' whoN ae een x0 ll5
 walk_at "g"
 refine r_slL hSD fun sl hsl=>?_
 obtain⟨cs,ecs,lcs,_⟩:=cut_sub V.int ns (some 12) (some 44)
 rw [ecs]
 have sE:=qa7 hsl (.lst (cs.map V.int))
 have gsl:=Fr.mono stD.tr stD.pa hsl
 have stE:LSt K d (upd HD sl (.lst (cs.map V.int))) a lw t p ns wts [(sl,.lst (cs.map V.int)),(to,.lst [V.ref l1,V.ref l2,V.ref l3]),(ke,.lst [V.ref c1,V.ref c2,V.ref c3]),(l1,.lst (z1.map V.str)),(l2,.lst (z2.map V.str)),(l3,.dK k3),(c1,.lst (z1.map V.str)),(c2,.lst (z2.map V.str)),(c3,.dK k3)] S P:=by
  have h:=stD.same sE
  refine⟨h.sq,h.wq,h.f,h.pa,h.tr,h.g,h.wt,h.dst,h.sep,fun x m=>?_⟩
  simp only [mem_cons,List.not_mem_nil,or_false] at m
  rcases m with rfl|rfl|rfl|rfl|rfl|rfl|rfl|rfl|rfl
  .exact⟨qa1,gsl⟩
  .exact⟨sE _ _ oto,gto⟩
  .exact⟨sE _ _ hD1,gke⟩
  .exact⟨sE _ _ ol1,fl1⟩
  .exact⟨sE _ _ ol2,fl2⟩
  .exact⟨sE _ _ ol3,fl3⟩
  .exact⟨sE _ _ hD3,gc1⟩
  .exact⟨sE _ _ hD4,gc2⟩
  .exact⟨sE _ _ hD2,gc3⟩
 generalize upd HD sl (.lst (cs.map V.int))=HE at*
 generalize hob: [(sl,HO.lst (cs.map V.int)),(to,.lst [V.ref l1,V.ref l2,V.ref l3]),(ke,.lst [V.ref c1,V.ref c2,V.ref c3]),(l1,.lst (z1.map V.str)),(l2,.lst (z2.map V.str)),(l3,.dK k3),(c1,.lst (z1.map V.str)),(c2,.lst (z2.map V.str)),(c3,.dK k3)]=ob at*
 have osl:(sl,HO.lst (cs.map V.int))∈ob:=by rw [<-hob];exact mem_cons_self ..
 have esl:=(stE.ob _ osl).1
 clear stD hSD sE gsl hsl oto ol1 ol2 ol3 hD1 hD2 hD3 hD4 fl1 fl2 fl3 gto gc1 gc2 gc3 gke
 walk_at "g"
 refine qfh (xs:=cs.map V.int) (fun i σ H'=>∃(S':Ts) (P':PL) (w1 w2:Option V),σ=[some (.ref a),some (.ref p),some (.ref P'.ln),some (.ref lw),some (.ref t),w1,some (.ref to),some (.ref ke),w2,none]/\LSt K d H' a lw t p ns wts ob S' P'/\P'.nm.length=P.nm.length) ⟨S,P,_,_,rfl,stE,rfl⟩ ?_ ?_ ?_
 .rintro i σ H' _ ⟨S',P',w1,w2,rfl,st',_⟩;exact SqL.of (st'.ob _ osl).1
 .rintro i v σ H' hv ⟨S',P',w1',w2,rfl,st',hl'⟩
  rw [getElem?_map] at hv
  obtain⟨c,hc,rfl⟩:=Option.map_eq_some_iff.mp hv
  have en':=st'.pa.n
  have hnl3:(P'.nm.map V.str).length=P'.nm.length:=length_map _
  clear hv
  walk_at "g"
  rw [hnl3]
  by_cases c2:1 < P'.nm.length
  .rw [if_pos (decide_eq_true (by omega))]
   walk_at "g"
   refine⟨t,p,S',P',c,wtF wts,rfl,st'.f,c2,st'.pa,st'.tr,st'.g,st'.wt,st'.dst,st'.sep,fun H6 s6=>?_,fun S2 k b H6 esw gf pa2 tr2 g2 wt2 kp=>?_⟩
   .walk_at "g"
    exact⟨S',P',_,_,rfl,st'.same s6,hl'⟩
   .walk_at "g"
    exact⟨S2,mvP P' k b,_,_,rfl,st'.mv esw gf pa2 tr2 g2 wt2 kp,hl'⟩
  .rw [if_neg (by rw [decide_eq_false (by omega)];exact Bool.false_ne_true)]
   walk_at "g"
   exact⟨S',P',_,_,rfl,st',hl'⟩
 rintro σ HF ⟨S',P',w1',w2,rfl,stF,hl'⟩
 have f:=stF.f
 have g:=stF.g
 have nl2:=f.nl
 have w32:=f.w3
 have etF:=stF.pa.top
 have hnl3:(P'.nm.map V.str).length=P'.nm.length:=length_map _
 have hwl':wts.length=P'.nm.length:=by rw [hl'];exact hwl
 clear hwb hwl stE esl n1 nl hnl2 w3 w5 wl nlen ow
 walk_at "g"
 refine⟨P'.le,P'.lp,P'.es,P'.tp,P'.ws,rfl,stF.pa.e,SqL.of stF.pa.pr,by rw [f.pl];omega,by rw [f.pl];omega,by omega,by rw [f.pl];exact f.ac,fun x m=>⟨stF.pa.pd x m,(f.pa x m).1,fun y hy=>?_⟩,fun ls qs HG sG hls els hql hqf hG=>?_⟩
 .cases e:x.f y with
  |none=>exact absurd e hy
  |some n=>exact((f.pa x m).2 y n e).1
 rw [f.pl] at hql
 have hsum:∀(j:Nat),j < P'.nm.length->∃(qa:Addr) (kq:List (Key × V)) (fq:Str->Option Int),qs[j]?=some qa/\HG qa=some (.dK kq)/\AD kq fq/\(∀v,fq v≠none->v∈P'.ws)/\∀v,gN fq v=sumP P' j v:=fun j jn=>by
  have jq:j < qs.length:=by omega
  obtain⟨kq,fq,hq1,hq2,hq3,hq4⟩:=hG j qs[j] (getElem?_eq_getElem jq)
  exact⟨qs[j],kq,fq,getElem?_eq_getElem jq,hq1,hq2,hq3,fun v=>by rw [hq4 v];exact f.sumE j v⟩
 have stG:=stF.same sG
 have enG:=stG.pa.n
 clear hG hqf hql etF stF sG
 walk_at "g"
 rw [hnl3,show (((P'.nm.length:Nat):Int)).toNat=P'.nm.length by omega]
 refine qbx (fun i σ H'=>∃w1:Option V,σ=[some (.ref a),some (.ref p),some (.ref P'.ln),some (.ref lw),some (.ref t),w1,some (.ref to),some (.ref ke),w2,some (.ref ls)]/\qb0 HG H') ⟨_,rfl,qb0.refl _⟩ ?_ ?_
 .rintro i σ H' hi ⟨w1,rfl,sm⟩
  have st':=stG.same sm
  obtain⟨qa,kq,fq,x1,x2,x3,x4,x5⟩:=hsum i hi
  obtain⟨e,ae,hek,_⟩:=g.pl.at hi
  have ew:e.x.w=wtF wts i:=stG.wt i e hek
  have xn:=qez hi
  have xw:=wtF_at (ws:=wts) (k:=i) (by omega)
  rw [show (0:Int)+(i:Int)=(i:Int) by omega]
  generalize hiI:((i:Nat):Int)=iI at*
  walk_at "g"
  refine⟨t,p,ls,S',P',i,qs,qa,kq,fq,by rw [hiI],f,st'.pa,st'.tr,g,hi,SqL.of (sm _ _ els),x1,sm _ _ x2,x3,x4,x5,fun H6 s6=>?_⟩
  have st6:=st'.same s6
  have en6:=st6.pa.n
  have ew6:=st6.wq
  obtain⟨dx6,ht6⟩:=id st6.tr.1
  walk_at "g"
  refine qau (SqL.of en6) xn ?_
  walk_at "g"
  refine⟨t,S',.str (nmF P' i),rfl,st6.tr,.inl ⟨_,rfl⟩,fun e1 he1=>?_,fun hn=>?_⟩
  rotate_left
  .rw [show who S' (.str (nmF P' i))=some e from ae] at hn;cases hn
  have ee:e=e1:=Option.some.inj (ae.symm.trans he1)
  subst ee
  rw [ew]
  walk_at "g"
  refine qau (SqL.of ew6) xw ?_
  walk_at "g"
  exact⟨_,rfl,sm.trans s6⟩
 rintro σ HK ⟨w1,rfl,sK⟩
 have stK:=stG.same sK
 have enK:=stK.pa.n
 obtain⟨dxK,htK⟩:=id stK.tr.1
 have o1:=(stK.ob (to,.lst [V.ref l1,V.ref l2,V.ref l3]) (by rw [<-hob];simp)).1
 have o2:=(stK.ob (ke,.lst [V.ref c1,V.ref c2,V.ref c3]) (by rw [<-hob];simp)).1
 have o3:=(stK.ob (l1,.lst (z1.map V.str)) (by rw [<-hob];simp)).1
 have o4:=(stK.ob (l2,.lst (z2.map V.str)) (by rw [<-hob];simp)).1
 have o5:=(stK.ob (l3,.dK k3) (by rw [<-hob];simp)).1
 have o6:=(stK.ob (c1,.lst (z1.map V.str)) (by rw [<-hob];simp)).1
 have o7:=(stK.ob (c2,.lst (z2.map V.str)) (by rw [<-hob];simp)).1
 have o8:=(stK.ob (c3,.dK k3) (by rw [<-hob];simp)).1
 have q1:=qc8 (K:=K) (n:=0) (SqL.of o3) (SqL.of o6) nc1
 have q2:=qc8 (K:=K) (n:=0) (SqL.of o4) (SqL.of o7) nc2
 have q3:=deq_ad (K:=K) (n:=0) o5 o8 nc3 hA3 hA3
 rw [decide_eq_true rfl] at q1 q2
 walk_at "g"
 refine r_eqD (n:=2) nke (by decide) (deq_list (n:=1) (SqL.of o1) (SqL.of o2) nke ⟨q1,q2,q3,trivial⟩) ?_
 clear o1 o2 o3 o4 o5 o6 o7 o8 q1 q2 q3
 walk_at "g"
 refine⟨t,S',rfl,stK.tr,fun m1 ss hm1 hp hs=>?_⟩
 have s2:=qa7 hm1 (.lst (ss.map V.str))
 have em1:upd HK m1 (.lst (ss.map V.str)) m1=some (.lst (ss.map V.str)):=qa1
 generalize upd HK m1 (.lst (ss.map V.str))=HL at*
 have enL:=s2 _ _ enK
 walk_at "g"
 refine qfw (SqL.of enL) (by omega) fun m2 ss2 hm2 hp2 hs2=>?_
 have e12:ss=ss2:=by
  rw [g.names] at hp
  exact sort_eq (hp.trans hp2.symm) hs hs2
 have ne12:m1≠m2:=qa4 em1 hm2
 refine r_eqD (n:=1) ne12 (by decide) (qc8 (n:=0) (SqL.of (qad em1 hm2)) (SqL.of qa1) ne12) ?_
 rw [decide_eq_true e12]
 exact q _
structure Fz (K:Frag) (n:Str) (s:Stmt) (f:Addr) (fd:FuncData):Prop where
 a:nsIn K mainGlobals n=some (some (.ref f))
 F:Fun K n n s f fd
structure Fm (K:Frag) (c:Addr) (n q:Str) (s:Stmt) (f:Addr) (fd:FuncData):Prop where
 a:PySem.W.findIn K (.ref c) n=some (some (.ref f))
 F:Fun K n q s f fd
theorem Fz.m {K:Frag} {n:Str} {s:Stmt} {f:Addr} {fd:FuncData} {h:Heap} {mg:Str->Option Value} (g:Fz K n s f fd) (X:K.In h) (G:h.Ns mainGlobals mg):mg n=some (.ref f):=PySem.W.mg_of X G g.a
theorem ln1 {p:List Value->Prop} (h:∀x0:Value,p [x0]) (us:List Value) (e:us.length=1):p us:=by
 match us,e with
 | [x0],_=>exact h x0
theorem ln2 {p:List Value->Prop} (h:∀x0 x1:Value,p [x0,x1]) (us:List Value) (e:us.length=2):p us:=by
 match us,e with
 | [x0,x1],_=>exact h x0 x1
theorem ln3 {p:List Value->Prop} (h:∀x0 x1 x2:Value,p [x0,x1,x2]) (us:List Value) (e:us.length=3):p us:=by
 match us,e with
 | [x0,x1,x2],_=>exact h x0 x1 x2
theorem ln4 {p:List Value->Prop} (h:∀x0 x1 x2 x3:Value,p [x0,x1,x2,x3]) (us:List Value) (e:us.length=4):p us:=by
 match us,e with
 | [x0,x1,x2,x3],_=>exact h x0 x1 x2 x3
theorem ln5 {p:List Value->Prop} (h:∀x0 x1 x2 x3 x4:Value,p [x0,x1,x2,x3,x4]) (us:List Value) (e:us.length=5):p us:=by
 match us,e with
 | [x0,x1,x2,x3,x4],_=>exact h x0 x1 x2 x3 x4
theorem ln6 {p:List Value->Prop} (h:∀x0 x1 x2 x3 x4 x5:Value,p [x0,x1,x2,x3,x4,x5]) (us:List Value) (e:us.length=6):p us:=by
 match us,e with
 | [x0,x1,x2,x3,x4,x5],_=>exact h x0 x1 x2 x3 x4 x5
theorem txt_mk {K:Frag} {h:Heap} {mg:Str->Option Value} {fa:Addr} {f_z0 f_z1 f_z2 f_z3 f_z4 f_z5 f_z6 f_z7 f_z8 f_z9 f_z10 f_z11 f_z12 f_z13 f_z14 f_z15 f_z16 f_z17 f_z18 f_z19 f_z20 f_z21 f_z22 f_z23 f_z24 f_z25 f_z26 f_z27 f_z28 f_z29 f_z30 f_z31 f_z32 wag f_z34 f_z35 f_z36 f_z37 f_z38 f_z39 f_z40 f_z41 f_z42 f_z43 f_z44 f_z45 f_z46 f_z47 f_z48 f_z49 f_z50 f_z51 f_z52 f_z53 f_z54 w04 w01 w22 w4i w5l w0i w24 w06 w4h w2h w2g w37 w33:Addr} {d_z0 d_z1 d_z2 d_z3 d_z4 d_z5 d_z6 d_z7 d_z8 d_z9 d_z10 d_z11 d_z12 d_z13 d_z14 d_z15 d_z16 d_z17 d_z18 d_z19 d_z20 d_z21 d_z22 d_z23 d_z24 d_z25 d_z26 d_z27 d_z28 d_z29 d_z30 d_z31 d_z32 d_law d_z34 d_z37 d_z38 d_z39 d_z40 d_z41 d_z42 d_z43 d_z44 d_z45 d_z46 d_z47 d_z48 d_z49 d_z50 d_z51 d_z52 d_z53 d_z54:FuncData} (X:K.In h) (G:h.Ns mainGlobals mg) (hfa:mg "law" =some (.ref fa))
  (g_z0:Fz K "is_whole" s_is_whole f_z0 d_z0)
  (g_z1:Fz K "is_name" s_is_name f_z1 d_z1)
  (g_z2:Fz K "is_whole_from" s_is_whole_from f_z2 d_z2)
  (g_z3:Fz K "is_amount" s_is_amount f_z3 d_z3)
  (g_z4:Fz K "amounts_of" s_amounts_of f_z4 d_z4)
  (g_z5:Fz K "above_nought" s_above_nought f_z5 d_z5)
  (g_z6:Fz K "amount_of" s_amount_of f_z6 d_z6)
  (g_z7:Fz K "added" s_added f_z7 d_z7)
  (g_z8:Fz K "beyond" s_beyond f_z8 d_z8)
  (g_z9:Fz K "total_of" s_total_of f_z9 d_z9)
  (g_z10:Fz K "are_wares" s_are_wares f_z10 d_z10)
  (g_z11:Fz K "check_name" s_check_name f_z11 d_z11)
  (g_z12:Fz K "read_house" s_read_house f_z12 d_z12)
  (g_z13:Fz K "check_promises" s_check_promises f_z13 d_z13)
  (g_z14:Fz K "_law_cell_at" s_cell_at f_z14 d_z14)
  (g_z15:Fz K "_law_mixed" s_mixed f_z15 d_z15)
  (g_z16:Fz K "_law_name" s_name f_z16 d_z16)
  (g_z17:Fz K "_law_whole" s_whole f_z17 d_z17)
  (g_z18:Fz K "_law_alike" s_alike f_z18 d_z18)
  (g_z19:Fz K "_law_some" s_some f_z19 d_z19)
  (g_z20:Fz K "_law_elders" s_elders f_z20 d_z20)
  (g_z21:Fz K "_law_promises" s_promises f_z21 d_z21)
  (g_z22:Fz K "_law_sums" s_sums f_z22 d_z22)
  (g_z23:Fz K "_law_caps" s_caps f_z23 d_z23)
  (g_z24:Fz K "_law_plan" s_plan f_z24 d_z24)
  (g_z25:Fz K "_law_line" s_line f_z25 d_z25)
  (g_z26:Fz K "_law_wide" s_wide f_z26 d_z26)
  (g_z27:Fz K "_law_beneath" s_beneath f_z27 d_z27)
  (g_z28:Fz K "_law_kids" s_kids f_z28 d_z28)
  (g_z29:Fz K "_law_weighted" s_weighted f_z29 d_z29)
  (g_z30:Fz K "_law_stands" s_stands f_z30 d_z30)
  (g_z31:Fz K "_law_moved" s_moved f_z31 d_z31)
  (g_z32:Fz K "_law_house" s_house f_z32 d_z32)
  (g_law:Fz K "law" s_law wag d_law)
  (g_z34:Fm K w04 "__init__" "House.__init__" s_House_init f_z34 d_z34)
  {od_z35 an_z35:Option Addr} {sl_z35:Array (Option Value)} {oc_z35 kV_z35 dc_z35 pm_z35 cd_z35 ct_z35 w0w:Value} {t_z35:Addr}
  (a_z35:PySem.W.findIn K (.ref w01) "__init__" =some (some (.ref f_z35))) (l_z35:K.lookup f_z35=some ⟨oc_z35,od_z35,.func (fnOf "__init__" "Tree.__init__" (qcd s_Tree_init) (qbw s_Tree_init) (qaa s_Tree_init) (.ref t_z35) kV_z35 dc_z35 pm_z35 an_z35 cd_z35 ct_z35),sl_z35⟩) (c_z35:codeIn K cd_z35 "Tree.__init__" =true) (k_z35:keepIn K (.ref f_z35)=true)
  {ob_z35:Obj} {nn_z35:Nat} (tt_z35:K.lookup t_z35=some ob_z35) (td_z35:ob_z35.data=.seq #[w0w] nn_z35) (rd_z35:qb5 [.int 1] [w0w])
  {od_z36 an_z36:Option Addr} {sl_z36:Array (Option Value)} {oc_z36 kV_z36 dc_z36 pm_z36 cd_z36 ct_z36 w0o:Value} {t_z36:Addr}
  (a_z36:PySem.W.findIn K (.ref w01) "found" =some (some (.ref f_z36))) (l_z36:K.lookup f_z36=some ⟨oc_z36,od_z36,.func (fnOf "found" "Tree.found" (qcd s_Tree_found) (qbw s_Tree_found) (qaa s_Tree_found) (.ref t_z36) kV_z36 dc_z36 pm_z36 an_z36 cd_z36 ct_z36),sl_z36⟩) (c_z36:codeIn K cd_z36 "Tree.found" =true) (k_z36:keepIn K (.ref f_z36)=true)
  {ob_z36:Obj} {nn_z36:Nat} (tt_z36:K.lookup t_z36=some ob_z36) (td_z36:ob_z36.data=.seq #[w0o] nn_z36) (rd_z36:qb5 [.int 1] [w0o])
  (g_z37:Fm K w01 "wares" "Tree.wares" s_Tree_wares f_z37 d_z37)
  (g_z38:Fm K w01 "names" "Tree.names" s_Tree_names f_z38 d_z38)
  (g_z39:Fm K w01 "has" "Tree.has" s_Tree_has f_z39 d_z39)
  (g_z40:Fm K w01 "check_house" "Tree.check_house" s_Tree_check_house f_z40 d_z40)
  (g_z41:Fm K w01 "house_of" "Tree.house_of" s_Tree_house_of f_z41 d_z41)
  (g_z42:Fm K w01 "elder_of" "Tree.elder_of" s_Tree_elder_of f_z42 d_z42)
  (g_z43:Fm K w01 "promise_of" "Tree.promise_of" s_Tree_promise_of f_z43 d_z43)
  (g_z44:Fm K w01 "cap_of" "Tree.cap_of" s_Tree_cap_of f_z44 d_z44)
  (g_z45:Fm K w01 "weight_of" "Tree.weight_of" s_Tree_weight_of f_z45 d_z45)
  (g_z46:Fm K w01 "kids" "Tree.kids" s_Tree_kids f_z46 d_z46)
  (g_z47:Fm K w01 "line" "Tree.line" s_Tree_line f_z47 d_z47)
  (g_z48:Fm K w01 "beneath" "Tree.beneath" s_Tree_beneath f_z48 d_z48)
  (g_z49:Fm K w01 "promised_beneath" "Tree.promised_beneath" s_Tree_promised_beneath f_z49 d_z49)
  (g_z50:Fm K w01 "floors" "Tree.floors" s_Tree_floors f_z50 d_z50)
  (g_z51:Fm K w01 "check_more" "Tree.check_more" s_Tree_check_more f_z51 d_z51)
  (g_z52:Fm K w01 "check_move" "Tree.check_move" s_Tree_check_move f_z52 d_z52)
  (g_z53:Fm K w01 "move" "Tree.move" s_Tree_move f_z53 d_z53)
  (g_z54:Fm K w06 "__init__" "NoPromise.__init__" s_i_NoPromise f_z54 d_z54)
  (qi_z54:initIn K w06 f_z54=true) (hi_z54:isFn K (.ref f_z54)=true)
  (a_House:nsIn K mainGlobals "House" =some (some (.ref w04)))
  (a_Tree:nsIn K mainGlobals "Tree" =some (some (.ref w01)))
  (a_TreeError:nsIn K mainGlobals "TreeError" =some (some (.ref w22)))
  (a_NoName:nsIn K mainGlobals "NoName" =some (some (.ref w4i)))
  (a_Taken:nsIn K mainGlobals "Taken" =some (some (.ref w5l)))
  (a_NoHouse:nsIn K mainGlobals "NoHouse" =some (some (.ref w0i)))
  (a_NoMove:nsIn K mainGlobals "NoMove" =some (some (.ref w24)))
  (a_NoPromise:nsIn K mainGlobals "NoPromise" =some (some (.ref w06)))
  (a_NoWare:nsIn K mainGlobals "NoWare" =some (some (.ref w4h)))
  (a_NoAmount:nsIn K mainGlobals "NoAmount" =some (some (.ref w2h)))
  (a_NoNumber:nsIn K mainGlobals "NoNumber" =some (some (.ref w2g)))
  (a_TooMany:nsIn K mainGlobals "TooMany" =some (some (.ref w37)))
  (a_TooDeep:nsIn K mainGlobals "TooDeep" =some (some (.ref w33)))
  {w2z:Value} (a_LETTERS:nsIn K mainGlobals "LETTERS" =some (some w2z)) (w46:qb7 (.str "abcdefghijklmnopqrstuvwxyz") w2z)
  {w11:Value} (a_LONGEST_NAME:nsIn K mainGlobals "LONGEST_NAME" =some (some w11)) (w1c:qb7 (.int 8) w11)
  {w1j:Value} (a_MOST_WARES:nsIn K mainGlobals "MOST_WARES" =some (some w1j)) (w26:qb7 (.int 6) w1j)
  {w1a:Value} (a_MOST_HOUSES:nsIn K mainGlobals "MOST_HOUSES" =some (some w1a)) (w1n:qb7 (.int 40) w1a)
  {w15:Value} (a_LONGEST_LINE:nsIn K mainGlobals "LONGEST_LINE" =some (some w15)) (w12:qb7 (.int 12) w15)
  {w0l:Value} (a_GREATEST_WEIGHT:nsIn K mainGlobals "GREATEST_WEIGHT" =some (some w0l)) (w0r:qb7 (.int 1000) w0l)
  (q_NoHouse:excIn K w0i [.type "ValueError",.type "Exception",.type "BaseException",.type "object"] "ValueError.__new__" =true)
  (q_NoAmount:excIn K w2h [.type "ValueError",.type "Exception",.type "BaseException",.type "object"] "ValueError.__new__" =true)
  (q_NoWare:excIn K w4h [.type "ValueError",.type "Exception",.type "BaseException",.type "object"] "ValueError.__new__" =true)
  (q_NoName:excIn K w4i [.type "ValueError",.type "Exception",.type "BaseException",.type "object"] "ValueError.__new__" =true)
  (q_NoNumber:excIn K w2g [.type "ValueError",.type "Exception",.type "BaseException",.type "object"] "ValueError.__new__" =true)
  (q_Taken:excIn K w5l [.type "ValueError",.type "Exception",.type "BaseException",.type "object"] "ValueError.__new__" =true)
  (q_TooMany:excIn K w37 [.type "ValueError",.type "Exception",.type "BaseException",.type "object"] "ValueError.__new__" =true)
  (q_TooDeep:excIn K w33 [.type "ValueError",.type "Exception",.type "BaseException",.type "object"] "ValueError.__new__" =true)
  (q_NoMove:excIn K w24 [.type "ValueError",.type "Exception",.type "BaseException",.type "object"] "ValueError.__new__" =true)
  (w0z:Cls K w04)
  (w00:Cls K w01)
  (w5e:Mk K w04 f_z34)
  (w6n:Mk K w01 f_z35)
  (w1k:My.XAt K w06)
  (w54:My.XAt K w24)
  (w2k:My.XBase K w22)
  (web:PySem.W.findIn K (.ref w06) "house" =some none)
  (wel:PySem.W.findIn K (.ref w06) "ware" =some none)
  (w1q:Meth K w01 "found" f_z36)
  (w2f:Meth K w01 "wares" f_z37)
  (w1t:Meth K w01 "names" f_z38)
  (w21:Meth K w01 "has" f_z39)
  (w09:Meth K w01 "check_house" f_z40)
  (w0d:Meth K w01 "house_of" f_z41)
  (w05:Meth K w01 "elder_of" f_z42)
  (w1b:Meth K w01 "cap_of" f_z44)
  (w0p:Meth K w01 "promise_of" f_z43)
  (w0u:Meth K w01 "weight_of" f_z45)
  (w19:Meth K w01 "kids" f_z46)
  (w0e:Meth K w01 "line" f_z47)
  (w07:Meth K w01 "beneath" f_z48)
  (w02:Meth K w01 "promised_beneath" f_z49)
  (w1d:Meth K w01 "floors" f_z50)
  (w0g:Meth K w01 "check_more" f_z51)
  (w0f:Meth K w01 "check_move" f_z52)
  (w25:Meth K w01 "move" f_z53)
  (w0k:PySem.W.findIn K (.ref w04) "elder" =some none)
  (w08:PySem.W.findIn K (.ref w04) "promise" =some none)
  (w0n:PySem.W.findIn K (.ref w04) "cap" =some none)
  (w0s:PySem.W.findIn K (.ref w04) "weight" =some none)
  (w0c:PySem.W.findIn K (.ref w01) "sorted_wares" =some none)
  (w03:PySem.W.findIn K (.ref w01) "houses" =some none)
  (y_all:nsIn K mainGlobals "all" =some none)
  (y_bool:nsIn K mainGlobals "bool" =some none)
  (y_dict:nsIn K mainGlobals "dict" =some none)
  (y_int:nsIn K mainGlobals "int" =some none)
  (y_isinstance:nsIn K mainGlobals "isinstance" =some none)
  (y_len:nsIn K mainGlobals "len" =some none)
  (y_list:nsIn K mainGlobals "list" =some none)
  (y_max:nsIn K mainGlobals "max" =some none)
  (y_min:nsIn K mainGlobals "min" =some none)
  (y_range:nsIn K mainGlobals "range" =some none)
  (y_reversed:nsIn K mainGlobals "reversed" =some none)
  (y_set:nsIn K mainGlobals "set" =some none)
  (y_sorted:nsIn K mainGlobals "sorted" =some none)
  (y_str:nsIn K mainGlobals "str" =some none)
  (y_tuple:nsIn K mainGlobals "tuple" =some none)
  :∃d:Ad,Tx K mg d/\fa=d.wag/\∀(s:Shared) (v:Value),BindsTo s d.w96 ⟨[v], []⟩ [("_law_script",v)]:=by
 have e:=hfa.symm.trans (g_law.m X G)
 cases e
 have Fl:=g_law.F
 obtain⟨_,_,_,_,_,_,_,_,_,rfl,_,_⟩:=Fl.ex
 have F_z35:=funD_mk (st:=s_Tree_init) l_z35 c_z35 k_z35 tt_z35 td_z35
 have b_z35:qao K _ ["self","wares","name","promise","cap","weight"] []:=F_z35.binds (ps:=["self","wares","name","promise","cap","weight"]) fun _ _ _ _ _ _ us hl=>by have e:us.length=6:=(by simpa using hl);clear hl;revert us e;exact ln6 fun _ _ _ _ _ _=>by first|exact .inl rfl|exact .inr ⟨_,rfl,rfl⟩
 have b1_z35:qao K _ ["self","wares","name","promise","cap","weight"] [w0w]:=F_z35.binds (ps:=["self","wares","name","promise","cap","weight"]) fun _ _ _ _ _ _ us hl=>by have e:us.length=5:=(by simpa using hl);clear hl;revert us e;exact ln5 fun _ _ _ _ _=>by first|exact .inl rfl|exact .inr ⟨_,rfl,rfl⟩
 have F_z36:=funD_mk (st:=s_Tree_found) l_z36 c_z36 k_z36 tt_z36 td_z36
 have b_z36:qao K _ ["self","name","elder","promise","cap","weight"] []:=F_z36.binds (ps:=["self","name","elder","promise","cap","weight"]) fun _ _ _ _ _ _ us hl=>by have e:us.length=6:=(by simpa using hl);clear hl;revert us e;exact ln6 fun _ _ _ _ _ _=>by first|exact .inl rfl|exact .inr ⟨_,rfl,rfl⟩
 have b1_z36:qao K _ ["self","name","elder","promise","cap","weight"] [w0o]:=F_z36.binds (ps:=["self","name","elder","promise","cap","weight"]) fun _ _ _ _ _ _ us hl=>by have e:us.length=5:=(by simpa using hl);clear hl;revert us e;exact ln5 fun _ _ _ _ _=>by first|exact .inl rfl|exact .inr ⟨_,rfl,rfl⟩
 refine⟨⟨_,_,_,_,_,_,_,_,_,_,_,_,_,_,_,_,_,_,_,_,_,_,_,_,_,_,_,_,_,_,_,_,_,_,_,_,_,_,_,_,_,_,_,_,_,_,_,_,_,_,_,_,_,_,_,_,_,_,_,_,_,_,_,_,_,_,_,_,_,_,_,_,t_z35,w0w,_,_,t_z36,w0o,_,_,_,_,_,_,_,_,_,_,_,_,_,_,_,_,_,_,_,_,_,_,_,_,_,_,_,_,_,_,_,_,_,_,_,_,w04,w01,w22,w4i,w5l,w0i,w24,w06,w4h,w2h,w2g,w37,w33,w2z,w11,w1j,w1a,w15,w0l⟩,⟨g_z0.F,g_z0.m X G,g_z0.F.binds fun _ _ _ _ _ _=>ln1 fun _=>rfl,g_z1.F,g_z1.m X G,g_z1.F.binds fun _ _ _ _ _ _=>ln1 fun _=>rfl,g_z2.F,g_z2.m X G,g_z2.F.binds fun _ _ _ _ _ _=>ln3 fun _ _ _=>rfl,g_z3.F,g_z3.m X G,g_z3.F.binds fun _ _ _ _ _ _=>ln1 fun _=>rfl,g_z4.F,g_z4.m X G,g_z4.F.binds fun _ _ _ _ _ _=>ln2 fun _ _=>rfl,g_z5.F,g_z5.m X G,g_z5.F.binds fun _ _ _ _ _ _=>ln1 fun _=>rfl,g_z6.F,g_z6.m X G,g_z6.F.binds fun _ _ _ _ _ _=>ln2 fun _ _=>rfl,g_z7.F,g_z7.m X G,g_z7.F.binds fun _ _ _ _ _ _=>ln2 fun _ _=>rfl,g_z8.F,g_z8.m X G,g_z8.F.binds fun _ _ _ _ _ _=>ln2 fun _ _=>rfl,g_z9.F,g_z9.m X G,g_z9.F.binds fun _ _ _ _ _ _=>ln1 fun _=>rfl,g_z10.F,g_z10.m X G,g_z10.F.binds fun _ _ _ _ _ _=>ln1 fun _=>rfl,g_z11.F,g_z11.m X G,g_z11.F.binds fun _ _ _ _ _ _=>ln1 fun _=>rfl,g_z12.F,g_z12.m X G,g_z12.F.binds fun _ _ _ _ _ _=>ln5 fun _ _ _ _ _=>rfl,g_z13.F,g_z13.m X G,g_z13.F.binds fun _ _ _ _ _ _=>ln3 fun _ _ _=>rfl,g_z14.F,g_z14.m X G,g_z14.F.binds fun _ _ _ _ _ _=>ln2 fun _ _=>rfl,g_z15.F,g_z15.m X G,g_z15.F.binds fun _ _ _ _ _ _=>ln2 fun _ _=>rfl,g_z16.F,g_z16.m X G,g_z16.F.binds fun _ _ _ _ _ _=>ln2 fun _ _=>rfl,g_z17.F,g_z17.m X G,g_z17.F.binds fun _ _ _ _ _ _=>ln1 fun _=>rfl,g_z18.F,g_z18.m X G,g_z18.F.binds fun _ _ _ _ _ _=>ln2 fun _ _=>rfl,g_z19.F,g_z19.m X G,g_z19.F.binds fun _ _ _ _ _ _=>ln1 fun _=>rfl,g_z20.F,g_z20.m X G,g_z20.F.binds fun _ _ _ _ _ _=>ln2 fun _ _=>rfl,g_z21.F,g_z21.m X G,g_z21.F.binds fun _ _ _ _ _ _=>ln3 fun _ _ _=>rfl,g_z22.F,g_z22.m X G,g_z22.F.binds fun _ _ _ _ _ _=>ln2 fun _ _=>rfl,g_z23.F,g_z23.m X G,g_z23.F.binds fun _ _ _ _ _ _=>ln4 fun _ _ _ _=>rfl,g_z24.F,g_z24.m X G,g_z24.F.binds fun _ _ _ _ _ _=>ln3 fun _ _ _=>rfl,g_z25.F,g_z25.m X G,g_z25.F.binds fun _ _ _ _ _ _=>ln2 fun _ _=>rfl,g_z26.F,g_z26.m X G,g_z26.F.binds fun _ _ _ _ _ _=>ln1 fun _=>rfl,g_z27.F,g_z27.m X G,g_z27.F.binds fun _ _ _ _ _ _=>ln3 fun _ _ _=>rfl,g_z28.F,g_z28.m X G,g_z28.F.binds fun _ _ _ _ _ _=>ln2 fun _ _=>rfl,g_z29.F,g_z29.m X G,g_z29.F.binds fun _ _ _ _ _ _=>ln2 fun _ _=>rfl,g_z30.F,g_z30.m X G,g_z30.F.binds fun _ _ _ _ _ _=>ln3 fun _ _ _=>rfl,g_z31.F,g_z31.m X G,g_z31.F.binds fun _ _ _ _ _ _=>ln3 fun _ _ _=>rfl,g_z32.F,g_z32.m X G,g_z32.F.binds fun _ _ _ _ _ _=>ln4 fun _ _ _ _=>rfl,Fl,g_law.m X G,g_z34.F,g_z34.F.binds fun _ _ _ _ _ _=>ln5 fun _ _ _ _ _=>rfl,F_z35,b_z35,b1_z35,rd_z35,F_z36,b_z36,b1_z36,rd_z36,g_z37.F,g_z37.F.binds fun _ _ _ _ _ _=>ln1 fun _=>rfl,g_z38.F,g_z38.F.binds fun _ _ _ _ _ _=>ln1 fun _=>rfl,g_z39.F,g_z39.F.binds fun _ _ _ _ _ _=>ln2 fun _ _=>rfl,g_z40.F,g_z40.F.binds fun _ _ _ _ _ _=>ln2 fun _ _=>rfl,g_z41.F,g_z41.F.binds fun _ _ _ _ _ _=>ln2 fun _ _=>rfl,g_z42.F,g_z42.F.binds fun _ _ _ _ _ _=>ln2 fun _ _=>rfl,g_z43.F,g_z43.F.binds fun _ _ _ _ _ _=>ln2 fun _ _=>rfl,g_z44.F,g_z44.F.binds fun _ _ _ _ _ _=>ln2 fun _ _=>rfl,g_z45.F,g_z45.F.binds fun _ _ _ _ _ _=>ln2 fun _ _=>rfl,g_z46.F,g_z46.F.binds fun _ _ _ _ _ _=>ln2 fun _ _=>rfl,g_z47.F,g_z47.F.binds fun _ _ _ _ _ _=>ln2 fun _ _=>rfl,g_z48.F,g_z48.F.binds fun _ _ _ _ _ _=>ln2 fun _ _=>rfl,g_z49.F,g_z49.F.binds fun _ _ _ _ _ _=>ln2 fun _ _=>rfl,g_z50.F,g_z50.F.binds fun _ _ _ _ _ _=>ln2 fun _ _=>rfl,g_z51.F,g_z51.F.binds fun _ _ _ _ _ _=>ln3 fun _ _ _=>rfl,g_z52.F,g_z52.F.binds fun _ _ _ _ _ _=>ln3 fun _ _ _=>rfl,g_z53.F,g_z53.F.binds fun _ _ _ _ _ _=>ln3 fun _ _ _=>rfl,g_z54.F,xcli_of qi_z54 hi_z54,g_z54.F.binds fun _ _ _ _ _ _=>ln3 fun _ _ _=>rfl,PySem.W.mg_of X G a_House,PySem.W.mg_of X G a_Tree,PySem.W.mg_of X G a_TreeError,PySem.W.mg_of X G a_NoName,PySem.W.mg_of X G a_Taken,PySem.W.mg_of X G a_NoHouse,PySem.W.mg_of X G a_NoMove,PySem.W.mg_of X G a_NoPromise,PySem.W.mg_of X G a_NoWare,PySem.W.mg_of X G a_NoAmount,PySem.W.mg_of X G a_NoNumber,PySem.W.mg_of X G a_TooMany,PySem.W.mg_of X G a_TooDeep,PySem.W.mg_of X G a_LETTERS,w46,PySem.W.mg_of X G a_LONGEST_NAME,w1c,PySem.W.mg_of X G a_MOST_WARES,w26,PySem.W.mg_of X G a_MOST_HOUSES,w1n,PySem.W.mg_of X G a_LONGEST_LINE,w12,PySem.W.mg_of X G a_GREATEST_WEIGHT,w0r,PySem.W.mg_none_of X G y_all,PySem.W.mg_none_of X G y_bool,PySem.W.mg_none_of X G y_dict,PySem.W.mg_none_of X G y_int,PySem.W.mg_none_of X G y_isinstance,PySem.W.mg_none_of X G y_len,PySem.W.mg_none_of X G y_list,PySem.W.mg_none_of X G y_max,PySem.W.mg_none_of X G y_min,PySem.W.mg_none_of X G y_range,PySem.W.mg_none_of X G y_reversed,PySem.W.mg_none_of X G y_set,PySem.W.mg_none_of X G y_sorted,PySem.W.mg_none_of X G y_str,PySem.W.mg_none_of X G y_tuple,w0z,w00,w5e,w6n,w1k,w54,w2k,web,wel,w1q,w2f,w1t,w21,w09,w0d,w05,w1b,w0p,w0u,w19,w0e,w07,w02,w1d,w0g,w0f,w25,w0k,w08,w0n,w0s,w0c,w03,qcs q_NoHouse,qcs q_NoAmount,qcs q_NoWare,qcs q_NoName,qcs q_NoNumber,qcs q_Taken,qcs q_TooMany,qcs q_TooDeep,qcs q_NoMove⟩,rfl,fun s v=> .of_eq rfl⟩
theorem walk {l:PySem.W.OpenLaw} {q:Program} {loose:List Str} {XP:(Str->Option Value)->Heap->Prop} {YP:World->Heap->Prop} {e:DefRec} {K:Params->Frag} (hn:l.most=some 63) (hdf:e.params.defaults=[]) (hlaw:e.name= "law")
  (hY:∀(w:World) (h:Heap),YP w h->(K w.params).In h)
  (F:∀(w:World) (mg:Str->Option Value) (fa:Addr) (h:Heap),(K w.params).In h->h.Ns mainGlobals mg->mg "law" =some (.ref fa)->∃d:Ad,Tx (K w.params) mg d/\fa=d.wag/\∀(s:Shared) (v:Value),BindsTo s d.w96 ⟨[v], []⟩ [("_law_script",v)]):
  PySem.W.WalkO q loose XP YP l.row.toRowW e [] (fun f vs=>PySem.call f vs):=by
 refine L2.walk_of (n:=63) (k:=23) (x:="_law_script") (CX:=fun _=>CX0) (sp:=fun w=>sp_law0 (K w.params)) hn (by decide) hdf ⟨rfl,by decide,by decide⟩ hY (fun w mg fa h KX G hm=>?_) (fun _ _ a ns hl _ hS=>⟨a,ns,rfl,hS,hl,fun _=>rfl⟩) fun _ _ _ _ _ z=>z
 rw [hlaw] at hm
 obtain⟨d,T,rfl,hb⟩:=F w mg fa h KX G hm
 exact⟨d.w96,hb,fun base _ _=>(ok_law (P:=l.prog) (w:=w) (base:=base) T).imp fun vs H Q E q=>q⟩
end Our
namespace PySem.W.Fast
def tw4679109377025811028:=0
def tw5271088624441597801:=0
def tw16617460327068671484:=0
def tw10917542522358870602:=0
def tw10407927417837537685:=0
def tw16454175537528064708:=0
def tw8474096244802773653:=0
def tw9850016050877570708:=0
def tw4514324083331853450:=0
def tw4180147825644450519:=0
def tw15312086532403808773:=0
def tw12335371796267060553:=0
def tw4497792222522542957:=0
def tw17887075062799893818:=0
def tw10777900542357615843:=0
def tw17026197895829131890:=0
def tw13442382580025426552:=0
def tw14261094508140352787:=0
def tw2390957440932171863:=0
def tw17344656981464377887:=0
def tw3599815827054373288:=0
def tw17231973740830945495:=0
def tw17701196562168197294:=0
def tw14353041293892609647:=0
def tw3915808602865543204:=0
def tw5927505617473584851:=0
def tw5738400550421907839:=0
def tw12452569613433148472:=0
def tw15036663786586182379:=0
def tw6571570810566968418:=0
def tw12593382790404746980:=0
def tw4300602588153927095:=0
def tw13285087175207189995:=0
def tw3634408303266739014:=0
def tw9418080449923012086:=0
def tw17309212130070432881:=0
def tw16367925924820488553:=0
def tw17808792385483265069:=0
def tw5482389066924533218:=0
def tw14384906498279603887:=0
def tw5939551362295616655:=0
def tw8249469080909082394:=0
def tw1969231386579912126:=0
def tw18071028776256165089:=0
def tw12767429632447769386:=0
def tw3497688620271979655:=0
def tw297637453411702587:=0
def tw13412739949247096142:=0
def tw276952122086569201:=0
def tw4944808439538312784:=0
def tw7031449773835568667:=0
def tw1168071413924564795:=0
def tw11280809195133970648:=0
def tw2908477552825686212:=0
def tw10341007126955761963:=0
def tw15906251377097227816:=0
def tw16242749424638876838:=0
def tw14074956758678294231:=0
def tw1008148686659855189:=0
def tw6068175210010544212:=0
def tw7644117057759686537:=0
def tw16348589217377055348:=0
def tw6692554064014507841:=0
def tw4485674724740157178:=0
def tw16922653575993826507:=0
def tw4441381821970953471:=0
def tw15268732171125440538:=0
def tw10892386219345914022:=0
def tw870127472317713641:=0
def tw11071398643657844985:=0
def tw4581784676075381727:=0
def tw293039532073289472:=0
def tw16655801124204478363:=0
def tw17159701286639144498:=0
def tw14642663203301147254:=0
def tw16272625174363702281:=0
def tw10068682864585956911:=0
def tw12185583970577505659:=0
def tw787305776629605605:=0
def tw4694367971947130271:=0
def tw11142007610258238748:=0
def tw6609625122604734235:=0
def tw15471619234735274211:=0
def tw1894974081481992091:=0
def tw3888524890753269220:=0
def tw4410744036142618841:=0
def tw9704488514642862382:=0
def tw2150714682886249676:=0
def tw14450490975190745883:=0
def tw17675098204407331305:=0
def tw12704032963263073027:=0
def tw12670777385158113270:=0
def tw11608354172504887394:=0
def tw2800691521202820755:=0
def tw13006234308089416384:=0
def tw13792964821599908714:=0
def tw11299154611017326332:=0
def tw7465925907415829259:=0
def tw16144073757184484180:=0
def tw3484779421173000882:=0
def tw12421602993370690362:=0
def tw10290996182955485637:=0
def tw6026304051621915782:=0
def tw17194089225283062086:=0
def tw5885828190804810170:=0
def tw14030159248116746977:=0
def tw11061376364057356521:=0
def tw4271102450063530192:=0
def tw10508053649594815418:=0
def tw11127267097528701134:=0
def tw6174536395270465879:=0
def tw13163629691521300197:=0
def tw8468497660253593850:=0
def tw4479478857605677741:=0
def tw1660036038080293558:=0
def tw13156867065940593224:=0
def tw10300790373821738753:=0
def tw932815969992342872:=0
def tw15365145761458304964:=0
def tw17336252896373752600:=0
def tw13745506957069819143:=0
def tw10731383652632760579:=0
def tw5881634391013303579:=0
def tw478173669637850443:=0
def tw3264503153041199287:=0
def tw18392448325777222742:=0
def tw1170986169558225105:=0
def tw6991467582552409892:=0
def tw9755240382201976866:=0
def tw8479589130273792569:=0
def tw9121342227934332340:=0
def tw12702493349213260567:=0
def tw1048575589904897089:=0
def tw1042961367586851342:=0
def tw2418540928092430878:=0
def tw3805920052678524591:=0
def tw7416931314486718917:=0
def tw3670823504469972010:=0
def tw9893844640499617061:=0
def tw13674845275238393297:=0
def tw1957290932834087770:=0
def tw13829316566209923770:=0
def tw1890033243434596202:=0
def tw16348602481914381941:=0
def tw8043575925300856375:=0
def tw14807026490560929215:=0
def tw14415034267186154388:=0
def tw7581873875228843849:=0
def tw13047897974967823461:=0
def tw7603079387466271584:=0
def tw7570289917301375836:=0
def tw7526797679259793104:=0
def tw7958558790391153402:=0
def tw15462022606763956746:=0
def tw6894659815480937093:=0
def tw16278262333630636990:=0
def tw6109082132585598082:=0
def tw13402820133101157653:=0
def tw16731977865295197372:=0
def tw16852756968982637439:=0
def tw8844206502645554376:=0
def tw11301449136260699827:=0
def tw1551585921969806504:=0
def tw18434188175315941741:=0
def tw15141353379359468777:=0
def tw8540437500596169987:=0
def tw6927463228301710396:=0
def tw5030521120057466014:=0
def tw1689314450676901803:=0
def tw3468004921967734833:=0
def tw6421112926093114390:=0
def tw133054498107416908:=0
def tw12162337429661443277:=0
def tw5729133204046882841:=0
def tw7263030726710021542:=0
def tw6350634934133172765:=0
def tw3228763173875950300:=0
def tw2984334892371485054:=0
def tw11011036563216764476:=0
def tw987835851055164261:=0
def tw17076195441791431837:=0
def tw7406338934123335573:=0
def tw12639190327767049230:=0
def tw12426095474088222764:=0
def tw11296118448116568402:=0
def tw5394764437098168063:=0
def tw16809830569756694218:=0
def tw342527865528289292:=0
def tw15146182557675717408:=0
def tw15614555560248902553:=0
def tw15688858290037710287:=0
def tw13052398338627119660:=0
def tw3202129224607357701:=0
def tw15301636735389960406:=0
def tw4509944464728865233:=0
def tw7238754563831948919:=0
def tw14788938358279841494:=0
def tw9671109115856678634:=0
def tw15155013037424458860:=0
def tw17649785880841436473:=0
def tw16253803657878122759:=0
def tw8694175664994437068:=0
def tw9706407837119436142:=0
def tw8167765896556100587:=0
def tw7872062550192149635:=0
def tw7479998520890382653:=0
def tw6544893363747361917:=0
def tw17238529464658093657:=0
def tw13264607413810253882:=0
def tw11409959905343910522:=0
def tw312905774976785332:=0
def tw241883307718531155:=0
def tw7592717800317413685:=0
def tw17654502832926413866:=0
def tw18070198108326499948:=0
def tw14880707507046316878:=0
def tw17611608468766772538:=0
def tw14491726825315505759:=0
def tw12531494771887870852:=0
def tw17909808098598038952:=0
def tw8074406517103344308:=0
def tw16712489170304542404:=0
def tw11839873601440853944:=0
def tw845635854310968633:=0
def tw1735581244288783492:=0
def tw16715386545460367988:=0
def tw4972094379755536164:=0
def tw5989429143978492199:=0
def tw9578376794928384842:=0
def tw8899991790505238992:=0
def tw2513504211244757629:=0
def tw6306263279436083434:=0
def tw1441694008245290442:=0
def tw17326848019890692313:=0
def tw2293115486134066916:=0
def tw6131731899106014489:=0
def tw16564012068308961100:=0
def tw15464016990488170903:=0
def tw14021275452177899649:=0
def tw12892746394839127388:=0
def tw6517377953105520778:=0
def tw9379804161329100507:=0
def tw5365761250796713710:=0
def tw4509446021054015784:=0
def tw12657261293927169897:=0
def tw10914099814952220288:=0
def tw8743283402947273936:=0
def tw17398465007671672554:=0
def tw4777511672527016783:=0
def tw1996692124880193761:=0
def tw6142458141702572235:=0
def tw7290512872949756277:=0
def tw5924877683489580740:=0
def tw716637280638540509:=0
def tw10925972007251254371:=0
def tw5693539850462667517:=0
def tw14811268523761808764:=0
def tw11923440011370695026:=0
def tw7522182766676180822:=0
def tw5996728141685261506:=0
def tw2832654692918354609:=0
def tw16948568374684616440:=0
def tw6372283401408914211:=0
def tw2725988517876443457:=0
def tw4809017895535892072:=0
def tw12461669933266227136:=0
def tw8193981360784484292:=0
def tw7135060065944417313:=0
def tw11475706957029882150:=0
def tw773833194752067160:=0
def tw15964772784034964980:=0
def tw189844155707815764:=0
def tw13562690731033771661:=0
def tw2243055846277185961:=0
def tw5996432847161036224:=0
def tw1816030172029088919:=0
def tw5193449411041936483:=0
def tw3479043343228271482:=0
def tw1987947637647828416:=0
def tw16714155536110404884:=0
def tw14474264595195361798:=0
def tw12224091418097227953:=0
def tw11039862848928441301:=0
def tw8169807991179414486:=0
def tw13424680706901171936:=0
def tw748873678379863890:=0
def tw7301221724603398563:=0
def tw4416786808357974349:=0
def tw17517765361129912039:=0
def tw1004945183972682595:=0
def tw74794740763601197:=0
def tw17732545733198510912:=0
def tw13257228212359297340:=0
def tw2279283586368336960:=0
def tw17453321971171462038:=0
def tw391502052607891657:=0
def tw16199435120968235797:=0
def tw14563116640850459177:=0
def tw637869568685709241:=0
def tw2499244873851685391:=0
def tw5124161584988097757:=0
def tw3904806145008152351:=0
def tw1455104355505389881:=0
def tw2407088606826314682:=0
def tw16898132091558375360:=0
def tw16658508352024469343:=0
def tw9832943706124365818:=0
def tw3453931846757544749:=0
def tw2668995507533747990:=0
def tw10290310915585832393:=0
def tw4271828471629484822:=0
def tw11780587075841615745:=0
def tw7557652284102897117:=0
def tw6981362186298833223:=0
def tw5181889189392229817:=0
def tw17814119089487379711:=0
def tw16762847207215266515:=0
def tw3742267609487773432:=0
def tw14289918073135343965:=0
def tw5161950825053549273:=0
def tw13313817367772603978:=0
def tw18182927658850209235:=0
def tw14156762734933893356:=0
def tw9601411473070272774:=0
def tw905185602965057532:=0
def tw8924313377508953920:=0
def tw550089276615679700:=0
def tw1975899347028185267:=0
def tw3500549681555927964:=0
def tw1983596615965657044:=0
def tw6910845844140346534:=0
def tw4154161616278299822:=0
def tw13555846846440642057:=0
def tw17148164160899847129:=0
def tw11304333524316103898:=0
def tw3253629431180528019:=0
def tw2945129260146610337:=0
def tw13036365348297611386:=0
def tw4602695471207872824:=0
def tw2826348194915986650:=0
def tw14076046538162219276:=0
def tw11192485155870423621:=0
def tw353862915028384274:=0
def tw3077338603569334010:=0
def tw7881456592039759129:=0
def tw8549100917028719351:=0
def tw12596103723897548798:=0
def tw15955885922742057940:=0
def tw1096686367846882479:=0
def tw17639353521024236705:=0
def tw8730225023218443092:=0
def tw7788339593376966891:=0
def tw4095072574539329322:=0
def tw17729882567377888682:=0
def tw13637642499999640126:=0
def tw8287054553529194983:=0
def tw7069529381563724434:=0
def tw6888056419763988749:=0
def tw6591154987391013298:=0
def tw5526960937952792204:=0
def tw3894134751668532817:=0
def tw31567005890650132:=0
def tw17130509244561056418:=0
def tw16822977547899157839:=0
def tw14115361038840190843:=0
def tw13331469491021149011:=0
def tw11342286691892131522:=0
def tw17235547094148237454:=0
def tw11892562725773961513:=0
def tw10016099325383698056:=0
def tw909678696297914652:=0
def tw746936237692833718:=0
def tw7224407117396437908:=0
def tw5268334331126216311:=0
def tw18025969450024624020:=0
def tw16349882731476811584:=0
def tw16341932177909249837:=0
def tw15801728450033987469:=0
def tw13957091027079640411:=0
def tw12224837302205586741:=0
end PySem.W.Fast
open PySem PySem.W PyProof.Rows
set_option maxRecDepth 100000 in
set_option maxHeartbeats 0 in
theorem PySem.Challenge.cw_quotatree_k16_moves_done_holds : PySem.Challenge.rw_quotatree_k16_moves_done.Holds := by
 w_on;o_law;k_head;(case hw=>w_witness2)
 k_fill
 refine Our.walk (l:=PySem.Challenge.rw_quotatree_k16_moves_done) rfl rfl rfl (fun w h Y=>PySem.W.kIn_of Y) ?F
 case F=>
  intro w mg fa h KX G hmg
  refine' Our.txt_mk KX G hmg ?g_z0 ?g_z1 ?g_z2 ?g_z3 ?g_z4 ?g_z5 ?g_z6 ?g_z7 ?g_z8 ?g_z9 ?g_z10 ?g_z11 ?g_z12 ?g_z13 ?g_z14 ?g_z15 ?g_z16 ?g_z17 ?g_z18 ?g_z19 ?g_z20 ?g_z21 ?g_z22 ?g_z23 ?g_z24 ?g_z25 ?g_z26 ?g_z27 ?g_z28 ?g_z29 ?g_z30 ?g_z31 ?g_z32 ?g_law ?g_z34 ?a_z35 ?l_z35 ?c_z35 ?k_z35 ?tt_z35 ?td_z35 ?rd_z35 ?a_z36 ?l_z36 ?c_z36 ?k_z36 ?tt_z36 ?td_z36 ?rd_z36 ?g_z37 ?g_z38 ?g_z39 ?g_z40 ?g_z41 ?g_z42 ?g_z43 ?g_z44 ?g_z45 ?g_z46 ?g_z47 ?g_z48 ?g_z49 ?g_z50 ?g_z51 ?g_z52 ?g_z53 ?g_z54 ?qi_z54 ?hi_z54 ?a_House ?a_Tree ?a_TreeError ?a_NoName ?a_Taken ?a_NoHouse ?a_NoMove ?a_NoPromise ?a_NoWare ?a_NoAmount ?a_NoNumber ?a_TooMany ?a_TooDeep ?a_LETTERS ?w46 ?a_LONGEST_NAME ?w1c ?a_MOST_WARES ?w26 ?a_MOST_HOUSES ?w1n ?a_LONGEST_LINE ?w12 ?a_GREATEST_WEIGHT ?w0r ?q_NoHouse ?q_NoAmount ?q_NoWare ?q_NoName ?q_NoNumber ?q_Taken ?q_TooMany ?q_TooDeep ?q_NoMove ?w0z ?w00 ?w5e ?w6n ?w1k ?w54 ?w2k ?web ?wel ?w1q ?w2f ?w1t ?w21 ?w09 ?w0d ?w05 ?w1b ?w0p ?w0u ?w19 ?w0e ?w07 ?w02 ?w1d ?w0g ?w0f ?w25 ?w0k ?w08 ?w0n ?w0s ?w0c ?w03 ?y_all ?y_bool ?y_dict ?y_int ?y_isinstance ?y_len ?y_list ?y_max ?y_min ?y_range ?y_reversed ?y_set ?y_sorted ?y_str ?y_tuple
  (case a_House=>k_is)
  (case a_Tree=>k_is)
  (case a_TreeError=>k_is)
  (case a_NoName=>k_is)
  (case a_Taken=>k_is)
  (case a_NoHouse=>k_is)
  (case a_NoMove=>k_is)
  (case a_NoPromise=>k_is)
  (case a_NoWare=>k_is)
  (case a_NoAmount=>k_is)
  (case a_NoNumber=>k_is)
  (case a_TooMany=>k_is)
  (case a_TooDeep=>k_is)
  all_goals try (refine' ⟨?a,L2.fun_mk ?l ?c ?k⟩;(case a=>k_is);(case l=>k_is);(case c=>k_is);(case k=>k_is))
  (case a_z35=>k_is);(case l_z35=>k_is);(case c_z35=>k_is);(case k_z35=>k_is)
  (case tt_z35=>k_is);(case td_z35=>first|rfl|k_is);(case rd_z35=>first|exact .cons ⟨_,rfl⟩ .nil|exact .cons rfl .nil)
  (case a_z36=>k_is);(case l_z36=>k_is);(case c_z36=>k_is);(case k_z36=>k_is)
  (case tt_z36=>k_is);(case td_z36=>first|rfl|k_is);(case rd_z36=>first|exact .cons ⟨_,rfl⟩ .nil|exact .cons rfl .nil)
  (case qi_z54=>kernel_rfl);(case hi_z54=>k_is)
  (case a_LETTERS=>k_is)
  (case w46=>exact⟨_,rfl⟩)
  (case a_LONGEST_NAME=>k_is)
  (case w1c=>exact⟨_,rfl⟩)
  (case a_MOST_WARES=>k_is)
  (case w26=>exact⟨_,rfl⟩)
  (case a_MOST_HOUSES=>k_is)
  (case w1n=>exact⟨_,rfl⟩)
  (case a_LONGEST_LINE=>k_is)
  (case w12=>exact⟨_,rfl⟩)
  (case a_GREATEST_WEIGHT=>k_is)
  (case w0r=>exact⟨_,rfl⟩)
  (case q_NoHouse=>k_exc)
  (case q_NoAmount=>k_exc)
  (case q_NoWare=>k_exc)
  (case q_NoName=>k_exc)
  (case q_NoNumber=>k_exc)
  (case q_Taken=>k_exc)
  (case q_TooMany=>k_exc)
  (case q_TooDeep=>k_exc)
  (case q_NoMove=>k_exc)
  (case w0z=>(constructor <;> first|k_is|kernel_rfl))
  (case w00=>(constructor <;> first|k_is|kernel_rfl))
  (case w5e=>(constructor <;> first|k_is|kernel_rfl))
  (case w6n=>(constructor <;> first|k_is|kernel_rfl))
  (case w1k=>(constructor <;> first|k_is|kernel_rfl))
  (case w54=>(constructor <;> first|k_is|kernel_rfl))
  (case w2k=>(constructor <;> first|k_is|kernel_rfl))
  (case web=>k_is)
  (case wel=>k_is)
  (case w1q=>(constructor <;> first|k_is|kernel_rfl))
  (case w2f=>(constructor <;> first|k_is|kernel_rfl))
  (case w1t=>(constructor <;> first|k_is|kernel_rfl))
  (case w21=>(constructor <;> first|k_is|kernel_rfl))
  (case w09=>(constructor <;> first|k_is|kernel_rfl))
  (case w0d=>(constructor <;> first|k_is|kernel_rfl))
  (case w05=>(constructor <;> first|k_is|kernel_rfl))
  (case w1b=>(constructor <;> first|k_is|kernel_rfl))
  (case w0p=>(constructor <;> first|k_is|kernel_rfl))
  (case w0u=>(constructor <;> first|k_is|kernel_rfl))
  (case w19=>(constructor <;> first|k_is|kernel_rfl))
  (case w0e=>(constructor <;> first|k_is|kernel_rfl))
  (case w07=>(constructor <;> first|k_is|kernel_rfl))
  (case w02=>(constructor <;> first|k_is|kernel_rfl))
  (case w1d=>(constructor <;> first|k_is|kernel_rfl))
  (case w0g=>(constructor <;> first|k_is|kernel_rfl))
  (case w0f=>(constructor <;> first|k_is|kernel_rfl))
  (case w25=>(constructor <;> first|k_is|kernel_rfl))
  (case w0k=>k_is)
  (case w08=>k_is)
  (case w0n=>k_is)
  (case w0s=>k_is)
  (case w0c=>k_is)
  (case w03=>k_is)
  (case y_all=>k_is)
  (case y_bool=>k_is)
  (case y_dict=>k_is)
  (case y_int=>k_is)
  (case y_isinstance=>k_is)
  (case y_len=>k_is)
  (case y_list=>k_is)
  (case y_max=>k_is)
  (case y_min=>k_is)
  (case y_range=>k_is)
  (case y_reversed=>k_is)
  (case y_set=>k_is)
  (case y_sorted=>k_is)
  (case y_str=>k_is)
  (case y_tuple=>k_is)