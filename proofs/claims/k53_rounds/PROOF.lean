import PyProof.Rows.All
import Wide.All
import OpenK.AllK
import Wide.FinOn
import Lean
import PyProof.EqAt
import PyProof.EqKinds
import PyProof.TupleCall
import PyProof.NeKinds
import KE.KEqDict
import KE.KRevIter
import PyProof.FactsAll.range_2
import PyProof.ZipIter
import PyProof.FitsReplace
import PyProof.MeetsStr
import PyProof.ListRange
import PyProof.CollectWalk
import PyProof.DictItems
import PyProof.DictItemsLoops
import PyProof.DictValues
import PyProof.DictWalks
import PyProof.StrCalls
import KE.KIsAll
import PyProof.Rows.Range3
import PyProof.Rows.MinMaxN
import PyProof.SumWalkG
import PyProof.MeetsStr2
import PyProof.StrBlockL
import PyProof.Rows.StrNews2
import PyProof.StrLawsOccR
import KE.KIntText
import PyProof.StrLawsIn
import PyProof.Rows.SeqMore2
import PyProof.ListOps
import PyProof.Rows.SeqMore
import PyProof.Rows.SeqGen
import PyProof.EnumFor
import PyProof.EnumMake
import KE.KSortTup
import KE.KDictList
import PySem.Challenge.RW_quotatree_k53_rounds
open PySem.W (Frag instObj lookIn plainGet hasDictIn findIn isFn emptyDict specialIn keepIn mroIn kitOne fnOf codeIn excIn nsIn tabIn fnMade envX)
open List (all_cons all_eq_true any_cons any_eq_true append_nil filter_append filter_cons find?_cons getElem?_eq_getElem getElem?_map getElem_mem length_append length_cons length_filter_le length_map length_nil length_singleton length_take lookup_cons map_append map_cons mem_append mem_append_left mem_append_right mem_cons mem_cons_of_mem mem_cons_self mem_filter mem_iff_getElem mem_map mem_of_getElem? mem_singleton nodup_append nodup_cons nodup_nil not_mem_nil size_toArray sum_cons take_add_one take_length)
set_option compiler.extract_closed false
set_option Elab.async false
set_option linter.all false
set_option maxRecDepth 100000
namespace L2
open PySem PySem.Spec PyProof.Rows
abbrev Key:=Sum Int Str
def keyIs:Key->Value->Bool
 | .inl k,v=>Value.isInt k v
 | .inr x,v=>Value.isStrOf x v
def keyH (w:World):Key->Int
 | .inl k=>hashInt k
 | .inr x=>hashStr w x
theorem qb6:∀{k:Key} {v:Value},keyIs k v=true->(∃i t,k=Sum.inl i/\v=Value.int i t)\/(∃x t,k=Sum.inr x/\v=Value.str x t)
 | .inl i,v,h=>by
  obtain⟨t,e⟩:=Value.isInt_shape (k:=i) (v:=v) h
  exact .inl ⟨i,t,rfl,e⟩
 | .inr x,v,h=>by
  obtain⟨t,e⟩:=Value.isStrOf_shape (x:=x) (v:=v) h
  exact .inr ⟨x,t,rfl,e⟩
theorem keyIs_int (i:Int) (t:Tok):keyIs (.inl i) (.int i t)=true:=by simp [keyIs,Value.isInt]
theorem keyIs_str (x:Str) (t:Tok):keyIs (.inr x) (.str x t)=true:=by simp [keyIs,Value.isStrOf]
theorem key_ll (a b:Int):decide ((Sum.inl a:Key)=Sum.inl b)=(a==b):=by
 by_cases e:a=b
 .subst e;simp
 .have h:¬(Sum.inl a:Key)=Sum.inl b:=fun q=>e (Sum.inl.inj q)
  rw [decide_eq_false h]
  exact(beq_eq_false_iff_ne.mpr e).symm
theorem key_rr (a b:Str):decide ((Sum.inr a:Key)=Sum.inr b)=decide (a=b):=by
 by_cases e:a=b
 .subst e;simp
 .have h:¬(Sum.inr a:Key)=Sum.inr b:=fun q=>e (Sum.inr.inj q)
  rw [decide_eq_false h,decide_eq_false e]
theorem key_lr (a:Int) (b:Str):decide ((Sum.inl a:Key)=Sum.inr b)=false:=decide_eq_false (fun q=>nomatch q)
theorem key_rl (a:Str) (b:Int):decide ((Sum.inr a:Key)=Sum.inl b)=false:=decide_eq_false (fun q=>nomatch q)
def qb7 (prog:Program) (w:World):PySem.KeyKind prog w Key where
 is:=keyIs
 hash:=keyH w
 inj:=fun v a b ha hb=>by
  rcases qb6 ha with ⟨i,t,rfl,rfl⟩ |⟨x,t,rfl,rfl⟩
  .rcases qb6 hb with ⟨j,u,rfl,e⟩ |⟨y,u,rfl,e⟩
   .injection e with e1 _;rw [e1]
   .exact nomatch e
  .rcases qb6 hb with ⟨j,u,rfl,e⟩ |⟨y,u,rfl,e⟩
   .exact nomatch e
   .injection e with e1 _;rw [e1]
 byValue:=fun k v h=>by
  rcases qb6 h with ⟨i,t,rfl,rfl⟩ |⟨x,t,rfl,rfl⟩ <;> rfl
 pyHash:=fun hv h=>by
  rcases qb6 hv with ⟨i,t,rfl,rfl⟩ |⟨x,t,rfl,rfl⟩
  .exact wpAny_pyHash_int h
  .exact wpAny_pyHash_str h
 eqBool:=fun hu hv h=>by
  rcases qb6 hu with ⟨i,t,rfl,rfl⟩ |⟨x,t,rfl,rfl⟩
  .rcases qb6 hv with ⟨j,u,rfl,rfl⟩ |⟨y,u,rfl,rfl⟩
   .rw [key_ll] at h;exact wpAny_eqBool_int h
   .rw [key_lr] at h;exact SeqAt.EqAt.int_str i t y u _ _ _ _ h
  .rcases qb6 hv with ⟨j,u,rfl,rfl⟩ |⟨y,u,rfl,rfl⟩
   .rw [key_rl] at h;exact SeqAt.EqAt.str_int x t j u _ _ _ _ h
   .rw [key_rr] at h;exact wpAny_eqBool_str h
 «strs»:=fun k x t v h=>by
  rcases qb6 h with ⟨i,u,rfl,e⟩ |⟨y,u,rfl,e⟩
  .exact nomatch e
  .injection e with e1 _
   subst e1
   cases v <;> rfl
theorem mixKind_int (prog:Program) (w:World) (i:Int) (t:Tok):(qb7 prog w).is (.inl i) (.int i t)=true:=keyIs_int i t
theorem mixKind_str (prog:Program) (w:World) (x:Str) (t:Tok):(qb7 prog w).is (.inr x) (.str x t)=true:=keyIs_str x t
end L2
namespace L2
open PySem PySem.Spec PyProof.Rows
inductive V where
 |non|bl (b:Bool) |int (i:Int) |str (x:Str) |byt (b:Array UInt8) |flt (b:UInt64) |ref (a:Addr) |ty (n:String)
 deriving DecidableEq
def qb2:V->Value->Prop
 | .non,u=>u=Value.none
 | .bl b,u=>u=Value.bool b
 | .int i,u=>∃t,u=Value.int i t
 | .str x,u=>∃t,u=Value.str x t
 | .byt b,u=>∃t,u=Value.bytes b t
 | .flt b,u=>∃t,u=Value.float b t
 | .ref a,u=>u=Value.ref a
 | .ty n,u=>u=Value.type n
abbrev qbj:List V->List Value->Prop:=Paired qb2
theorem qbj.length {xs:List V} {us:List Value} (r:qbj xs us):xs.length=us.length:=Paired.length r
theorem qbj.get:∀{xs:List V} {us:List Value} {i:Nat} {x:V},qbj xs us->xs[i]?=some x->∃u,us[i]?=some u/\qb2 x u
 |_,_,_,_,.nil,e=>by simp at e
 |_,_,0,_,.cons r _,e=>by simp at e;subst e;exact⟨_,rfl,r⟩
 |_,_,i+1,x,.cons _ t,e=>by
  obtain⟨u,h1,h2⟩:=qbj.get (i:=i) (x:=x) t (by simpa using e)
  exact⟨u,by simpa using h1,h2⟩
theorem qbj.append:∀{xs ys:List V} {us ws:List Value},qbj xs us->qbj ys ws->qbj (xs++ys) (us++ws)
 |_,_,_,_,.nil,s=>s
 |_,_,_,_,.cons r t,s=> .cons r (qbj.append t s)
def qgl:Option V->Option Value->Prop
 |some v,some u=>qb2 v u
 |none,none=>True
 |_,_=>False
def KV {κ:Type}:List (κ × V)->List (κ × Value)->Prop:=Paired fun(p:κ × V) (q:κ × Value)=>p.1=q.1/\qb2 p.2 q.2
def kV:Key->V
 | .inl i=> .int i
 | .inr x=> .str x
inductive HO where
 |lst (xs:List V)
 |tup (xs:List V)
 |dK (kvs:List (Key × V)) |dT (kvs:List (List Key × V))
 |set (S:Int->Bool) (n:Nat)
 |ins (C dx:Addr) (fs:List (Str × V))
 |own (x:Addr)
 |xd (fs:List (Str × V))
 |met (f x:Addr)
 |rng (lo hi:Int)
 |frz (o:Obj) (u:HO)
 |tbl (ps:Array Value)
 |ext (φ:Heap->Prop)
abbrev Hp:=Addr->Option HO
def upd (H:Hp) (a:Addr) (o:HO):Hp:=fun b=>if b=a then some o else H b
theorem qa1 {H:Hp} {a:Addr} {o:HO}:upd H a o a=some o:=by unfold upd;rw [if_pos rfl]
theorem qa6 {H:Hp} {a b:Addr} {o:HO} (h:b≠a):upd H a o b=H b:=by unfold upd;rw [if_neg h]
theorem qcw {H:Hp} {a:Addr} {o u:HO}:upd (upd H a o) a u=upd H a u:=by
 funext b;unfold upd;split <;> rfl
theorem ne_of {H:Hp} {a b:Addr} {o u:HO} (h:H a=some o) (h':H b=some u) (d:o≠u):a≠b:=by
 intro e;subst e;rw [h] at h';exact d (Option.some.inj h')
theorem qa9 {H:Hp} {a b:Addr} {o:HO} (h:H a=some o) (h':H b=none):a≠b:=by
 intro e;subst e;rw [h] at h';cases h'
section
variable (P: Program) (w: World)
def qbi (H:Hp) (h:Heap) (a:Addr):HO->Prop
 | .lst xs=>xs.length<=sizeLine/\∃(its:List Value) (n:Nat),qbj xs its/\h.get? a=some {cls:=.type "list",data:=.seq its.toArray n}
 | .tup xs=>xs.length<=sizeLine/\∃its:List Value,qbj xs its/\IsTup h a its.toArray
 | .dK kvs=>kvs.length<=sizeLine/\(a==sysModules)=false/\∃vs,KV kvs vs/\h.DictOf (qb7 P w) a vs
 | .dT kvs=>kvs.length<=sizeLine/\(a==sysModules)=false/\∃xs:List (List Key × Addr × Value),
   Paired (fun(p:List Key × V) (q:List Key × Addr × Value)=>p.1=q.1/\H q.2.1=some (.tup (p.1.map kV))/\qb2 p.2 q.2.2) kvs xs/\
   ∃o es ep,h.get? a=some o/\o.ExactDict/\o.data=.dict es ep/\es.toList=xs.map (entryOfKey (tupleKind (qb7 P w)))/\(xs.map (·.1)).Nodup
 | .set S n=>h.SetOf (intKind P w) a S n
 | .ins C dx fs=>H dx=some (.own a)/\fs.length<=1000/\dx≠a/\h.get? a=some (instObj C dx)/\
   ∃mA,h.Ns1 dx mA/\(∀f,qgl (fs.lookup f) (mA f))/\PySem.Within mA (fs.map (·.1))
 | .own _=>∃o,h.get? a=some o
 | .xd fs=>∃mA,h.Ns1 a mA/\∀f,qgl (fs.lookup f) (mA f)
 | .rng lo hi=>∃t u v,h.get? a=some {cls:=.type "range",data:=.fields #[.int lo t,.int hi u,.int 1 v]}
 | .frz o u=>h.get? a=some o/\qbi H h a u
 | .tbl ps=>h.get? a=some {cls:=.none,data:=.fields ps}
 | .met f x=>h.get? a=some (PySem.W.methodObj (.ref f) (.ref x))
 | .ext φ=>φ h/\(∃o,h.get? a=some o)/\∀h1 h2:Heap,φ h1->(∀o,h1.get? a=some o->h2.get? a=some o)->φ h2
def HOk (H:Hp) (h:Heap):Prop:=∀a o,H a=some o->qbi P w H h a o
end
section
variable {P: Program} {w: World} {H H': Hp} {h h': Heap} {a: Addr} {o: HO}
theorem qbi.lt (x:qbi P w H h a o):a < h.objs.size:=by
 cases o with
 |lst xs=>obtain⟨_,_,_,_,e⟩:=x;exact Heap.lt_size e
 |tup xs=>obtain⟨_,_,_,p⟩:=x;exact p.lt
 |dK kvs=>obtain⟨_,_,_,_,o,_,_,e,_⟩:=x;exact Heap.lt_size e
 |dT kvs=>obtain⟨_,_,_,_,o,_,_,e,_⟩:=x;exact Heap.lt_size e
 |set S n=>obtain⟨o,_,_,_,e,_⟩:=x;exact Heap.lt_size e
 |ins C dx fs=>obtain⟨_,_,_,e,_⟩:=x;exact Heap.lt_size e
 |own y=>obtain⟨_,e⟩:=x;exact Heap.lt_size e
 |xd fs=>obtain⟨_,⟨_,_,_,e,_⟩,_⟩:=x;exact Heap.lt_size e
 |rng lo hi=>obtain⟨_,_,_,e⟩:=x;exact Heap.lt_size e
 |frz ob u=>obtain⟨e,_⟩:=x;exact Heap.lt_size e
 |tbl ps=>exact Heap.lt_size (show h.get? a=some _ from x)
 |met f y=>exact Heap.lt_size (show h.get? a=some _ from x)
 |ext φ=>obtain⟨_,⟨_,e⟩,_⟩:=x;exact Heap.lt_size e
theorem Paired.mapP {α β:Type} {F G:α->β->Prop}:∀{l₁:List α} {l₂:List β},Paired F l₁ l₂->(∀a b,F a b->G a b)->Paired G l₁ l₂
 |_,_,.nil,_=> .nil
 |_,_,.cons r t,f=> .cons (f _ _ r) (Paired.mapP t f)
theorem qbi.stay (x:qbi P w H h a o) (k:∀b u,(b=a\/H b=some (.own a))->h.get? b=some u->h'.get? b=some u)
  (ho:∀b,H b=some (.own a)->H' b=some (.own a)) (ht:∀b xs,H b=some (.tup xs)->H' b=some (.tup xs)):qbi P w H' h' a o:=by
 induction o with
 |lst xs=>obtain⟨z,its,n,r,e⟩:=x;exact⟨z,its,n,r,k _ _ (.inl rfl) e⟩
 |tup xs=>obtain⟨z,its,r,ob,e,c⟩:=x;exact⟨z,its,r,ob,k _ _ (.inl rfl) e,c⟩
 |dK kvs=>obtain⟨z,y,vs,r,ob,es,ep,e,c⟩:=x;exact⟨z,y,vs,r,ob,es,ep,k _ _ (.inl rfl) e,c⟩
 |dT kvs=>
  obtain⟨z,y,xs,r,ob,es,ep,e,c⟩:=x
  exact⟨z,y,xs,Paired.mapP r fun p q z=>⟨z.1,ht _ _ z.2.1,z.2.2⟩,ob,es,ep,k _ _ (.inl rfl) e,c⟩
 |set S n=>obtain⟨ob,es,ep,t,e,c⟩:=x;exact⟨ob,es,ep,t,k _ _ (.inl rfl) e,c⟩
 |ins C dx fs=>
  obtain⟨d,z,ne,e,mA,⟨od,es,ep,e2,c⟩,r⟩:=x
  exact⟨ho _ d,z,ne,k _ _ (.inl rfl) e,mA,⟨od,es,ep,k _ _ (.inr d) e2,c⟩,r⟩
 |own y=>obtain⟨ob,e⟩:=x;exact⟨ob,k _ _ (.inl rfl) e⟩
 |xd fs=>obtain⟨mA,⟨od,es,ep,e,c⟩,r⟩:=x;exact⟨mA,⟨od,es,ep,k _ _ (.inl rfl) e,c⟩,r⟩
 |rng lo hi=>obtain⟨t,u,v,e⟩:=x;exact⟨t,u,v,k _ _ (.inl rfl) e⟩
 |frz ob u ih=>obtain⟨e,q⟩:=x;exact⟨k _ _ (.inl rfl) e,ih q⟩
 |tbl ps=>
  have e:h.get? a=some {cls:=.none,data:=.fields ps}:=x
  show h'.get? a=some {cls:=.none,data:=.fields ps}
  exact k a _ (.inl rfl) e
 |met f y=>
  have e:h.get? a=some (PySem.W.methodObj (.ref f) (.ref y)):=x
  show h'.get? a=some (PySem.W.methodObj (.ref f) (.ref y))
  exact k a _ (.inl rfl) e
 |ext φ=>obtain⟨p,⟨o,e⟩,st⟩:=x;exact⟨st _ _ p fun o q=>k _ _ (.inl rfl) q,⟨o,k _ _ (.inl rfl) e⟩,st⟩
theorem HOk.lt (x:HOk P w H h) (e:H a=some o):a < h.objs.size:=(x a o e).lt
theorem HOk.fresh (x:HOk P w H h) (e:h.objs.size<=a):H a=none:=by
 cases q:H a with
 |none=>rfl
 |some u=>exact absurd (Nat.lt_of_lt_of_le (x.lt q) e) (Nat.lt_irrefl _)
theorem HOk.kept (x:HOk P w H h) (k:∀b u,h.get? b=some u->h'.get? b=some u):HOk P w H h':=fun a o e=>
 (x a o e).stay (fun b u _ q=>k b u q) (fun _ q=>q) fun _ _ q=>q
theorem HOk.laid (x:HOk P w H h) (k:∀b u,h.get? b=some u->h'.get? b=some u) (hp:h.objs.size<=a) (new:qbi P w (upd H a o) h' a o):HOk P w (upd H a o) h':=fun b u e=>by
 have hn:=x.fresh hp
 by_cases hb:b=a
 .subst hb;rw [qa1] at e;cases e;exact new
 .rw [qa6 hb] at e
  exact(x b u e).stay (fun c v _ q=>k c v q) (fun c q=>by rw [qa6 (qa9 q hn)];exact q) fun c xs q=>by rw [qa6 (qa9 q hn)];exact q
end
def Rd (H:Hp) (a:Addr) (u:HO):Prop:=H a=some u\/∃o,H a=some (.frz o u)
theorem Rd.of {H:Hp} {a:Addr} {u:HO} (h:H a=some u):Rd H a u:=.inl h
theorem Rd.ok {P:Program} {w:World} {H:Hp} {h:Heap} {a:Addr} {u:HO} (r:Rd H a u) (x:HOk P w H h):qbi P w H h a u:=by
 rcases r with r|⟨o,r⟩
 .exact x a u r
 .obtain⟨_,q⟩:=x a _ r
  exact q
def Mut:Option HO->Prop
 |some (.lst _)=>True
 |some (.dK _)=>True
 |some (.dT _)=>True
 |some (.set _ _)=>True
 |some (.ins _ _ _)=>True
 |some (.ext _)=>True
 |_=>False
section
variable {P: Program} {w: World} {H: Hp} {h h': Heap} {x e: Addr} {o': HO}
theorem HOk.write (ok:HOk P w H h) (mu:Mut (H x)) (he:e=x\/H e=some (.own x)) (k:∀b u,b≠e->h.get? b=some u->h'.get? b=some u) (heo:∃u,h'.get? e=some u)
  (new:qbi P w (upd H x o') h' x o'):HOk P w (upd H x o') h':=fun b u q=>by
 have nown:∀c y,H c=some (.own y)->c≠x:=fun c y r z=>by subst z;rw [r] at mu;exact mu
 have ntup:∀c xs,H c=some (.tup xs)->c≠x:=fun c xs r z=>by subst z;rw [r] at mu;exact mu
 by_cases hb:b=x
 .subst hb;rw [qa1] at q;cases q;exact new
 .rw [qa6 hb] at q
  by_cases hbe:b=e
  .have q':H b=some (.own x):=by
    rcases he with z|z
    .exact absurd (hbe.trans z) hb
    .rw [hbe];exact z
   rw [q] at q';cases q'
   obtain⟨v,hv⟩:=heo
   exact⟨v,by rw [hbe];exact hv⟩
  .refine(ok b u q).stay (fun c v hc r=>k c v ?_ r) (fun c r=>by rw [qa6 (nown c b r)];exact r) fun c xs r=>by rw [qa6 (ntup c xs r)];exact r
   rcases hc with rfl|hc
   .exact hbe
   .rintro rfl
    rcases he with z|z
    .exact nown c b hc z
    .rw [hc] at z;cases z;exact hb rfl
end
structure Un (fs ex:List Addr) (H H':Hp) (h h':Heap):Prop where
 keep:∀b o,h.get? b=some o->H b=none->b∉fs->b∉ex->h'.get? b=some o
 slot:∀b o,h.get? b=some o->H b=none->b∈fs->b∉ex->∃sl,h'.get? b=some {o with slots:=sl}
 free:∀b o,h.get? b=some o->H b=none->b∉ex->H' b=none
 there:∀b o,h.get? b=some o->b∉ex->∃o',h'.get? b=some o'
 tups:∀b xs,H b=some (.tup xs)->H' b=some (.tup xs)
 frzs:∀b o u,H b=some (.frz o u)->H' b=some (.frz o u)
 tbls:∀b ps,H b=some (.tbl ps)->∃more,H' b=some (.tbl (ps++more))
section
variable {fs ex: List Addr} {H H1: Hp} {h h1 h': Heap} {a x e: Addr} {o: HO}
theorem Un.any (u:Un fs ex H H1 h h1) {b:Addr} {ob:Obj} (q:h.get? b=some ob) (n:H b=none) (hx:b∉ex):∃sl,h1.get? b=some {ob with slots:=sl}:=by
 by_cases hb:b∈fs
 .exact u.slot b ob q n hb hx
 .exact⟨ob.slots,u.keep b ob q n hb hx⟩
theorem Un.kept (k:∀b u,h.get? b=some u->h'.get? b=some u):Un fs ex H H h h':=
 ⟨fun b ob q _ _ _=>k b ob q,fun b ob q _ _ _=>⟨ob.slots,k b ob q⟩,fun _ _ _ n _=>n,fun b ob q _=>⟨ob,k b ob q⟩,fun _ _ q=>q,fun _ _ _ q=>q,fun _ ps q=>⟨#[],by rw [q];simp⟩⟩
theorem Un.refl:Un fs ex H H h h:=Un.kept fun _ _ q=>q
theorem Un.laid (k:∀b u,h.get? b=some u->h'.get? b=some u) (hp:h.objs.size<=a) (hn:H a=none):Un fs ex H (upd H a o) h h' where
 keep:=fun b u q _ _ _=>k b u q
 slot:=fun b u q _ _ _=>⟨u.slots,k b u q⟩
 free:=fun b u q n _=>by rw [qa6 (Nat.ne_of_lt (Nat.lt_of_lt_of_le (Heap.lt_size q) hp))];exact n
 there:=fun b u q _=>⟨u,k b u q⟩
 tups:=fun b xs q=>by rw [qa6 (qa9 q hn)];exact q
 frzs:=fun b u xs q=>by rw [qa6 (qa9 q hn)];exact q
 tbls:=fun b ps q=>⟨#[],by rw [qa6 (qa9 q hn),q];simp⟩
theorem Un.write (mu:Mut (H x)) (he:e=x\/H e=some (.own x)) (k:∀b u,b≠e->h.get? b=some u->h'.get? b=some u) (heo:∃u,h'.get? e=some u):Un fs ex H (upd H x o) h h':=by
 have hx:∀b,H b=none->b≠x:=fun b n z=>by subst z;rw [n] at mu;exact mu
 have hb:∀b,H b=none->b≠e:=fun b n z=>by
  subst z
  rcases he with r|r
  .exact hx b n r
  .rw [n] at r;cases r
 have hm:∀b u,H b=some u->¬Mut (some u)->b≠x:=fun b u q nm z=>by subst z;rw [q] at mu;exact nm mu
 refine⟨fun b u q n _ _=>k b u (hb b n) q,fun b u q n _ _=>⟨u.slots,k b u (hb b n) q⟩,fun b u q n _=>by rw [qa6 (hx b n)];exact n,fun b u q _=>?_,
  fun b xs q=>by rw [qa6 (hm b _ q fun z=>z)];exact q,fun b u xs q=>by rw [qa6 (hm b _ q fun z=>z)];exact q,fun b ps q=>⟨#[],by rw [qa6 (hm b _ q fun z=>z),q];simp⟩⟩
 by_cases hbe:b=e
 .subst hbe;exact heo
 .exact⟨u,k b u hbe q⟩
end
def trk (h:Heap) (H:Hp):List Addr:=(List.range h.objs.size).filter fun a=>(H a).isSome
def hidT (h:Heap) (H:Hp):Heap:=PySem.W.hideAll h (trk h H)
theorem hidT_size (h:Heap) (H:Hp):(hidT h H).objs.size=h.objs.size:=PySem.W.hideAll_size _ _
theorem hidT_get {h:Heap} {H:Hp} {b:Addr} {o:Obj} (e:h.get? b=some o) (n:H b=none):(hidT h H).get? b=some o:=
 PySem.W.hideAll_get _ e fun hm=>by
  have q:(H b).isSome=true:=(mem_filter.mp hm).2
  rw [n] at q;simp at q
theorem of_hidT {h:Heap} {H:Hp} {b:Addr} {o:Obj} (e:(hidT h H).get? b=some o):h.get? b=some o/\H b=none:=by
 have e':h.get? b=some o:=PySem.W.of_hideAll (trk h H) e
 refine⟨e',?_⟩
 cases q:H b with
 |none=>rfl
 |some x=>
  have hm:b∈trk h H:=mem_filter.mpr ⟨List.mem_range.mpr (Heap.lt_size e'),by simp [q]⟩
  have z:(hidT h H).get? b=none:=PySem.W.hideAll_none (trk h H) hm
  rw [z] at e;cases e
def allNews (g h:Heap) (L:Addr):List (Addr × Obj):=(List.range h.objs.size).filterMap fun a=>if a=L\/(g.get? a).isSome=true then none else (h.get? a).map fun o=>(a,o)
def rest (g h:Heap) (L d:Addr):List (Addr × Obj):=(allNews g h L).filter fun p=>decide (p.1≠d)
end L2
namespace L2
open PySem PySem.Spec PyProof.Rows
structure Mod (K:Frag) (mg:Str->Option Value) (base:Heap):Prop where
 kin:K.In base
 glob:base.Ns mainGlobals mg
 blt:∃mb,base.Ns builtinsNs mb/\∀x:Str,x≠"__name__"->mb x=bootBuiltins x
 nolimit:base.NoLimit
structure Cx where
 prog:Program
 w:World
 K:Frag
 mg:Str->Option Value
 base:Heap
 A:Around
 N:List Str
 s₀:Shared
 H₀:Hp
 env:Env
 outer:List Env
 stack:List Env
 ex:List Addr
 fn:Str->Bool
 calm:Bool
 pn:List (Addr × Obj)
 xe:Value->Shared->Prop
def frs (l:List Env):List Addr:=l.filterMap (·.frame)
abbrev Cx.fs (X:Cx):List Addr:=frs X.outer
def Vis (sc:Scope) (x:Str):Prop:=sc.names.lookup x=some .local\/sc.names.lookup x=some .cell\/sc.names.lookup x=some .free
def Loc (sc:Scope) (x:Str):Prop:=sc.names.lookup x=some .local\/sc.names.lookup x=some .cell
def Look (env:Env) (h:Heap) (m:Str->Option Value) (x:Str) (u:Value):Prop:=
 (env.kindOf x=some .local/\m x=some u)\/((env.kindOf x=some .cell\/env.kindOf x=some .free)/\∃c,env.cells.lookup x=some c/\h.IsCell c (some u))
structure Cx.Ok (X:Cx):Prop where
 mod:Mod X.K X.mg X.base
 kind:X.env.scope.kind=.function
 glob:X.env.globals=mainGlobals
 blt:X.env.builtins=builtinsNs
 above:X.s₀.heap.objs.size<=X.env.locals
 inj:∀x y c,X.env.cells.lookup x=some c->X.env.cells.lookup y=some c->x=y
 has:∀x,(X.env.kindOf x=some .cell\/X.env.kindOf x=some .free)->∃c,X.env.cells.lookup x=some c
 cab:∀x c,X.fn x=true->X.env.cells.lookup x=some c->X.s₀.heap.objs.size<=c
 hd:X.calm=true->X.A.handled=none
 frames:X.A.frames=some X.stack
 stk:X.stack=X.outer\/(X.stack=X.env :: X.outer/\X.env.frame=some X.env.locals)
 exf:∀b∈X.ex,b≠X.env.locals/\∀x c,X.env.cells.lookup x=some c->c≠b
 bs:∀b o,X.base.get? b=some o->X.s₀.heap.get? b=some o/\X.H₀ b=none
 bsz:X.base.objs.size<=X.s₀.heap.objs.size
 noex:∀b o,X.base.get? b=some o->b∉X.ex
 exfs:∀b∈X.ex,b∉X.fs
 funs:X.s₀.heap.FunFrames X.base X.outer
 frf:∀b∈X.fs,X.H₀ b=none
structure Inv (X:Cx) (pins:List (Addr × Obj)) (σ:List (Option V)) (H:Hp) (s:Shared):Prop where
 ok:X.Ok
 os:s.os=X.s₀.os
 bare:AllBare s.gens
 base:Un X.fs X.ex X.H₀ H X.s₀.heap s.heap
 loc:∃m,s.heap.Ns X.env.locals m/\∀(i:Nat) (x:Str) (v:V),X.N[i]?=some x->σ[i]?=some (some v)->Vis X.env.scope x->∃u,qb2 v u/\Look X.env s.heap m x u
 cell:∀x c,X.env.cells.lookup x=some c->∃v,s.heap.IsCell c v
 free:H X.env.locals=none
 freeC:∀x c,X.env.cells.lookup x=some c->H c=none
 pin:∀p∈X.pn++pins,s.heap.get? p.1=some p.2/\H p.1=none/\p.1≠X.env.locals/\p.1∉X.fs/\∀v,p.2.data≠ .cell v
 hok:HOk X.prog X.w H s.heap
 len:σ.length=X.N.length
section
variable {X: Cx} {pins: List (Addr × Obj)} {σ: List (Option V)} {H H': Hp} {s: Shared} {h': Heap}
theorem Cx.Ok.nofr (ok:X.Ok) {b:Addr} {o:Obj} (e:X.base.get? b=some o):b∉X.fs:=fun hb=>by
 have:=(ok.funs.mem hb).1
 rw [e] at this;cases this
theorem Inv.bs (I:Inv X pins σ H s):∀b o,X.base.get? b=some o->s.heap.get? b=some o/\H b=none:=fun b o e=>
 ⟨I.base.keep b o (I.ok.bs b o e).1 (I.ok.bs b o e).2 (I.ok.nofr e) (I.ok.noex b o e),I.base.free b o (I.ok.bs b o e).1 (I.ok.bs b o e).2 (I.ok.noex b o e)⟩
theorem Inv.bk (I:Inv X pins σ H s):∀b o,X.base.get? b=some o->s.heap.get? b=some o:=fun b o e=>(I.bs b o e).1
theorem Inv.mod (I:Inv X pins σ H s):Mod X.K X.mg X.base:=I.ok.mod
theorem Inv.kIn (I:Inv X pins σ H s):X.K.In s.heap:=I.ok.mod.kin.keeps I.bk
theorem Inv.lt (I:Inv X pins σ H s):X.env.locals < s.heap.objs.size:=let ⟨_,hn,_⟩:=I.loc;hn.lt
theorem Inv.sz (I:Inv X pins σ H s):X.s₀.heap.objs.size<=s.heap.objs.size:=Nat.le_trans I.ok.above (Nat.le_of_lt I.lt)
theorem Inv.nofs (I:Inv X pins σ H s) {a:Addr} (h:s.heap.objs.size<=a):a∉X.fs:=fun hb=>by
 obtain⟨_,o,ho,_⟩:=I.ok.funs.mem hb
 exact absurd (Nat.lt_of_lt_of_le (Heap.lt_size ho) (Nat.le_trans I.sz h)) (Nat.lt_irrefl _)
theorem Inv.cne (I:Inv X pins σ H s):∀x c,X.env.cells.lookup x=some c->c≠X.env.locals:=fun x c e z=>by
 obtain⟨v,o,ho,hd⟩:=I.cell x c e
 obtain⟨m,⟨o',es,ep,ho',hd',_⟩,_⟩:=I.loc
 rw [z,ho'] at ho;cases ho;rw [hd'] at hd;cases hd
theorem Inv.funs (I:Inv X pins σ H s):s.heap.FunFrames X.base X.outer:=by
 have all:∀(l:List Env),(∀b∈frs l,b∈X.fs)->X.s₀.heap.FunFrames X.base l->s.heap.FunFrames X.base l:=by
  intro l
  induction l with
  |nil=>intro _ _;trivial
  |cons env r ih=>
   intro hs hl
   obtain⟨hk,⟨L,o,hf,hn,ho,hd⟩,hr⟩:=hl
   have hL:L∈X.fs:=hs L (by unfold frs;rw [List.filterMap_cons,hf];exact mem_cons_self)
   obtain⟨sl,e⟩:=I.base.slot L o ho (I.ok.frf L hL) hL fun z=>I.ok.exfs L z hL
   exact⟨hk,⟨L,_,hf,hn,e,hd⟩,ih (fun b hb=>hs b (by unfold frs;rw [List.filterMap_cons,hf];exact mem_cons_of_mem _ hb)) hr⟩
 exact all X.outer (fun _ hb=>hb) I.ok.funs
theorem Inv.stack (I:Inv X pins σ H s):s.heap.FunFrames X.base X.stack:=by
 rcases I.ok.stk with e|⟨e,hf⟩
 .rw [e];exact I.funs
 .rw [e]
  obtain⟨m,hn,_⟩:=I.loc
  refine .cons (by rw [I.ok.kind];decide) hf hn ?_ I.funs
  exact Heap.get?_none_of_le (Nat.le_trans I.ok.bsz I.ok.above)
theorem Inv.stkSub (I:Inv X pins σ H s):∀b∈frs X.stack,b∈X.env.locals :: X.fs:=fun b hb=>by
 rcases I.ok.stk with e|⟨e,hf⟩
 .rw [e] at hb;exact mem_cons_of_mem _ hb
 .rw [e] at hb
  unfold frs at hb
  rw [List.filterMap_cons,hf] at hb
  exact hb
theorem Inv.stkFree (I:Inv X pins σ H s):∀b∈frs X.stack,H b=none:=fun b hb=>by
 rcases mem_cons.mp (I.stkSub b hb) with e|hb
 .rw [e];exact I.free
 .obtain⟨_,o,ho,_⟩:=I.ok.funs.mem hb
  exact I.base.free b o ho (I.ok.frf b hb) fun z=>I.ok.exfs b z hb
theorem Inv.step {g':Array GenState} {t':Nat} {d':Drawn} {ch:List Addr} (I:Inv X pins σ H s)
  (hch:∀b∈ch,(b∈X.ex\/X.s₀.heap.objs.size<=b)/\b≠X.env.locals/\(∀x c,X.env.cells.lookup x=some c->c≠b)/\∀p∈X.pn++pins,p.1≠b)
  (keep:∀b o,b≠X.env.locals->b∉X.fs->b∉ch->s.heap.get? b=some o->H b=none->h'.get? b=some o)
  (slot:∀b o,b≠X.env.locals->b∈X.fs->b∉ch->s.heap.get? b=some o->H b=none->∃sl,h'.get? b=some {o with slots:=sl}) (free:∀b o,b∉ch->s.heap.get? b=some o->H b=none->H' b=none)
  (there:∀b o,b∉ch->s.heap.get? b=some o->∃o',h'.get? b=some o')
  (tups:∀b xs,H b=some (.tup xs)->H' b=some (.tup xs)) (frzs:∀b o u,H b=some (.frz o u)->H' b=some (.frz o u)) (tbls:∀b ps,H b=some (.tbl ps)->∃more,H' b=some (.tbl (ps++more)))
  (ns:∀m,s.heap.Ns X.env.locals m->h'.Ns X.env.locals m) (hok:HOk X.prog X.w H' h') (hg:AllBare g'):
  Inv X pins σ H' {s with heap:=h',gens:=g',drawn:=d',toks:=t'}:=by
 have neL:∀b o,X.s₀.heap.get? b=some o->b≠X.env.locals:=fun b o e=>Nat.ne_of_lt (Nat.lt_of_lt_of_le (Heap.lt_size e) I.ok.above)
 have neC:∀b o,X.s₀.heap.get? b=some o->b∉X.ex->b∉ch:=fun b o e hx hb=>by
  rcases(hch b hb).1 with z|z
  .exact hx z
  .exact absurd (Nat.lt_of_lt_of_le (Heap.lt_size e) z) (Nat.lt_irrefl _)
 have cellK:∀x c,X.env.cells.lookup x=some c->∀v,s.heap.IsCell c v->h'.IsCell c v:=fun x c e v ⟨o,ho,hd⟩=>by
  have nch:c∉ch:=fun z=>(hch c z).2.2.1 x c e rfl
  by_cases hc:c∈X.fs
  .obtain⟨sl,q⟩:=slot c o (I.cne x c e) hc nch ho (I.freeC x c e)
   exact⟨_,q,hd⟩
  .exact⟨o,keep c o (I.cne x c e) hc nch ho (I.freeC x c e),hd⟩
 refine⟨I.ok,I.os,hg,⟨fun b o e n hb hx=>?_,fun b o e n hb hx=>?_,fun b o e n hx=>?_,fun b o e hx=>?_,fun b xs e=>tups b xs (I.base.tups b xs e),fun b o xs e=>frzs b o xs (I.base.frzs b o xs e),fun b ps e=>?_⟩,?_,fun x c e=>?_,?_,fun x c e=>?_,fun p hp=>?_,hok,I.len⟩
 .exact keep b o (neL b o e) hb (neC b o e hx) (I.base.keep b o e n hb hx) (I.base.free b o e n hx)
 .obtain⟨sl,e1⟩:=I.base.slot b o e n hb hx
  obtain⟨sl',e2⟩:=slot b _ (neL b o e) hb (neC b o e hx) e1 (I.base.free b o e n hx)
  exact⟨sl',e2⟩
 .obtain⟨o',e1⟩:=I.base.there b o e hx
  exact free b o' (neC b o e hx) e1 (I.base.free b o e n hx)
 .obtain⟨o',e1⟩:=I.base.there b o e hx
  exact there b o' (neC b o e hx) e1
 .obtain⟨m1,e1⟩:=I.base.tbls b ps e
  obtain⟨m2,e2⟩:=tbls b _ e1
  exact⟨m1++m2,by rw [e2,Array.append_assoc]⟩
 .obtain⟨m,hn,hl⟩:=I.loc
  refine⟨m,ns m hn,fun i x v e1 e2 e3=>?_⟩
  obtain⟨u,r,l⟩:=hl i x v e1 e2 e3
  refine⟨u,r,?_⟩
  rcases l with l|⟨k,c,e,z⟩
  .exact .inl l
  .exact .inr ⟨k,c,e,cellK x c e _ z⟩
 .obtain⟨v,z⟩:=I.cell x c e
  exact⟨v,cellK x c e v z⟩
 .obtain⟨m,⟨o,_,_,ho,_⟩,_⟩:=I.loc
  exact free _ o (fun z=>(hch _ z).2.1 rfl) ho I.free
 .obtain⟨v,o,ho,hd⟩:=I.cell x c e
  exact free c o (fun z=>(hch c z).2.2.1 x c e rfl) ho (I.freeC x c e)
 .obtain⟨e,n,ne,nf,d⟩:=I.pin p hp
  have nch:p.1∉ch:=fun z=>(hch p.1 z).2.2.2 p hp rfl
  exact⟨keep p.1 p.2 ne nf nch e n,free p.1 p.2 nch e n,ne,nf,d⟩
theorem Inv.un {t':Nat} (I:Inv X pins σ H s) (u:Un X.fs [] H H' s.heap h') (hok:HOk X.prog X.w H' h'):Inv X pins σ H' {s with heap:=h',toks:=t'}:=by
 obtain⟨m,⟨o,es,ep,ho,r⟩,_⟩:=id I.loc
 obtain⟨sl,hL⟩:=u.any ho I.free (by simp)
 exact I.step (g':=s.gens) (d':=s.drawn) (ch:=[]) (fun _ z=>nomatch z) (fun b o _ hb _ e n=>u.keep b o e n hb (by simp)) (fun b o _ hb _ e n=>u.slot b o e n hb (by simp)) (fun b o _ e n=>u.free b o e n (by simp)) (fun b o _ e=>u.there b o e (by simp)) u.tups u.frzs u.tbls (fun m' hm=>by
  obtain⟨o',es',ep',ho',r'⟩:=hm
  rw [ho] at ho';cases ho'
  exact⟨_,es',ep',hL,r'⟩) hok I.bare
theorem Inv.call {g':Array GenState} {t':Nat} {d':Drawn} {ch:List Addr} (I:Inv X pins σ H s) (u:Un (frs X.stack) ch H H' s.heap h') (hok:HOk X.prog X.w H' h') (hg:AllBare g')
  (hch:∀b∈ch,(b∈X.ex\/X.s₀.heap.objs.size<=b)/\b≠X.env.locals/\(∀x c,X.env.cells.lookup x=some c->c≠b)/\∀p∈X.pn++pins,p.1≠b):
  Inv X pins σ H' {s with heap:=h',gens:=g',drawn:=d',toks:=t'}:=by
 obtain⟨m,⟨o,es,ep,ho,r⟩,_⟩:=id I.loc
 obtain⟨sl,hL⟩:=u.any ho I.free fun z=>(hch _ z).2.1 rfl
 exact I.step (ch:=ch) hch (fun b o hL hb hc e n=>u.keep b o e n (fun z=>(mem_cons.mp (I.stkSub b z)).elim hL hb) hc) (fun b o _ _ hc e n=>u.any e n hc) (fun b o hc e n=>u.free b o e n hc) (fun b o hc e=>u.there b o e hc) u.tups u.frzs u.tbls (fun m' hm=>by
  obtain⟨o',es',ep',ho',r'⟩:=hm
  rw [ho] at ho';cases ho'
  exact⟨_,es',ep',hL,r'⟩) hok hg
theorem Inv.turned {t':Nat} {it:Addr} (I:Inv X pins σ H s) (k:∀b o,b≠it->s.heap.get? b=some o->h'.get? b=some o) (hn:H it=none) (hL:it≠X.env.locals)
  (h1:it∈X.ex\/X.s₀.heap.objs.size<=it) (h2:∀x c,X.env.cells.lookup x=some c->c≠it) (h3:∀p∈X.pn++pins,p.1≠it):Inv X pins σ H {s with heap:=h',toks:=t'}:=by
 have nit:∀b u,H b=some u->b≠it:=fun b u e z=>by rw [z,hn] at e;cases e
 refine I.step (g':=s.gens) (d':=s.drawn) (ch:=[it]) (fun b hb=>?_) (fun b o _ _ hc e _=>k b o (fun z=>hc (by simp [z])) e) (fun b o _ _ hc e _=>⟨o.slots,k b o (fun z=>hc (by simp [z])) e⟩) (fun _ _ _ _ n=>n)
  (fun b o hc e=>⟨o,k b o (fun z=>hc (by simp [z])) e⟩) (fun _ _ e=>e) (fun _ _ _ e=>e) (fun b ps e=>⟨#[],by rw [e];simp⟩) (fun m hm=>?_) (fun b u e=>?_) I.bare
 .have e:b=it:=by simpa using hb
  subst e
  exact⟨h1,hL,h2,h3⟩
 .obtain⟨o,es,ep,ho,r⟩:=hm
  exact⟨o,es,ep,k _ o (Ne.symm hL) ho,r⟩
 .refine(I.hok b u e).stay (fun c v hc q=>k c v ?_ q) (fun _ q=>q) fun _ _ q=>q
  rcases hc with z|z
  .rw [z];exact nit b u e
  .exact nit c _ z
theorem Inv.tok (I:Inv X pins σ H s) (t:Nat):Inv X pins σ H {s with toks:=t}:=I.un (h':=s.heap) (t':=t) Un.refl I.hok
theorem Inv.kept {t':Nat} (I:Inv X pins σ H s) (k:∀b u,s.heap.get? b=some u->h'.get? b=some u):Inv X pins σ H {s with heap:=h',toks:=t'}:=I.un (Un.kept k) (I.hok.kept k)
theorem Inv.laid {a:Addr} {o:HO} {t':Nat} (I:Inv X pins σ H s) (k:∀b u,s.heap.get? b=some u->h'.get? b=some u) (hp:s.heap.objs.size<=a) (new:qbi X.prog X.w (upd H a o) h' a o):
  Inv X pins σ (upd H a o) {s with heap:=h',toks:=t'}:=I.un (Un.laid k hp (I.hok.fresh hp)) (I.hok.laid k hp new)
theorem Inv.write {x e:Addr} {o:HO} {t':Nat} (I:Inv X pins σ H s) (mu:Mut (H x)) (he:e=x\/H e=some (.own x)) (k:∀b u,b≠e->s.heap.get? b=some u->h'.get? b=some u) (heo:∃u,h'.get? e=some u)
  (new:qbi X.prog X.w (upd H x o) h' x o):Inv X pins σ (upd H x o) {s with heap:=h',toks:=t'}:=I.un (Un.write mu he k heo) (I.hok.write mu he k heo new)
theorem Inv.pins_of {pins':List (Addr × Obj)} (I:Inv X pins σ H s) (h:∀p∈pins',s.heap.get? p.1=some p.2/\H p.1=none/\p.1≠X.env.locals/\p.1∉X.fs/\∀v,p.2.data≠ .cell v):Inv X pins' σ H s:=
 ⟨I.ok,I.os,I.bare,I.base,I.loc,I.cell,I.free,I.freeC,fun p hp=>(mem_append.mp hp).elim (fun z=>I.pin p (mem_append_left _ z)) (h p),I.hok,I.len⟩
theorem nodup_ix {N:List Str} (hN:N.Nodup) {i j:Nat} {x:Str} (a:N[i]?=some x) (b:N[j]?=some x):i=j:=by
 obtain⟨h1,e1⟩:=List.getElem?_eq_some_iff.mp a
 obtain⟨h2,e2⟩:=List.getElem?_eq_some_iff.mp b
 exact(List.getElem_inj hN).mp (e1.trans e2.symm)
theorem store_ok2 {M:Model} {A:Around} {E:Value->Shared->Prop} {i:Nat} {x:Str} {v:V} {u:Value} {Q:Unit->Shared->Prop} (I:Inv X pins σ H s) (hN:X.N.Nodup) (hi:X.N[i]?=some x) (hx:Loc X.env.scope x) (r:qb2 v u)
  (h:∀s',Inv X pins (σ.set i (some v)) H s'->(∃a,Heap.SameBut a s.heap s'.heap/\(a=X.env.locals\/X.env.cells.lookup x=some a))->Q () s') (hf:X.fn x=true\/X.env.scope.names.lookup x=some .local:=by first|exact .inl rfl|exact .inr rfl|assumption):wpAny M A (storeName X.env x u) Q E s:=by
 obtain⟨m,hn,hl⟩:=id I.loc
 have hcls:(X.env.scope.kind==.class ||(X.env.scope.kind==.module && X.env.locals !=X.env.globals))=false:=by rw [I.ok.kind];rfl
 have hiσ:i < σ.length:=by rw [I.len];exact(List.getElem?_eq_some_iff.mp hi).1
 have cne:=I.cne
 have tracked:∀{a:Addr} {h':Heap},(∃o,s.heap.get? a=some o/\H a=none)->Heap.SameBut a s.heap h'->HOk X.prog X.w H h':=fun {a h'} ha hs b ob e=>by
  obtain⟨_,_,hfree⟩:=ha
  refine(I.hok b ob e).stay (fun c w' hc q=>(hs.2 c ?_).trans q) (fun _ q=>q) fun _ _ q=>q
  rintro rfl
  rcases hc with rfl|hc
  .rw [hfree] at e;cases e
  .rw [hfree] at hc;cases hc
 rcases hx with hk|hk
 .refine wpAny_storeName_local hk hn (fun h' hn' hs=>?_) hcls
  obtain⟨oL,_,_,hoL,_⟩:=id hn
  refine h _ ⟨I.ok,I.os,I.bare,⟨fun b o e n hb hx=>?_,fun b o e n hb hx=>?_,I.base.free,fun b o e hx=>?_,I.base.tups,I.base.frzs,I.base.tbls⟩,⟨_,hn',fun j y v' e1 e2 e3=>?_⟩,fun y c e=>?_,I.free,I.freeC,fun p hp=>?_,tracked ⟨oL,hoL,I.free⟩ hs,by simpa using I.len⟩ ⟨_,hs,.inl rfl⟩
  .exact(hs.2 b (Nat.ne_of_lt (Nat.lt_of_lt_of_le (Heap.lt_size e) I.ok.above))).trans (I.base.keep b o e n hb hx)
  .obtain⟨sl,e1⟩:=I.base.slot b o e n hb hx
   exact⟨sl,(hs.2 b (Nat.ne_of_lt (Nat.lt_of_lt_of_le (Heap.lt_size e) I.ok.above))).trans e1⟩
  .obtain⟨o',e1⟩:=I.base.there b o e hx
   exact⟨o',(hs.2 b (Nat.ne_of_lt (Nat.lt_of_lt_of_le (Heap.lt_size e) I.ok.above))).trans e1⟩
  .by_cases hj:j=i
   .subst hj
    rw [hi] at e1;cases e1
    rw [List.getElem?_set_self hiσ] at e2
    cases e2
    exact⟨u,r,.inl ⟨hk,by simp⟩⟩
   .rw [List.getElem?_set_ne (Ne.symm hj)] at e2
    obtain⟨u',r',q⟩:=hl j y v' e1 e2 e3
    refine⟨u',r',?_⟩
    rcases q with ⟨k,e⟩ |⟨k,c,e,z⟩
    .refine .inl ⟨k,?_⟩
     have:y≠x:=fun e=>hj (nodup_ix hN e1 (e ▸ hi))
     simp [this,e]
    .exact .inr ⟨k,c,e,z.sameBut hs (cne y c e)⟩
  .obtain⟨w',z⟩:=I.cell y c e
   exact⟨w',z.sameBut hs (cne y c e)⟩
  .obtain⟨e,n,ne,nf,d⟩:=I.pin p hp
   exact⟨(hs.2 p.1 ne).trans e,n,ne,nf,d⟩
 .have hfn:X.fn x=true:=by
   rcases hf with z|z
   .exact z
   .rw [z] at hk;cases hk
  obtain⟨c,hc⟩:=I.ok.has x (.inl hk)
  obtain⟨w',z⟩:=I.cell x c hc
  refine wpAny_storeName_cell I.ok.kind hk hc z (fun h' hc' hs=>?_)
  obtain⟨oc,hoc,hocd⟩:=id z
  refine h {s with heap:=h'} ⟨I.ok,I.os,I.bare,⟨fun b o e n hb hx=>?_,fun b o e n hb hx=>?_,I.base.free,fun b o e hx=>?_,I.base.tups,I.base.frzs,I.base.tbls⟩,⟨m,hn.sameBut hs (Ne.symm (cne x c hc)),fun j y v' e1 e2 e3=>?_⟩,fun y c' e=>?_,I.free,I.freeC,fun p hp=>?_,tracked ⟨oc,hoc,I.freeC x c hc⟩ hs,by simpa using I.len⟩ ⟨c,hs,.inr hc⟩
  .exact(hs.2 b (Nat.ne_of_lt (Nat.lt_of_lt_of_le (Heap.lt_size e) (I.ok.cab x c hfn hc)))).trans (I.base.keep b o e n hb hx)
  .obtain⟨sl,e1⟩:=I.base.slot b o e n hb hx
   exact⟨sl,(hs.2 b (Nat.ne_of_lt (Nat.lt_of_lt_of_le (Heap.lt_size e) (I.ok.cab x c hfn hc)))).trans e1⟩
  .obtain⟨o',e1⟩:=I.base.there b o e hx
   exact⟨o',(hs.2 b (Nat.ne_of_lt (Nat.lt_of_lt_of_le (Heap.lt_size e) (I.ok.cab x c hfn hc)))).trans e1⟩
  .by_cases hj:j=i
   .subst hj
    rw [hi] at e1;cases e1
    rw [List.getElem?_set_self hiσ] at e2
    cases e2
    exact⟨u,r,.inr ⟨.inl hk,c,hc,hc'⟩⟩
   .rw [List.getElem?_set_ne (Ne.symm hj)] at e2
    obtain⟨u',r',q⟩:=hl j y v' e1 e2 e3
    refine⟨u',r',?_⟩
    rcases q with q|⟨k,c',e,z'⟩
    .exact .inl q
    .refine .inr ⟨k,c',e,z'.sameBut hs ?_⟩
     rintro rfl
     exact hj (nodup_ix hN e1 (I.ok.inj _ _ _ e hc ▸ hi))
  .by_cases hcc:c'=c
   .subst hcc;exact⟨_,hc'⟩
   .obtain⟨w2,z2⟩:=I.cell y c' e
    exact⟨w2,z2.sameBut hs hcc⟩
  .obtain⟨e,n,ne,nf,d⟩:=I.pin p hp
   refine⟨(hs.2 p.1 ?_).trans e,n,ne,nf,d⟩
   intro q
   rw [q,hoc] at e
   have q':oc=p.2:=Option.some.inj e
   exact d w' (by rw [<-q'];exact hocd)
theorem qdd {M:Model} {A:Around} {E:Value->Shared->Prop} {i:Nat} {x:Str} {v:V} {u:Value} {Q:Unit->Shared->Prop} (I:Inv X pins σ H s) (hN:X.N.Nodup) (hi:X.N[i]?=some x) (hx:Loc X.env.scope x) (r:qb2 v u)
  (h:∀s',Inv X pins (σ.set i (some v)) H s'->Q () s') (hf:X.fn x=true\/X.env.scope.names.lookup x=some .local:=by first|exact .inl rfl|exact .inr rfl|assumption):wpAny M A (storeName X.env x u) Q E s:=
 store_ok2 I hN hi hx r (fun s' I' _=>h s' I') hf
theorem Inv.call' {s':Shared} {ch:List Addr} (I:Inv X pins σ H s) (ho:s'.os=s.os) (u:Un (frs X.stack) ch H H' s.heap s'.heap) (hok:HOk X.prog X.w H' s'.heap) (hg:AllBare s'.gens)
  (hch:∀b∈ch,(b∈X.ex\/X.s₀.heap.objs.size<=b)/\b≠X.env.locals/\(∀x c,X.env.cells.lookup x=some c->c≠b)/\∀p∈X.pn++pins,p.1≠b):Inv X pins σ H' s':=by
 obtain⟨h',g',d',t',o'⟩:=s'
 have e:o'=s.os:=ho
 subst e
 exact I.call (g':=g') (t':=t') (d':=d') u hok hg hch
end
abbrev XK:=Value->Option Addr->Hp->Prop
abbrev St:=List (Option V)
abbrev VK:=V->Hp->Prop
abbrev TE:=St->Hp->VK->Prop
abbrev TT:=St->Hp->(Bool->Hp->Prop)->Prop
abbrev TA:=St->Hp->(List V->Hp->Prop)->Prop
structure Ends where
 nx:St->Hp->Prop
 rt:VK
 bk:St->Hp->Prop:=fun _ _=>False
 ct:St->Hp->Prop:=fun _ _=>False
abbrev TS:=Ends->St->Hp->Prop
def EP (X:Cx) (pins:List (Addr × Obj)) (σ:St) (Q:VK) (u:Value) (s':Shared):Prop:=∃v H',Inv X pins σ H' s'/\qb2 v u/\Q v H'
def TP (X:Cx) (pins:List (Addr × Obj)) (σ:St) (Q:Bool->Hp->Prop) (b:Bool) (s':Shared):Prop:=∃H',Inv X pins σ H' s'/\Q b H'
def AP (X:Cx) (pins:List (Addr × Obj)) (σ:St) (Q:List V->Hp->Prop) (us:List Value) (s':Shared):Prop:=∃vs H',Inv X pins σ H' s'/\qbj vs us/\Q vs H'
def SP (X:Cx) (pins:List (Addr × Obj)) (D:Ends) (f:Flow) (s':Shared):Prop:=
 match f with
 | .next=>∃σ' H',Inv X pins σ' H' s'/\D.nx σ' H'
 | .brk=>∃σ' H',Inv X pins σ' H' s'/\D.bk σ' H'
 | .cont=>∃σ' H',Inv X pins σ' H' s'/\D.ct σ' H'
 | .ret u=>∃v σ' H',Inv X pins σ' H' s'/\qb2 v u/\D.rt v H'
def PE (X:Cx) (e:Expr) (t:TE):Prop:=
 ∀(pins:List (Addr × Obj)) (s:Shared) (σ:St) (H:Hp) (Q:VK),Inv X pins σ H s->t σ H Q->wpAny (model X.prog X.w) X.A (eval e X.env) (EP X pins σ Q) X.xe s
def PT (X:Cx) (e:Expr) (t:TT):Prop:=
 ∀(pins:List (Addr × Obj)) (s:Shared) (σ:St) (H:Hp) (Q:Bool->Hp->Prop),Inv X pins σ H s->t σ H Q->wpAny (model X.prog X.w) X.A (isTrue e X.env (eval e X.env)) (TP X pins σ Q) X.xe s
def PW (X:Cx) (e:Expr) (t:TT):Prop:=
 ∀(whole:Sem Value) (pins:List (Addr × Obj)) (s:Shared) (σ:St) (H:Hp) (Q:Bool->Hp->Prop),Inv X pins σ H s->t σ H Q->wpAny (model X.prog X.w) X.A (isTrue e X.env whole) (TP X pins σ Q) X.xe s
theorem PW.pt {X:Cx} {e:Expr} {t:TT} (h:PW X e t):PT X e t:=h _
def PA (X:Cx) (es:List Expr) (t:TA):Prop:=
 ∀(pos:Pos) (pins:List (Addr × Obj)) (s:Shared) (σ:St) (H:Hp) (Q:List V->Hp->Prop),Inv X pins σ H s->t σ H Q->wpAny (model X.prog X.w) X.A (spliced (backTo pos (starEach es X.env))) (AP X pins σ Q) X.xe s
def PS (X:Cx) (st:Stmt) (t:TS):Prop:=
 ∀(pins:List (Addr × Obj)) (s:Shared) (σ:St) (H:Hp) (D:Ends),Inv X pins σ H s->t D σ H->wpAny (model X.prog X.w) X.A (exec st X.env) (SP X pins D) X.xe s
def PSs (X:Cx) (st:List Stmt) (t:TS):Prop:=
 ∀(pins:List (Addr × Obj)) (s:Shared) (σ:St) (H:Hp) (D:Ends),Inv X pins σ H s->t D σ H->wpAny (model X.prog X.w) X.A (execs st X.env) (SP X pins D) X.xe s
theorem thn {α:Type} {t:Sem α} {Q Q':α->Shared->Prop} {M:Model} {A:Around} {E:Value->Shared->Prop} {s:Shared} (h:wpAny M A t Q E s) (hQ:∀a s,Q a s->Q' a s):wpAny M A t Q' E s:=wpAny_mono h hQ fun _ _ x=>x
end L2
namespace L2
open PySem PySem.Spec PyProof.Rows
section
variable {X: Cx}
theorem bin {a b:Expr} {ta tb:TE} (ha:PE X a ta) (hb:PE X b tb) {pins:List (Addr × Obj)} {s:Shared} {σ:St} {H:Hp} {R:V->V->Hp->Prop} (I:Inv X pins σ H s) (h:ta σ H fun x H1=>tb σ H1 fun y H2=>R x y H2)
  {α:Type} {Q:α->Shared->Prop} {f:Value->Value->Sem α}
  (hf:∀v u s2 x y H2,Inv X pins σ H2 s2->qb2 x v->qb2 y u->R x y H2->wpAny (model X.prog X.w) X.A (f v u) Q X.xe s2):
  wpAny (model X.prog X.w) X.A (eval a X.env) (fun v s₁=>wpAny (model X.prog X.w) X.A (eval b X.env) (fun u s₂=>wpAny (model X.prog X.w) X.A (f v u) Q X.xe s₂) X.xe s₁) X.xe s:=by
 refine thn (ha pins s σ H _ I h) fun v s1 ⟨x,H1,I1,r1,q1⟩=>?_
 refine thn (hb pins s1 σ H1 _ I1 q1) fun u s2 ⟨y,H2,I2,r2,q2⟩=>?_
 exact hf v u s2 x y H2 I2 r1 r2 q2
def tVar (i:Nat):TE:=fun σ H Q=>∃v,σ[i]?=some (some v)/\Q v H
def tC (v:V):TE:=fun _ H Q=>Q v H
theorem pe_var {i:Nat} {x:Str} {pos:Pos} (hN:X.N[i]?=some x) (hv:Vis X.env.scope x) (hd:(x==("__debug__" :Str))=false:=by decide) (hcd:(x==("__classdict__" :Str))=false:=by decide):PE X (.Name x pos) (tVar i):=by
 intro pins s σ H Q I h
 obtain⟨v,e,h⟩:=h
 obtain⟨m,hn,hl⟩:=I.loc
 obtain⟨u,r,l⟩:=hl i x v hN e hv
 have fin:EP X pins σ Q u s:=⟨v,H,I,r,h⟩
 rcases l with ⟨hk,hm⟩ |⟨hk,c,hc,hcell⟩
 .exact wpAny_Name (wpAny_loadName_local I.ok.kind hk hn hm fin) hd
 .rcases hk with hk|hk
  .exact wpAny_Name (wpAny_loadName_cell I.ok.kind hk hc hcell fin) hd
  .exact wpAny_Name (wpAny_loadName_free I.ok.kind hk hc hcell fin hcd) hd
theorem qa4 {i j pos}:PE X (.Constant (.int i) j pos) (tC (.int i)):=fun _ _ _ H _ I h=>wpAny_Constant_int ⟨.int i,H,I.tok _,⟨_,rfl⟩,h⟩
theorem qfe {b j pos}:PE X (.Constant (.bool b) j pos) (tC (.bl b)):=fun _ _ _ H _ I h=>Constant_bool ⟨.bl b,H,I,rfl,h⟩
theorem qe3 {j pos}:PE X (.Constant .none j pos) (tC .non):=fun _ _ _ H _ I h=>Constant_none ⟨.non,H,I,rfl,h⟩
theorem qcm {x j pos}:PE X (.Constant (.str x) j pos) (tC (.str x)):=fun _ _ _ H _ I h=>Calls.Constant_str ⟨.str x,H,I.tok _,⟨_,rfl⟩,h⟩
def Gl (X:Cx) (x:Str):Prop:=X.env.kindOf x=some .globalImplicit
theorem qdu {E:Value->Shared->Prop} {pins:List (Addr × Obj)} {s:Shared} {σ:St} {H:Hp} {x:Str} {u:Value} {pos:Pos} {Q:Value->Shared->Prop} (I:Inv X pins σ H s) (hg:Gl X x) (hm:X.mg x=some u) (h:Q u s)
  (hd:(x==("__debug__" :Str))=false:=by decide):wpAny (model X.prog X.w) X.A (eval (.Name x pos) X.env) Q E s:=
 Calls.Name_function_global I.ok.kind hg (Calls.loadGlobal_global (by rw [I.ok.glob];exact I.mod.glob.keeps I.bk) hm h) hd
theorem ld_blt {E:Value->Shared->Prop} {pins:List (Addr × Obj)} {s:Shared} {σ:St} {H:Hp} {x:Str} {u:Value} {pos:Pos} {Q:Value->Shared->Prop} (I:Inv X pins σ H s) (hg:Gl X x) (hm:X.mg x=none) (hv:bootBuiltins x=some u) (h:Q u s)
  (hn:x≠"__name__":=by decide) (hd:(x==("__debug__" :Str))=false:=by decide):wpAny (model X.prog X.w) X.A (eval (.Name x pos) X.env) Q E s:=by
 obtain⟨mb,h1,h2⟩:=I.mod.blt
 exact Calls.Name_function_global I.ok.kind hg (Calls.loadGlobal_builtin (by rw [I.ok.glob];exact I.mod.glob.keeps I.bk) hm (by rw [I.ok.blt];exact h1.keeps I.bk) ((h2 x hn).trans hv) h) hd
theorem qed {x:Str} {v:V} {u:Value} {pos:Pos} (hg:Gl X x) (hm:X.mg x=some u) (r:qb2 v u) (hd:(x==("__debug__" :Str))=false:=by decide):PE X (.Name x pos) (tC v):=
 fun _ _ _ H _ I h=>qdu I hg hm ⟨v,H,I,r,h⟩ hd
theorem qc5 {x:Str} {v:V} {u:Value} {pos:Pos} (hg:Gl X x) (hm:X.mg x=none) (hv:bootBuiltins x=some u) (r:qb2 v u) (hn:x≠"__name__":=by decide) (hd:(x==("__debug__" :Str))=false:=by decide):PE X (.Name x pos) (tC v):=
 fun _ _ _ H _ I h=>ld_blt I hg hm hv ⟨v,H,I,r,h⟩ hn hd
variable {a b: Expr} {ta tb: TE} {pos: Pos}
def PC (X:Cx) (op:CmpOp) (a b:Expr) (t:TE):Prop:=
 ∀(pins:List (Addr × Obj)) (s:Shared) (σ:St) (H:Hp) (Q:VK),Inv X pins σ H s->t σ H Q->
  wpAny (model X.prog X.w) X.A (eval a X.env) (fun v s₁=>wpAny (model X.prog X.w) X.A (eval b X.env) (fun u s₂=>wpAny (model X.prog X.w) X.A (compareOp op v u) (EP X pins σ Q) X.xe s₂) X.xe s₁) X.xe s
def tB (t:TE):TT:=fun σ H Q=>t σ H fun x H1=>∃c,x=.bl c/\Q c H1
theorem pe_cmp {op:CmpOp} {t:TE} (h:PC X op a b t) (h1:behindInMarks op b=false:=by first|exact nobehind _ (by decide) (by decide) |rfl):PE X (.Compare a [op] [b] pos) t:=fun pins s σ H Q I hw=>wpAny_Compare1 (h pins s σ H Q I hw) h1
theorem qg1 {op:CmpOp} {t:TE} (h:PC X op a b t) (h1:behindInMarks op b=false:=by first|exact nobehind _ (by decide) (by decide) |rfl):PT X (.Compare a [op] [b] pos) (tB t):=by
 intro pins s σ H Q I hw
 refine wpAny_isTrue_Compare1 (thn (h pins s σ H _ I hw) fun v s1 h1=>thn h1 fun u s2 h2=>thn h2 fun c s3 ⟨x,H1,I1,r1,q1⟩=>?_) h1
 obtain⟨d,rfl,q⟩:=q1
 cases r1
 exact wpAny_truthy_bool ⟨H1,I1,q⟩
theorem qbn {e:Expr} {t:TE} (h:PE X e t) (he:∀whole,isTrue e X.env whole=(do let v<-whole;standAt e.pos;holding [v] (truthy v)):=by intro _;rfl):PT X e (tB t):=by
 intro pins s σ H Q I hw
 refine isTrue_plain (thn (h pins s σ H _ I hw) fun v s1 ⟨x,H1,I1,r1,q1⟩=>?_) (he _)
 obtain⟨d,rfl,q⟩:=q1
 cases r1
 exact wpAny_truthy_bool ⟨H1,I1,q⟩
variable {tA tB': TT} {rest: List Expr}
def tAnd (t u:TT):TT:=fun σ H Q=>t σ H fun c H1=>if c=true then u σ H1 Q else Q false H1
def tOr (t u:TT):TT:=fun σ H Q=>t σ H fun c H1=>if c=true then Q true H1 else u σ H1 Q
def tNot (t:TT):TT:=fun σ H Q=>t σ H fun c H1=>Q (!c) H1
theorem qf9 (ha:PT X a tA):PW X (.BoolOp .And [a] pos) tA:=by
 intro wh pins s σ H Q I h
 refine isTrue_and (thn (ha pins s σ H Q I h) fun c s1 e=>?_)
 cases c with
 |true=>exact isTrue_and_nil e
 |false=>exact e
theorem qf8 (ha:PT X a tA):PW X (.BoolOp .Or [a] pos) tA:=by
 intro wh pins s σ H Q I h
 refine isTrue_or (thn (ha pins s σ H Q I h) fun c s1 e=>?_)
 cases c with
 |false=>exact isTrue_or_nil e
 |true=>exact e
theorem pw_and (ha:PT X a tA) (hb:PW X (.BoolOp .And (b :: rest) pos) tB'):PW X (.BoolOp .And (a :: b :: rest) pos) (tAnd tA tB'):=by
 intro wh pins s σ H Q I h
 refine isTrue_and (thn (ha pins s σ H _ I h) fun c s1 ⟨H1,I1,q1⟩=>?_)
 cases c with
 |true=>exact hb wh pins s1 σ H1 Q I1 q1
 |false=>exact⟨H1,I1,q1⟩
theorem qe0 (ha:PT X a tA) (hb:PW X (.BoolOp .Or (b :: rest) pos) tB'):PW X (.BoolOp .Or (a :: b :: rest) pos) (tOr tA tB'):=by
 intro wh pins s σ H Q I h
 refine isTrue_or (thn (ha pins s σ H _ I h) fun c s1 ⟨H1,I1,q1⟩=>?_)
 cases c with
 |true=>exact⟨H1,I1,q1⟩
 |false=>exact hb wh pins s1 σ H1 Q I1 q1
theorem qbx (ha:PT X a tA):PT X (.UnaryOp .Not a pos) (tNot tA):=by
 intro pins s σ H Q I h
 exact isTrue_not (ha pins s σ H (fun c H1=>Q (!c) H1) I h)
def tAndV (ta tb:TE):TE:=fun σ H Q=>ta σ H fun x H1=>∃c,x=.bl c/\if c=true then tb σ H1 Q else Q (.bl false) H1
def tNotV (ta:TE):TE:=fun σ H Q=>ta σ H fun x H1=>∃c,x=.bl c/\Q (.bl (!c)) H1
theorem qfd {op} {t:TE} (h:PE X a t):PE X (.BoolOp op [a] pos) t:=fun pins s σ H Q I hw=>BoolOp_one (h pins s σ H Q I hw)
theorem qek (ha:PE X a ta) (hb:PE X (.BoolOp .And (b :: rest) pos) tb):PE X (.BoolOp .And (a :: b :: rest) pos) (tAndV ta tb):=by
 intro pins s σ H Q I h
 refine BoolOp_and (thn (ha pins s σ H _ I h) fun v s1 ⟨x,H1,I1,r1,q1⟩=>?_)
 obtain⟨c,rfl,q1⟩:=q1
 cases r1
 refine wpAny_truthy_bool ?_
 cases c with
 |true=>exact hb pins s1 σ H1 Q I1 q1
 |false=>exact⟨.bl false,H1,I1,rfl,q1⟩
theorem pe_not (ha:PE X a ta):PE X (.UnaryOp .Not a pos) (tNotV ta):=by
 intro pins s σ H Q I h
 refine UnaryOp_ (thn (ha pins s σ H _ I h) fun v s1 ⟨x,H1,I1,r1,q1⟩=>?_)
 obtain⟨c,rfl,q1⟩:=q1
 cases r1
 exact not_of (wpAny_truthy_bool ⟨.bl (!c),H1,I1,rfl,q1⟩)
def tIf (t:TT) (ta tb:TE):TE:=fun σ H Q=>t σ H fun c H1=>if c=true then ta σ H1 Q else tb σ H1 Q
theorem pe_ifExp {c:Expr} (hc:PT X c tA) (ha:PE X a ta) (hb:PE X b tb):PE X (.IfExp c a b pos) (tIf tA ta tb):=by
 intro pins s σ H Q I h
 refine wpAny_IfExp (thn (hc pins s σ H _ I h) fun d s1 ⟨H1,I1,q1⟩=>?_)
 cases d with
 |true=>exact ha pins s1 σ H1 Q I1 q1
 |false=>exact hb pins s1 σ H1 Q I1 q1
end
end L2
namespace L2
open PySem PySem.Spec PyProof.Rows
def SqL (K:Frag) (H:Hp) (a:Addr) (xs:List V):Prop:=
 Rd H a (.lst xs)\/
  ∃(o:Obj) (its:Array Value) (n:Nat),K.lookup a=some o/\o.cls=.type "list"/\o.dict=none/\o.data=.seq its n/\its.size<=sizeLine/\qbj xs its.toList
def SqT (K:Frag) (H:Hp) (a:Addr) (xs:List V):Prop:=
 Rd H a (.tup xs)\/
  ∃(o:Obj) (its:Array Value) (n:Nat),K.lookup a=some o/\o.cls=.type "tuple"/\o.data=.seq its n/\its.size<=sizeLine/\qbj xs its.toList
def absV:Value->Option V
 | .none=>some .non
 | .bool b=>some (.bl b)
 | .int i _=>some (.int i)
 | .str x _=>some (.str x)
 | .bytes b _=>some (.byt b)
 | .float b _=>some (.flt b)
 | .ref a=>some (.ref a)
 | .type n=>some (.ty n)
 |_=>none
theorem qb2.abs {x:V} {u:Value} (r:qb2 x u):absV u=some x:=by
 cases x with
 |non=>cases r;rfl
 |bl _=>cases r;rfl
 |int _=>obtain⟨t,rfl⟩:=r;rfl
 |str _=>obtain⟨t,rfl⟩:=r;rfl
 |byt _=>obtain⟨t,rfl⟩:=r;rfl
 |flt _=>obtain⟨t,rfl⟩:=r;rfl
 |ref _=>cases r;rfl
 |ty _=>cases r;rfl
theorem qb2.inj {x y:V} {u:Value} (r:qb2 x u) (q:qb2 y u):x=y:=Option.some.inj (r.abs.symm.trans q.abs)
theorem qbj.inj:∀{xs ys:List V} {us:List Value},qbj xs us->qbj ys us->xs=ys
 |_,_,_,.nil,.nil=>rfl
 |_,_,_,.cons r t,.cons r' t'=>by rw [r.inj r',qbj.inj t t']
section
variable {X: Cx} {pins: List (Addr × Obj)} {σ: St} {H: Hp} {s: Shared} {a: Addr} {xs ys: List V}
theorem SqL.of {K:Frag} (h:H a=some (.lst xs)):SqL K H a xs:=.inl (.inl h)
theorem SqT.of {K:Frag} (h:H a=some (.tup xs)):SqT K H a xs:=.inl (.inl h)
theorem Inv.list (I:Inv X pins σ H s) (h:SqL X.K H a xs):∃its:List Value,qbj xs its/\PlainL s.heap a its.toArray/\xs.length<=sizeLine:=by
 rcases h with h|⟨o,its,n,hk,hc,hd,hs,hz,r⟩
 .obtain⟨z,its,n,r,e⟩:=h.ok I.hok
  exact⟨its,r,⟨_,n,e,rfl,rfl,rfl⟩,z⟩
 .refine⟨its.toList,r,⟨o,n,I.kIn a o hk,hc,hd,by simpa using hs⟩,?_⟩
  have e:=r.length
  simp only [Array.length_toList] at e
  omega
theorem Inv.tuple (I:Inv X pins σ H s) (h:SqT X.K H a xs):∃its:List Value,qbj xs its/\IsTup s.heap a its.toArray/\xs.length<=sizeLine:=by
 rcases h with h|⟨o,its,n,hk,hc,hs,hz,r⟩
 .obtain⟨z,its,r,p⟩:=h.ok I.hok
  exact⟨its,r,p,z⟩
 .refine⟨its.toList,r,⟨o,I.kIn a o hk,hc,n,by simpa using hs⟩,?_⟩
  have e:=r.length
  simp only [Array.length_toList] at e
  omega
theorem Inv.list_inj (I:Inv X pins σ H s) (h:SqL X.K H a xs) (h':SqL X.K H a ys):xs=ys:=by
 obtain⟨its,r,⟨o,n,e,_,_,d⟩,_⟩:=I.list h
 obtain⟨its',r',⟨o',n',e',_,_,d'⟩,_⟩:=I.list h'
 rw [e] at e';cases e'
 rw [d] at d'
 injection d' with d1 _
 have:its=its':=by simpa using congrArg Array.toList d1
 subst this
 exact r.inj r'
end
abbrev Cx.wish (X:Cx) (E:Value->Shared->Prop):Cx:={X with xe:=E}
abbrev Cx.nox (X:Cx):Cx:=X.wish fun _ _=>False
theorem Cx.Ok.wish {X:Cx} (ok:X.Ok) (E:Value->Shared->Prop):(X.wish E).Ok:=
 ⟨ok.mod,ok.kind,ok.glob,ok.blt,ok.above,ok.inj,ok.has,ok.cab,ok.hd,ok.frames,ok.stk,ok.exf,ok.bs,ok.bsz,ok.noex,ok.exfs,ok.funs,ok.frf⟩
theorem Cx.Ok.unwish {X:Cx} {E:Value->Shared->Prop} (ok:(X.wish E).Ok):X.Ok:=
 ⟨ok.mod,ok.kind,ok.glob,ok.blt,ok.above,ok.inj,ok.has,ok.cab,ok.hd,ok.frames,ok.stk,ok.exf,ok.bs,ok.bsz,ok.noex,ok.exfs,ok.funs,ok.frf⟩
section
variable {X: Cx} {pins: List (Addr × Obj)} {σ: St} {H: Hp} {s: Shared} {E: Value -> Shared -> Prop}
theorem Inv.wish (I:Inv X pins σ H s) (E:Value->Shared->Prop):Inv (X.wish E) pins σ H s:=⟨I.ok.wish E,I.os,I.bare,I.base,I.loc,I.cell,I.free,I.freeC,I.pin,I.hok,I.len⟩
theorem Inv.unwish (I:Inv (X.wish E) pins σ H s):Inv X pins σ H s:=⟨I.ok.unwish,I.os,I.bare,I.base,I.loc,I.cell,I.free,I.freeC,I.pin,I.hok,I.len⟩
theorem SP.unwish {D:Ends} {f:Flow} {s':Shared} (h:SP (X.wish E) pins D f s'):SP X pins D f s':=by
 cases f with
 |next=>obtain⟨σ',H',I,q⟩:=h;exact⟨σ',H',I.unwish,q⟩
 |brk=>obtain⟨σ',H',I,q⟩:=h;exact⟨σ',H',I.unwish,q⟩
 |cont=>obtain⟨σ',H',I,q⟩:=h;exact⟨σ',H',I.unwish,q⟩
 |ret u=>obtain⟨v,σ',H',I,r,q⟩:=h;exact⟨v,σ',H',I.unwish,r,q⟩
theorem PSs.nox {st:List Stmt} {t:TS} (h:PSs X.nox st t):PSs X st t:=fun pins s σ H D I hw=>
 wpAny_mono (h pins s σ H D (I.wish _) hw) (fun _ _ q=>q.unwish) fun _ _ z=>False.elim z
end
section
variable {X: Cx} {st: Stmt} {rest: List Stmt} {t u: TS} {e: Expr} {te: TE} {pos: Pos}
def tNext:TS:=fun D σ H=>D.nx σ H
def tSeq (t u:TS):TS:=fun D σ H=>t {D with nx:=u D} σ H
theorem qaq:PSs X [] tNext:=fun _ _ σ H _ I h=>wpAny_execs_nil ⟨σ,H,I,h⟩
theorem qa2 (h1:PS X st t) (h2:PSs X rest u):PSs X (st :: rest) (tSeq t u):=by
 intro pins s σ H D I h
 refine wpAny_execs_cons (thn (h1 pins s σ H {D with nx:=u D} I h) fun f s1 q=>?_)
 cases f with
 |next=>
  obtain⟨σ',H',I',q⟩:=q
  exact h2 pins s1 σ' H' D I' q
 |ret v=>exact q
 |brk=>exact q
 |cont=>exact q
theorem qa5 (h1:PS X st t):PSs X [st] t:=by
 intro pins s σ H D I h
 refine wpAny_execs_cons (thn (h1 pins s σ H D I h) fun f s1 q=>?_)
 cases f with
 |next=>exact wpAny_execs_nil q
 |ret v=>exact q
 |brk=>exact q
 |cont=>exact q
theorem Inv.quiet {pins:List (Addr × Obj)} {σ:St} {H:Hp} {s:Shared} (I:Inv X pins σ H s):interactive X.env=false:=by simp [interactive,I.ok.kind]
def tDrop (te:TE):TS:=fun D σ H=>te σ H fun _ H1=>D.nx σ H1
theorem qba (he:PE X e te) (hs:swapsWith e none pos.line X.env=pure false:=by rfl):PS X (.Expr e pos) (tDrop te):=by
 intro pins s σ H D I h
 exact wpAny_Expr_any (thn (he pins s σ H _ I h) fun v s1 ⟨x,H1,I1,r1,q1⟩=>⟨σ,H1,I1,q1⟩) I.quiet hs
def tRet (te:TE):TS:=fun D σ H=>te σ H D.rt
theorem qad (he:PE X e te):PS X (.Return (some e) pos) (tRet te):=by
 intro pins s σ H D I h
 exact wpAny_Return_some (thn (he pins s σ H _ I h) fun v s1 ⟨x,H1,I1,r1,q1⟩=>⟨x,σ,H1,I1,r1,q1⟩)
def tIfS (c:TT) (t u:TS):TS:=fun D σ H=>c σ H fun b H1=>if b=true then t D σ H1 else u D σ H1
theorem qbb {c:Expr} {a b:List Stmt} {tc:TT} (hc:PT X c tc) (ha:PSs X a t) (hb:PSs X b u):PS X (.If c a b pos) (tIfS tc t u):=by
 intro pins s σ H D I h
 refine wpAny_If (thn (hc pins s σ H _ I h) fun d s1 ⟨H1,I1,q1⟩=>?_)
 cases d with
 |true=>exact ha pins s1 σ H1 D I1 q1
 |false=>exact hb pins s1 σ H1 D I1 q1
end
abbrev TG:=V->St->Hp->(St->Hp->Prop)->Prop
abbrev TGs:=List V->St->Hp->(St->Hp->Prop)->Prop
def PG (X:Cx) (target:Expr) (t:TG):Prop:=
 ∀(pins:List (Addr × Obj)) (s:Shared) (σ:St) (H:Hp) (v:V) (u:Value) (Q:St->Hp->Prop),Inv X pins σ H s->qb2 v u->t v σ H Q->
  wpAny (model X.prog X.w) X.A (assign target X.env u) (fun _ s'=>∃σ' H',Inv X pins σ' H' s'/\Q σ' H') X.xe s
def PGs (X:Cx) (ts:List Expr) (t:TGs):Prop:=
 ∀(pins:List (Addr × Obj)) (s:Shared) (σ:St) (H:Hp) (vs:List V) (us:List Value) (Q:St->Hp->Prop),Inv X pins σ H s->qbj vs us->t vs σ H Q->
  wpAny (model X.prog X.w) X.A (assignInOrder ((assignEach ts X.env).map (·.2)) us) (fun _ s'=>∃σ' H',Inv X pins σ' H' s'/\Q σ' H') X.xe s
section
variable {X: Cx} {pos: Pos}
def qdv (i:Nat):TG:=fun v σ H Q=>Q (σ.set i (some v)) H
theorem qac {i:Nat} {x:Str} (hN:X.N.Nodup) (hi:X.N[i]?=some x) (hx:Loc X.env.scope x) (hf:X.fn x=true\/X.env.scope.names.lookup x=some .local:=by first|exact .inl rfl|exact .inr rfl|assumption):PG X (.Name x pos) (qdv i):=by
 intro pins s σ H v u Q I r h
 exact wpAny_assign_Name (qdd I hN hi hx r (fun s' I'=>⟨_,H,I',h⟩) hf)
def gNil:TGs:=fun vs σ H Q=>vs=[]/\Q σ H
def gCons (t:TG) (u:TGs):TGs:=fun vs σ H Q=>∃v r,vs=v :: r/\t v σ H fun σ' H'=>u r σ' H' Q
theorem qds:PGs X [] gNil:=by
 intro pins s σ H vs us Q I r h
 obtain⟨e,h⟩:=h
 subst e
 cases r
 exact assignInOrder_nil ⟨σ,H,I,h⟩
theorem qao {e:Expr} {es:List Expr} {t:TG} {u:TGs} (h1:PG X e t) (h2:PGs X es u)
  (hs:(assignEach (e :: es) X.env).map (·.2)=assign e X.env ::(assignEach es X.env).map (·.2):=by rfl):PGs X (e :: es) (gCons t u):=by
 intro pins s σ H vs us Q I r h
 obtain⟨v,vr,e1,h⟩:=h
 subst e1
 cases r with
 |cons r rr=>
  rw [hs]
  refine assignInOrder_cons (thn (h1 pins s σ H _ _ _ I r h) fun _ s1 ⟨σ1,H1,I1,q1⟩=>?_)
  exact h2 pins s1 σ1 H1 _ _ Q I1 rr q1
def tAsg (te:TE) (g:TG):TS:=fun D σ H=>te σ H fun x H1=>g x σ H1 D.nx
theorem qfa {tg e:Expr} {te:TE} {g:TG} (he:PE X e te) (hg:PG X tg g) (hs:swapsWithSole [tg] e pos.line X.env=pure false:=by rfl) (hw:swappedStores [tg] e X.env=pure none:=by rfl)
  (h1:(assignEach [tg] X.env).map (·.2)=[assign tg X.env]:=by rfl):PS X (.Assign [tg] e pos) (tAsg te g):=by
 intro pins s σ H D I h
 refine wpAny_Assign_stores (thn (he pins s σ H _ I h) fun v s1 ⟨x,H1,I1,r1,q1⟩=>?_) hs hw
 rw [h1]
 exact thn (hg pins s1 σ H1 x v _ I1 r1 q1) fun _ s2 q=>q
theorem qaf {i:Nat} {x:Str} {e:Expr} {te:TE} {pos':Pos} (hN:X.N.Nodup) (hi:X.N[i]?=some x) (hx:Loc X.env.scope x) (he:PE X e te) (hs:swapsWith e (some (.Name x pos')) pos.line X.env=pure false:=by rfl) (hf:X.fn x=true\/X.env.scope.names.lookup x=some .local:=by first|exact .inl rfl|exact .inr rfl|assumption):
  PS X (.Assign [.Name x pos'] e pos) (tAsg te (qdv i)):=by
 intro pins s σ H D I h
 refine wpAny_Assign_Name (thn (he pins s σ H _ I h) fun v s1 ⟨y,H1,I1,r1,q1⟩=>?_) hs
 exact qdd I1 hN hi hx r1 (fun s2 I2=>⟨_,H1,I2,q1⟩) hf
def tPar (i j:Nat) (ta:TA):TS:=fun D σ H=>ta σ H fun vs H1=>∃v w,vs=[v,w]/\D.nx ((σ.set i (some v)).set j (some w)) H1
theorem ps_par {i j:Nat} {x y:Str} {a b:Expr} {ta:TA} {px py pt:Pos} {kt k2 pt2} (hc:X.calm=true) (hN:X.N.Nodup) (hi:X.N[i]?=some x) (hj:X.N[j]?=some y) (hij:i≠j)
  (hx:X.env.scope.names.lookup x=some .local) (hy:X.env.scope.names.lookup y=some .local) (ha:PA X [a,b] ta)
  (hw:swappedStores [.Tuple [.Name x px,.Name y py] kt pt] (.Tuple [a,b] k2 pt2) X.env=pure (some [x,y]))
  (hs:swapsWithSole [.Tuple [.Name x px,.Name y py] kt pt] (.Tuple [a,b] k2 pt2) pos.line X.env=pure false:=by rfl):
  PS X (.Assign [.Tuple [.Name x px,.Name y py] kt pt] (.Tuple [a,b] k2 pt2) pos) (tPar i j ta):=by
 intro pins s σ H D I h
 rw [exec_Assign_arm]
 refine wpAny_bind (wpAny_standAt ?_)
 rw [hs]
 refine wpAny_bind (wpAny_pure ?_)
 rw [if_neg (by decide)]
 refine wpAny_bind (Tuple_ (thn (ha _ pins s σ H _ I h) fun us s1 ⟨vs,H1,I1,r1,q1⟩=>?_))
 obtain⟨v,w,e1,q1⟩:=q1
 subst e1
 obtain⟨u1,u2,rfl,rv,rw'⟩:∃u1 u2,us=[u1,u2]/\qb2 v u1/\qb2 w u2:=by
  cases r1 with
  |cons p q=>
   cases q with
   |cons p' q'=>
    cases q'
    exact⟨_,_,rfl,p,p'⟩
 refine wpAny_newObj_type ?_ (by show 2<=sizeLine;decide)
 have I2:Inv X pins σ H1 {s1 with heap:=s1.heap.push {cls:=.type "tuple",data:=.seq [u1,u2].toArray}}:=I1.kept (t':=s1.toks) fun b o e=>Heap.get?_push_of_some _ e
 rw [hw]
 refine wpAny_bind (wpAny_pure ?_)
 show wpAny (model X.prog X.w) X.A (do rule "assign.swapped-stores";let items<-unpackItems (.ref s1.heap.objs.size) 2 none;assignInOrder [fun v=>bindName X.env y v,fun v=>bindName X.env x v] items.reverse;pure Flow.next) _ _ _
 refine wpAny_bind (wpAny_rule (wpAny_bind (unpackItems_tuple (items:=#[u1,u2]) (I.ok.hd hc) (IsTup.new s1.heap _) fun h' hx'=>?_)))
 have I3:=I2.kept (h':=h') (t':=s1.toks) fun b o e=>hx' b o (Nat.ne_of_lt (Heap.lt_size e)) e
 show wpAny _ _ (assignInOrder [fun v=>bindName X.env y v,fun v=>bindName X.env x v] [u2,u1] >>= fun _=>pure Flow.next) _ _ _
 refine wpAny_bind (assignInOrder_cons (wpAny_bindName (qdd I3 hN hj (.inl hy) rw' (fun s2 I4=>?_) (.inr hy))))
 refine assignInOrder_cons (wpAny_bindName (qdd I4 hN hi (.inl hx) rv (fun s3 I5=>assignInOrder_nil (wpAny_pure ?_)) (.inr hx)))
 rw [List.set_comm _ _ (Ne.symm hij)] at I5
 exact⟨_,H1,I5,q1⟩
end
section
variable {X: Cx} {pos: Pos}
def tWhile (c:TT) (tb:TS):TS:=fun D σ H=>∃W:Nat->St->Hp->Prop,(∃m,W m σ H)/\∀m σ H,W m σ H->
 c σ H fun b H1=>if b=true then ∃N:St->Hp->Prop,(∀σ' H',N σ' H'->∃m',m' < m/\W m' σ' H')/\tb {D with nx:=N,ct:=N,bk:=D.nx} σ H1 else D.nx σ H1
theorem qe2 {c:Expr} {body:List Stmt} {tc:TT} {tb:TS} (hp:PassesOwn (model X.prog X.w) X.A X.env X.xe) (hc:PT X c tc) (hb:PSs X body tb):PS X (.While c body [] pos) (tWhile tc tb):=by
 intro pins s σ H D I h
 obtain⟨W,⟨m0,w0⟩,turn⟩:=h
 refine wpAny_While (codeAny_whileLoop (fun n s'=>∃σ' H',Inv X pins σ' H' s'/\W n σ' H') ?_ m0 ⟨σ,H,I,w0⟩)
 rintro n s1 ⟨σ1,H1,I1,w1⟩
 refine wpAny_passesOwn hp (thn (hc pins s1 σ1 H1 _ I1 (turn n σ1 H1 w1)) fun b s2 ⟨H2,I2,q2⟩=>?_)
 cases b with
 |true=>
  obtain⟨N,hN,q2⟩:=q2
  rw [if_pos rfl]
  refine wpAny_passesOwn hp (thn (hb pins s2 σ1 H2 _ I2 q2) fun f s3 q3=>?_)
  cases f with
  |next=>
   obtain⟨σ3,H3,I3,n3⟩:=q3
   obtain⟨m',hm,w3⟩:=hN σ3 H3 n3
   exact⟨m',hm,σ3,H3,I3,w3⟩
  |cont=>
   obtain⟨σ3,H3,I3,n3⟩:=q3
   obtain⟨m',hm,w3⟩:=hN σ3 H3 n3
   exact⟨m',hm,σ3,H3,I3,w3⟩
  |brk=>exact q3
  |ret v=>exact q3
 |false=>
  rw [if_neg Bool.false_ne_true]
  exact wpAny_execs_nil ⟨σ1,H2,I2,q2⟩
end
structure It where
 go:Nat->Hp->Prop
 yld:Nat->Hp->V->Hp->Prop
 stop:Nat->Hp->Prop
def FpOk (X:Cx) (pins:List (Addr × Obj)) (H:Hp) (b:Addr):Prop:=
 H b=none/\b≠X.env.locals/\b∉X.fs/\(b∈X.ex\/X.s₀.heap.objs.size<=b)/\(∀x c,X.env.cells.lookup x=some c->c≠b)/\∀p∈X.pn++pins,p.1≠b
theorem Inv.fpOk {X:Cx} {pins:List (Addr × Obj)} {σ:St} {H H':Hp} {s:Shared} {b:Addr} (I:Inv X pins σ H s) (hb:s.heap.objs.size<=b) (hn:H' b=none):FpOk X pins H' b:=by
 refine⟨hn,Nat.ne_of_gt (Nat.lt_of_lt_of_le I.lt hb),I.nofs hb,.inr (Nat.le_trans I.sz hb),fun x c e z=>?_,fun p hp z=>?_⟩
 .obtain⟨v,q⟩:=I.cell x c e
  exact absurd (Nat.lt_of_lt_of_le q.lt (by rw [z];exact hb)) (Nat.lt_irrefl _)
 .exact absurd (Nat.lt_of_lt_of_le (Heap.lt_size (I.pin p hp).1) (by rw [z];exact hb)) (Nat.lt_irrefl _)
structure Turn (P:Program) (w:World) (K:Frag) (tg:Expr) (J:It) (fp:List Addr) (it:Addr) (tn:Nat->Heap->Prop):Prop where
 mem:it∈fp
 obj:∀i h,tn i h->∀b∈fp,∃o,h.get? b=some o/\∀v,o.data≠ .cell v
 keep:∀i h h',tn i h->(∀b∈fp,∀o,h.get? b=some o->h'.get? b=some o)->tn i h'
 item:∀(X:Cx),X.prog=P->X.w=w->X.K=K->X.calm=true->∀(i:Nat) (pins:List (Addr × Obj)) (s:Shared) (σ:St) (H:Hp) (E:Value->Shared->Prop),Inv X pins σ H s->(∀b∈fp,FpOk X pins H b)->tn i s.heap->J.go i H->
  wpAny (model P w) X.A (pyNext (.ref it)) (fun r s1=>∃u,r=some u/\
   wpAny (model P w) X.A (letOwnedTupleGo tg (.ref it) u) (fun _ s2=>∃x H',Inv X pins σ H' s2/\qb2 x u/\J.yld i H x H'/\tn (i+1) s2.heap/\∀b∈fp,H' b=none) E s1) E s
 done:∀(X:Cx),X.prog=P->X.w=w->X.K=K->X.calm=true->∀(i:Nat) (pins:List (Addr × Obj)) (s:Shared) (σ:St) (H:Hp) (E:Value->Shared->Prop),Inv X pins σ H s->(∀b∈fp,FpOk X pins H b)->tn i s.heap->J.stop i H->
  wpAny (model P w) X.A (pyNext (.ref it)) (fun r s1=>r=none/\Inv X pins σ H s1) E s
 self:∀(A:Around) (i:Nat) (s:Shared) (Q:Value->Shared->Prop) (E:Value->Shared->Prop),tn i s.heap->Q (.ref it) s->wpAny (model P w) A (pyIter (.ref it)) Q E s
abbrev TI:=St->Hp->(It->Hp->Prop)->Prop
def PIE (X:Cx) (pins:List (Addr × Obj)) (σ:St) (tg:Expr) (R:It->Hp->Prop) (itv:Value) (s2:Shared):Prop:=
 ∃(it:Addr) (fp:List Addr) (tn:Nat->Heap->Prop) (J:It) (H':Hp),itv=.ref it/\Inv X pins σ H' s2/\Turn X.prog X.w X.K tg J fp it tn/\tn 0 s2.heap/\(∀b∈fp,FpOk X pins H' b)/\R J H'
def PI (X:Cx) (tg iter:Expr) (wi:TI):Prop:=
 ∀(pins:List (Addr × Obj)) (s:Shared) (σ:St) (H:Hp) (R:It->Hp->Prop),Inv X pins σ H s->wi σ H R->
  wpAny (model X.prog X.w) X.A (eval iter X.env) (fun v s1=>wpAny (model X.prog X.w) X.A (pyIter v) (PIE X pins σ tg R) X.xe s1) X.xe s
theorem go_of {M:Model} {A:Around} {E:Value->Shared->Prop} {s:Shared} {tg:Expr} {it:Addr} {u:Value} {o:Obj} {n:String} {vs:Array Value} {Q:Unit->Shared->Prop} (ho:s.heap.get? it=some o) (hc:o.cls=.type n) (hd:o.data=.fields vs)
  (hn: ["enumerate","zip","dict_itemiterator","dict_reverseitemiterator","odict_iterator","itertools.zip_longest","itertools.pairwise"].contains n=false) (hQ:Q () s):wpAny M A (letOwnedTupleGo tg (.ref it) u) Q E s:=by
 unfold letOwnedTupleGo
 cases tg <;> first
  |exact wpAny_pure hQ
  |(cases u <;> first
    |exact wpAny_pure hQ
    |(refine wpAny_bind (wpAny_load ho ?_)
      rw [hc,hd]
      show wpAny M A (if (["enumerate","zip","dict_itemiterator","dict_reverseitemiterator","odict_iterator","itertools.zip_longest","itertools.pairwise"].contains n && vs[0]?==some (rawInt _))=true then _ else _) Q E s
      rw [if_neg (by intro h;rw [hn,Bool.false_and] at h;cases h)]
      exact wpAny_pure hQ))
def Itl (K:Frag) (a:Addr):It:=
 ⟨fun i H=>∃xs x,SqL K H a xs/\xs[i]?=some x,fun i H x H'=>H'=H/\∀xs,SqL K H a xs->xs[i]?=some x,fun i H=>∃xs,SqL K H a xs/\xs.length<=i⟩
def Itr (lo:Int) (n:Nat):It:=⟨fun i _=>i < n,fun i H x H'=>H'=H/\x=.int (lo+i),fun i _=>n<=i⟩
theorem turn_list {P:Program} {w:World} {K:Frag} {tg:Expr} (a it:Addr):Turn P w K tg (Itl K a) [it] it (fun i h=>h.IsListIter it a i) where
 mem:=by simp
 obj:=fun i h st b hb=>by
  have e:b=it:=by simpa using hb
  subst e
  obtain⟨o,e,c,d⟩:=st
  exact⟨o,e,fun v z=>by rw [d] at z;cases z⟩
 keep:=fun i h h' st k=>st.at fun o e=>k it (by simp) o e
 item:=by
  intro X hP hw hK hc i pins s σ H E I hf st hg
  subst hP hw hK
  obtain⟨xs,x,hq,hx⟩:=hg
  obtain⟨its,rv,p,hz⟩:=I.list hq
  obtain⟨u,hu,ru⟩:=rv.get hx
  obtain⟨f0,f1,f2,f3,f4,f5⟩:=hf it (by simp)
  refine wpAny_pyNext_list_item st p.isList (x:=u) (by simpa using hu) fun h' st' sb=>?_
  have I1:Inv X pins σ H {s with heap:=h'}:=I.turned (t':=s.toks) (fun b o hb e=>(sb.2 b hb).trans e) f0 f1 f3 f4 f5
  obtain⟨o,e,c,d⟩:=id st'
  exact⟨u,rfl,go_of (s:={s with heap:=h'}) e c d (by decide) ⟨x,H,I1,ru,⟨rfl,fun ys hy=>by rw [I.list_inj hy hq];exact hx⟩,st',fun b hb=>(hf b hb).1⟩⟩
 done:=by
  intro X hP hw hK hc i pins s σ H E I hf st hg
  subst hP hw hK
  obtain⟨xs,hq,hx⟩:=hg
  obtain⟨its,rv,p,hz⟩:=I.list hq
  obtain⟨f0,f1,f2,f3,f4,f5⟩:=hf it (by simp)
  have hl:=rv.length
  exact wpAny_pyNext_list_end (I.ok.hd hc) st p.isList (by simp;omega) fun h' eb=>⟨rfl,I.turned (t':=s.toks) (fun b o hb e=>eb b o hb e) f0 f1 f3 f4 f5⟩
 self:=fun _ _ _ _ _ st h=>wpAny_pyIter_listiter st h
theorem turn_range {P:Program} {w:World} {K:Frag} {tg:Expr} (it:Addr) (lo:Int) (n:Nat):Turn P w K tg (Itr lo n) [it] it (fun i h=>IsRangeIter h it (lo+(i:Nat)*1) ((n:Int) - (i:Nat)) 1) where
 mem:=by simp
 obj:=fun i h st b hb=>by
  have e:b=it:=by simpa using hb
  subst e
  exact⟨_,st,fun v z=>by
   have z':Data.fields _=Data.cell v:=z
   cases z'⟩
 keep:=fun i h h' st k=>k it (by simp) _ st
 item:=by
  intro X hP hw hK hc i pins s σ H E I hf st hg
  subst hP hw hK
  obtain⟨f0,f1,f2,f3,f4,f5⟩:=hf it (by simp)
  have W:=Walks.range (prog:=X.prog) (w:=X.w) (I.ok.hd hc) it lo 1 n
  refine W.item i s _ _ hg st fun v h' tk hv st' kk=>?_
  obtain⟨t,rfl⟩:=hv
  have I1:Inv X pins σ H {s with heap:=h',toks:=tk}:=I.turned (fun b o hb e=>kk b o (by simpa using hb) e) f0 f1 f3 f4 f5
  refine⟨_,rfl,go_of (s:={s with heap:=h',toks:=tk}) (n:="range_iterator") st' rfl rfl (by decide) ⟨.int (lo+i),H,I1,⟨t,?_⟩,⟨rfl,rfl⟩,st',fun b hb=>(hf b hb).1⟩⟩
  rw [Int.mul_one]
 done:=by
  intro X hP hw hK hc i pins s σ H E I hf st hg
  subst hP hw hK
  obtain⟨f0,f1,f2,f3,f4,f5⟩:=hf it (by simp)
  exact wpAny_pyNext_range_end (I.ok.hd hc) st (by have:n<=i:=hg;omega) fun h' eb=>⟨rfl,I.turned (t':=s.toks) (fun b o hb e=>eb b o hb e) f0 f1 f3 f4 f5⟩
 self:=fun _ _ _ _ _ st h=>wpAny_pyIter_rangeiter st h
end L2
namespace L2
open PySem PySem.Spec PyProof.Rows
section
variable {X: Cx} {tg: Expr}
def iList (K:Frag) (tl:TE):TI:=fun σ H R=>tl σ H fun x H1=>∃a,x=.ref a/\(∃xs,SqL K H1 a xs)/\R (Itl K a) H1
theorem qb0 {l:Expr} {tl:TE} (hl:PE X l tl):PI X tg l (iList X.K tl):=by
 intro pins s σ H R I h
 refine thn (hl pins s σ H _ I h) fun v s1 ⟨x,H1,I1,r1,q1⟩=>?_
 obtain⟨a,e,⟨xs,hq⟩,q⟩:=q1
 subst e
 cases r1
 obtain⟨its,rv,p,hz⟩:=I1.list hq
 refine wpAny_pyIter_list p.isList ?_
 refine⟨s1.heap.objs.size, [s1.heap.objs.size],_,_,H1,rfl,I1.kept (t':=s1.toks) fun b o e=>Heap.get?_push_of_some _ e,turn_list a _,⟨_,Heap.get?_push_size _ rfl,rfl,rfl⟩,fun b hb=>?_,q⟩
 have e:b=s1.heap.objs.size:=by simpa using hb
 subst e
 exact I1.fpOk (Nat.le_refl _) (I1.hok.fresh (Nat.le_refl _))
theorem range_it {pins:List (Addr × Obj)} {σ:St} {H:Hp} {s:Shared} {R:It->Hp->Prop} {E:Value->Shared->Prop} {lo hi:Int} {t u v:Tok} {tk:Nat} (I:Inv X pins σ H s) (h1: -(2^62)<=lo) (h2:lo < 2^62) (h3: -(2^62)<=hi) (h4:hi < 2^62)
  (q:R (Itr lo (hi - lo).toNat) H):wpAny (model X.prog X.w) X.A (pyIter (.ref s.heap.objs.size)) (PIE X pins σ tg R) E {s with heap:=s.heap.push {cls:=.type "range",data:=.fields #[.int lo t,.int hi u,.int 1 v]},toks:=tk}:=by
 refine wpAny_pyIter_range (IsRange.new ..) (small_one h1 h2 h3 h4) ?_
 have I1:Inv X pins σ H {s with heap:=s.heap.push {cls:=.type "range",data:=.fields #[.int lo t,.int hi u,.int 1 v]},toks:=tk}:=I.kept fun b o e=>Heap.get?_push_of_some _ e
 refine⟨(s.heap.push {cls:=.type "range",data:=.fields #[.int lo t,.int hi u,.int 1 v]}).objs.size, [(s.heap.push {cls:=.type "range",data:=.fields #[.int lo t,.int hi u,.int 1 v]}).objs.size],_,_,H,rfl,
  I1.kept (t':=tk) fun b o e=>Heap.get?_push_of_some _ e,turn_range _ lo (hi - lo).toNat,?_,fun b hb=>?_,q⟩
 .have e1:lo+((0:Nat):Int)*1=lo:=by simp
  have e2:(((hi - lo).toNat:Nat):Int) - ((0:Nat):Int)=Builtin.Range.rangeSize lo hi 1:=by rw [rangeSize_one];split <;> omega
  show IsRangeIter _ _ (lo+((0:Nat):Int)*1) ((((hi - lo).toNat:Nat):Int) - ((0:Nat):Int)) 1
  rw [e1,e2]
  exact Heap.get?_push_size _ rfl
 .have e:b=(s.heap.push {cls:=.type "range",data:=.fields #[.int lo t,.int hi u,.int 1 v]}).objs.size:=by simpa using hb
  subst e
  exact I1.fpOk (Nat.le_refl _) (I1.hok.fresh (Nat.le_refl _))
def iRng1 (ta:TA):TI:=fun σ H R=>ta σ H fun vs H1=>∃j:Int,vs=[.int j]/\-(2^62)<=j/\j < 2^62/\R (Itr 0 j.toNat) H1
def iRng2 (ta:TA):TI:=fun σ H R=>ta σ H fun vs H1=>∃i j:Int,vs=[.int i,.int j]/\(-(2^62)<=i/\i < 2^62/\-(2^62)<=j/\j < 2^62)/\R (Itr i (j - i).toNat) H1
theorem qcg {a:Expr} {ta:TA} {p pos:Pos} (hg:Gl X "range") (hm:X.mg "range" =none) (ha:PA X [a] ta) (hs:starEach [a] X.env=[(false,eval a X.env)]:=by rfl):PI X tg (.Call (.Name "range" p) [a] [] pos) (iRng1 ta):=by
 intro pins s σ H R I h
 refine Call_ (ld_blt I hg hm boot_range (PyProof.Rows.callWith_type1 (thn (ha pos pins s σ H _ I h) fun us s1 ⟨vs,H1,I1,r1,q1⟩=>?_) hs rfl))
 obtain⟨j,e,q1,q2,q⟩:=q1
 subst e
 cases r1 with
 |cons r rr=>
  cases rr
  obtain⟨t,rfl⟩:=r
  exact call_range_1 (range_it I1 (by omega) (by omega) q1 q2 (by simpa using q))
theorem pi_range2 {a b:Expr} {ta:TA} {p pos:Pos} (hg:Gl X "range") (hm:X.mg "range" =none) (ha:PA X [a,b] ta) (hs:starEach [a,b] X.env=[(false,eval a X.env),(false,eval b X.env)]:=by rfl) (hs2:starEach [b] X.env=[(false,eval b X.env)]:=by rfl):
  PI X tg (.Call (.Name "range" p) [a,b] [] pos) (iRng2 ta):=by
 intro pins s σ H R I h
 refine Call_ (ld_blt I hg hm boot_range (PyProof.Rows.callWith_type1 (thn (ha pos pins s σ H _ I h) fun us s1 ⟨vs,H1,I1,r1,q1⟩=>?_) (by rw [hs,hs2]) (by rw [hs2];rfl)))
 obtain⟨i,j,e,⟨q1,q2,q3,q4⟩,q⟩:=q1
 subst e
 cases r1 with
 |cons r rr=>
  cases rr with
  |cons r' rr=>
   cases rr
   obtain⟨t,rfl⟩:=r
   obtain⟨t',rfl⟩:=r'
   exact call_range_2 (range_it I1 q1 q2 q3 q4 q)
def tFor (wi:TI) (g:TG) (tb:TS):TS:=fun D σ H=>wi σ H fun J H1=>∃W:Nat->Nat->St->Hp->Prop,(∃m,W 0 m σ H1)/\∀i m σ H,W i m σ H->
 (J.stop i H/\D.nx σ H)\/(J.go i H/\∃N:St->Hp->Prop,(∀σ' H',N σ' H'->∃m',m' < m/\W (i+1) m' σ' H')/\∀x H',J.yld i H x H'->g x σ H' fun σ2 H2=>tb {D with nx:=N,ct:=N,bk:=D.nx} σ2 H2)
def qcl (fp:List Addr) (h:Heap):List (Addr × Obj):=fp.filterMap fun b=>(h.get? b).map fun o=>(b,o)
theorem qcf {fp:List Addr} {h:Heap} {b:Addr} {o:Obj} (hb:b∈fp) (e:h.get? b=some o):(b,o)∈qcl fp h:=List.mem_filterMap.mpr ⟨b,hb,by rw [e];rfl⟩
theorem of_pinsAt {fp:List Addr} {h:Heap} {p:Addr × Obj} (hp:p∈qcl fp h):p.1∈fp/\h.get? p.1=some p.2:=by
 obtain⟨b,hb,e⟩:=List.mem_filterMap.mp hp
 cases q:h.get? b with
 |none=>rw [q] at e;cases e
 |some o=>
  rw [q] at e
  have e':(b,o)=p:=Option.some.inj e
  subst e'
  exact⟨hb,q⟩
theorem Inv.pinned {pins:List (Addr × Obj)} {σ:St} {H:Hp} {s:Shared} {fp:List Addr} (I:Inv X pins σ H s) (hf:∀b∈fp,FpOk X pins H b) (ho:∀b∈fp,∃o,s.heap.get? b=some o/\∀v,o.data≠ .cell v):Inv X (pins++qcl fp s.heap) σ H s:=
 I.pins_of fun p hp=>(mem_append.mp hp).elim (fun z=>I.pin p (mem_append_right _ z)) fun z=>by
  obtain⟨hb,e⟩:=of_pinsAt z
  obtain⟨f0,f1,f2,_⟩:=hf p.1 hb
  obtain⟨o,e',d⟩:=ho p.1 hb
  rw [e] at e';cases e'
  exact⟨e,f0,f1,f2,d⟩
theorem Inv.unpinned {pins pl:List (Addr × Obj)} {σ:St} {H:Hp} {s:Shared} (I:Inv X (pins++pl) σ H s):Inv X pins σ H s:=I.pins_of fun p hp=>I.pin p (mem_append_right _ (mem_append_left _ hp))
theorem qb5 {iter:Expr} {body:List Stmt} {wi:TI} {g:TG} {tb:TS} {pos:Pos} (hp:PassesOwn (model X.prog X.w) X.A X.env X.xe) (hc:X.calm=true) (hi:PI X tg iter wi) (hg:PG X tg g) (hb:PSs X body tb)
  (hs:∀x,foldedSetIterable iter X.env x=pure x:=by intro _;rfl):PS X (.For tg iter body [] pos) (tFor wi g tb):=by
 intro pins s σ H D I h
 refine wpAny_For (thn (hi pins s σ H _ I h) fun v s1 h1=>thn h1 fun itv s2 h2=>?_) hs
 obtain⟨it,fp,tn,J,H2,e,I2,T,st2,f2,W,⟨m0,w0⟩,turn⟩:=h2
 subst e
 have stat:∀{H':Hp},(∀b∈fp,H' b=none)->∀b∈fp,FpOk X pins H' b:=fun hn b hb=>⟨hn b hb,(f2 b hb).2⟩
 refine codeAny_forLoop_any (fun n s'=>∃i σ' H',Inv X pins σ' H' s'/\tn i s'.heap/\(∀b∈fp,H' b=none)/\W i n σ' H') ?_ m0 ⟨0,σ,H2,I2,st2,fun b hb=>(f2 b hb).1,w0⟩
 rintro n s3 ⟨i,σ3,H3,I3,st3,fr3,w3⟩
 rcases turn i n σ3 H3 w3 with ⟨stop,qn⟩ |⟨go,N,hN,step⟩
 .refine wpAny_passesOwn hp (thn (T.done X rfl rfl rfl hc i pins s3 σ3 H3 X.xe I3 (stat fr3) st3 stop) fun r s4 ⟨hr,I4⟩=>?_)
  subst hr
  exact wpAny_execs_nil ⟨σ3,H3,I4,qn⟩
 .refine wpAny_passesOwn hp (thn (T.item X rfl rfl rfl hc i pins s3 σ3 H3 X.xe I3 (stat fr3) st3 go) fun r s4 ⟨u,hr,h4⟩=>?_)
  subst hr
  refine wpAny_passesOwn hp (thn h4 fun _ s5 ⟨x,H5,I5,r5,y5,st5,fr5⟩=>?_)
  have I5':=I5.pinned (stat fr5) (T.obj _ _ st5)
  refine wpAny_passesOwn hp (thn (hg _ s5 σ3 H5 x u _ I5' r5 (step x H5 y5)) fun _ s6 ⟨σ6,H6,I6,q6⟩=>?_)
  refine wpAny_passesOwn hp (thn (hb _ s6 σ6 H6 _ I6 q6) fun f s7 q7=>?_)
  have again:∀{σ7:St} {H7:Hp},Inv X (pins++qcl fp s5.heap) σ7 H7 s7->N σ7 H7->∃m,m < n/\∃i σ' H',Inv X pins σ' H' s7/\tn i s7.heap/\(∀b∈fp,H' b=none)/\W i m σ' H':=fun {σ7 H7} I7 n7=>by
   obtain⟨m',hm,w7⟩:=hN σ7 H7 n7
   refine⟨m',hm,i+1,σ7,H7,I7.unpinned,T.keep _ _ _ st5 fun b hb o e=>(I7.pin (b,o) (mem_append_right _ (mem_append_right _ (qcf hb e)))).1,fun b hb=>?_,w7⟩
   obtain⟨o,e,d⟩:=T.obj _ _ st5 b hb
   exact(I7.pin (b,o) (mem_append_right _ (mem_append_right _ (qcf hb e)))).2.1
  cases f with
  |next=>obtain⟨σ7,H7,I7,n7⟩:=q7;exact again I7 n7
  |cont=>obtain⟨σ7,H7,I7,n7⟩:=q7;exact again I7 n7
  |brk=>obtain⟨σ7,H7,I7,q7⟩:=q7;exact⟨σ7,H7,I7.unpinned,q7⟩
  |ret v=>obtain⟨x7,σ7,H7,I7,r7,q7⟩:=q7;exact⟨x7,σ7,H7,I7.unpinned,r7,q7⟩
end
theorem for_list {K:Frag} {a:Addr} {xs:List V} {g:TG} {tb:TS} {D:Ends} {σ:St} {H:Hp} (Pv:Nat->St->Hp->Prop) (h0:Pv 0 σ H) (hl:∀i σ H,i<=xs.length->Pv i σ H->SqL K H a xs)
  (hs:∀i x σ H,xs[i]?=some x->Pv i σ H->g x σ H fun σ2 H2=>tb {D with nx:=Pv (i+1),ct:=Pv (i+1),bk:=D.nx} σ2 H2) (hd:∀σ H,Pv xs.length σ H->D.nx σ H):
  ∃W:Nat->Nat->St->Hp->Prop,(∃m,W 0 m σ H)/\∀i m σ H,W i m σ H->
   ((Itl K a).stop i H/\D.nx σ H)\/((Itl K a).go i H/\∃N:St->Hp->Prop,(∀σ' H',N σ' H'->∃m',m' < m/\W (i+1) m' σ' H')/\∀x H',(Itl K a).yld i H x H'->g x σ H' fun σ2 H2=>tb {D with nx:=N,ct:=N,bk:=D.nx} σ2 H2):=by
 refine⟨fun i m σ H=>m=xs.length - i/\i<=xs.length/\Pv i σ H,⟨xs.length,by simp,Nat.zero_le _,h0⟩,?_⟩
 rintro i m σ H ⟨rfl,hi,p⟩
 have q:=hl i σ H hi p
 by_cases hlt:i < xs.length
 .refine .inr ⟨⟨xs,xs[i],q,by simp [hlt]⟩,Pv (i+1),fun σ' H' p'=>⟨xs.length - (i+1),by omega,rfl,hlt,p'⟩,fun x H' y=>?_⟩
  obtain⟨e,y⟩:=y
  subst e
  exact hs i x σ _ (y xs q) p
 .have e:i=xs.length:=by omega
  subst e
  exact .inl ⟨⟨xs,q,Nat.le_refl _⟩,hd σ H p⟩
theorem for_range {lo:Int} {n:Nat} {g:TG} {tb:TS} {D:Ends} {σ:St} {H:Hp} (Pv:Nat->St->Hp->Prop) (h0:Pv 0 σ H)
  (hs:∀i σ H,i < n->Pv i σ H->g (.int (lo+i)) σ H fun σ2 H2=>tb {D with nx:=Pv (i+1),ct:=Pv (i+1),bk:=D.nx} σ2 H2) (hd:∀σ H,Pv n σ H->D.nx σ H):
  ∃W:Nat->Nat->St->Hp->Prop,(∃m,W 0 m σ H)/\∀i m σ H,W i m σ H->
   ((Itr lo n).stop i H/\D.nx σ H)\/((Itr lo n).go i H/\∃N:St->Hp->Prop,(∀σ' H',N σ' H'->∃m',m' < m/\W (i+1) m' σ' H')/\∀x H',(Itr lo n).yld i H x H'->g x σ H' fun σ2 H2=>tb {D with nx:=N,ct:=N,bk:=D.nx} σ2 H2):=by
 refine⟨fun i m σ H=>m=n - i/\i<=n/\Pv i σ H,⟨n,by simp,Nat.zero_le _,h0⟩,?_⟩
 rintro i m σ H ⟨rfl,hi,p⟩
 by_cases hlt:i < n
 .refine .inr ⟨hlt,Pv (i+1),fun σ' H' p'=>⟨n - (i+1),by omega,rfl,hlt,p'⟩,fun x H' y=>?_⟩
  obtain⟨e,y⟩:=y
  subst e y
  exact hs i σ _ hlt p
 .have e:i=n:=by omega
  subst e
  exact .inl ⟨Nat.le_refl _,hd σ H p⟩
theorem qdy {c:TT} {tb:TS} {D:Ends} {σ:St} {H:Hp} (Pv:St->Hp->Prop) (μ:St->Hp->Nat) (h0:Pv σ H)
  (hs:∀σ H,Pv σ H->c σ H fun b H1=>if b=true then tb {D with nx:=fun σ' H'=>Pv σ' H'/\μ σ' H' < μ σ H,ct:=fun σ' H'=>Pv σ' H'/\μ σ' H' < μ σ H,bk:=D.nx} σ H1 else D.nx σ H1)
  (mono:∀σ H Q Q',(∀b H1,Q b H1->Q' b H1)->c σ H Q->c σ H Q'):tWhile c tb D σ H:=by
 refine⟨fun m σ H=>m=μ σ H/\Pv σ H,⟨_,rfl,h0⟩,?_⟩
 rintro m σ H ⟨rfl,p⟩
 refine mono σ H _ _ (fun b H1 q=>?_) (hs σ H p)
 cases b with
 |true=>exact⟨_,fun σ' H' ⟨p',l⟩=>⟨_,l,rfl,p'⟩,q⟩
 |false=>exact q
end L2
namespace L2
open PySem PySem.Spec PyProof.Rows
abbrev R2:=V->V->Hp->VK->Prop
def OpR (X:Cx) (f:Value->Value->Sem Value) (r:R2):Prop:=
 ∀(pins:List (Addr × Obj)) (s:Shared) (σ:St) (H:Hp) (x y:V) (v u:Value) (Q:VK),Inv X pins σ H s->qb2 x v->qb2 y u->r x y H Q->
  wpAny (model X.prog X.w) X.A (f v u) (EP X pins σ Q) X.xe s
def UnR (X:Cx) (f:Value->Sem Value) (r:V->Hp->VK->Prop):Prop:=
 ∀(pins:List (Addr × Obj)) (s:Shared) (σ:St) (H:Hp) (x:V) (v:Value) (Q:VK),Inv X pins σ H s->qb2 x v->r x H Q->
  wpAny (model X.prog X.w) X.A (f v) (EP X pins σ Q) X.xe s
def qcj (X:Cx) (f:Value) (r:List V->Hp->VK->Prop):Prop:=
 ∀(pins:List (Addr × Obj)) (s:Shared) (σ:St) (H:Hp) (xs:List V) (us:List Value) (Q:VK),Inv X pins σ H s->qbj xs us->r xs H Q->
  wpAny (model X.prog X.w) X.A (call f us) (EP X pins σ Q) X.xe s
def tOp (r:R2) (ta tb:TE):TE:=fun σ H Q=>ta σ H fun x H1=>tb σ H1 fun y H2=>r x y H2 Q
def tUn (r:V->Hp->VK->Prop) (ta:TE):TE:=fun σ H Q=>ta σ H fun x H1=>r x H1 Q
def rI (C:Int->Int->Prop) (g:Int->Int->V):R2:=fun x y H Q=>∃i j,x=.int i/\y=.int j/\C i j/\Q (g i j) H
def rI0 (g:Int->Int->V):R2:=fun x y H Q=>∃i j,x=.int i/\y=.int j/\Q (g i j) H
def rU (g:Int->V):V->Hp->VK->Prop:=fun x H Q=>∃i,x=.int i/\Q (g i) H
section
variable {X: Cx} {a b: Expr} {ta tb: TE} {pos: Pos}
theorem binT (ha:PE X a ta) (hb:PE X b tb) {pins:List (Addr × Obj)} {s:Shared} {σ:St} {H:Hp} {R:V->V->Hp->Prop} (I:Inv X pins σ H s)
  (h:ta σ H fun x H1=>tb σ H1 fun y H2=>R x y H2) {Q:Value->Shared->Prop} {f:Value->Value->Sem Value}
  (hf:∀v u s2 x y H2,Inv X pins σ H2 s2->qb2 x v->qb2 y u->R x y H2->wpAny (model X.prog X.w) X.A (f v u) Q X.xe s2):
  wpAny (model X.prog X.w) X.A (eval a X.env) (fun v s₁=>wpAny (model X.prog X.w) X.A (eval b X.env) (fun u s₂=>wpAny (model X.prog X.w) X.A (f v u) Q X.xe s₂) X.xe s₁) X.xe s:=by
 refine thn (ha pins s σ H _ I h) fun v s1 ⟨x,H1,I1,r1,q1⟩=>?_
 refine thn (hb pins s1 σ H1 _ I1 q1) fun u s2 ⟨y,H2,I2,r2,q2⟩=>?_
 exact hf v u s2 x y H2 I2 r1 r2 q2
theorem qag {op:Operator} {r:R2} (ho:OpR X (binaryOp op) r) (ha:PE X a ta) (hb:PE X b tb):PE X (.BinOp a op b pos) (tOp r ta tb):=by
 intro pins s σ H Q I h
 exact wpAny_BinOp (binT ha hb I h fun v u s2 x y H2 I2 rx ry q=>ho pins s2 σ H2 x y v u Q I2 rx ry q)
theorem pe_un {op:UnaryOp} {r:V->Hp->VK->Prop} (ho:UnR X (unaryOp op) r) (ha:PE X a ta):PE X (.UnaryOp op a pos) (tUn r ta):=by
 intro pins s σ H Q I h
 exact UnaryOp_ (thn (ha pins s σ H _ I h) fun v s1 ⟨x,H1,I1,r1,q1⟩=>ho pins s1 σ H1 x v Q I1 r1 q1)
theorem opI {f:Value->Value->Sem Value} {C:Int->Int->Prop} {g:Int->Int->Int}
  (rule:∀(i j:Int) (t u:Tok) (s:Shared) (Q:Value->Shared->Prop) (E:Value->Shared->Prop),C i j->Q (.int (g i j) s.toks) {s with toks:=s.toks+1}->wpAny (model X.prog X.w) X.A (f (.int i t) (.int j u)) Q E s):
  OpR X f (rI C fun i j=> .int (g i j)):=by
 intro pins s σ H x y v u Q I rx ry h
 obtain⟨i,j,rfl,rfl,hc,q⟩:=h
 obtain⟨t,rfl⟩:=rx
 obtain⟨t',rfl⟩:=ry
 exact rule i j t t' s _ _ hc ⟨.int (g i j),H,I.tok _,⟨_,rfl⟩,q⟩
theorem opI0 {f:Value->Value->Sem Value} {g:Int->Int->Int}
  (rule:∀(i j:Int) (t u:Tok) (s:Shared) (Q:Value->Shared->Prop) (E:Value->Shared->Prop),Q (.int (g i j) s.toks) {s with toks:=s.toks+1}->wpAny (model X.prog X.w) X.A (f (.int i t) (.int j u)) Q E s):
  OpR X f (rI0 fun i j=> .int (g i j)):=by
 intro pins s σ H x y v u Q I rx ry h
 obtain⟨i,j,rfl,rfl,q⟩:=h
 obtain⟨t,rfl⟩:=rx
 obtain⟨t',rfl⟩:=ry
 exact rule i j t t' s _ _ ⟨.int (g i j),H,I.tok _,⟨_,rfl⟩,q⟩
theorem opB0 {f:Value->Value->Sem Value} {g:Int->Int->Bool}
  (rule:∀(i j:Int) (t u:Tok) (s:Shared) (Q:Value->Shared->Prop) (E:Value->Shared->Prop),Q (.bool (g i j)) s->wpAny (model X.prog X.w) X.A (f (.int i t) (.int j u)) Q E s):
  OpR X f (rI0 fun i j=> .bl (g i j)):=by
 intro pins s σ H x y v u Q I rx ry h
 obtain⟨i,j,rfl,rfl,q⟩:=h
 obtain⟨t,rfl⟩:=rx
 obtain⟨t',rfl⟩:=ry
 exact rule i j t t' s _ _ ⟨.bl (g i j),H,I,rfl,q⟩
def CPow (i j:Int):Prop:=0<=j/\j<=1000000/\i.natAbs < 2^64
theorem qby:OpR X (binaryOp .Add) (rI0 fun i j=> .int (i+j)):=opI0 fun _ _ _ _ _ _ _ q=>add_int q
theorem op_sub:OpR X (binaryOp .Sub) (rI0 fun i j=> .int (i - j)):=opI0 fun _ _ _ _ _ _ _ q=>sub_int q
theorem qb9:OpR X (binaryOp .Mod) (rI (fun _ j=>0 < j) fun i j=> .int (i%j)):=opI fun i j _ _ _ _ _ hc q=>by
 have h1:(0:Int) < j:=hc
 exact mod_int' (by omega) (by rw [Int.fmod_eq_emod_of_nonneg i (by omega)];exact q)
theorem op_pow:OpR X (binaryOp .Pow) (rI CPow fun i j=> .int (i^j.toNat)):=opI fun _ _ _ _ _ _ _ hc q=>pow_int_small hc.1 hc.2.1 hc.2.2 q
theorem unI {f:Value->Sem Value} {g:Int->Int}
  (rule:∀(i:Int) (t:Tok) (s:Shared) (Q:Value->Shared->Prop) (E:Value->Shared->Prop),Q (.int (g i) s.toks) {s with toks:=s.toks+1}->wpAny (model X.prog X.w) X.A (f (.int i t)) Q E s):
  UnR X f (rU fun i=> .int (g i)):=by
 intro pins s σ H x v Q I rx h
 obtain⟨i,rfl,q⟩:=h
 obtain⟨t,rfl⟩:=rx
 exact rule i t s _ _ ⟨.int (g i),H,I.tok _,⟨_,rfl⟩,q⟩
theorem un_neg:UnR X (unaryOp .USub) (rU fun i=> .int (-i)):=unI fun _ _ _ _ _ q=>neg_int q
end
def scal:V->V->Bool
 | .non,.non=>true| .non,.int _=>true| .int _,.non=>true| .non,.bl _=>true| .bl _,.non=>true| .non,.str _=>true| .str _,.non=>true
 | .int _,.int _=>true| .bl _,.bl _=>true| .str _,.str _=>true| .byt _,.byt _=>true
 | .int _,.str _=>true| .str _,.int _=>true| .bl _,.str _=>true| .str _,.bl _=>true
 |_,_=>false
def rEq:R2:=fun x y H Q=>scal x y=true/\Q (.bl (decide (x=y))) H
def rNe:R2:=fun x y H Q=>scal x y=true/\Q (.bl (!decide (x=y))) H
theorem dec_int {i j:Int}:decide (V.int i=V.int j)=(i==j):=by
 rw [Bool.eq_iff_iff]
 simp
theorem dec_bl {i j:Bool}:decide (V.bl i=V.bl j)=(i==j):=by
 rw [Bool.eq_iff_iff]
 simp
theorem dec_str {i j:Str}:decide (V.str i=V.str j)=(i==j):=by
 rw [Bool.eq_iff_iff]
 simp
theorem dec_byt {i j:Array UInt8}:decide (V.byt i=V.byt j)=(i.toList==j.toList):=by
 rw [Bool.eq_iff_iff]
 cases i
 cases j
 simp
section
variable {X: Cx} {a b c: Expr} {ta tb tc: TE} {pos: Pos}
theorem qb3 {pins:List (Addr × Obj)} {σ:St} {H:Hp} {s:Shared} {Q:VK} {k k':Bool} (I:Inv X pins σ H s) (q:Q (.bl k) H) (e:k=k'):EP X pins σ Q (.bool k') s:=by
 subst e
 exact⟨.bl k,H,I,rfl,q⟩
theorem qe5:OpR X (compareOp .Eq) rEq:=by
 intro pins s σ H x y v u Q I rx ry h
 obtain⟨hs,q⟩:=h
 cases x with
 |non=>
  cases rx
  cases y with
  |non=>cases ry;exact PySem.EqNone.eq_none_none (qb3 I q (by simp))
  |bl j=>cases ry;exact PySem.EqNone.eq_none_bool (qb3 I q (by simp))
  |int j=>obtain⟨t',rfl⟩:=ry;exact PySem.EqNone.eq_none_int (qb3 I q (by simp))
  |str j=>obtain⟨t',rfl⟩:=ry;exact PySem.EqNone.eq_none_str (qb3 I q (by simp))
  |_=>exact absurd (show false=true from hs) Bool.false_ne_true
 |bl i=>
  cases rx
  cases y with
  |non=>cases ry;exact PySem.EqNone.eq_bool_none (qb3 I q (by simp))
  |bl j=>cases ry;exact eq_bool (qb3 I q dec_bl)
  |str j=>obtain⟨t',rfl⟩:=ry;exact PySem.EqMixed.eq_bool_str (qb3 I q (by simp))
  |_=>exact absurd (show false=true from hs) Bool.false_ne_true
 |int i=>
  obtain⟨t,rfl⟩:=rx
  cases y with
  |non=>cases ry;exact PySem.EqNone.eq_int_none (qb3 I q (by simp))
  |int j=>obtain⟨t',rfl⟩:=ry;exact eq_int (qb3 I q dec_int)
  |str j=>obtain⟨t',rfl⟩:=ry;exact PySem.EqMixed.eq_int_str (qb3 I q (by simp))
  |_=>exact absurd (show false=true from hs) Bool.false_ne_true
 |str i=>
  obtain⟨t,rfl⟩:=rx
  cases y with
  |non=>cases ry;exact PySem.EqNone.eq_str_none (qb3 I q (by simp))
  |bl j=>cases ry;exact PySem.EqMixed.eq_str_bool (qb3 I q (by simp))
  |int j=>obtain⟨t',rfl⟩:=ry;exact PySem.EqMixed.eq_str_int (qb3 I q (by simp))
  |str j=>obtain⟨t',rfl⟩:=ry;exact eq_str (qb3 I q dec_str)
  |_=>exact absurd (show false=true from hs) Bool.false_ne_true
 |byt i=>
  obtain⟨t,rfl⟩:=rx
  cases y with
  |byt j=>obtain⟨t',rfl⟩:=ry;exact PySem.W.eq_bytes (qb3 I q dec_byt)
  |_=>exact absurd (show false=true from hs) Bool.false_ne_true
 |_=>cases y <;> exact absurd (show false=true from hs) Bool.false_ne_true
theorem op_ne:OpR X (compareOp .NotEq) rNe:=by
 intro pins s σ H x y v u Q I rx ry h
 obtain⟨hs,q⟩:=h
 cases x with
 |non=>
  cases rx
  cases y with
  |non=>cases ry;exact PySem.EqNone.ne_none_none (qb3 I q (by simp))
  |bl j=>cases ry;exact PySem.EqNone.ne_none_bool (qb3 I q (by simp))
  |int j=>obtain⟨t',rfl⟩:=ry;exact PySem.EqNone.ne_none_int (qb3 I q (by simp))
  |str j=>obtain⟨t',rfl⟩:=ry;exact PySem.EqNone.ne_none_str (qb3 I q (by simp))
  |_=>exact absurd (show false=true from hs) Bool.false_ne_true
 |bl i=>
  cases rx
  cases y with
  |non=>cases ry;exact PySem.EqNone.ne_bool_none (qb3 I q (by simp))
  |bl j=>cases ry;exact ne_bool (qb3 I q (congrArg not dec_bl))
  |str j=>obtain⟨t',rfl⟩:=ry;exact PySem.EqMixed.ne_bool_str (qb3 I q (by simp))
  |_=>exact absurd (show false=true from hs) Bool.false_ne_true
 |int i=>
  obtain⟨t,rfl⟩:=rx
  cases y with
  |non=>cases ry;exact PySem.EqNone.ne_int_none (qb3 I q (by simp))
  |int j=>obtain⟨t',rfl⟩:=ry;exact ne_int (qb3 I q (congrArg not dec_int))
  |str j=>obtain⟨t',rfl⟩:=ry;exact PySem.EqMixed.ne_int_str (qb3 I q (by simp))
  |_=>exact absurd (show false=true from hs) Bool.false_ne_true
 |str i=>
  obtain⟨t,rfl⟩:=rx
  cases y with
  |non=>cases ry;exact PySem.EqNone.ne_str_none (qb3 I q (by simp))
  |bl j=>cases ry;exact PySem.EqMixed.ne_str_bool (qb3 I q (by simp))
  |int j=>obtain⟨t',rfl⟩:=ry;exact PySem.EqMixed.ne_str_int (qb3 I q (by simp))
  |str j=>obtain⟨t',rfl⟩:=ry;exact ne_str (qb3 I q (congrArg not dec_str))
  |_=>exact absurd (show false=true from hs) Bool.false_ne_true
 |byt i=>
  obtain⟨t,rfl⟩:=rx
  cases y with
  |byt j=>obtain⟨t',rfl⟩:=ry;exact PySem.W.ne_bytes (qb3 I q (congrArg not dec_byt))
  |_=>exact absurd (show false=true from hs) Bool.false_ne_true
 |_=>cases y <;> exact absurd (show false=true from hs) Bool.false_ne_true
theorem op_lt:OpR X (compareOp .Lt) (rI0 fun i j=> .bl (decide (i < j))):=opB0 fun _ _ _ _ _ _ _ q=>lt_int q
theorem op_le:OpR X (compareOp .LtE) (rI0 fun i j=> .bl (decide (i<=j))):=opB0 fun _ _ _ _ _ _ _ q=>le_int q
theorem qfz:OpR X (compareOp .Gt) (rI0 fun i j=> .bl (decide (j < i))):=opB0 fun _ _ _ _ _ _ _ q=>gt_int q
theorem op_ge:OpR X (compareOp .GtE) (rI0 fun i j=> .bl (decide (j<=i))):=opB0 fun _ _ _ _ _ _ _ q=>ge_int q
theorem op_in_str:OpR X (compareOp .In) (fun x y H Q=>∃i j,x=.str i/\y=.str j/\Q (.bl (!(Builtin.Str.occurrences j i 0 j.length 1).isEmpty)) H):=by
 intro pins s σ H x y v u Q I rx ry h
 obtain⟨i,j,rfl,rfl,q⟩:=h
 obtain⟨t,rfl⟩:=rx
 obtain⟨t',rfl⟩:=ry
 exact in_str (qb3 I q rfl)
theorem op_isN:OpR X (compareOp .Is) (fun x y H Q=>y=.non/\Q (.bl (decide (x=.non))) H):=by
 intro pins s σ H x y v u Q I rx ry h
 obtain⟨rfl,q⟩:=h
 cases ry
 refine is_none_gen (qb3 I q ?_)
 cases x <;> first
  |(cases rx;rfl)
  |(obtain⟨t,rfl⟩:=rx;rfl)
theorem op_notN:OpR X (compareOp .IsNot) (fun x y H Q=>y=.non/\Q (.bl (!decide (x=.non))) H):=by
 intro pins s σ H x y v u Q I rx ry h
 obtain⟨rfl,q⟩:=h
 cases ry
 refine isnot_none_gen (qb3 I q ?_)
 cases x <;> first
  |(cases rx;rfl)
  |(obtain⟨t,rfl⟩:=rx;rfl)
theorem qas (b:Expr) {op:CmpOp} (h:op≠ .In:=by decide) (h2:op≠ .NotIn:=by decide):behindInMarks op b=false:=by
 have e1:(op==CmpOp.In)=false:=by cases op <;> first|rfl|exact absurd rfl h
 have e2:(op==CmpOp.NotIn)=false:=by cases op <;> first|rfl|exact absurd rfl h2
 cases b <;> simp [behindInMarks,e1,e2]
theorem qcd {op:CmpOp} {r:R2} (ho:OpR X (compareOp op) r) (ha:PE X a ta) (hb:PE X b tb) (hm:behindInMarks op b=false):PE X (.Compare a [op] [b] pos) (tOp r ta tb):=by
 intro pins s σ H Q I h
 exact wpAny_Compare1 (binT ha hb I h fun v u s2 x y H2 I2 rx ry q=>ho pins s2 σ H2 x y v u Q I2 rx ry q) hm
def tTest (t:TE):TT:=fun σ H Q=>t σ H fun x H'=>∃k,x=.bl k/\Q k H'
theorem qal {op:CmpOp} {r:R2} (ho:OpR X (compareOp op) r) (ha:PE X a ta) (hb:PE X b tb) (hm:behindInMarks op b=false):PT X (.Compare a [op] [b] pos) (tTest (tOp r ta tb)):=by
 intro pins s σ H Q I h
 refine wpAny_isTrue_Compare1 (thn (ha pins s σ H _ I h) fun v s1 ⟨x,H1,I1,r1,q1⟩=>thn (hb pins s1 σ H1 _ I1 q1) fun u s2 ⟨y,H2,I2,r2,q2⟩=>
  thn (ho pins s2 σ H2 x y v u _ I2 r1 r2 q2) fun c s3 ⟨z,H3,I3,r3,k,e,q3⟩=>?_) hm
 subst e
 cases r3
 exact wpAny_truthy_bool ⟨H3,I3,q3⟩
def tChain (r r':R2) (ta tb tc:TE):TE:=fun σ H Q=>ta σ H fun x H1=>tb σ H1 fun y H2=>r x y H2 fun z H3=>∃k,z=.bl k/\
 (if k=true then tc σ H3 fun w' H4=>r' y w' H4 Q else Q (.bl false) H3)
theorem pe_chain {op op':CmpOp} {r r':R2} (ho:OpR X (compareOp op) r) (ho':OpR X (compareOp op') r') (ha:PE X a ta) (hb:PE X b tb) (hc:PE X c tc)
  (hm:lastMarks [op,op'] [b,c]=false:=by with_unfolding_all rfl):PE X (.Compare a [op,op'] [b,c] pos) (tChain r r' ta tb tc):=by
 intro pins s σ H Q I h
 refine Compare_chain (thn (ha pins s σ H _ I h) fun v s1 ⟨x,H1,I1,r1,q1⟩=>chain_link (thn (hb pins s1 σ H1 _ I1 q1) fun u s2 ⟨y,H2,I2,r2,q2⟩=>
  thn (ho pins s2 σ H2 x y v u _ I2 r1 r2 q2) fun d s3 ⟨z,H3,I3,r3,k,e,q3⟩=>?_)) hm
 subst e
 cases r3
 refine wpAny_truthy_bool ?_
 cases k with
 |false=>exact ite_ff ⟨.bl false,H3,I3,rfl,q3⟩
 |true=>exact ite_tt (chain_last (thn (hc pins s3 σ H3 _ I3 q3) fun w' s4 ⟨z',H4,I4,r4,q4⟩=>ho' pins s4 σ H4 y z' u w' Q I4 r2 r4 q4))
theorem line63:(sizeLine:Nat) < 2^63:=by rw [sizeLine_eq];decide
theorem op_add_str:OpR X (binaryOp .Add) (fun x y H Q=>∃i j,x=.str i/\y=.str j/\i.length+j.length<=sizeLine/\Q (.str (i++j)) H):=by
 intro pins s σ H x y v u Q I rx ry h
 obtain⟨i,j,rfl,rfl,hz,q⟩:=h
 obtain⟨t,rfl⟩:=rx
 obtain⟨t',rfl⟩:=ry
 exact add_str (fun t' tk=>⟨.str (i++j),H,I.tok _,⟨_,rfl⟩,q⟩) hz
theorem vals1 {x:V} {us:List Value} (r:qbj [x] us):∃u,us=[u]/\qb2 x u:=by
 cases r with
 |cons r1 r2=>cases r2;exact⟨_,rfl,r1⟩
theorem call_abs:qcj X (.builtin "abs") (fun xs H Q=>∃i,xs=[.int i]/\Q (.int (if i < 0 then -i else i)) H):=by
 intro pins s σ H xs us Q I r h
 obtain⟨i,rfl,q⟩:=h
 obtain⟨u,rfl,t,rfl⟩:=vals1 r
 exact call_abs_int fun u tk=>⟨.int (if i < 0 then -i else i),H,I.tok _,⟨_,rfl⟩,q⟩
end
end L2
namespace L2
open PySem PySem.Spec PyProof.Rows
structure ObjM (h:Heap) (x dx C:Addr) (mA:Str->Option Value):Prop where
 obj:h.get? x=some (instObj C dx)
 ns:h.Ns1 dx mA
 ne:dx≠x
theorem lookIn_ns {h:Heap} {dx:Addr} {mA:Str->Option Value} (n:h.Ns1 dx mA):∃od,h.get? dx=some od/\∀name,lookIn name od=some (mA name):=by
 obtain⟨o,es,ep,ho,hd,hk,_,hm⟩:=n
 refine⟨o,ho,fun name=>?_⟩
 have e:=hm name
 unfold nsFind findBy at e
 rw [<-Array.find?_toList] at e
 unfold lookIn
 rw [hd]
 dsimp only
 split
 .rename_i y q
  rw [q] at e
  exact congrArg some e
 .rename_i q
  rw [q] at e
  have a:es.toList.any (·.refKey)=false:=by
   rw [List.any_eq_false]
   intro y hy
   obtain⟨z,t,hkey⟩:=hk y (Array.mem_toList_iff.mp hy)
   simp [DictEntry.refKey,hkey]
  have a':¬es.toList.any (·.refKey)=true:=by rw [a];exact Bool.false_ne_true
  rw [if_neg a']
  exact congrArg some e
theorem ObjM.look {h:Heap} {x dx C:Addr} {mA:Str->Option Value} (I:ObjM h x dx C mA):∃od,PySem.W.InstAt h x (instObj C dx) C (some od)/\∀name,lookIn name od=some (mA name):=
 let ⟨od,ho,hl⟩:=lookIn_ns I.ns
 ⟨od,⟨I.obj,rfl,rfl,ho⟩,hl⟩
section
variable {prog: Program} {w: World} {A: Around} {E: Value -> Shared -> Prop} {s: Shared} {K: Frag} {x dx C f: Addr} {mA: Str -> Option Value} {name: Str} {v: Value}
theorem get_map {expr:Bool} {Q:Value->Shared->Prop} (X:K.In s.heap) (I:ObjM s.heap x dx C mA) (hg:plainGet K C name=true) (hh:hasDictIn K C=true)
  (ha:findIn K (.ref C) name=some none) (hv:mA name=some v) (hv':PySem.W.handedIn v=true) (h:Q v {s with toks:=s.toks+1}):
  wpAny (model prog w) A (getAttr (.ref x) name expr) Q E s:=by
 obtain⟨od,J,hl⟩:=I.look
 exact PySem.W.get_value X J (PySem.W.plainGet_of hg).1 (PySem.W.findObj_own hh ha rfl (by rw [hl,hv])) hv' h
theorem get_meth {pl:Sem Bool} {Q:Value × List Value->Shared->Prop} (X:K.In s.heap) (I:ObjM s.heap x dx C mA) (hg:plainGet K C name=true)
  (hf:findIn K (.ref C) name=some (some (.ref f))) (ht:isFn K (.ref f)=true) (hv:mA name=none) (h:Q (.ref f, [.ref x]) s):
  wpAny (model prog w) A (getMethod (.ref x) name pl) Q E s:=by
 obtain⟨od,J,hl⟩:=I.look
 exact PySem.W.method_fn X J (PySem.W.plainGet_of hg).1 (PySem.W.plainGet_of hg).2 hf (beq_iff_eq.mp ht) (by show (lookIn name od).map (·.isSome)=some false;rw [hl,hv];rfl) h
theorem set_map {ns:List Str} {Q:Unit->Shared->Prop} (X:K.In s.heap) (I:ObjM s.heap x dx C mA)
  (hs:findIn K (.ref C) "__setattr__" =some (some (.builtin "object.__setattr__"))) (hp:PySem.W.plainOver K C=true) (ht:PySem.W.takerIn K C name=some none) (hh:hasDictIn K C=true)
  (hw:PySem.Within mA ns) (hsz:ns.length<=sizeLine)
  (h:∀h',ObjM h' x dx C (fun y=>if y=name then some v else mA y)->Heap.SameBut dx s.heap h'->Q () {s with heap:=h',toks:=s.toks+2}):
  wpAny (model prog w) A (setAttr (.ref x) name v) Q E s:=by
 obtain⟨od,J,hl⟩:=I.look
 refine PySem.W.set_plain X J hs (PySem.W.osa_open (s:={s with toks:=s.toks+1}) (r:=none) X J hp ht fun b=>?_)
 obtain⟨cd,hc,hd'⟩:=PySem.W.any_some hh
 have hx:s.heap.get? x=some ⟨.ref C,some dx,.plain,#[]⟩:=I.obj
 refine wpAny_bind (wpAny_pure (wpAny_bind (wpAny_bind (wpAny_loadPart hx (wpAny_bind (PySem.W.Looks.here (s:={s with toks:=s.toks+1}) (PySem.W.looks_clsIn X hc) ?_))))))
 rw [hd']
 refine wpAny_pure (a:=some dx) (wpAny_bind (wpAny_pure (wpAny_bind ?_)))
 refine wpAny_nsSet1 (s:={s with toks:=s.toks+1}) I.ns fun h' hn2 hs2=>?_
 obtain⟨oD,esD,epD,hoD,hdD,hcD⟩:=hn2.count (PySem.Within.cons name v hw)
 refine wpAny_bind (wpAny_lookBehind hoD (by rw [hdD];exact pastItsLine_dict (Nat.le_trans hcD (by rw [length_cons];omega))) ?_)
 exact wpAny_pure (h _ ⟨(hs2.2 _ (Ne.symm I.ne)).trans I.obj,hn2,I.ne⟩ hs2)
theorem make_map {R:Result->Shared->Prop} {vs:List Value} {kw:List (Str × Value)} (X:K.In s.heap) (hm:PySem.W.makesIn K C=true)
  (hi:findIn K (.ref C) "__init__" =some (some (.ref f))) (hf:PySem.W.typeIn K (.ref f)=some (.type "function"))
  (h:codeAny (model prog w) (A.under (.builtin "type.__call__" ⟨.ref C :: vs,kw⟩)) (.call (.ref f) ⟨.ref (s.heap.objs.size+1) :: vs,kw⟩) (PySem.W.InitBack (s.heap.objs.size+1) R)
   {s with heap:=(s.heap.push emptyDict).push (instObj C s.heap.objs.size)}):
  codeAny (model prog w) A (.call (.ref C) ⟨vs,kw⟩) R s:=by
 obtain⟨hh,g,d,t,os⟩:=s
 exact PySem.W.make_core (PySem.W.makes_of X hm) (PySem.W.looks_findIn X hi) (fun self=>PySem.W.bind_fn X self hf) (.inl rfl) h
end
def qec (f:Str) (v:V):List (Str × V)->List (Str × V)
 | []=> [(f,v)]
 |(g,x) :: r=>if g=f then (g,v) :: r else (g,x) :: qec f v r
theorem qfh (f g:Str) (v:V):∀fs:List (Str × V),(qec f v fs).lookup g=if g=f then some v else fs.lookup g
 | []=>by
  show List.lookup g [(f,v)]=_
  by_cases h:g=f
  .have hb:(g==f)=true:=beq_iff_eq.mpr h
   simp only [List.lookup,hb,if_pos h]
  .have hb:(g==f)=false:=beq_eq_false_iff_ne.mpr h
   simp only [List.lookup,hb,if_neg h]
 |(k,x) :: r=>by
  have ih:=qfh f g v r
  rw [show qec f v ((k,x) :: r)=(if k=f then (k,v) :: r else (k,x) :: qec f v r) from rfl]
  by_cases hk:k=f
  .rw [if_pos hk]
   by_cases h:g=k
   .have hb:(g==k)=true:=beq_iff_eq.mpr h
    simp only [List.lookup,hb,if_pos (h.trans hk)]
   .have hb:(g==k)=false:=beq_eq_false_iff_ne.mpr h
    simp only [List.lookup,hb,if_neg (fun e:g=f=>h (e.trans hk.symm))]
  .rw [if_neg hk]
   by_cases h:g=k
   .have hb:(g==k)=true:=beq_iff_eq.mpr h
    simp only [List.lookup,hb,if_neg (fun e:g=f=>hk (h.symm.trans e))]
   .have hb:(g==k)=false:=beq_eq_false_iff_ne.mpr h
    simp only [List.lookup,hb]
    exact ih
theorem qfl (f:Str) (v:V):∀fs:List (Str × V),f∈(qec f v fs).map (·.1)/\∀g,g∈fs.map (·.1)->g∈(qec f v fs).map (·.1)
 | []=>⟨by simp [qec],fun g h=>by simp at h⟩
 |(k,x) :: r=>by
  obtain⟨i1,i2⟩:=qfl f v r
  rw [show qec f v ((k,x) :: r)=(if k=f then (k,v) :: r else (k,x) :: qec f v r) from rfl]
  by_cases hk:k=f
  .rw [if_pos hk]
   subst hk
   exact⟨by simp,fun g h=>by simpa using h⟩
  .rw [if_neg hk]
   refine⟨?_,fun g h=>?_⟩
   .rw [map_cons]
    exact mem_cons_of_mem _ i1
   .rw [map_cons] at h ⊢
    rcases mem_cons.mp h with e|e
    .exact mem_cons.mpr (.inl e)
    .exact mem_cons_of_mem _ (i2 g e)
theorem qfj (f:Str) (v:V):∀fs:List (Str × V),(qec f v fs).length<=fs.length+1
 | []=>by simp [qec]
 |(k,x) :: r=>by
  have ih:=qfj f v r
  rw [show qec f v ((k,x) :: r)=(if k=f then (k,v) :: r else (k,x) :: qec f v r) from rfl]
  by_cases hk:k=f
  .rw [if_pos hk,length_cons,length_cons];omega
  .rw [if_neg hk,length_cons,length_cons];omega
theorem qgl.some_of {v:V} {o:Option Value} (r:qgl (some v) o):∃u,o=some u/\qb2 v u:=by
 cases o with
 |none=>exact(show False from r).elim
 |some u=>exact⟨u,rfl,r⟩
theorem qgl.none_of {o:Option Value} (r:qgl none o):o=none:=by
 cases o with
 |none=>rfl
 |some u=>exact(show False from r).elim
theorem handed_of {v:V} {u:Value} (r:qb2 v u):PySem.W.handedIn u=true:=by
 cases v with
 |non=>cases (show u=Value.none from r);rfl
 |bl b=>cases (show u=Value.bool b from r);rfl
 |int i=>obtain⟨t,e⟩:=(show ∃t,u=Value.int i t from r);cases e;rfl
 |str x=>obtain⟨t,e⟩:=(show ∃t,u=Value.str x t from r);cases e;rfl
 |byt b=>obtain⟨t,e⟩:=(show ∃t,u=Value.bytes b t from r);cases e;rfl
 |flt b=>obtain⟨t,e⟩:=(show ∃t,u=Value.float b t from r);cases e;rfl
 |ref a=>cases (show u=Value.ref a from r);rfl
 |ty n=>cases (show u=Value.type n from r);rfl
section
variable {P: Program} {w: World} {H: Hp} {h: Heap} {a C dx: Addr} {fs: List (Str × V)}
theorem qgh (hok:HOk P w H h) (e:H a=some (.ins C dx fs)):∃mA,ObjM h a dx C mA/\(∀f,qgl (fs.lookup f) (mA f))/\PySem.Within mA (fs.map (·.1))/\fs.length<=1000/\H dx=some (.own a):=by
 obtain⟨d,z,ne,ob,mA,n,r,q⟩:=(show qbi P w H h a (.ins C dx fs) from hok a _ e)
 exact⟨mA,⟨ob,n,ne⟩,r,q,z,d⟩
end
structure Cls (K:Frag) (C:Addr):Prop where
 pg:plainGet K C Str.empty=true
 hd:hasDictIn K C=true
 po:PySem.W.plainOver K C=true
 sa:findIn K (.ref C) "__setattr__" =some (some (.builtin "object.__setattr__"))
theorem Cls.get {K:Frag} {C:Addr} (c:Cls K C) (f:Str):plainGet K C f=true:=c.pg
def qap (K:Frag) (C:Addr) (f:Str):Prop:=findIn K (.ref C) f=some none
theorem qap.taker {K:Frag} {C:Addr} {f:Str} (n:qap K C f):PySem.W.takerIn K C f=some none:=by
 unfold PySem.W.takerIn
 rw [show findIn K (.ref C) f=some none from n]
 rfl
structure Con (K:Frag) (C:Addr) (f:Str) (v:V) (u:Value):Prop where
 at_:findIn K (.ref C) f=some (some u)
 rel:qb2 v u
 get:specialIn K u "__get__" =some none
 cp:PySem.W.copiedNames.contains f=false
structure Meth (K:Frag) (C:Addr) (m:Str) (f:Addr):Prop where
 at_:findIn K (.ref C) m=some (some (.ref f))
 fn:isFn K (.ref f)=true
 kp:keepIn K (.ref f)=true
section
variable {X: Cx} {pins: List (Addr × Obj)} {σ: St} {H: Hp} {s: Shared} {a C dx: Addr} {fs: List (Str × V)} {f: Str} {v: V} {A: Around} {E: Value -> Shared -> Prop}
theorem getattr_ok {b:Bool} {Q:Value->Shared->Prop} (I:Inv X pins σ H s) (e:H a=some (.ins C dx fs)) (c:Cls X.K C) (n:qap X.K C f) (l:fs.lookup f=some v)
  (h:∀u s',Inv X pins σ H s'->qb2 v u->Q u s'):wpAny (model X.prog X.w) A (getAttr (.ref a) f b) Q E s:=by
 obtain⟨mA,O,r,_,_,_⟩:=qgh I.hok e
 obtain⟨u,hu,ru⟩:=qgl.some_of (v:=v) (o:=mA f) (by rw [<-l];exact r f)
 exact get_map I.kIn O (c.get f) c.hd n hu (handed_of ru) (h u _ (I.tok _) ru)
theorem qdi {m:Str} {g:Addr} {pl:Sem Bool} {Q:Value × List Value->Shared->Prop} (I:Inv X pins σ H s) (e:H a=some (.ins C dx fs)) (c:Cls X.K C) (k:Meth X.K C m g) (l:fs.lookup m=none)
  (h:Q (.ref g, [.ref a]) s):wpAny (model X.prog X.w) A (getMethod (.ref a) m pl) Q E s:=by
 obtain⟨mA,O,r,_,_,_⟩:=qgh I.hok e
 have hn:mA m=none:=qgl.none_of (by rw [<-l];exact r m)
 exact get_meth I.kIn O (c.get m) k.at_ k.fn hn h
theorem setattr_ok {y:V} {u:Value} {Q:Unit->Shared->Prop} (I:Inv X pins σ H s) (e:H a=some (.ins C dx fs)) (c:Cls X.K C) (n:qap X.K C f) (hl:fs.length < 1000) (ry:qb2 y u)
  (h:∀s',Inv X pins σ (upd H a (.ins C dx (qec f y fs))) s'->Q () s'):wpAny (model X.prog X.w) A (setAttr (.ref a) f u) Q E s:=by
 obtain⟨mA,O,r,wi,_,ho⟩:=qgh I.hok e
 have hz:(fs.map (·.1)).length<=sizeLine:=by rw [length_map,sizeLine_eq];omega
 refine set_map I.kIn O c.sa c.po n.taker c.hd wi hz fun h' O' sb=>h _ ?_
 have hd:∃o,h'.get? dx=some o:=let ⟨o,_,_,e',_⟩:=O'.ns;⟨o,e'⟩
 refine I.write (x:=a) (e:=dx) (by rw [e];exact True.intro) (.inr ho) (fun b q hb z=>(sb.2 b hb).trans z) hd ?_
 refine⟨by rw [qa6 O.ne];exact ho,?_,O.ne,O'.obj,_,O'.ns,fun g=>?_,fun g hg=>?_⟩
 .have:=qfj f y fs;omega
 .show qgl ((qec f y fs).lookup g) (if g=f then some u else mA g)
  rw [qfh]
  by_cases q:g=f
  .rw [if_pos q,if_pos q];exact ry
  .rw [if_neg q,if_neg q];exact r g
 .by_cases q:g=f
  .rw [q];exact(qfl f y fs).1
  .refine(qfl f y fs).2 g (wi g fun z=>hg ?_)
   show (if g=f then some u else mA g)=none
   rw [if_neg q];exact z
theorem Inv.made (I:Inv X pins σ H s):Inv X pins σ (upd (upd H s.heap.objs.size (.own (s.heap.objs.size+1))) (s.heap.objs.size+1) (.ins C s.heap.objs.size []))
  {s with heap:=(s.heap.push emptyDict).push (instObj C s.heap.objs.size)}:=by
 have e1:(s.heap.push emptyDict).get? s.heap.objs.size=some emptyDict:=Heap.get?_push_size s.heap rfl
 have e2:((s.heap.push emptyDict).push (instObj C s.heap.objs.size)).get? (s.heap.objs.size+1)=some (instObj C s.heap.objs.size):=by
  have:=Heap.get?_push_size (s.heap.push emptyDict) (o:=instObj C s.heap.objs.size) rfl
  rwa [Heap.size_push] at this
 have e3:(s.heap.push emptyDict).Ns s.heap.objs.size (fun _=>none):=⟨emptyDict,#[],_,e1,rfl,(fun e he=>absurd he (by simp)),fun _=>rfl⟩
 have I1:=I.laid (a:=s.heap.objs.size) (o:=.own (s.heap.objs.size+1)) (h':=s.heap.push emptyDict) (t':=s.toks) (fun b u q=>Heap.get?_push_of_some _ q) (Nat.le_refl _) ⟨_,e1⟩
 refine I1.laid (a:=s.heap.objs.size+1) (o:=.ins C s.heap.objs.size []) (t':=s.toks) (fun b u q=>Heap.get?_push_of_some _ q) (Nat.le_of_eq (Heap.size_push _ _)) ?_
 have ne:s.heap.objs.size≠s.heap.objs.size+1:=Nat.ne_of_lt (Nat.lt_succ_self _)
 refine⟨by rw [qa6 ne,qa1],Nat.zero_le _,ne,e2,fun _=>none,(Heap.Ns1.of_empty e3).at fun o q=>Heap.get?_push_of_some _ q,fun _=>True.intro,fun y hy=>absurd rfl hy⟩
theorem attr_of {prog:Program} {w:World} {env:Env} {e:Expr} {f:Str} {pos:Pos} {s:Shared} {Q:Value->Shared->Prop} (hb:attributeBase e f env (eval e env)=eval e env)
  (h:wpAny (model prog w) A (eval e env) (fun o s₁=>wpAny (model prog w) A (getAttr o f true) Q E s₁) E s):wpAny (model prog w) A (eval (.Attribute e f pos) env) Q E s:=
 Attribute_any_ h (by rw [arm_eval_Attribute,hb])
end
def tFld (K:Frag) (ta:TE) (f:Str):TE:=fun σ H Q=>ta σ H fun x H1=>∃a C dx fs v,x=.ref a/\H1 a=some (.ins C dx fs)/\Cls K C/\qap K C f/\fs.lookup f=some v/\Q v H1
def sFld (K:Frag) (ta tv:TE) (f:Str):TS:=fun D σ H=>tv σ H fun y H1=>ta σ H1 fun x H2=>∃a C dx fs,x=.ref a/\H2 a=some (.ins C dx fs)/\Cls K C/\qap K C f/\fs.length < 1000/\
 D.nx σ (upd H2 a (.ins C dx (qec f y fs)))
section
variable {X: Cx} {o e value: Expr} {f: Str} {pos pos': Pos} {ta tv: TE}
theorem qay (he:PE X e ta) (hb:attributeBase e f X.env (eval e X.env)=eval e X.env):PE X (.Attribute e f pos) (tFld X.K ta f):=by
 intro pins s σ H Q I h
 refine attr_of hb (thn (he pins s σ H _ I h) fun u s1 ⟨x,H1,I1,rx,a,C,dx,fs,v,ex,ea,c,n,l,q⟩=>?_)
 subst ex
 obtain rfl:u=Value.ref a:=rx
 exact getattr_ok I1 ea c n l fun u' s2 I2 ru=>⟨v,H1,I2,ru,q⟩
theorem qd2 (ha:PE X o ta) (hv:PE X value tv) (hs:swapsWith value (some (.Attribute o f pos')) pos.line X.env=pure false):PS X (.Assign [.Attribute o f pos'] value pos) (sFld X.K ta tv f):=by
 intro pins s σ H D I h
 refine plainObj_wpAny_Assign_Attribute (thn (hv pins s σ H _ I h) fun u s1 ⟨y,H1,I1,ry,q⟩=>thn (ha pins s1 σ H1 _ I1 q) fun ov s2 ⟨x,H2,I2,rx,a,C,dx,fs,ex,ea,c,n,l,q2⟩=>?_) hs
 subst ex
 obtain rfl:ov=Value.ref a:=rx
 exact setattr_ok I2 ea c n l ry fun s3 I3=>⟨σ,_,I3,q2⟩
theorem methcall_of {pl:Sem Bool} {m:Str} {apos:Pos} {args:List Expr} {pins:List (Addr × Obj)} {s:Shared} {σ:St} {H:Hp} {Q:Value->Shared->Prop} {te:TE} (he:PE X e te) (I:Inv X pins σ H s)
  (h:te σ H fun x H1=>∃a C dx fs g,x=.ref a/\H1 a=some (.ins C dx fs)/\Cls X.K C/\Meth X.K C m g/\fs.lookup m=none/\
   ∀s1,Inv X pins σ H1 s1->wpAny (model X.prog X.w) X.A (callWith pos (.ref g) [.ref a] (backTo pos (starEach args X.env)) (backToKw pos (keywordEach [] X.env))) Q X.xe s1)
  (ht:eval (.Call (.Attribute e m apos) args [] pos) X.env=(do
   let ov<-eval e X.env
   standAt apos.atName
   let (f,first)<-holding [ov] (getMethod ov m pl)
   callWith pos f first (backTo pos (starEach args X.env)) (backToKw pos (keywordEach [] X.env)))):
  wpAny (model X.prog X.w) X.A (eval (.Call (.Attribute e m apos) args [] pos) X.env) Q X.xe s:=by
 refine PySem.W.methodCall_KW (pl:=pl) (thn (he pins s σ H _ I h) fun u s1 ⟨x,H1,I1,rx,a,C,dx,fs,g,ex,ea,c,k,l,q⟩=>?_) ht
 subst ex
 obtain rfl:u=Value.ref a:=rx
 exact qdi I1 ea c k l (q s1 I1)
end
section
variable {X: Cx} {pins: List (Addr × Obj)} {σ: St} {H: Hp} {s: Shared} {A: Around} {E: Value -> Shared -> Prop} {Q: Value -> Shared -> Prop} {c: Value} {b: Bool}
inductive TyOf (K:Frag) (H:Hp):V->Value->Prop where
 |non:TyOf K H .non (.type "NoneType")
 |bl (x:Bool):TyOf K H (.bl x) (.type "bool")
 |int (i:Int):TyOf K H (.int i) (.type "int")
 |str (x:Str):TyOf K H (.str x) (.type "str")
 |flt (x:UInt64):TyOf K H (.flt x) (.type "float")
 |lst {a:Addr} {xs:List V} (e:H a=some (.lst xs)):TyOf K H (.ref a) (.type "list")
 |frz {a:Addr} {o:Obj} {xs:List V} (e:H a=some (.frz o (.lst xs))):TyOf K H (.ref a) (.type "list")
 |tup {a:Addr} {xs:List V} (e:H a=some (.tup xs)):TyOf K H (.ref a) (.type "tuple")
 |dK {a:Addr} {kvs:List (Key × V)} (e:H a=some (.dK kvs)):TyOf K H (.ref a) (.type "dict")
 |dT {a:Addr} {kvs:List (List Key × V)} (e:H a=some (.dT kvs)):TyOf K H (.ref a) (.type "dict")
 |ins {a C dx:Addr} {fs:List (Str × V)} (e:H a=some (.ins C dx fs)) (cl:Cls K C) (ha:findIn K (.ref C) "__class__" =some (some (.builtin "object.__class__")))
   (hn:specialIn K (.builtin "object.__class__") "__get__" =some (some (.builtin "getset_descriptor.__get__"))) (htk:PySem.W.takesIn K (.builtin "object.__class__")=some true)
   (hm:mroIn K C (.type "object")=some true):TyOf K H (.ref a) (.ref C)
theorem isinst_ok {x:V} {u t:Value} (I:Inv X pins σ H s) (rx:qb2 x u) (ty:TyOf X.K H x t) (e:kitOne X.K t c=some b) (h:∀tk,Q (.bool b) {s with toks:=tk}):
  wpAny (model X.prog X.w) A (call (.builtin "isinstance") [u,c]) Q E s:=by
 cases ty with
 |non=>cases (show u=Value.none from rx);exact PySem.W.kia_one PySem.W.kitx_none I.kIn True.intro e (fun z=>nomatch z) h
 |bl y=>cases (show u=Value.bool y from rx);exact PySem.W.kia_one PySem.W.kitx_bool I.kIn True.intro e (fun z=>nomatch z) h
 |int i=>obtain⟨t,q⟩:=(show ∃t,u=Value.int i t from rx);cases q;exact PySem.W.kia_one PySem.W.kitx_int I.kIn True.intro e (fun z=>nomatch z) h
 |str y=>obtain⟨t,q⟩:=(show ∃t,u=Value.str y t from rx);cases q;exact PySem.W.kia_one PySem.W.kitx_str I.kIn True.intro e (fun z=>nomatch z) h
 |flt y=>obtain⟨t,q⟩:=(show ∃t,u=Value.float y t from rx);cases q;exact PySem.W.kia_one PySem.W.kitx_float I.kIn True.intro e (fun z=>nomatch z) h
 | @lst a xs ea=>
  cases (show u=Value.ref a from rx)
  obtain⟨_,_,n,_,h1⟩:=(show qbi X.prog X.w H s.heap a (.lst xs) from I.hok a _ ea)
  exact PySem.W.kia_one PySem.W.kitx_list I.kIn ⟨_,h1,rfl⟩ e (fun z=>nomatch z) h
 | @frz a ob xs ea=>
  cases (show u=Value.ref a from rx)
  obtain⟨_,_,_,n,_,h1⟩:=(show qbi X.prog X.w H s.heap a (.frz ob (.lst xs)) from I.hok a _ ea)
  exact PySem.W.kia_one PySem.W.kitx_list I.kIn ⟨_,h1,rfl⟩ e (fun z=>nomatch z) h
 | @tup a xs ea=>
  cases (show u=Value.ref a from rx)
  obtain⟨_,_,_,p⟩:=(show qbi X.prog X.w H s.heap a (.tup xs) from I.hok a _ ea)
  obtain⟨o,h1,h2,_⟩:=p
  exact PySem.W.kia_one PySem.W.kitx_tuple I.kIn ⟨o,h1,h2⟩ e (fun z=>nomatch z) h
 | @dK a kvs ea=>
  cases (show u=Value.ref a from rx)
  obtain⟨_,_,vs,_,p⟩:=(show qbi X.prog X.w H s.heap a (.dK kvs) from I.hok a _ ea)
  obtain⟨o,es,ep,h1,h2,_⟩:=p
  exact PySem.W.kia_one PySem.W.kitx_dict I.kIn ⟨o,h1,h2.1⟩ e (fun z=>nomatch z) h
 | @dT a kvs ea=>
  cases (show u=Value.ref a from rx)
  obtain⟨_,_,xs,_,o,es,ep,h1,h2,_⟩:=(show qbi X.prog X.w H s.heap a (.dT kvs) from I.hok a _ ea)
  exact PySem.W.kia_one PySem.W.kitx_dict I.kIn ⟨o,h1,h2.1⟩ e (fun z=>nomatch z) h
 | @ins a C dx fs ea cl ha hn htk hm=>
  cases (show u=Value.ref a from rx)
  obtain⟨mA,O,_⟩:=qgh I.hok ea
  obtain⟨od,J,_⟩:=O.look
  exact PySem.W.kia_one (PySem.W.kitx_own (cl.get _) cl.hd ha hn htk hm) I.kIn J e (fun z=>nomatch z) h
end
end L2
namespace L2
open PySem PySem.Spec PyProof.Rows
structure Room (k:Nat) (A:Around):Prop where
 hd:A.handled=none
 dp:A.depth+3*k+5 < recursionLimit
 un:A.units+16*k+200 < cLine
theorem Room.mono {j k:Nat} {A:Around} (r:Room k A) (h:j<=k):Room j A:=⟨r.hd,by have:=r.dp;omega,by have:=r.un;omega⟩
theorem Room.deeper {k:Nat} {A:Around} (r:Room (k+1) A) (env:Env):Room k (A.deeper env):=
 ⟨r.hd,by have:=r.dp;show A.depth+1+3*k+5 < _;omega,by have:=r.un;show A.units+3+16*k+200 < _;omega⟩
theorem make_depth {A:Around} {C:Addr} {us:List Value} {kw:List (Str × Value)}:(A.under (.builtin "type.__call__" ⟨.ref C :: us,kw⟩)).depth=A.depth+1:=by
 first|rfl|simp [Around.under,Code.weight,Code.isCreation,Code.isGuard,Code.isCaller,Code.frames,Code.isFrame,guardIds]
theorem make_units {A:Around} {C:Addr} {us:List Value} {kw:List (Str × Value)}:(A.under (.builtin "type.__call__" ⟨.ref C :: us,kw⟩)).units=A.units+1:=by
 first|rfl|simp [Around.under,Code.cUnits,Code.frames,Code.isFrame]
theorem Room.make {k:Nat} {A:Around} (r:Room (k+1) A) (C:Addr) (us:List Value) (kw:List (Str × Value)):Room k (A.under (.builtin "type.__call__" ⟨.ref C :: us,kw⟩)):=
 ⟨r.hd,by have:=r.dp;rw [make_depth];omega,by have:=r.un;rw [make_units];omega⟩
theorem Room.depth {k:Nat} {A:Around} (r:Room k A):A.depth < recursionLimit:=by have:=r.dp;omega
theorem Room.units {k:Nat} {A:Around} (r:Room k A):A.units+64 < cLine:=by have:=r.un;omega
def tNil:TA:=fun _ H Q=>Q [] H
def tCons (ta:TE) (tr:TA):TA:=fun σ H Q=>ta σ H fun x H1=>tr σ H1 fun xs H2=>Q (x :: xs) H2
section
variable {X: Cx} {e: Expr} {es: List Expr} {te: TE} {t: TA} {pos: Pos}
theorem qa3:PA X [] tNil:=fun _ _ _ _ H Q I h=>Calls.spliced_nil ⟨[],H,I,.nil,h⟩
theorem qa0 (ha:PE X e te) (hr:PA X es t) (hs:starEach (e :: es) X.env=(false,eval e X.env) :: starEach es X.env:=by rfl):PA X (e :: es) (tCons te t):=by
 intro pos pins s σ H Q I h
 rw [hs]
 show wpAny _ _ (spliced ((false,eval e X.env) :: backTo pos (starEach es X.env))) _ _ s
 refine Calls.spliced_cons (thn (ha pins s σ H _ I h) fun u s1 ⟨x,H1,I1,r1,q1⟩=>?_)
 exact thn (hr pos pins s1 σ H1 _ I1 q1) fun us s2 ⟨xs,H2,I2,r2,q2⟩=>⟨x :: xs,H2,I2,.cons r1 r2,q2⟩
def tTup (t:TA):TE:=fun σ H Q=>t σ H fun xs H1=>xs.length<=sizeLine/\∀p,H1 p=none->Q (.ref p) (upd H1 p (.tup xs))
def tLst (t:TA):TE:=fun σ H Q=>t σ H fun xs H1=>xs.length<=sizeLine/\∀p,H1 p=none->Q (.ref p) (upd H1 p (.lst xs))
theorem qdo {x1} (h:PA X es t):PE X (.Tuple es x1 pos) (tTup t):=by
 intro pins s σ H Q I hq
 refine wpAny_Tuple_spliced (thn (h pos pins s σ H _ I hq) fun us s1 ⟨xs,H1,I1,r,z,q⟩=>⟨by rw [<-r.length];exact z,?_⟩)
 have hf:H1 s1.heap.objs.size=none:=I1.hok.fresh (Nat.le_refl _)
 refine⟨.ref s1.heap.objs.size,upd H1 s1.heap.objs.size (.tup xs),I1.laid (t':=s1.toks) (fun b u e=>Heap.get?_push_of_some _ e) (Nat.le_refl _) ?_,rfl,q _ hf⟩
 exact⟨z,us,r,⟨_,Heap.get?_push_size _ rfl,rfl,_,rfl⟩⟩
theorem qbr (h:PA X es t):PE X (.List es pos) (tLst t):=by
 intro pins s σ H Q I hq
 refine wpAny_List_spliced (thn (h pos pins s σ H _ I hq) fun us s1 ⟨xs,H1,I1,r,z,q⟩=>⟨by rw [<-r.length];exact z,?_⟩)
 have hf:H1 s1.heap.objs.size=none:=I1.hok.fresh (Nat.le_refl _)
 refine⟨.ref s1.heap.objs.size,upd H1 s1.heap.objs.size (.lst xs),I1.laid (t':=s1.toks) (fun b u e=>Heap.get?_push_of_some _ e) (Nat.le_refl _) ?_,rfl,q _ hf⟩
 exact⟨z,us,0,r,Heap.get?_push_size _ rfl⟩
end
abbrev Sp:=List V->Hp->VK->XK->Prop
abbrev CXT:=List Env->Hp->Shared->XK->Value->Shared->Prop
structure Env0 (P:Program) (w:World) (K:Frag) (mg:Str->Option Value) (base:Heap) (A:Around) (outer:List Env) (s:Shared) (H:Hp):Prop where
 frames:A.frames=some outer
 mod:Mod K mg base
 bs:∀b o,base.get? b=some o->s.heap.get? b=some o/\H b=none
 bsz:base.objs.size<=s.heap.objs.size
 funs:s.heap.FunFrames base outer
 frf:∀b∈frs outer,H b=none
 hok:HOk P w H s.heap
 bare:AllBare s.gens
def CE (outer:List Env) (P:Program) (w:World) (H:Hp) (s:Shared) (Q:VK) (u:Value) (s':Shared):Prop:=
 ∃v H',s'.os=s.os/\AllBare s'.gens/\Un (frs outer) [] H H' s.heap s'.heap/\HOk P w H' s'.heap/\qb2 v u/\Q v H'
def CR (CX:CXT) (outer:List Env) (P:Program) (w:World) (H:Hp) (s:Shared) (Q:VK) (E:XK) (r:Result) (s':Shared):Prop:=
 match r with
 | .ok (.ret u)=>CE outer P w H s Q u s'
 | .ok _=>False
 | .error e=>CX outer H s E e s'
structure FnOk (P:Program) (w:World) (K:Frag) (mg:Str->Option Value) (base:Heap) (CX:CXT) (k:Nat) (f:Addr) (fd:FuncData) (ps:List Str) (sp:Sp):Prop where
 len:∀vs H Q E,sp vs H Q E->vs.length=ps.length
 run:∀(A:Around) (outer:List Env) (s:Shared) (H:Hp) (args:Args) (us:List Value) (vs:List V) (Q:VK) (E:XK),Room k A->Env0 P w K mg base A outer s H->BindsTo s fd args (ps.zip us)->qbj vs us->sp vs H Q E->
  codeAny (model P w) A (.call (.ref f) args) (CR CX outer P w H s Q E) s
theorem FnOk.mono {P:Program} {w:World} {K:Frag} {mg:Str->Option Value} {base:Heap} {CX:CXT} {j k:Nat} {f:Addr} {fd:FuncData} {ps:List Str} {sp:Sp} (F:FnOk P w K mg base CX j f fd ps sp) (h:j<=k):
  FnOk P w K mg base CX k f fd ps sp:=⟨F.len,fun A outer s H args us vs Q E hr=>F.run A outer s H args us vs Q E (hr.mono h)⟩
theorem FnOk.imp {P:Program} {w:World} {K:Frag} {mg:Str->Option Value} {base:Heap} {CX:CXT} {k:Nat} {f:Addr} {fd:FuncData} {ps:List Str} {sp sp':Sp} (F:FnOk P w K mg base CX k f fd ps sp)
  (h:∀vs H Q E,sp' vs H Q E->sp vs H Q E):FnOk P w K mg base CX k f fd ps sp':=
 ⟨fun vs H Q E q=>F.len vs H Q E (h _ _ _ _ q),fun A outer s H args us vs Q E hr he hb hv hs=>F.run A outer s H args us vs Q E hr he hb hv (h _ _ _ _ hs)⟩
theorem Env0.make {P:Program} {w:World} {K:Frag} {mg:Str->Option Value} {base:Heap} {A:Around} {outer:List Env} {s:Shared} {H:Hp} (e:Env0 P w K mg base A outer s H) (C:Addr) (us:List Value) (kw:List (Str × Value)):
  Env0 P w K mg base (A.under (.builtin "type.__call__" ⟨.ref C :: us,kw⟩)) outer s H:=⟨by first|exact e.frames|(simpa [Around.under,Code.envs,Code.isFrame,pushEnvs] using e.frames),e.mod,e.bs,e.bsz,e.funs,e.frf,e.hok,e.bare⟩
section
variable {X: Cx} {pins: List (Addr × Obj)} {σ: St} {H: Hp} {s s': Shared}
theorem Inv.env0 (I:Inv X pins σ H s):Env0 X.prog X.w X.K X.mg X.base X.A X.stack s H:=
 ⟨I.ok.frames,I.ok.mod,I.bs,Nat.le_trans I.ok.bsz I.sz,I.stack,I.stkFree,I.hok,I.bare⟩
theorem Inv.after {Q:VK} {u:Value} (I:Inv X pins σ H s) (h:CE X.stack X.prog X.w H s Q u s'):EP X pins σ Q u s':=by
 obtain⟨v,H',os,bare,un,hok,r,q⟩:=h
 obtain⟨hh,g,d,t,os'⟩:=s'
 obtain rfl:os'=s.os:=os
 exact⟨v,H',I.call (h':=hh) (g':=g) (d':=d) (t':=t) (ch:=[]) un hok bare (fun b z=>absurd z (by simp)),r,q⟩
end
def tCall (sp:Sp) (dvs:List V) (E:XK) (t:TA):TE:=fun σ H Q=>t σ H fun vs H1=>sp (vs++dvs) H1 Q E
def tMeth (C:Addr) (m:Str) (sp:Sp) (dvs:List V) (E:XK) (ta:TE) (t:TA):TE:=fun σ H Q=>ta σ H fun x H1=>∃a dx fs,x=.ref a/\H1 a=some (.ins C dx fs)/\fs.lookup m=none/\
 t σ H1 fun vs H2=>sp (x ::(vs++dvs)) H2 Q E
def tMake (C:Addr) (sp:Sp) (dvs:List V) (E:XK) (t:TA):TE:=fun σ H Q=>t σ H fun vs H1=>∀x dx,H1 x=none->H1 dx=none->dx≠x->
 sp (.ref x ::(vs++dvs)) (upd (upd H1 dx (.own x)) x (.ins C dx [])) (fun v H2=>v=.non/\Q (.ref x) H2) E
def qaj (K:Frag) (fd:FuncData) (ps:List Str) (ds:List Value):Prop:=
 ∀(s:Shared) (us:List Value),K.In s.heap->(us++ds).length=ps.length->BindsTo s fd ⟨us, []⟩ (ps.zip (us++ds))
theorem qaj.all {K:Frag} {fd:FuncData} {ps:List Str} (h:∀us:List Value,us.length=ps.length->bindArgs fd ⟨us, []⟩=pure (ps.zip us)):qaj K fd ps []:=fun s us _ hl=>by
 rw [append_nil] at hl ⊢
 exact .of_eq (h us hl)
def qg7 (CX:CXT) (X:Cx) (E:XK):Prop:=∀(pins:List (Addr × Obj)) (σ:St) (H:Hp) (s:Shared) (e:Value) (s':Shared),Inv X pins σ H s->CX X.stack H s E e s'->X.xe e s'
section
variable {X: Cx} {CX: CXT} {k: Nat} {f C: Addr} {fd: FuncData} {ps: List Str} {sp: Sp} {dvs: List V} {ds: List Value} {E: XK} {x m: Str} {p pos apos: Pos} {e o: Expr} {es: List Expr} {ta: TE} {t: TA}
theorem run_fn {pins:List (Addr × Obj)} {σ:St} {H:Hp} {s:Shared} {Q:VK} {us:List Value} {vs:List V} (F:FnOk X.prog X.w X.K X.mg X.base CX k f fd ps sp) (hr:Room k X.A) (hb:qaj X.K fd ps ds) (hd:qbj dvs ds) (hx:qg7 CX X E)
  (I:Inv X pins σ H s) (r:qbj vs us) (h:sp (vs++dvs) H Q E):wpAny (model X.prog X.w) X.A (call (.ref f) us) (EP X pins σ Q) X.xe s:=by
 have r2:qbj (vs++dvs) (us++ds):=r.append hd
 have hl:(us++ds).length=ps.length:=by rw [<-r2.length];exact F.len _ _ _ _ h
 refine wpAny_call (codeAny_mono (F.run X.A X.stack s H ⟨us, []⟩ (us++ds) (vs++dvs) Q E hr I.env0 (hb s us I.kIn hl) r2 h) fun r s' hq=>?_)
 cases r with
 |error e=>exact hx pins σ H s e s' I hq
 |ok fl=>
  cases fl with
  |ret u=>exact I.after hq
  |next=>exact False.elim hq
  |brk=>exact False.elim hq
  |cont=>exact False.elim hq
theorem qah (F:FnOk X.prog X.w X.K X.mg X.base CX k f fd ps sp) (hr:Room k X.A) (hg:Gl X x) (hm:X.mg x=some (.ref f)) (hk:keepIn X.K (.ref f)=true) (hb:qaj X.K fd ps ds) (hd:qbj dvs ds) (hx:qg7 CX X E)
  (ha:PA X (e :: es) t) (hdb:(x==("__debug__" :Str))=false:=by decide) (he:starEach (e :: es) X.env=(false,eval e X.env) :: starEach es X.env:=by rfl) (hpl:(backTo pos (starEach es X.env)).any (·.1)=false:=by rfl):
  PE X (.Call (.Name x p) (e :: es) [] pos) (tCall sp dvs E t):=by
 intro pins s σ H Q I h
 refine wpAny_Call_Name_kw (qdu I hg hm ?_ hdb)
 refine PySem.W.callWith_K (h₀:=X.base) I.ok.mod.kin hk (thn (ha pos pins s σ H _ I h) fun us s1 ⟨vs,H1,I1,r,q⟩=>⟨I1.kIn,?_⟩) he hpl
 exact run_fn F hr hb hd hx I1 r q
theorem pe_meth {pl:Sem Bool} (he:PE X o ta) (c:Cls X.K C) (hm:Meth X.K C m f) (F:FnOk X.prog X.w X.K X.mg X.base CX k f fd ps sp) (hr:Room k X.A) (hb:qaj X.K fd ps ds) (hd:qbj dvs ds) (hx:qg7 CX X E) (ha:PA X (e :: es) t)
  (hst:starEach (e :: es) X.env=(false,eval e X.env) :: starEach es X.env:=by rfl) (hpl:(backTo pos (starEach es X.env)).any (·.1)=false:=by rfl)
  (ht:eval (.Call (.Attribute o m apos) (e :: es) [] pos) X.env=(do
   let ov<-eval o X.env
   standAt apos.atName
   let (f,first)<-holding [ov] (getMethod ov m pl)
   callWith pos f first (backTo pos (starEach (e :: es) X.env)) (backToKw pos (keywordEach [] X.env))):=by rfl):
  PE X (.Call (.Attribute o m apos) (e :: es) [] pos) (tMeth C m sp dvs E ta t):=by
 intro pins s σ H Q I h
 refine PySem.W.methodCall_KW (pl:=pl) (thn (he pins s σ H _ I h) fun u s1 ⟨x,H1,I1,rx,a,dx,fs,ex,ea,l,q⟩=>?_) ht
 subst ex
 obtain rfl:u=Value.ref a:=rx
 refine qdi I1 ea c hm l ?_
 refine PySem.W.callWith_K (first:=[.ref a]) (h₀:=X.base) I.ok.mod.kin hm.kp (thn (ha pos pins s1 σ H1 _ I1 q) fun us s2 ⟨vs,H2,I2,r,q2⟩=>⟨I2.kIn,?_⟩) hst hpl
 exact run_fn (us:=.ref a :: us) (vs:=.ref a :: vs) F hr hb hd hx I2 (.cons rfl r) q2
structure Mk (K:Frag) (C f:Addr):Prop where
 makes:PySem.W.makesIn K C=true
 init:findIn K (.ref C) "__init__" =some (some (.ref f))
 fn:isFn K (.ref f)=true
 kp:keepIn K (.ref C)=true
theorem run_make {pins:List (Addr × Obj)} {σ:St} {H:Hp} {s:Shared} {Q:VK} {us:List Value} {vs:List V} (M:Mk X.K C f) (F:FnOk X.prog X.w X.K X.mg X.base CX k f fd ps sp) (hr:Room (k+1) X.A) (hb:qaj X.K fd ps ds) (hd:qbj dvs ds)
  (hx:qg7 CX X E) (I:Inv X pins σ H s) (r:qbj vs us)
  (h:∀x dx,H x=none->H dx=none->dx≠x->sp (.ref x ::(vs++dvs)) (upd (upd H dx (.own x)) x (.ins C dx [])) (fun v H2=>v=.non/\Q (.ref x) H2) E):
  wpAny (model X.prog X.w) X.A (call (.ref C) us) (EP X pins σ Q) X.xe s:=by
 have hq:=h (s.heap.objs.size+1) s.heap.objs.size (I.hok.fresh (Nat.le_succ _)) (I.hok.fresh (Nat.le_refl _)) (Nat.ne_of_lt (Nat.lt_succ_self _))
 have I2:=Inv.made (C:=C) I
 have r2:qbj (V.ref (s.heap.objs.size+1) ::(vs++dvs)) (Value.ref (s.heap.objs.size+1) ::(us++ds)):=.cons rfl (r.append hd)
 have hl:(Value.ref (s.heap.objs.size+1) :: us++ds).length=ps.length:=by
  have e:=r2.length
  rw [F.len _ _ _ _ hq] at e
  exact e.symm
 refine wpAny_call (make_map (f:=f) I.kIn M.makes M.init (beq_iff_eq.mp M.fn) (codeAny_mono (F.run _ X.stack _ _ ⟨Value.ref (s.heap.objs.size+1) :: us, []⟩ (Value.ref (s.heap.objs.size+1) ::(us++ds)) _ _ E (hr.make C us [])
  (I2.env0.make C us []) (hb _ (Value.ref (s.heap.objs.size+1) :: us) I2.kIn hl) r2 hq) fun r s' hq'=>?_))
 cases r with
 |error e=>exact hx pins σ _ _ e s' I2 hq'
 |ok fl=>
  cases fl with
  |ret u=>
   obtain⟨v,H',I3,rv,ev,q3⟩:=I2.after hq'
   subst ev
   exact⟨rv,⟨V.ref (s.heap.objs.size+1),H',I3,rfl,q3⟩⟩
  |next=>exact False.elim hq'
  |brk=>exact False.elim hq'
  |cont=>exact False.elim hq'
theorem pe_make (M:Mk X.K C f) (F:FnOk X.prog X.w X.K X.mg X.base CX k f fd ps sp) (hr:Room (k+1) X.A) (hg:Gl X x) (hm:X.mg x=some (.ref C)) (hb:qaj X.K fd ps ds) (hd:qbj dvs ds) (hx:qg7 CX X E)
  (ha:PA X (e :: es) t) (hdb:(x==("__debug__" :Str))=false:=by decide) (he:starEach (e :: es) X.env=(false,eval e X.env) :: starEach es X.env:=by rfl) (hpl:(backTo pos (starEach es X.env)).any (·.1)=false:=by rfl):
  PE X (.Call (.Name x p) (e :: es) [] pos) (tMake C sp dvs E t):=by
 intro pins s σ H Q I h
 refine wpAny_Call_Name_kw (qdu I hg hm ?_ hdb)
 refine PySem.W.callWith_K (h₀:=X.base) I.ok.mod.kin M.kp (thn (ha pos pins s σ H _ I h) fun us s1 ⟨vs,H1,I1,r,q⟩=>⟨I1.kIn,?_⟩) he hpl
 exact run_make M F hr hb hd hx I1 r q
end
section
variable {fd: FuncData} {ps ks: List Str}
structure KBinds (K:Frag) (fd:FuncData) (ps ks:List Str) (g:List Value->List Value->List Value) (gV:List V->List V->List V):Prop where
 to:∀(s:Shared) (us ws:List Value),K.In s.heap->(g us ws).length=ps.length->BindsTo s fd ⟨us,ks.zip ws⟩ (ps.zip (g us ws))
 rel:∀{vs:List V} {us:List Value} {zs:List V} {ws:List Value},qbj vs us->qbj zs ws->qbj (gV vs zs) (g us ws)
end
structure FnScope (N P:List Str) (sc:Scope):Prop where
 kind:sc.kind=.function
 co:sc.isCoroutine=false
 gen:sc.isGenerator=false
 nd:N.Nodup
 pre:N.take P.length=P
 par:∀x∈P,sc.names.lookup x=some .local\/sc.names.lookup x=some .cell
 nofree:∀y∈sc.names,y.2≠ .free
theorem bindL_out {kindOf:Str->Option NameKind} {x:Str}:∀{binds:List (Str × Value)} {m:Str->Option Value},(∀v,(x,v)∉binds)->bindL kindOf binds m x=m x
 | [],_,_=>rfl
 |(n,v) :: r,m,h=>by
  unfold bindL
  rw [bindL_out fun w hw=>h w (mem_cons_of_mem _ hw)]
  split
  .have:x≠n:=by rintro rfl;exact h v mem_cons_self
   simp [this]
  .rfl
theorem bindC_out {kindOf:Str->Option NameKind} {x:Str}:∀{binds:List (Str × Value)} {m:Str->Option Value},(∀v,(x,v)∉binds)->bindC kindOf binds m x=m x
 | [],_,_=>rfl
 |(n,v) :: r,m,h=>by
  unfold bindC
  rw [bindC_out fun w hw=>h w (mem_cons_of_mem _ hw)]
  split
  .rfl
  .have:x≠n:=by rintro rfl;exact h v mem_cons_self
   simp [this]
theorem bindL_get {kindOf:Str->Option NameKind} {x:Str} {v:Value}:∀{P:List Str} {vs:List Value} {i:Nat} {m:Str->Option Value},P.Nodup->P[i]?=some x->vs[i]?=some v->kindOf x=some .local->
  bindL kindOf (P.zip vs) m x=some v
 | [],_,_,_,_,h,_,_=>by simp at h
 |_ :: _, [],_,_,_,_,h,_=>by simp at h
 |p :: P,w :: vs,0,m,nd,h1,h2,hk=>by
  simp at h1 h2;subst h1;subst h2
  show bindL kindOf ((p,w) :: P.zip vs) m p=_
  unfold bindL
  rw [bindL_out fun v hv=>(nodup_cons.mp nd).1 (List.of_mem_zip hv).1,if_pos hk]
  simp
 |p :: P,w :: vs,i+1,m,nd,h1,h2,hk=>by
  show bindL kindOf ((p,w) :: P.zip vs) m x=_
  unfold bindL
  exact bindL_get (i:=i) (nodup_cons.mp nd).2 (by simpa using h1) (by simpa using h2) hk
theorem bindC_get {kindOf:Str->Option NameKind} {x:Str} {v:Value}:∀{P:List Str} {vs:List Value} {i:Nat} {m:Str->Option Value},P.Nodup->P[i]?=some x->vs[i]?=some v->kindOf x≠some .local->
  bindC kindOf (P.zip vs) m x=some v
 | [],_,_,_,_,h,_,_=>by simp at h
 |_ :: _, [],_,_,_,_,h,_=>by simp at h
 |p :: P,w :: vs,0,m,nd,h1,h2,hk=>by
  simp at h1 h2;subst h1;subst h2
  show bindC kindOf ((p,w) :: P.zip vs) m p=_
  unfold bindC
  rw [bindC_out fun v hv=>(nodup_cons.mp nd).1 (List.of_mem_zip hv).1,if_neg hk]
  simp
 |p :: P,w :: vs,i+1,m,nd,h1,h2,hk=>by
  show bindC kindOf ((p,w) :: P.zip vs) m x=_
  unfold bindC
  exact bindC_get (i:=i) (nodup_cons.mp nd).2 (by simpa using h1) (by simpa using h2) hk
def start (N:List Str) (vs:List V):St:=vs.map some++List.replicate (N.length - vs.length) none
def cxOf (CX:CXT) (P:Program) (w:World) (K:Frag) (mg:Str->Option Value) (base:Heap) (N:List Str) (qual:Str) (scope:Scope) (f:Addr) (cd:Value) (A:Around) (outer:List Env) (s:Shared) (H:Hp) (E:XK):Cx where
 prog:=P
 w:=w
 K:=K
 mg:=mg
 base:=base
 A:=A.deeper (envOfC qual scope s.heap.objs.size f cd)
 N:=N
 s₀:=s
 H₀:=H
 env:=envOfC qual scope s.heap.objs.size f cd
 outer:=outer
 stack:=envOfC qual scope s.heap.objs.size f cd :: outer
 ex:=[]
 calm:=true
 fn:=fun _=>true
 pn:=[]
 xe:=fun e s'=>wpAny (model P w) (A.deeper (envOfC qual scope s.heap.objs.size f cd)) (leaving (envOfC qual scope s.heap.objs.size f cd) e) (fun _ s''=>CX outer H s E e s'') (fun e' s''=>CX outer H s E e' s'') s'
theorem cell_has {sc:Scope} {n:Nat} {x:Str} (h:sc.names.lookup x=some .cell):∃c,(cellsFrom n sc.names []).lookup x=some c:=by
 have q:=PySem.W.cellsFrom_some sc.names n [] (.inl h)
 exact Option.isSome_iff_exists.mp q
theorem inv_start {CX:CXT} {P:Program} {w:World} {K:Frag} {mg:Str->Option Value} {base:Heap} {N ps:List Str} {qual:Str} {scope:Scope} {f:Addr} {cd:Value} {A:Around} {outer:List Env} {s s1:Shared} {H:Hp} {E:XK} {us:List Value} {vs:List V}
  (S:FnScope N ps scope) (hd:A.handled=none) (e0:Env0 P w K mg base A outer s H) (hl:vs.length=ps.length) (r:qbj vs us)
  (x:InCallC s s.heap.objs.size (bindL (envOfC qual scope s.heap.objs.size f cd).kindOf (ps.zip us) fun _=>none) (cellsFrom (s.heap.objs.size+1) scope.names []) (bindC (envOfC qual scope s.heap.objs.size f cd).kindOf (ps.zip us) fun _=>none) s1):
  Inv (cxOf CX P w K mg base N qual scope f cd A outer s H E) [] (start N vs) H s1:=by
 have hpl:ps.length<=N.length:=by have:=congrArg List.length S.pre;rw [length_take] at this;omega
 obtain⟨h1,tk,rfl,hk⟩:=x.done
 have noA:∀b:Addr,b∉(cxOf CX P w K mg base N qual scope f cd A outer s H E).ex:=fun b z=>absurd (show b∈([]:List Addr) from z) (by simp)
 refine⟨⟨e0.mod,S.kind,rfl,rfl,Nat.le_refl _,fun y z c h1 h2=>?_,fun y hy=>?_,fun y c _ h=>?_,fun _=>hd,Around.frames_deeper e0.frames,.inr ⟨rfl,rfl⟩,fun b z=>absurd z (noA b),e0.bs,e0.bsz,fun b _ _=>noA b,fun b z=>absurd z (noA b),e0.funs,e0.frf⟩,
  rfl,e0.bare,Un.kept hk,⟨_,x.toInCall.ns,fun i y v h1 h2 h3=>?_⟩,fun y c h=>⟨_,x.cell y c h⟩,e0.hok.fresh (Nat.le_refl _),fun y c h=>?_,fun p hp=>absurd (show p∈([]:List (Addr × Obj)) from hp) (by simp),e0.hok.kept hk,?_⟩
 .exact name_of_addr x.apart (PySem.mem_of_lookup h1) (PySem.mem_of_lookup h2)
 .have hy:scope.names.lookup y=some .cell\/scope.names.lookup y=some .free:=hy
  rcases hy with hy|hy
  .exact cell_has hy
  .exact absurd rfl (S.nofree _ (PySem.mem_of_lookup hy))
 .exact Nat.le_of_lt (x.above y c (PySem.mem_of_lookup h))
 .have hi:i < vs.length:=by
   unfold start at h2
   by_cases hi:i < vs.length
   .exact hi
   .rw [List.getElem?_append_right (by simpa using hi)] at h2
    rw [List.getElem?_replicate] at h2
    split at h2 <;> cases h2
  have ha:vs[i]?=some v:=by
   unfold start at h2
   rw [List.getElem?_append_left (by simpa using hi),getElem?_map] at h2
   cases e:vs[i]? with
   |none=>rw [e] at h2;cases h2
   |some a=>rw [e] at h2;cases h2;rfl
  obtain⟨u,hu,rv⟩:=r.get ha
  have hp:ps[i]?=some y:=by
   rw [<-S.pre,List.getElem?_take_of_lt (by omega)];exact h1
  have ndP:ps.Nodup:=by rw [<-S.pre];exact S.nd.sublist (List.take_sublist _ _)
  refine⟨u,rv,?_⟩
  rcases S.par y (mem_of_getElem? hp) with k|k
  .exact .inl ⟨k,bindL_get ndP hp hu k⟩
  .obtain⟨c,e⟩:=cell_has (n:=s.heap.objs.size+1) k
   refine .inr ⟨.inl k,c,e,?_⟩
   have q:=x.cell y c e
   rw [bindC_get ndP hp hu (by show scope.names.lookup y≠_;rw [k];decide)] at q
   exact q
 .exact e0.hok.fresh (Nat.le_of_lt (x.above y c (PySem.mem_of_lookup h)))
 .unfold start
  show _=N.length
  rw [length_append,length_map,List.length_replicate]
  omega
theorem fn_of {CX:CXT} {P:Program} {w:World} {K:Frag} {mg:Str->Option Value} {base:Heap} {k:Nat} {f:Addr} {name qual:Str} {params:Arguments} {body:List Stmt} {scope:Scope} {dV kV doc pm cdv ct oc:Value} {an od:Option Addr}
  {osl:Array (Option Value)} {N ps:List Str} {sp:Sp} (lk:K.lookup f=some ⟨oc,od,.func (fnOf name qual params body scope dV kV doc pm an cdv ct),osl⟩) (hcd:codeIn K cdv qual=true) (S:FnScope N ps scope)
  (len:∀vs H Q E,sp vs H Q E->vs.length=ps.length)
  (hbody:∀(A:Around) (outer:List Env) (s:Shared) (H:Hp) (vs:List V) (Q:VK) (E:XK),Room k (A.deeper (envOfC qual scope s.heap.objs.size f cdv))->sp vs H Q E->
   ∃t,PSs (cxOf CX P w K mg base N qual scope f cdv A outer s H E) body t/\t {nx:=fun _ H'=>Q .non H',rt:=Q} (start N vs) H):
  FnOk P w K mg base CX (k+1) f (fnOf name qual params body scope dV kV doc pm an cdv ct) ps sp:=by
 refine⟨len,fun A outer s H args us vs Q E hr e0 hb r hsp=>?_⟩
 have hl:=len _ _ _ _ hsp
 have KX:K.In s.heap:=e0.mod.kin.keeps fun b o e=>(e0.bs b o e).1
 have lim:s.heap.NoLimit:=e0.mod.nolimit.keeps fun b o e=>(e0.bs b o e).1
 have hkind:∀y∈ps.zip us,scope.names.lookup y.1=some .local\/(scope.names.lookup y.1=some .cell/\((cellsFrom (s.heap.objs.size+1) scope.names []).lookup y.1).isSome=true):=fun⟨n,v⟩ hy=>by
  rcases S.par n (List.of_mem_zip hy).1 with q|q
  .exact .inl q
  .exact .inr ⟨q,PySem.W.cellsFrom_some _ _ _ (.inl q)⟩
 refine codeAny_call_function hr.depth (KX _ _ lk) rfl S.co S.gen rfl (PySem.W.codeRec_of KX hcd) (hb _ _ _ _ ?_)
 refine wpAny_newFunctionEnv_cells S.kind hkind fun env he s1 x=>?_
 subst he
 refine⟨lim.keeps x.toInCall.keep,codeAny_func ?_⟩
 obtain⟨t,ht,hq⟩:=hbody A outer s H vs Q E (hr.deeper _) hsp
 have I:Inv (cxOf CX P w K mg base N qual scope f cdv A outer s H E) [] (start N vs) H s1:=inv_start S hr.hd e0 hl r x
 refine wpAny_mono (ht [] s1 (start N vs) H _ I hq) (fun fl s' hs=>?_) fun e s' hs=>hs
 have fin:∀{σ':St} {H':Hp} {v:V} {u:Value},Inv (cxOf CX P w K mg base N qual scope f cdv A outer s H E) [] σ' H' s'->qb2 v u->Q v H'->CE outer P w H s Q u s':=
  fun {σ' H' v u} J rv q=>⟨v,H',J.os,J.bare,J.base,J.hok,rv,q⟩
 cases fl with
 |ret u=>
  obtain⟨v,σ',H',J,rv,q⟩:=hs
  exact fin J rv q
 |next=>
  obtain⟨σ',H',J,q⟩:=hs
  exact fin (v:=V.non) (u:=Value.none) J rfl q
 |brk=>
  obtain⟨_,_,_,q⟩:=hs
  exact False.elim q
 |cont=>
  obtain⟨_,_,_,q⟩:=hs
  exact False.elim q
end L2
namespace L2
open PySem PySem.Spec PyProof.Rows
section
variable {X: Cx} {x: Str} {p pos: Pos} {e: Expr} {es: List Expr} {t: TA} {id T: String} {r: List V -> Hp -> VK -> Prop}
def tCB (r:List V->Hp->VK->Prop) (t:TA):TE:=fun σ H Q=>t σ H fun vs H1=>r vs H1 Q
theorem qae (hc:qcj X (.builtin id) r) (hg:Gl X x) (hm:X.mg x=none) (hv:bootBuiltins x=some (.builtin id)) (ha:PA X (e :: es) t) (hn:x≠"__name__":=by decide) (hdb:(x==("__debug__" :Str))=false:=by decide)
  (he:starEach (e :: es) X.env=(false,eval e X.env) :: starEach es X.env:=by rfl) (hpl:(backTo pos (starEach es X.env)).any (·.1)=false:=by rfl):PE X (.Call (.Name x p) (e :: es) [] pos) (tCB r t):=by
 intro pins s σ H Q I h
 refine wpAny_Call_Name_kw (ld_blt I hg hm hv ?_ hn hdb)
 exact PyProof.Rows.callWith_builtin1 (thn (ha pos pins s σ H _ I h) fun us s1 ⟨vs,H1,I1,r1,q1⟩=>hc pins s1 σ H1 vs us Q I1 r1 q1) he hpl
theorem qca (hc:qcj X (.type T) r) (hg:Gl X x) (hm:X.mg x=none) (hv:bootBuiltins x=some (.type T)) (ha:PA X (e :: es) t) (hn:x≠"__name__":=by decide) (hdb:(x==("__debug__" :Str))=false:=by decide)
  (he:starEach (e :: es) X.env=(false,eval e X.env) :: starEach es X.env:=by rfl) (hpl:(backTo pos (starEach es X.env)).any (·.1)=false:=by rfl):PE X (.Call (.Name x p) (e :: es) [] pos) (tCB r t):=by
 intro pins s σ H Q I h
 refine wpAny_Call_Name_kw (ld_blt I hg hm hv ?_ hn hdb)
 exact PyProof.Rows.callWith_type1 (thn (ha pos pins s σ H _ I h) fun us s1 ⟨vs,H1,I1,r1,q1⟩=>hc pins s1 σ H1 vs us Q I1 r1 q1) he hpl
end
end L2
namespace HT
open PySem PyProof.Rows
end HT
namespace L2
open PySem PySem.Spec PyProof.Rows
abbrev TO:=St->Hp->(Option Int->Hp->Prop)->Prop
end L2
namespace L2
open PySem PySem.Spec PyProof.Rows
def ixN (n:Nat) (i:Int):Option Nat:=if 0<=i then (if i < n then some i.toNat else none) else if -(n:Int)<=i then some (i+n).toNat else none
def atI {α:Type} (xs:List α) (i:Int):Option α:=(ixN xs.length i).bind fun j=>xs[j]?
theorem ixN_seq {n:Nat} {i:Int} {j:Nat} (h:ixN n i=some j):seqIndex? i n=some j/\j < n/\-(n:Int)<=i/\i < n:=by
 unfold ixN at h
 by_cases h0:0<=i
 .rw [if_pos h0] at h
  by_cases h1:i < n
  .rw [if_pos h1] at h
   have e:i.toNat=j:=Option.some.inj h
   exact⟨by rw [seqIndex_of h0 h1,e],by omega,by omega,h1⟩
  .rw [if_neg h1] at h;cases h
 .rw [if_neg h0] at h
  by_cases h1: -(n:Int)<=i
  .rw [if_pos h1] at h
   have e:(i+n).toNat=j:=Option.some.inj h
   exact⟨by rw [seqIndex_neg (by omega) h1,e],by omega,h1,by omega⟩
  .rw [if_neg h1] at h;cases h
theorem atI_get {α:Type} {xs:List α} {i:Int} {v:α} (h:atI xs i=some v):∃j,seqIndex? i xs.length=some j/\xs[j]?=some v/\j < xs.length/\-(xs.length:Int)<=i/\i < xs.length:=by
 unfold atI at h
 cases e:ixN xs.length i with
 |none=>rw [e] at h;cases h
 |some j=>
  rw [e] at h
  obtain⟨h1,h2,h3,h4⟩:=ixN_seq e
  exact⟨j,h1,h,h2,h3,h4⟩
theorem qc7 {α:Type} {xs:List α} {j:Nat} {v:α} (h:xs[j]?=some v):atI xs (j:Int)=some v:=by
 have hj:j < xs.length:=(List.getElem?_eq_some_iff.mp h).1
 have e:ixN xs.length (j:Int)=some j:=by
  unfold ixN
  rw [if_pos (by omega),if_pos (by omega)];simp
 unfold atI;rw [e];exact h
def PlainIx (b:Expr):Prop:=∀o i,subscripted b false o i=operate [o,i] (getItem o i)
def IxR (X:Cx) (r:R2):Prop:=
 ∀(value slice:Expr) (pins:List (Addr × Obj)) (s:Shared) (σ:St) (H:Hp) (x y:V) (v u:Value) (Q:VK),Inv X pins σ H s->qb2 x v->qb2 y u->r x y H Q->
  subscripted slice false v u=operate [v,u] (getItem v u)->wpAny (model X.prog X.w) X.A (subscriptTail value slice v u) (EP X pins σ Q) X.xe s
def MtR (X:Cx) (id:String) (r:V->List V->Hp->VK->Prop):Prop:=
 ∀(pins:List (Addr × Obj)) (s:Shared) (σ:St) (H:Hp) (x:V) (xs:List V) (v:Value) (us:List Value) (Q:VK),Inv X pins σ H s->qb2 x v->qbj xs us->r x xs H Q->
  wpAny (model X.prog X.w) X.A (call (.builtin id) (v :: us)) (EP X pins σ Q) X.xe s
section
variable {X: Cx} {a b: Expr} {ta tb: TE} {pos: Pos}
theorem qai {r:R2} (hr:IxR X r) (ha:PE X a ta) (hb:PE X b tb) (hs:PlainIx b):PE X (.Subscript a b pos) (tOp r ta tb):=by
 intro pins s σ H Q I h
 exact Subscript_ (binT ha hb I h fun v u s2 x y H2 I2 rx ry q=>hr a b pins s2 σ H2 x y v u Q I2 rx ry q (hs _ _))
def rIxL (K:Frag):R2:=fun x y H Q=>∃p xs i v,x=.ref p/\y=.int i/\SqL K H p xs/\atI xs i=some v/\Q v H
def rIxT (K:Frag):R2:=fun x y H Q=>∃p xs i v,x=.ref p/\y=.int i/\SqT K H p xs/\atI xs i=some v/\Q v H
def rIxS:R2:=fun x y H Q=>∃z i c,x=.str z/\y=.int i/\z.length<=sizeLine/\atI z.cps.toList i=some c/\Q (.str ⟨#[c]⟩) H
theorem qan:IxR X (rIxL X.K):=by
 intro value slice pins s σ H x y v u Q I rx ry h hs
 obtain⟨p,xs,i,z,rfl,rfl,hq,he,q⟩:=h
 cases rx
 obtain⟨t,rfl⟩:=ry
 obtain⟨its,r,pl,hz⟩:=I.list hq
 obtain⟨j,h1,h2,h3,h4,h5⟩:=atI_get he
 obtain⟨w,ew,rw'⟩:=r.get h2
 have hl:=r.length
 have hn:=line63
 have fin:EP X pins σ Q w s:=⟨z,H,I,rw',q⟩
 by_cases h0:0<=i
 .have hj:i.toNat=j:=by
   rw [seqIndex_of h0 h5] at h1
   exact Option.some.inj h1
  exact item_listR pl.isList h0 (by omega) (by rw [hj];simpa using ew) fin hs
 .have hj:(i+(its.toArray.size:Int)).toNat=j:=by
   rw [seqIndex_neg (by omega) h4] at h1
   rw [size_toArray,<-hl]
   exact Option.some.inj h1
  exact subscriptTail_builtinR (x:=w) pl.isList.typeIs slot_list_getitem.lookup
   (wpAny_getItem_list_neg (Q:=fun r s'=>r=w/\EP X pins σ Q r s') pl.isList (by omega) (by rw [size_toArray] <;> omega) (by omega) (by rw [hj];simpa using ew) ⟨rfl,fin⟩) hs
theorem qak:IxR X (rIxT X.K):=by
 intro value slice pins s σ H x y v u Q I rx ry h hs
 obtain⟨p,xs,i,z,rfl,rfl,hq,he,q⟩:=h
 cases rx
 obtain⟨t,rfl⟩:=ry
 obtain⟨its,r,pl,hz⟩:=I.tuple hq
 obtain⟨j,h1,h2,h3,h4,h5⟩:=atI_get he
 obtain⟨w,ew,rw'⟩:=r.get h2
 have hl:=r.length
 have hn:=line63
 have fin:EP X pins σ Q w s:=⟨z,H,I,rw',q⟩
 exact subscriptTail_builtinR (x:=w) pl.typeIs slot_tuple_getitem.lookup
  (getItem_tuple (j:=j) (Q:=fun r s'=>r=w/\EP X pins σ Q r s') pl (by omega) (by omega) (by rw [size_toArray,<-hl];exact h1) (by simpa using ew) ⟨rfl,fin⟩) hs
theorem ix_str:IxR X rIxS:=by
 intro value slice pins s σ H x y v u Q I rx ry h hs
 obtain⟨z,i,c,rfl,rfl,hz,he,q⟩:=h
 obtain⟨t,rfl⟩:=rx
 obtain⟨t',rfl⟩:=ry
 obtain⟨j,h1,h2,h3,h4,h5⟩:=atI_get he
 have hl:z.cps.toList.length=z.length:=by simp [Str.length]
 rw [hl] at h1 h4 h5
 have hn:=line63
 exact tail_any (typeIs_str s z t) slot_str_getitem.lookup (getItem_str (c:=c) (by
  have e1:decide (i < -(2^63:Int))=false:=decide_eq_false (by omega)
  have e2:decide (i≥2^63)=false:=decide_eq_false (by omega)
  rw [e1,e2,Bool.or_false]) (by rw [h1];simpa using h2) ⟨.str ⟨#[c]⟩,H,I.tok _,⟨_,rfl⟩,q⟩) hs
def qct:V->Bool
 | .non=>true
 | .bl _=>true
 | .int _=>true
 | .str _=>true
 |_=>false
def eqV:V->V->Bool
 | .non,.non=>true
 | .bl a,.bl b=>a==b
 | .bl a,.int b=>(if a then 1 else 0)==b
 | .int a,.bl b=>a==(if b then 1 else 0)
 | .int a,.int b=>a==b
 | .str a,.str b=>a==b
 |_,_=>false
theorem eqAt_V {A:Around} {s:Shared} {y x:V} {u v:Value} (ry:qb2 y u) (rx:qb2 x v) (fy:qct y=true) (fx:qct x=true):SeqAt.EqAt A s u v (eqV y x):=by
 cases y with
 |non=>
  cases ry
  cases x with
  |non=>cases rx;exact SeqAt.EqAt.same _
  |bl b=>cases rx;exact SeqAt.EqAt.none_bool b
  |int b=>obtain⟨t,rfl⟩:=rx;exact SeqAt.EqAt.none_int b t
  |str b=>obtain⟨t,rfl⟩:=rx;exact SeqAt.EqAt.none_str b t
  |_=>exact absurd (show false=true from fx) Bool.false_ne_true
 |bl a=>
  cases ry
  cases x with
  |non=>cases rx;exact SeqAt.EqAt.bool_none a
  |bl b=>cases rx;exact SeqAt.EqAt.bool_bool a b
  |int b=>obtain⟨t,rfl⟩:=rx;exact SeqAt.EqAt.bool_int a b t
  |str b=>obtain⟨t,rfl⟩:=rx;exact SeqAt.EqAt.bool_str a b t
  |_=>exact absurd (show false=true from fx) Bool.false_ne_true
 |int a=>
  obtain⟨t',rfl⟩:=ry
  cases x with
  |non=>cases rx;exact SeqAt.EqAt.int_none a t'
  |bl b=>cases rx;exact SeqAt.EqAt.int_bool a t' b
  |int b=>obtain⟨t,rfl⟩:=rx;exact SeqAt.EqAt.int_int a t' b t
  |str b=>obtain⟨t,rfl⟩:=rx;exact SeqAt.EqAt.int_str a t' b t
  |_=>exact absurd (show false=true from fx) Bool.false_ne_true
 |str a=>
  obtain⟨t',rfl⟩:=ry
  cases x with
  |non=>cases rx;exact SeqAt.EqAt.str_none a t'
  |bl b=>cases rx;exact SeqAt.EqAt.str_bool a t' b
  |int b=>obtain⟨t,rfl⟩:=rx;exact SeqAt.EqAt.str_int a t' b t
  |str b=>obtain⟨t,rfl⟩:=rx;exact SeqAt.EqAt.str_str a t' b t
  |_=>exact absurd (show false=true from fx) Bool.false_ne_true
 |_=>exact absurd (show false=true from fy) Bool.false_ne_true
def eqU (x:V) (u:Value):Bool:=match u with
 | .none=>eqV .non x
 | .bool b=>eqV (.bl b) x
 | .int i _=>eqV (.int i) x
 | .str z _=>eqV (.str z) x
 |_=>false
theorem eqU_of {x y:V} {u:Value} (r:qb2 y u) (f:qct y=true):eqU x u=eqV y x:=by
 cases y with
 |non=>cases r;rfl
 |bl b=>cases r;rfl
 |int i=>obtain⟨t,rfl⟩:=r;rfl
 |str z=>obtain⟨t,rfl⟩:=r;rfl
 |_=>exact absurd (show false=true from f) Bool.false_ne_true
theorem qft {x:V}:∀{xs:List V} {us:List Value},qbj xs us->xs.all qct=true->us.any (eqU x)=xs.any fun y=>eqV y x
 |_,_,.nil,_=>rfl
 |y :: xs,u :: us,.cons r t,f=>by
  rw [all_cons,Bool.and_eq_true] at f
  rw [any_cons,any_cons,eqU_of r f.1,qft t f.2]
theorem qe6 {A:Around} {s:Shared} {x:V} {v:Value} (rx:qb2 x v) (fx:qct x=true):∀{xs:List V} {us:List Value},qbj xs us->xs.all qct=true->∀u∈us,SeqAt.EqAt A s u v (eqU x u)
 |_,_,.nil,_=>fun u hu=>by cases hu
 |y :: xs,u :: us,.cons r t,f=>fun u' hu=>by
  rw [all_cons,Bool.and_eq_true] at f
  rcases mem_cons.mp hu with rfl|hu
  .rw [eqU_of r f.1];exact eqAt_V r rx f.1 fx
  .exact qe6 rx fx t f.2 u' hu
def inV (x:V) (xs:List V):Bool:=xs.any fun y=>eqV y x
def rIn (K:Frag) (neg:Bool):R2:=fun x y H Q=>∃p xs,y=.ref p/\(SqL K H p xs\/SqT K H p xs)/\qct x=true/\xs.all qct=true/\Q (.bl (if neg then !inV x xs else inV x xs)) H
theorem op_in_seq:OpR X (compareOp .In) (rIn X.K false):=by
 intro pins s σ H x y v u Q I rx ry h
 obtain⟨p,xs,rfl,hq,fx,fs,q⟩:=h
 cases ry
 rcases hq with hq|hq
 .obtain⟨its,r,pl,hz⟩:=I.list hq
  refine SeqAt.in_listAt (eqU x) pl.isList (fun w hw=>qe6 rx fx r fs w (by simpa using hw)) ⟨.bl _,H,I,rfl,?_⟩
  rw [show its.toArray.any (eqU x)=its.any (eqU x) by simp,qft r fs]
  exact q
 .obtain⟨its,r,pl,hz⟩:=I.tuple hq
  refine SeqAt.in_tupleAt (eqU x) pl (fun w hw=>qe6 rx fx r fs w (by simpa using hw)) ⟨.bl _,H,I,rfl,?_⟩
  rw [show its.toArray.any (eqU x)=its.any (eqU x) by simp,qft r fs]
  exact q
theorem qd8:OpR X (compareOp .NotIn) (rIn X.K true):=by
 intro pins s σ H x y v u Q I rx ry h
 obtain⟨p,xs,rfl,hq,fx,fs,q⟩:=h
 cases ry
 rcases hq with hq|hq
 .obtain⟨its,r,pl,hz⟩:=I.list hq
  refine SeqAt.notIn_listAt (eqU x) pl.isList (fun w hw=>qe6 rx fx r fs w (by simpa using hw)) ⟨.bl _,H,I,rfl,?_⟩
  rw [show its.toArray.any (eqU x)=its.any (eqU x) by simp,qft r fs]
  exact q
 .obtain⟨its,r,pl,hz⟩:=I.tuple hq
  refine SeqAt.notIn_tupleAt (eqU x) pl (fun w hw=>qe6 rx fx r fs w (by simpa using hw)) ⟨.bl _,H,I,rfl,?_⟩
  rw [show its.toArray.any (eqU x)=its.any (eqU x) by simp,qft r fs]
  exact q
theorem call_len_seq:qcj X (.builtin "len") (fun xs H Q=>∃p ys,xs=[.ref p]/\(SqL X.K H p ys\/SqT X.K H p ys)/\Q (.int ys.length) H):=by
 intro pins s σ H xs us Q I r h
 obtain⟨p,ys,rfl,hq,q⟩:=h
 obtain⟨u,rfl,rx⟩:=vals1 r
 cases rx
 have hn:=line63
 rcases hq with hq|hq
 .obtain⟨its,r',pl,hz⟩:=I.list hq
  have hlen:=r'.length
  exact Calls.call_len_list pl.isList (by simp only [size_toArray] <;> omega) ⟨.int ys.length,H,I.tok _,⟨s.toks+1,by rw [size_toArray,hlen]⟩,q⟩
 .obtain⟨its,r',pl,hz⟩:=I.tuple hq
  have hlen:=r'.length
  exact len_tuple pl (by simp only [size_toArray] <;> omega) ⟨.int ys.length,H,I.tok _,⟨s.toks+1,by rw [size_toArray,hlen]⟩,q⟩
theorem call_len_str:qcj X (.builtin "len") (fun xs H Q=>∃z,xs=[.str z]/\z.length<=sizeLine/\Q (.int z.length) H):=by
 intro pins s σ H xs us Q I r h
 obtain⟨z,rfl,hz,q⟩:=h
 obtain⟨u,rfl,t,rfl⟩:=vals1 r
 have hn:=line63
 exact len_str (by omega) ⟨.int z.length,H,I.tok _,⟨_,rfl⟩,q⟩
theorem call_list_of:qcj X (.type "list") (fun xs H Q=>∃p ys,xs=[.ref p]/\(SqL X.K H p ys\/SqT X.K H p ys)/\∀l,H l=none->Q (.ref l) (upd H l (.lst ys))):=by
 intro pins s σ H xs us Q I r h
 obtain⟨p,ys,rfl,hq,q⟩:=h
 obtain⟨u,rfl,rx⟩:=vals1 r
 cases rx
 have fin:∀(its:List Value),qbj ys its->ys.length<=sizeLine->∀(h':Heap) (c':Nat),(∀b o',s.heap.get? b=some o'->h'.get? b=some o')->
   h'.get? s.heap.objs.size=some {cls:=.type "list",dict:=none,data:=.seq its.toArray c',slots:=#[]}->EP X pins σ Q (.ref s.heap.objs.size) {s with heap:=h'}:=fun its r' hz h' c' kp e=>
  ⟨.ref s.heap.objs.size,_,I.laid (t':=s.toks) kp (Nat.le_refl _) (show qbi X.prog X.w _ h' _ (.lst ys) from⟨hz,its,c',r',e⟩),rfl,q _ (I.hok.fresh (Nat.le_refl _))⟩
 rcases hq with hq|hq
 .obtain⟨its,r',pl,hz⟩:=I.list hq
  have hlen:=r'.length
  obtain⟨o,ho,hc,n,hd⟩:=pl.isList
  exact call_list_seq p (.inl rfl) ho hc hd (fun h' c' kp e=>fin its r' hz h' c' kp e) (by simp only [size_toArray] <;> omega)
 .obtain⟨its,r',pl,hz⟩:=I.tuple hq
  have hlen:=r'.length
  obtain⟨o,ho,hc,n,hd⟩:=pl
  exact call_list_seq p (.inr rfl) ho hc hd (fun h' c' kp e=>fin its r' hz h' c' kp e) (by simp only [size_toArray] <;> omega)
def tyV (K:Frag) (T:String) (x:V) (H:Hp):Prop:=match x with
 | .str _=>T= "str"
 | .int _=>T= "int"
 | .ref p=>(T= "list"/\∃xs,SqL K H p xs)\/(T= "tuple"/\∃o,K.lookup p=some o/\o.cls=.type "tuple"/\o.dict=none)\/
   (T= "dict"/\((∃kvs,H p=some (.dK kvs))\/∃kvs,H p=some (.dT kvs)))\/(T= "set"/\∃S n,H p=some (.set S n))
 |_=>False
theorem tyV_is {pins:List (Addr × Obj)} {σ:St} {H:Hp} {s:Shared} {T:String} {x:V} {v:Value} (I:Inv X pins σ H s) (r:qb2 x v) (ty:tyV X.K T x H):
  s.TypeIs v T/\∀a,v=.ref a->∃ob,s.heap.get? a=some ob/\ob.dict=none:=by
 cases x with
 |str z=>
  obtain⟨t,rfl⟩:=r
  cases (show T= "str" from ty)
  exact⟨typeIs_str s z t,fun _ e=>nomatch e⟩
 |int i=>
  obtain⟨t,rfl⟩:=r
  cases (show T= "int" from ty)
  exact⟨typeIs_int s i t,fun _ e=>nomatch e⟩
 |ref p=>
  cases r
  rcases ty with ⟨rfl,xs,hq⟩ |⟨rfl,o,hk,hc,hd⟩ |⟨rfl,hk⟩ |⟨rfl,S,n,hk⟩
  .obtain⟨its,_,pl,_⟩:=I.list hq
   refine⟨pl.isList.typeIs,fun a e=>?_⟩
   cases e
   obtain⟨o,n,e,c,hd,_⟩:=pl
   exact⟨o,e,hd⟩
  .refine⟨⟨o,I.kIn p o hk,hc⟩,fun a e=>?_⟩
   cases e
   exact⟨o,I.kIn _ o hk,hd⟩
  .have z:∃o,s.heap.get? p=some o/\o.ExactDict:=by
    rcases hk with ⟨kvs,hk⟩ |⟨kvs,hk⟩
    .obtain⟨_,_,_,_,o,_,_,e,ex,_⟩:=I.hok p _ hk
     exact⟨o,e,ex⟩
    .obtain⟨_,_,_,_,o,_,_,e,ex,_⟩:=I.hok p _ hk
     exact⟨o,e,ex⟩
   obtain⟨o,e,ex⟩:=z
   refine⟨⟨o,e,ex.1⟩,fun a e2=>?_⟩
   cases e2
   exact⟨o,e,ex.2.1⟩
  .obtain⟨o,_,_,_,e,ex,_⟩:=I.hok p _ hk
   refine⟨⟨o,e,ex.1⟩,fun a e2=>?_⟩
   cases e2
   exact⟨o,e,ex.2.1⟩
 |_=>exact False.elim ty
def tBM0 (K:Frag) (T:String) (r:V->List V->Hp->VK->Prop) (to:TE):TE:=fun σ H Q=>to σ H fun x H1=>tyV K T x H1/\r x [] H1 Q
def tBM (K:Frag) (T:String) (r:V->List V->Hp->VK->Prop) (to:TE) (t:TA):TE:=fun σ H Q=>to σ H fun x H1=>tyV K T x H1/\t σ H1 fun xs H2=>r x xs H2 Q
variable {o e: Expr} {es: List Expr} {to: TE} {t: TA} {name: Str} {apos cpos: Pos} {T id: String} {r: V -> List V -> Hp -> VK -> Prop}
theorem pe_bm0 (pa:PlainAttrs T) (slot:Slot T name id) (hty:typeOf (.builtin id)=pure (.type "method_descriptor")) (hm:MtR X id r) (ho:PE X o to)
  (hbase:attributeBase o name X.env (eval o X.env)=eval o X.env:=by rfl) (hline:(apos.endLine==cpos.line)=true:=by rfl):PE X (.Call (.Attribute o name apos) [] [] cpos) (tBM0 X.K T r to):=by
 intro pins s σ H Q I h
 refine wpAny_Call_method0_late hbase hline (thn (ho pins s σ H _ I h) fun v s1 ⟨x,H1,I1,r1,ty,q1⟩=>?_)
 obtain⟨h1,h2⟩:=tyV_is I1 r1 ty
 exact⟨T,id,pa,slot,hty,h1,h2,Calls.callWith_builtin rfl (PySem.evalArgs_none (hm pins s1 σ H1 x [] v [] Q I1 r1 .nil q1))⟩
theorem qgb (pa:PlainAttrs T) (slot:Slot T name id) (hty:typeOf (.builtin id)=pure (.type "method_descriptor")) (hm:MtR X id r) (ho:PE X o to) (ha:PA X (e :: es) t)
  (hbase:attributeBase o name X.env (eval o X.env)=eval o X.env:=by rfl)
  (hfew:((backTo cpos (starEach (e :: es) X.env)).all (fun x=>!x.1) && (backToKw cpos (keywordEach [] X.env)).all (fun x=>x.1.isSome)
   && decide ((e :: es).length+([]:List Keyword).length+(if ([]:List Keyword).isEmpty then 0 else 1) < 30))=true:=by rfl)
  (hline:(apos.endLine==cpos.line)=true:=by rfl) (hs:starEach (e :: es) X.env=(false,eval e X.env) :: starEach es X.env:=by rfl) (hplain:(backTo cpos (starEach es X.env)).any (·.1)=false:=by rfl):
  PE X (.Call (.Attribute o name apos) (e :: es) [] cpos) (tBM X.K T r to t):=by
 intro pins s σ H Q I h
 refine wpAny_Call_method_late hbase hfew hline rfl (thn (ho pins s σ H _ I h) fun v s1 ⟨x,H1,I1,r1,ty,q1⟩=>?_)
 obtain⟨h1,h2⟩:=tyV_is I1 r1 ty
 refine⟨T,id,pa,slot,hty,h1,h2,?_⟩
 have hA:=ha cpos pins s1 σ H1 _ I1 q1
 rw [hs] at hA ⊢
 refine Calls.callWith_builtin (by show (false ||(backTo cpos (starEach es X.env)).any (·.1))=false;rw [hplain] <;> rfl) (Calls.evalArgs_plain ?_)
 exact thn hA fun us s2 ⟨vs,H2,I2,r2,q2⟩=>hm pins s2 σ H2 x vs v us Q I2 r1 r2 q2
end
end L2
namespace L2
open PySem PySem.Spec PyProof.Rows
def MtM (X:Cx) (id:String) (r:V->List V->Hp->VK->Prop):Prop:=
 ∀(pins:List (Addr × Obj)) (s:Shared) (σ:St) (H:Hp) (x:V) (xs:List V) (v:Value) (us:List Value) (Q:VK),Inv X pins σ H s->qb2 x v->qbj xs us->r x xs H Q->
  wpAny (model X.prog X.w) X.A (call (.builtin id) (v :: us)) (EP X pins σ Q) X.xe s
theorem qbj.one:∀{x:V} {us:List Value},qbj [x] us->∃u,us=[u]/\qb2 x u
 |_,_,.cons r .nil=>⟨_,rfl,r⟩
theorem qbj.zero:∀{us:List Value},qbj [] us->us=[]
 |_,.nil=>rfl
section
variable {X: Cx} {pins: List (Addr × Obj)} {σ: St} {H: Hp} {s: Shared} {l: Addr} {xs ys: List V}
theorem Inv.lset {its its':List Value} {n:Nat} {f:Array Value->Array Value} {t':Nat} (I:Inv X pins σ H s) (hH:H l=some (.lst xs))
  (e:s.heap.get? l=some {cls:=.type "list",data:=.seq its.toArray n}) (hf:f its.toArray=its'.toArray) (hv:qbj ys its') (hz:ys.length<=sizeLine):
  Inv X pins σ (upd H l (.lst ys)) {s with heap:=s.heap.update l (Obj.mapSeq f),toks:=t'}:=by
 have q:=PySem.IsL.update e f
 rw [hf] at q
 refine I.write (x:=l) (e:=l) (by rw [hH];exact trivial) (.inl rfl) (fun b' u hb hu=>(Heap.get?_update_other s.heap (Obj.mapSeq f) (Ne.symm hb)).trans hu) ⟨_,q⟩ ?_
 exact⟨hz,its',_,hv,q⟩
theorem Inv.lnew {its:List Value} {t':Nat} (I:Inv X pins σ H s) (hv:qbj ys its) (hz:ys.length<=sizeLine):
  Inv X pins σ (upd H s.heap.objs.size (.lst ys)) {s with heap:=s.heap.push {cls:=.type "list",data:=.seq its.toArray},toks:=t'}:=
 I.laid (fun _ _ q=>Heap.get?_push_of_some _ q) (Nat.le_refl _) ⟨hz,its,0,hv,Heap.get?_push_size _ rfl⟩
theorem Inv.fresh (I:Inv X pins σ H s):H s.heap.objs.size=none:=I.hok.fresh (Nat.le_refl _)
theorem Inv.lstM (I:Inv X pins σ H s) (hH:H l=some (.lst xs)):xs.length<=sizeLine/\∃(its:List Value) (n:Nat),qbj xs its/\xs.length=its.length/\s.heap.get? l=some {cls:=.type "list",data:=.seq its.toArray n}:=by
 obtain⟨z,its,n,r,e⟩:=I.hok l _ hH
 exact⟨z,its,n,r,r.length,e⟩
theorem notLongL {n:Nat} (h:n<=sizeLine):Builtin.List.listTooLong n=false:=by
 unfold Builtin.List.listTooLong
 exact decide_eq_false (by omega)
end
section
variable {X: Cx}
def rAppend:V->List V->Hp->VK->Prop:=fun x vs H Q=>∃l xs y,x=.ref l/\vs=[y]/\H l=some (.lst xs)/\xs.length < sizeLine/\Q .non (upd H l (.lst (xs++ [y])))
theorem qbs:MtM X "list.append" rAppend:=by
 intro pins s σ H x vs v us Q I rx rv h
 obtain⟨l,xs,y,rfl,rfl,hH,hz,q⟩:=h
 cases rx
 obtain⟨u,rfl,ru⟩:=rv.one
 obtain⟨z,its,n,r,hl,e⟩:=I.lstM hH
 refine call_meets F.slot_list_append ⟨_,e,rfl⟩ F.entry_list_append (F.args_list_append_2 _ _) (PySem.list_append l its.toArray n u (by rw [size_toArray];omega)) ⟨e,?_⟩
 refine⟨.non,_,I.lset (its':=its++ [u]) hH e (by simp) (r.append (.cons ru .nil)) ?_,rfl,q⟩
 rw [length_append,length_singleton]
 omega
def rExtend:V->List V->Hp->VK->Prop:=fun x vs H Q=>∃l b xs zs,x=.ref l/\vs=[.ref b]/\H l=some (.lst xs)/\H b=some (.lst zs)/\xs.length+zs.length<=sizeLine/\Q .non (upd H l (.lst (xs++zs)))
theorem mt_extend:MtM X "list.extend" rExtend:=by
 intro pins s σ H x vs v us Q I rx rv h
 obtain⟨l,b,xs,zs,rfl,rfl,hH,hB,hz,q⟩:=h
 cases rx
 obtain⟨u,rfl,ru⟩:=rv.one
 cases ru
 obtain⟨z,its,n,r,hl,e⟩:=I.lstM hH
 obtain⟨z2,its2,n2,r2,hl2,e2⟩:=I.lstM hB
 have hsz:its.toArray.size+its2.toArray.size<=sizeLine:=by rw [size_toArray,size_toArray];omega
 have hlong:¬(!its.toArray.isEmpty && Builtin.List.listTooLong (its.toArray.size+its2.toArray.size))=true:=by
  rw [notLongL hsz,Bool.and_false]
  exact Bool.false_ne_true
 refine call_meets F.slot_list_extend ⟨_,e,rfl⟩ F.entry_list_extend (F.args_list_extend_2 _ _)
  (AutoSeq1.list_extend_list_list_0 l its.toArray n b its2.toArray n2 hlong (by rw [size_toArray];omega) (by omega)) ⟨e,e2,?_⟩
 refine⟨.non,_,I.lset (its':=its++its2) hH e (by simp) (r.append r2) ?_,rfl,q⟩
 rw [length_append]
 omega
def rClear:V->List V->Hp->VK->Prop:=fun x vs H Q=>∃l xs,x=.ref l/\vs=[]/\H l=some (.lst xs)/\Q .non (upd H l (.lst []))
theorem mt_clear:MtM X "list.clear" rClear:=by
 intro pins s σ H x vs v us Q I rx rv h
 obtain⟨l,xs,rfl,rfl,hH,q⟩:=h
 cases rx
 have hus:=rv.zero
 subst hus
 obtain⟨z,its,n,r,hl,e⟩:=I.lstM hH
 refine call_meets F.slot_list_clear ⟨_,e,rfl⟩ F.entry_list_clear (F.args_list_clear_1 _) (AutoSeq1.list_clear_list_0 l its.toArray n (by rw [size_toArray];omega)) ⟨e,?_⟩
 exact⟨.non,_,I.lset (its':=[]) (ys:=[]) hH e rfl .nil (Nat.zero_le _),rfl,q⟩
def rCat:R2:=fun x y H Q=>∃l b xs zs,x=.ref l/\y=.ref b/\H l=some (.lst xs)/\H b=some (.lst zs)/\xs.length+zs.length<=sizeLine/\∀p,H p=none->Q (.ref p) (upd H p (.lst (xs++zs)))
theorem op_cat:OpR X (binaryOp .Add) rCat:=by
 intro pins s σ H x y v u Q I rx ry h
 obtain⟨l,b,xs,zs,rfl,rfl,hH,hB,hz,q⟩:=h
 cases rx
 cases ry
 obtain⟨z,its,n,r,hl,e⟩:=I.lstM hH
 obtain⟨z2,its2,n2,r2,hl2,e2⟩:=I.lstM hB
 refine PySem.P.add_list e e2 ?_ (by rw [size_toArray,size_toArray];omega)
 have ea:its.toArray++its2.toArray=(its++its2).toArray:=by simp
 rw [ea]
 exact⟨.ref _,_,I.lnew (t':=s.toks) (r.append r2) (by rw [length_append];omega),rfl,q _ I.fresh⟩
def rRep:R2:=fun x y H Q=>∃l k xs,x=.ref l/\y=.int k/\H l=some (.lst xs)/\-(2^63)<=k/\k < 2^63/\xs.length*k.toNat<=sizeLine/\
 ∀p,H p=none->Q (.ref p) (upd H p (.lst (List.replicate k.toNat xs).flatten))
end
end L2
namespace Att
open PySem PySem.W PySem.Calls PyProof.Rows
theorem qfm {P:Params} {h:Heap}:∀(ns:List Int) (vs:List Value),WellAll P h vs (ns.map WData.int)->IntsAre vs ns:=by
 intro ns
 induction ns with
 |nil=>
  intro vs w
  rw [List.map_nil] at w
  cases w
  exact .nil
 |cons n ns ih=>
  intro vs w
  rw [map_cons] at w
  cases w with
  |cons a b=>
   cases a
   exact .cons _ _ (ih _ b)
theorem script_of {l:OpenLaw} {n:Nat} (hn:l.most=some n) {P:Params} {h:Heap} {args:List WData} {vals:List Value}
  (hpre:l.row.toRowW.claim.pre args=true) (hwl:WellAll P h vals args):
  ∃a vs ns,vals=[Value.ref a]/\args=[WData.list (ns.map WData.int)]/\h.get? a=some {cls:=.type "list",data:=.seq vs.toArray}/\IntsAre vs ns/\ns.length<=n:=by
 have hsh:WShape.hasAll [] args [.list .int]=true:=(pre_splitW hpre).1
 have hc:l.pre.holds [] {args:=args}=true:=(pre_splitW hpre).2
 obtain⟨d,r,rfl,h1,h2⟩:=hasAllW_cons hsh
 obtain rfl:=hasAllW_nil h2
 obtain⟨xs,rfl,h3⟩:=hasW_list h1
 obtain⟨ns,rfl⟩:=items_int h3
 have hlen:ns.length<=n:=by
  unfold OpenLaw.pre at hc
  have h4:(WTm.not (.lt (.lit (.int (n:Int))) (.len (.arg 0)))).holds [] {args:=[.list (ns.map .int)]}=true:=by
   have h4:=(holds_andW hc).1
   rw [hn] at h4
   exact h4
  have h5:=condW_of h4 (w_not (w_lt w_lit (w_len_list (w_arg rfl))))
  rw [length_map] at h5
  refine Nat.le_of_not_lt fun q=>?_
  have q':(n:Int) <((ns.length:Nat):Int):=by omega
  first
   |(rw [decide_eq_true q'] at h5;exact absurd h5 (by decide))
   |(simp at h5;omega)
 cases hwl with
 |cons w1 w2=>
  cases w2
  cases w1 with
  |list ho hall=>exact⟨_,_,ns,rfl,rfl,ho,qfm ns _ hall,hlen⟩
theorem post_true (l:OpenLaw) (args:List WData):l.row.toRowW.claim.post args (.bool true) args=true:=
 postW_of (r:=l.row.toRowW) (X:=(true==true))
  (show WShape.has [] (.bool true) .bool=true by first|rfl|decide|simp [WShape.has,WShape.arms,WShape.armsAll])
  (show (WTm.eq .res (.lit (.bool true))).value [] {args:=args,res:=some (.bool true),after:=args}=some (.bool (true==true)) from w_eq_bool (w_res rfl) w_lit) rfl
theorem attach_call {l:OpenLaw} {n:Nat} {q:Program} {loose:List Str} {XP:(Str->Option Value)->Heap->Prop} {YP:World->Heap->Prop} {d:DefRec}
  (hn:l.most=some n) (hdf:d.params.defaults=[])
  (call:∀(w:World) (s₀ s₁:Shared) (mg mb:Str->Option Value) (fa:Addr) (o:Obj) (pm cd doc:Value) (a:Addr) (vs:List Value) (ns:List Int),
   Ground q loose [] XP w s₀ mg mb s₁.heap->YP w s₁.heap->
   s₁.heap.get? fa=some o->o.data=.func (docDef d.name d.params d.body d.scope pm cd doc)->s₁.heap.CodeRec cd d.name->mg d.name=some (.ref fa)->
   s₁.heap.get? a=some {cls:=.type "list",data:=.seq vs.toArray}->IntsAre vs ns->ns.length<=n->s₁.gens= #[]->
   codeAny (model l.prog w) callerA (.call (.ref fa) ⟨[.ref a], []⟩) (fun r s'=>r=.ok (.ret (.bool true))/\OldK s₁.heap s'.heap/\s'.os=s₁.os/\AllBare s'.gens) s₁):
  WalkO q loose XP YP l.row.toRowW d [] (fun f vs=>PySem.call f vs):=by
 intro w s₀ s₁ mg mb G Y fa o pm cd doc dV kV ho hd hcd hD hmg hg args vals as hpre hlay hrd hwl hlo
 obtain rfl:dV=.none:=Dflts.none hD hdf
 obtain rfl:kV=.none:=Dflts.noKw hD
 obtain⟨a,vs,ns,rfl,rfl,hobj,hints,hlen⟩:=script_of hn hpre hwl
 refine enter_call (codeAny_mono (call w s₀ s₁ mg mb fa o pm cd doc a vs ns G Y ho (fd_plain hd) hcd hmg hobj hints hlen hg) fun r s' hq=>?_)
 obtain⟨rfl,h2,h3,h4⟩:=hq
 exact⟨.inl ⟨.bool true,.bool true, [],rfl,fun _=>rfl,.bool true,post_true l _,fun _=>⟨List.Pairwise.nil,fun _ hm=>(nomatch hm)⟩⟩,h2,h3,h4⟩
end Att
namespace L2
open PySem PySem.Spec PyProof.Rows
theorem vals_ints:∀{vs:List Value} {ns:List Int},IntsAre vs ns->qbj (ns.map V.int) vs
 |_,_,.nil=> .nil
 |_,_,.cons n t h=> .cons ⟨t,rfl⟩ (vals_ints h)
end L2
namespace L2
open PySem PySem.Spec PyProof.Rows
end L2
namespace L2
open PySem PySem.Spec PyProof.Rows
def qbd (s:Stmt):Arguments:=match s with
 | .FunctionDef _ a _ _ _ _ _ _ _ _=>a
 |_=>{posonlyargs:=[],args:=[],vararg:=none,kwonlyargs:=[],kw_defaults:=[],kwarg:=none,defaults:=[]}
def qbo (s:Stmt):List Stmt:=match s with
 | .FunctionDef _ _ b _ _ _ _ _ _ _=>b
 |_=> []
def qa8 (s:Stmt):Scope:=match s with
 | .FunctionDef _ _ _ _ _ _ sc _ _ _=>sc
 |_=>{kind:=.function,names:=[],isGenerator:=false,isCoroutine:=false}
abbrev CX0:CXT:=fun _ _ _ _ _ _=>False
abbrev E0:XK:=fun _ _ _=>False
theorem qaw {X:Cx}:qg7 CX0 X E0:=fun _ _ _ _ _ _ _ h=>h.elim
structure Fun (K:Frag) (x qual:Str) (st:Stmt) (f:Addr) (fd:FuncData):Prop where
 ex:∃(oc:Value) (od:Option Addr) (kV doc pm:Value) (an:Option Addr) (cdv ct:Value) (osl:Array (Option Value)),
  fd=fnOf x qual (qbd st) (qbo st) (qa8 st) .none kV doc pm an cdv ct/\K.lookup f=some ⟨oc,od,.func fd,osl⟩/\codeIn K cdv qual=true
 kp:keepIn K (.ref f)=true
section
variable {P: Program} {w: World} {K: Frag} {mg: Str -> Option Value} {base: Heap}
theorem Fun.ok {x qual:Str} {st:Stmt} {f:Addr} {fd:FuncData} {N ps:List Str} {k:Nat} {sp:Sp} (F:Fun K x qual st f fd) (S:FnScope N ps (qa8 st)) (len:∀vs H Q E,sp vs H Q E->vs.length=ps.length)
  (hbody:∀(cdv:Value) (A:Around) (outer:List Env) (s:Shared) (H:Hp) (vs:List V) (Q:VK) (E:XK),Room k (A.deeper (envOfC qual (qa8 st) s.heap.objs.size f cdv))->sp vs H Q E->
   ∃t,PSs (cxOf CX0 P w K mg base N qual (qa8 st) f cdv A outer s H E).nox (qbo st) t/\t {nx:=fun _ H'=>Q .non H',rt:=Q} (start N vs) H):FnOk P w K mg base CX0 (k+1) f fd ps sp:=by
 obtain⟨oc,od,kV,doc,pm,an,cdv,ct,osl,rfl,lk,hcd⟩:=F.ex
 refine fn_of lk hcd S len fun A outer s H vs Q E hr hsp=>?_
 obtain⟨t,h,q⟩:=hbody cdv A outer s H vs Q E hr hsp
 exact⟨t,h.nox,q⟩
theorem Fun.binds {x qual:Str} {st:Stmt} {f:Addr} {fd:FuncData} {ps:List Str} (F:Fun K x qual st f fd)
  (h:∀(kV doc pm:Value) (an:Option Addr) (cdv ct:Value) (us:List Value),us.length=ps.length->bindArgs (fnOf x qual (qbd st) (qbo st) (qa8 st) .none kV doc pm an cdv ct) ⟨us, []⟩=pure (ps.zip us)):qaj K fd ps []:=by
 obtain⟨oc,od,kV,doc,pm,an,cdv,ct,osl,rfl,lk,hcd⟩:=F.ex
 exact .all (h kV doc pm an cdv ct)
theorem fun_mk {x qual:Str} {st:Stmt} {f:Addr} {oc:Value} {od an:Option Addr} {osl:Array (Option Value)} {kV doc pm cdv ct:Value} (l:K.lookup f=some ⟨oc,od,.func (fnOf x qual (qbd st) (qbo st) (qa8 st) .none kV doc pm an cdv ct),osl⟩)
  (c:codeIn K cdv qual=true) (k:keepIn K (.ref f)=true):Fun K x qual st f (fnOf x qual (qbd st) (qbo st) (qa8 st) .none kV doc pm an cdv ct):=⟨⟨oc,od,kV,doc,pm,an,cdv,ct,osl,rfl,l,c⟩,k⟩
end
theorem qau {A:Around} {k:Nat} (hr:Room k A):A.units+1 < cLine:=Nat.lt_of_le_of_lt (Nat.add_le_add_left (by decide:1<=64) _) hr.units
section
variable {X: Cx}
theorem pv (i:Nat) {x:Str} {pos:Pos} (hN:X.N[i]?=some x:=by rfl) (hv:Vis X.env.scope x:=by first|exact Or.inl rfl|exact Or.inr (Or.inl rfl) |exact Or.inr (Or.inr rfl)) (hd:(x==("__debug__" :Str))=false:=by decide)
  (hcd:(x==("__classdict__" :Str))=false:=by decide):PE X (.Name x pos) (tVar i):=pe_var hN hv hd hcd
end
theorem iteF {A B:Prop} (h:B):if false=true then A else B:=by
 rw [if_neg Bool.false_ne_true]
 exact h
theorem iteT {A B:Prop} (h:A):if true=true then A else B:=by
 rw [if_pos rfl]
 exact h
def Same (H H':Hp):Prop:=∀b o,H b=some o->H' b=some o
theorem Same.refl (H:Hp):Same H H:=fun _ _ h=>h
theorem Same.trans {H H1 H2:Hp} (a:Same H H1) (b:Same H1 H2):Same H H2:=fun c o h=>b c o (a c o h)
theorem Same.free {H H':Hp} (e:Same H H') {l:Addr} (h:H' l=Option.none):H l=Option.none:=by
 cases q:H l with
 |none=>rfl
 |some o=>
  rw [e l o q] at h
  cases h
theorem Same.seq {K:Frag} {H H':Hp} {a:Addr} {xs:List V} (e:Same H H') (h:SqL K H a xs):SqL K H' a xs:=by
 rcases h with (h|⟨o,h⟩) |h
 .exact .inl (.inl (e _ _ h))
 .exact .inl (.inr ⟨o,e _ _ h⟩)
 .exact .inr h
end L2
namespace My
open PySem PySem.Spec PyProof.Rows L2
section
variable {X: Cx}
theorem bits600 {k:Int} (h:k.natAbs < 2^600):Builtin.Int.intBits k<=2^20:=
 Nat.le_trans (PyProof.Rows.intBits_le (k:=600) h) (by decide)
def CBig (i j:Int):Prop:=i.natAbs < 2^600/\j.natAbs < 2^600
theorem qb1:OpR X (binaryOp .Mult) (rI CBig fun i j=> .int (i*j)):=opI fun _ _ _ _ _ _ _ hc q=>mul_int q (IntMulOk.of_bits (bits600 hc.1) (bits600 hc.2))
def CDivB (i j:Int):Prop:=j≠0/\j.natAbs < 2^600
theorem noPy {x y:Int} (h:y.natAbs < 2^600):Builtin.divisionGoesByPylong x y=false:=by
 refine PyProof.noPylong_of_log2 ?_
 by_cases h0:y.natAbs=0
 .rw [h0];decide+kernel
 .have h30:y.natAbs.log2 < 600:=(Nat.log2_lt h0).mpr h
  omega
theorem qbg:OpR X (binaryOp .FloorDiv) (rI CDivB fun i j=> .int (i.fdiv j)):=opI fun _ _ _ _ _ _ _ hc q=>floordiv_int hc.1 q (.inl (noPy hc.2))
end
theorem qa7 {H:Hp} {p:Addr} (h:H p=none) (o:HO):Same H (upd H p o):=fun b u q=>by rw [qa6 (qa9 q h)];exact q
theorem same_tup {K:Frag} {H H':Hp} {a:Addr} {xs:List V} (e:Same H H') (h:SqT K H a xs):SqT K H' a xs:=by
 rcases h with (h|⟨o,h⟩) |h
 .exact .inl (.inl (e _ _ h))
 .exact .inl (.inr ⟨o,e _ _ h⟩)
 .exact .inr h
def cell (ns:List Int) (k:Int):Int:=(ns[k.toNat]?).getD 0
theorem cell_at {ns:List Int} {k:Int} (h0:0<=k) (h:k <(ns.length:Int)):atI (ns.map V.int) k=some (.int (cell ns k)):=by
 have hk:k.toNat < ns.length:=by omega
 have ek:k=((k.toNat:Nat):Int):=by omega
 have q:atI (ns.map V.int) ((k.toNat:Nat):Int)=some (.int ns[k.toNat]):=qc7 (by rw [getElem?_map,getElem?_eq_getElem hk] <;> rfl)
 rw [<-ek] at q
 rw [q]
 unfold cell
 rw [getElem?_eq_getElem hk]
 rfl
theorem cell_out {ns:List Int} {k:Int} (h:¬k <(ns.length:Int)) (h0:0<=k):cell ns k=0:=by
 unfold cell
 rw [List.getElem?_eq_none (by omega)]
 rfl
end My
namespace My
open PySem PySem.Spec PyProof.Rows L2
end My
set_option maxHeartbeats 1000000
namespace My
open PySem PySem.Spec PyProof.Rows L2
section
variable {X: Cx} {pins: List (Addr × Obj)} {σ: L2.St} {H: Hp} {s: Shared} {h': Heap}
structure Rec (X:Cx) (pins:List (Addr × Obj)) (H:Hp) (h:Heap) (b:Addr):Prop where
 nw:X.s₀.heap.get? b=none
 un:H b=none
 pin:∀p∈X.pn++pins,p.1≠b
 ob:∃o vs,h.get? b=some o/\o.data=.fields vs
theorem Rec.loc (I:Inv X pins σ H s) {b:Addr} (r:Rec X pins H s.heap b):b≠X.env.locals:=fun z=>by
 obtain⟨o,vs,e,d⟩:=r.ob
 obtain⟨m,⟨o',es,ep,e',d',_⟩,_⟩:=I.loc
 rw [z,e'] at e;cases e;rw [d'] at d;cases d
theorem Rec.cel (I:Inv X pins σ H s) {b:Addr} (r:Rec X pins H s.heap b):∀x c,X.env.cells.lookup x=some c->c≠b:=fun x c hc z=>by
 obtain⟨o,vs,e,d⟩:=r.ob
 obtain⟨v,o',e',d'⟩:=I.cell x c hc
 rw [z,e] at e';cases e';rw [d] at d';cases d'
theorem Rec.frs (I:Inv X pins σ H s) {b:Addr} (r:Rec X pins H s.heap b):b∉frs X.stack:=fun z=>by
 obtain⟨o,vs,e,d⟩:=r.ob
 obtain⟨_,o',e',d'⟩:=I.stack.mem z
 rw [e] at e';cases e';exact d' vs d
theorem Inv.marks {ch:List Addr} {t':Nat} (I:Inv X pins σ H s) (hch:∀b∈ch,Rec X pins H s.heap b)
  (k1:∀b o,b∉frs X.stack->b∉ch->s.heap.get? b=some o->h'.get? b=some o)
  (k2:∀b o,b∉ch->s.heap.get? b=some o->∃sl,h'.get? b=some {o with slots:=sl}):Inv X pins σ H {s with heap:=h',toks:=t'}:=by
 have sub:∀b,b≠X.env.locals->b∉X.fs->b∉frs X.stack:=fun b h1 h2 z=>(mem_cons.mp (I.stkSub b z)).elim h1 h2
 have neL:∀b o,X.s₀.heap.get? b=some o->b≠X.env.locals:=fun b o e=>Nat.ne_of_lt (Nat.lt_of_lt_of_le (Heap.lt_size e) I.ok.above)
 have neC:∀b o,X.s₀.heap.get? b=some o->b∉ch:=fun b o e z=>by rw [(hch b z).nw] at e;cases e
 have cel:∀x c,X.env.cells.lookup x=some c->∀v,s.heap.IsCell c v->h'.IsCell c v:=fun x c e v ⟨o,ho,hd⟩=>by
  obtain⟨sl,q⟩:=k2 c o (fun z=>(hch c z).cel I x c e rfl) ho
  exact⟨_,q,hd⟩
 refine⟨I.ok,I.os,I.bare,⟨fun b o e n hb hx=>k1 b o (sub b (neL b o e) hb) (neC b o e) (I.base.keep b o e n hb hx),fun b o e n hb hx=>?_,I.base.free,fun b o e hx=>?_,I.base.tups,I.base.frzs,I.base.tbls⟩,
  ?_,fun x c e=>?_,I.free,I.freeC,fun p hp=>?_,fun a o e=>?_,I.len⟩
 .obtain⟨sl,e1⟩:=I.base.slot b o e n hb hx
  obtain⟨sl',e2⟩:=k2 b _ (neC b o e) e1
  exact⟨sl',e2⟩
 .obtain⟨o',e1⟩:=I.base.there b o e hx
  obtain⟨sl',e2⟩:=k2 b _ (neC b o e) e1
  exact⟨_,e2⟩
 .obtain⟨m,hm,hl⟩:=I.loc
  have hm':h'.Ns X.env.locals m:=by
   obtain⟨o,es,ep,e,r⟩:=hm
   obtain⟨sl,q⟩:=k2 _ o (fun z=>(hch _ z).loc I rfl) e
   exact⟨_,es,ep,q,r⟩
  refine⟨m,hm',fun i x v e1 e2 e3=>?_⟩
  obtain⟨u,r,l⟩:=hl i x v e1 e2 e3
  refine⟨u,r,?_⟩
  rcases l with l|⟨k,c,e,z⟩
  .exact .inl l
  .exact .inr ⟨k,c,e,cel x c e _ z⟩
 .obtain⟨v,z⟩:=I.cell x c e
  exact⟨v,cel x c e v z⟩
 .obtain⟨e,n,ne,nf,d⟩:=I.pin p hp
  exact⟨k1 p.1 p.2 (sub p.1 ne nf) (fun z=>(hch p.1 z).pin p hp rfl) e,n,ne,nf,d⟩
 .refine(I.hok a o e).stay (fun b u hb q=>k1 b u ?_ ?_ q) (fun _ q=>q) fun _ _ q=>q
  .intro z
   have n:=I.stkFree b z
   rcases hb with rfl|hb
   .rw [n] at e;cases e
   .rw [n] at hb;cases hb
  .intro z
   have n:=(hch b z).un
   rcases hb with rfl|hb
   .rw [n] at e;cases e
   .rw [n] at hb;cases hb
theorem obj_there {P:Program} {w:World} {H:Hp} {h:Heap} {a:Addr} {o:HO} (x:qbi P w H h a o):∃ob,h.get? a=some ob:=by
 cases o with
 |lst xs=>obtain⟨_,_,_,_,e⟩:=x;exact⟨_,e⟩
 |tup xs=>obtain⟨_,_,_,ob,e,_⟩:=x;exact⟨_,e⟩
 |dK kvs=>obtain⟨_,_,_,_,o,_,_,e,_⟩:=x;exact⟨_,e⟩
 |dT kvs=>obtain⟨_,_,_,_,o,_,_,e,_⟩:=x;exact⟨_,e⟩
 |set S n=>obtain⟨o,_,_,_,e,_⟩:=x;exact⟨_,e⟩
 |ins C dx fs=>obtain⟨_,_,_,e,_⟩:=x;exact⟨_,e⟩
 |own y=>exact x
 |xd fs=>obtain⟨_,⟨_,_,_,e,_⟩,_⟩:=x;exact⟨_,e⟩
 |rng lo hi=>obtain⟨_,_,_,e⟩:=x;exact⟨_,e⟩
 |frz ob u=>obtain⟨e,_⟩:=x;exact⟨_,e⟩
 |tbl ps=>exact⟨_,(show h.get? a=some _ from x)⟩
 |met f y=>exact⟨_,(show h.get? a=some _ from x)⟩
 |ext φ=>obtain⟨_,e,_⟩:=x;exact e
theorem un_of {P:Program} {w:World} {H:Hp} {h:Heap} {a:Addr} (x:HOk P w H h) (e:h.get? a=none):H a=none:=by
 cases q:H a with
 |none=>rfl
 |some o=>obtain⟨ob,z⟩:=obj_there (x a o q);rw [e] at z;cases z
theorem new_of (I:Inv X pins σ H s) (hex:X.ex=[]) {b:Addr} (e:s.heap.get? b=none):X.s₀.heap.get? b=none:=by
 cases q:X.s₀.heap.get? b with
 |none=>rfl
 |some o=>obtain⟨o',z⟩:=I.base.there b o q (by rw [hex];simp);rw [e] at z;cases z
def XNew (h:Heap) (e:Addr) (C:Value) (d:Option Addr):Prop:=
 ∃oe vs,h.get? e=some oe/\oe.cls=C/\oe.dict=d/\oe.data=.fields vs/\vs[1]?=some .none
def XTr (h:Heap) (e:Addr) (C:Value) (d:Option Addr) (fl:Value) (T:Addr):Prop:=
 ∃oe vs oT ts,h.get? e=some oe/\oe.cls=C/\oe.dict=d/\oe.data=.fields vs/\vs[1]?=some (.ref T)/\T≠e/\h.get? T=some oT/\oT.data=.fields ts/\ts[3]?=some fl
def XIn (X:Cx) (pins:List (Addr × Obj)) (H:Hp) (h:Heap) (e:Addr) (C:Value) (d:Option Addr):Prop:=
 Rec X pins H h e/\(XNew h e C d\/∃T,Rec X pins H h T/\∃fl,XTr h e C d fl T)
def qfu (X:Cx) (pins:List (Addr × Obj)) (H:Hp) (h:Heap) (e:Addr) (C:Value) (d:Option Addr) (fl:Value):Prop:=
 Rec X pins H h e/\∃T,Rec X pins H h T/\XTr h e C d fl T
theorem dict_mapF (f:Array Value->Array Value) (o:Obj):(o.mapFields f).dict=o.dict:=by
 obtain⟨c,d,dt,sl⟩:=o
 cases dt <;> rfl
theorem entry_x {M:Model} {A:Around} {E:Value->Shared->Prop} {e:Addr} {C:Value} {d:Option Addr} {head:Value} {hadNext:Bool} {Q:Unit->Shared->Prop}
  (I:Inv X pins σ H s) (hA:A.frames=some X.stack) (hst:X.stack=X.env :: X.outer) (hf:X.env.frame=some X.env.locals) (r:Rec X pins H s.heap e)
  (ho:∃oe vs,s.heap.get? e=some oe/\oe.cls=C/\oe.dict=d/\oe.data=.fields vs/\1 < vs.size)
  (h:∀s',Inv X pins σ H s'->qfu X pins H s'.heap e C d (rawInt X.env.locals)->Q () s'):
  wpAny M A (do let a<-frameOf X.env;let pl<-entryPlaceOf X.env.locals hadNext;let b<-EntryCells.newEntry head a .none (rawInt X.env.locals) .none pl;setField (.ref e) 1 b) Q E s:=by
 obtain⟨oe,vs,he,hc,hdd,hd,hsz⟩:=ho
 have hl:=I.stack
 rw [hst] at hl hA
 have ne:e∉L2.frs X.stack:=r.frs I
 refine wpAny_bind (wpAny_frameOf_fun hA hl hf fun h₁ hs₁=>wpAny_bind (wpAny_entryPlaceOf fun pl hpl=>?_))
 unfold EntryCells.newEntry newFields
 refine wpAny_bind (wpAny_newObj_type ?_ (hpl.sizeOk5 _ _ _ _ _))
 rw [<-hst] at hs₁
 have he1:h₁.get? e=some oe:=(hs₁.2.1 e ne).trans he
 generalize hN:({cls:=.type "traceback",dict:=none,data:=.fields ([head,.ref X.env.locals,.none,rawInt X.env.locals,.none]++(if pl.isEmpty then List.replicate 6 Value.none else pl)).toArray}:Obj)=N
 have he2:(h₁.push N).get? e=some oe:=Heap.get?_push_of_some _ he1
 refine wpAny_setField he2 hd hsz (h _ ?_ ?_)
 .refine Inv.marks (s:=s) (ch:=[e]) (t':=s.toks) I (fun b hb=>by rw [mem_singleton.mp hb];exact r) (fun b o h1 h2 q=>?_) fun b o h2 q=>?_
  .have hb:b≠e:=fun z=>h2 (by simp [z])
   rw [Heap.get?_update_other _ _ (Ne.symm hb)]
   exact Heap.get?_push_of_some _ ((hs₁.2.1 b h1).trans q)
  .have hb:b≠e:=fun z=>h2 (by simp [z])
   obtain⟨sl,q1⟩:=hs₁.2.2 b o q
   exact⟨sl,by rw [Heap.get?_update_other _ _ (Ne.symm hb)];exact Heap.get?_push_of_some _ q1⟩
 .have sz1:h₁.objs.size=s.heap.objs.size:=hs₁.1
  have hTe:h₁.objs.size≠e:=Nat.ne_of_gt (Heap.lt_size he1)
  have d3:=Obj.data_mapFields hd (·.setIfInBounds 1 (Value.ref h₁.objs.size))
  have e3:=Heap.get?_update_self (Obj.mapFields (·.setIfInBounds 1 (Value.ref h₁.objs.size))) he2 (Obj.isFreed_of_fields d3)
  have nf:N.isFreed=false:=by rw [<-hN];rfl
  have t3:=(Heap.get?_update_other (h₁.push N) (Obj.mapFields (·.setIfInBounds 1 (Value.ref h₁.objs.size))) (Ne.symm hTe)).trans (Heap.get?_push_size h₁ nf)
  have rT:Rec X pins H ((h₁.push N).update e (Obj.mapFields (·.setIfInBounds 1 (Value.ref h₁.objs.size)))) h₁.objs.size:=by
   refine⟨Heap.get?_none_of_le (by rw [sz1];exact I.sz),I.hok.fresh (by rw [sz1];exact Nat.le_refl _),fun p hp z=>?_,⟨N,_,t3,by rw [<-hN]⟩⟩
   obtain⟨q,_⟩:=I.pin p hp
   have w:=Heap.lt_size q
   rw [z,sz1] at w
   exact absurd w (Nat.lt_irrefl _)
  refine⟨⟨r.nw,r.un,r.pin,⟨_,_,e3,d3⟩⟩,h₁.objs.size,rT,_,_,N,_,e3,(Obj.cls_mapFields _ _).trans hc,?_,d3,by simp [hsz],hTe,t3,by rw [<-hN],?_⟩
  .rw [<-hdd];exact dict_mapF _ _
  .first|(simp;done) |(rcases hpl with rfl|⟨_,_,_,_,_,_,_,rfl⟩ <;> simp)
theorem note_x {M:Model} {A:Around} {E:Value->Shared->Prop} {e:Addr} {C:Value} {d:Option Addr} {Q:Unit->Shared->Prop}
  (I:Inv X pins σ H s) (hA:A.frames=some X.stack) (hst:X.stack=X.env :: X.outer) (hf:X.env.frame=some X.env.locals) (x:XIn X pins H s.heap e C d)
  (h:∀s',Inv X pins σ H s'->qfu X pins H s'.heap e C d (rawInt X.env.locals)->Q () s'):wpAny M A (noteFrame (.ref e) X.env) Q E s:=by
 obtain⟨r,x⟩:=x
 unfold noteFrame
 simp only [hf]
 rcases x with ⟨oe,vs,he,hc,hdd,hd,h1⟩ |⟨T,rT,fl,oe,vs,oT,ts,he,hc,hdd,hd,h1,hTe,hT,hdT,h3⟩
 .refine wpAny_bind (wpAny_field he hd h1 ?_)
  rw [if_neg (by decide)]
  exact entry_x I hA hst hf r ⟨oe,vs,he,hc,hdd,hd,(Array.getElem?_eq_some_iff.mp h1).1⟩ h
 .refine wpAny_bind (wpAny_field he hd h1 ?_)
  rw [if_pos (show (Value.ref T !=Value.none)=true from by simp)]
  refine wpAny_bind (wpAny_field hT hdT h3 ?_)
  by_cases qf:(fl==rawInt X.env.locals)=true
  .rw [if_pos qf]
   have ef:fl=rawInt X.env.locals:=eq_of_beq qf
   rw [ef] at h3
   exact wpAny_pure (h s I ⟨r,T,rT,oe,vs,oT,ts,he,hc,hdd,hd,h1,hTe,hT,hdT,h3⟩)
  .rw [if_neg qf]
   refine wpAny_bind (wpAny_setField hT hdT (Array.getElem?_eq_some_iff.mp h3).1 ?_)
   have oth:∀b,b≠T->(s.heap.update T (Obj.mapFields (·.setIfInBounds 3 Value.none))).get? b=s.heap.get? b:=fun b hb=>Heap.get?_update_other _ _ (Ne.symm hb)
   have J:Inv X pins σ H {s with heap:=s.heap.update T (Obj.mapFields (·.setIfInBounds 3 Value.none))}:=
    Inv.marks (s:=s) (ch:=[T]) (t':=s.toks) I (fun b hb=>by rw [mem_singleton.mp hb];exact rT) (fun b o _ h2 q=>(oth b fun z=>h2 (by simp [z])).trans q) fun b o h2 q=>⟨o.slots,(oth b fun z=>h2 (by simp [z])).trans q⟩
   have he':=(oth e (Ne.symm hTe)).trans he
   exact entry_x J hA hst hf ⟨r.nw,r.un,r.pin,⟨oe,vs,he',hd⟩⟩ ⟨oe,vs,he',hc,hdd,hd,(Array.getElem?_eq_some_iff.mp h1).1⟩ h
theorem flight_g (fr:Option Addr) {M:Model} {A:Around} {E:Value->Shared->Prop} {e:Addr} {C fl:Value} {d:Option Addr} {Q:Unit->Shared->Prop}
  (I:Inv X pins σ H s) (x:qfu X pins H s.heap e C d fl)
  (h:∀s',Inv X pins σ H s'->qfu X pins H s'.heap e C d (fr.elim Value.none fun f=>rawInt f)->Q () s'):wpAny M A (setFlight (.ref e) fr) Q E s:=by
 obtain⟨r,T,rT,oe,vs,oT,ts,he,hc,hdd,hd,h1,hTe,hT,hdT,h3⟩:=x
 have hsz:=(Array.getElem?_eq_some_iff.mp h3).1
 unfold setFlight
 refine wpAny_bind (wpAny_field he hd h1 ?_)
 rw [if_pos (show (Value.ref T !=Value.none)=true from by simp)]
 refine wpAny_setField hT hdT hsz (h _ ?_ ?_)
 all_goals have oth:∀b,b≠T->(s.heap.update T (Obj.mapFields (·.setIfInBounds 3 (fr.elim Value.none fun f=>rawInt f)))).get? b=s.heap.get? b:=fun b hb=>Heap.get?_update_other _ _ (Ne.symm hb)
 .exact Inv.marks (s:=s) (ch:=[T]) (t':=s.toks) I (fun b hb=>by rw [mem_singleton.mp hb];exact rT) (fun b o _ h2 q=>(oth b fun z=>h2 (by simp [z])).trans q) fun b o h2 q=>⟨o.slots,(oth b fun z=>h2 (by simp [z])).trans q⟩
 .have he':=(oth e (Ne.symm hTe)).trans he
  have d3:=Obj.data_mapFields hdT (·.setIfInBounds 3 (fr.elim Value.none fun f=>rawInt f))
  have hT':=Heap.get?_update_self (Obj.mapFields (·.setIfInBounds 3 (fr.elim Value.none fun f=>rawInt f))) hT (Obj.isFreed_of_fields d3)
  exact⟨⟨r.nw,r.un,r.pin,⟨oe,vs,he',hd⟩⟩,T,⟨rT.nw,rT.un,rT.pin,⟨_,_,hT',d3⟩⟩,oe,vs,_,_,he',hc,hdd,hd,h1,hTe,hT',d3,by simp [hsz]⟩
theorem flight_x {M:Model} {A:Around} {E:Value->Shared->Prop} {e:Addr} {C fl:Value} {d:Option Addr} {Q:Unit->Shared->Prop}
  (I:Inv X pins σ H s) (x:qfu X pins H s.heap e C d fl)
  (h:∀s',Inv X pins σ H s'->qfu X pins H s'.heap e C d .none->Q () s'):wpAny M A (setFlight (.ref e) none) Q E s:=flight_g none I x h
theorem qfu.xin {h:Heap} {e:Addr} {C fl:Value} {d:Option Addr} (x:qfu X pins H h e C d fl):XIn X pins H h e C d:=
 let ⟨r,T,rT,q⟩:=x
 ⟨r,.inr ⟨T,rT,_,q⟩⟩
theorem qfu.xinL {h:Heap} {e:Addr} {C:Value} {d:Option Addr} (x:qfu X pins H h e C d (rawInt X.env.locals)):XIn X pins H h e C d:=x.xin
def CX1 (P:Program) (w:World):CXT:=fun outer H s E e s'=>∃(a:Addr) (C:Value) (d:Option Addr) (H':Hp),e=.ref a/\s'.os=s.os/\AllBare s'.gens/\Un (L2.frs outer) [] H H' s.heap s'.heap/\HOk P w H' s'.heap/\
 s.heap.get? a=none/\H' a=none/\(∃T,s.heap.get? T=none/\H' T=none/\XTr s'.heap a C d .none T)/\E C d H'
def Xes (X:Cx) (W:L2.St->XK):Prop:=∀(pins:List (Addr × Obj)) (σ:L2.St) (H:Hp) (s:Shared) (a:Addr) (C:Value) (d:Option Addr),Inv X pins σ H s->XIn X pins H s.heap a C d->W σ C d H->X.xe (.ref a) s
theorem xes_call {W:L2.St->XK} (h:Xes X W) (hex:X.ex=[]) {e:Value} {s':Shared} (I:Inv X pins σ H s) (q:CX1 X.prog X.w X.stack H s (W σ) e s'):X.xe e s':=by
 obtain⟨a,C,d,H',rfl,os,bare,un,hok,la,na,⟨T,lT,nT,x⟩,w⟩:=q
 have J:Inv X pins σ H' s':=I.call' (ch:=[]) os un hok bare (fun b z=>absurd z (by simp))
 have pn:∀b,s.heap.get? b=none->∀p∈X.pn++pins,p.1≠b:=fun b lb p hp z=>by
  have w:=(I.pin p hp).1
  rw [z,lb] at w
  cases w
 obtain⟨oe,vs,oT,ts,he,hc,hdd,hd,h1,hTe,hT,hdT,h3⟩:=id x
 exact h pins σ H' s' a C d J ⟨⟨new_of I hex la,na,pn a la,⟨oe,vs,he,hd⟩⟩,.inr ⟨T,⟨new_of I hex lT,nT,pn T lT,⟨oT,ts,hT,hdT⟩⟩,_,x⟩⟩ w
end
end My
namespace My
open PySem PySem.Spec PyProof.Rows L2
section
variable {X: Cx} {pins: List (Addr × Obj)} {σ: L2.St} {H: Hp} {s: Shared} {W: L2.St -> XK}
def XSt (X:Cx) (W:L2.St->XK) (e:Value) (s:Shared):Prop:=∃(a:Addr) (C:Value) (d:Option Addr) (σ:L2.St) (H:Hp),e=.ref a/\Inv X [] σ H s/\XIn X [] H s.heap a C d/\W σ C d H
abbrev xw (X:Cx) (W:L2.St->XK):Cx:=X.wish (XSt X W)
theorem Rec.less {h:Heap} {b:Addr} (r:Rec X pins H h b):Rec X [] H h b:=⟨r.nw,r.un,fun p hp=>r.pin p (by rw [append_nil] at hp;exact mem_append_left _ hp),r.ob⟩
theorem XIn.less {h:Heap} {a:Addr} {C:Value} {d:Option Addr} (x:XIn X pins H h a C d):XIn X [] H h a C d:=by
 obtain⟨r,x⟩:=x
 rcases x with x|⟨T,rT,x⟩
 .exact⟨r.less,.inl x⟩
 .exact⟨r.less,.inr ⟨T,rT.less,x⟩⟩
theorem Rec.unwish {E:Value->Shared->Prop} {h:Heap} {b:Addr} (r:Rec (X.wish E) pins H h b):Rec X pins H h b:=⟨r.nw,r.un,r.pin,r.ob⟩
theorem XIn.unwish {E:Value->Shared->Prop} {h:Heap} {a:Addr} {C:Value} {d:Option Addr} (x:XIn (X.wish E) pins H h a C d):XIn X pins H h a C d:=by
 obtain⟨r,x⟩:=x
 rcases x with x|⟨T,rT,x⟩
 .exact⟨r.unwish,.inl x⟩
 .exact⟨r.unwish,.inr ⟨T,rT.unwish,x⟩⟩
theorem qar:Xes (xw X W) W:=fun pins σ H s a C d I x w=>⟨a,C,d,σ,H,rfl,I.unwish.pins_of (fun _ z=>nomatch z),x.unwish.less,w⟩
theorem qbv (hst:X.stack=X.env :: X.outer) (hf:X.env.frame=some X.env.locals):PassesOwn (model X.prog X.w) X.A X.env (XSt X W):=by
 rintro e s' ⟨a,C,d,σ,H,rfl,I,x,w⟩
 show wpAny _ _ (noteFrame (.ref a) X.env) _ _ s'
 refine note_x I I.ok.frames hst hf x fun s2 I2 x2=>?_
 obtain⟨r,T,rT,oe,vs,oT,ts,he,hc,hdd,hd,h1,r2⟩:=id x2
 unfold cameBackBy
 refine wpAny_bind (wpAny_field he hd h1 ?_)
 have fin:wpAny (model X.prog X.w) X.A (setFlight (.ref a) X.env.frame) (fun _ s''=>XSt X W (.ref a) s'') (XSt X W) s2:=by
  rw [hf]
  exact flight_g (some X.env.locals) I2 x2 fun s3 I3 x3=>⟨a,C,d,σ,H,rfl,I3,qfu.xinL x3,w⟩
 first
  |(rw [if_neg (show ¬((Value.ref T==Value.none)=true) from by simp)];exact fin)
  |(rw [if_neg (show ¬((Value.ref T==Value.none)=true) from by simp)];exact wpAny_bind (wpAny_pure fin))
  |(refine wpAny_bind ?_;rw [if_neg (show ¬((Value.ref T==Value.none)=true) from by simp)];exact wpAny_pure fin)
theorem PSs.xes {st:List Stmt} {t:TS} (hx:Xes X W) (h:PSs (xw X W) st t):PSs X st t:=fun pins s σ H D I hw=>
 wpAny_mono (h pins s σ H D (I.wish _) hw) (fun _ _ q=>q.unwish) fun _ _ ⟨a,C,d,σ',H',e,I',x,w⟩=>by subst e;exact hx [] σ' H' _ a C d I' x w
end
section
variable {P: Program} {w: World} {K: Frag} {mg: Str -> Option Value} {base: Heap}
theorem xes_fn {N:List Str} {qual:Str} {scope:Scope} {f:Addr} {cd:Value} {A:Around} {outer:List Env} {s:Shared} {H:Hp} {E:XK}:
  Xes (cxOf (CX1 P w) P w K mg base N qual scope f cd A outer s H E) (fun _=>E):=by
 intro pins σ H1 s1 a C d I x wE
 show wpAny _ _ (leaving _ _) _ _ s1
 unfold leaving
 refine wpAny_bind (note_x I I.ok.frames rfl rfl x fun s2 I2 x2=>flight_x I2 x2 fun s3 I3 x3=>?_)
 obtain⟨r,T,rT,xt⟩:=x3
 exact⟨a,C,d,H1,rfl,I3.os,I3.bare,I3.base,I3.hok,r.nw,r.un,⟨T,rT.nw,rT.un,xt⟩,wE⟩
theorem okX {x qual:Str} {st:Stmt} {f:Addr} {fd:FuncData} {N ps:List Str} {k:Nat} {sp:Sp} (F:Fun K x qual st f fd) (S:FnScope N ps (qa8 st)) (len:∀vs H Q E,sp vs H Q E->vs.length=ps.length)
  (hbody:∀(cdv:Value) (A:Around) (outer:List Env) (s:Shared) (H:Hp) (vs:List V) (Q:VK) (E:XK),Room k (A.deeper (envOfC qual (qa8 st) s.heap.objs.size f cdv))->sp vs H Q E->
   ∃t,PSs (xw (cxOf (CX1 P w) P w K mg base N qual (qa8 st) f cdv A outer s H E) (fun _=>E)) (qbo st) t/\t {nx:=fun _ H'=>Q .non H',rt:=Q} (start N vs) H):FnOk P w K mg base (CX1 P w) (k+1) f fd ps sp:=by
 obtain⟨oc,od,kV,doc,pm,an,cdv,ct,osl,rfl,lk,hcd⟩:=F.ex
 refine fn_of lk hcd S len fun A outer s H vs Q E hr hsp=>?_
 obtain⟨t,ht,q⟩:=hbody cdv A outer s H vs Q E hr hsp
 exact⟨t,PSs.xes xes_fn ht,q⟩
end
section
variable {X: Cx} {k: Nat} {f: Addr} {fd: FuncData} {ps: List Str} {sp: Sp} {dvs: List V} {ds: List Value} {W: L2.St -> XK} {x: Str} {p pos: Pos} {e: Expr} {es: List Expr} {t: TA}
def tCallX (sp:Sp) (dvs:List V) (W:L2.St->XK) (t:TA):TE:=fun σ H Q=>t σ H fun vs H1=>sp (vs++dvs) H1 Q (W σ)
theorem run_fnX {pins:List (Addr × Obj)} {σ:L2.St} {H:Hp} {s:Shared} {Q:VK} {us:List Value} {vs:List V} (F:FnOk X.prog X.w X.K X.mg X.base (CX1 X.prog X.w) k f fd ps sp) (hr:Room k X.A) (hb:qaj X.K fd ps ds) (hd:qbj dvs ds) (hx:Xes X W) (hex:X.ex=[])
  (I:Inv X pins σ H s) (r:qbj vs us) (h:sp (vs++dvs) H Q (W σ)):wpAny (model X.prog X.w) X.A (call (.ref f) us) (EP X pins σ Q) X.xe s:=by
 have r2:qbj (vs++dvs) (us++ds):=r.append hd
 have hl:(us++ds).length=ps.length:=by rw [<-r2.length];exact F.len _ _ _ _ h
 refine wpAny_call (codeAny_mono (F.run X.A X.stack s H ⟨us, []⟩ (us++ds) (vs++dvs) Q (W σ) hr I.env0 (hb s us I.kIn hl) r2 h) fun r s' hq=>?_)
 match r,hq with
 | .error e,hq=>exact xes_call hx hex I hq
 | .ok (.ret u),hq=>exact I.after hq
 | .ok .next,hq=>exact False.elim hq
 | .ok .brk,hq=>exact False.elim hq
 | .ok .cont,hq=>exact False.elim hq
theorem qav (F:FnOk X.prog X.w X.K X.mg X.base (CX1 X.prog X.w) k f fd ps sp) (hr:Room k X.A) (hg:Gl X x) (hm:X.mg x=some (.ref f)) (hk:keepIn X.K (.ref f)=true) (hb:qaj X.K fd ps ds) (hd:qbj dvs ds) (hx:Xes X W)
  (ha:PA X (e :: es) t) (hex:X.ex=[]:=by rfl) (hdb:(x==("__debug__" :Str))=false:=by decide) (he:starEach (e :: es) X.env=(false,eval e X.env) :: starEach es X.env:=by rfl) (hpl:(backTo pos (starEach es X.env)).any (·.1)=false:=by rfl):
  PE X (.Call (.Name x p) (e :: es) [] pos) (tCallX sp dvs W t):=by
 intro pins s σ H Q I h
 refine wpAny_Call_Name_kw (qdu I hg hm ?_ hdb)
 refine PySem.W.callWith_K (h₀:=X.base) I.ok.mod.kin hk (thn (ha pos pins s σ H _ I h) fun us s1 ⟨vs,H1,I1,r,q⟩=>⟨I1.kIn,?_⟩) he hpl
 exact run_fnX F hr hb hd hx hex I1 r q
end
structure XCls (K:Frag) (C:Addr):Prop where
 ob:∃(nm q:Str) (N:Addr) (bs bm:List Value) (hdct:Bool) (sn:List Str) (sub:List Value) (ab:Bool) (col:Option Bool) (dd:Option Addr) (k0 k1 k2 k3 k5:Option Value) (mN:Str->Option Value),
  K.lookup C=some (excClassObj nm q C N bs bm hdct sn sub ab col dd k0 k1 k2 k3 k5 "ValueError.__new__")/\(∀h:Heap,K.In h->h.Ns N mN)/\mN "__init__" =none/\
  ∀h:Heap,K.In h->OwnTail h [.type "ValueError",.type "Exception",.type "BaseException",.type "object"] bm
section
variable {X: Cx} {x: Str} {C: Addr} {W: L2.St -> XK} {np cpos pos: Pos} {e: Expr} {es: List Expr} {t: TA}
def tRaise (t:TA) (C:Addr) (W:L2.St->XK):TS:=fun _ σ H=>t σ H fun xs H1=>xs.length<=sizeLine/\W σ (.ref C) none H1
theorem qc2 (hc:X.calm=true) (M:XCls X.K C) (hg:Gl X x) (hm:X.mg x=some (.ref C)) (hx:Xes X W) (ha:PA X (e :: es) t) (hex:X.ex=[]:=by rfl) (hdb:(x==("__debug__" :Str))=false:=by decide)
  (he:starEach (e :: es) X.env=(false,eval e X.env) :: starEach es X.env:=by rfl) (hpl:(backTo cpos (starEach es X.env)).any (·.1)=false:=by rfl):
  PS X (.Raise (some (.Call (.Name x np) (e :: es) [] cpos)) none pos) (tRaise t C W):=by
 intro pins s σ H D I h
 obtain⟨nm,q,N,bs,bm,hdct,sn,sub,ab,col,dd,k0,k1,k2,k3,k5,mN,hC,hN,hni,T⟩:=M.ob
 refine wpAny_Raise_call_subU (C:=C) (nm:=nm) (q:=q) (N:=N) (bs:=bs) (bm:=bm) (hdct:=hdct) (sn:=sn) (sub:=sub) (ab:=ab) (col:=col) (dd:=dd) (k0:=k0) (k1:=k1) (k2:=k2) (k3:=k3) (k5:=k5)
  PySem.F.excBase_ValueError (by decide) PySem.F.excBase_ValueError (mN:=mN) ((T _ I.kIn).hasType PySem.F.excBase_ValueError.hasBase) (I.ok.hd hc) ?_ hni ?_
 .rw [he];show (false ||(backTo cpos (starEach es X.env)).any (·.1))=false;rw [hpl];rfl
 .refine qdu I hg hm ⟨rfl,?_⟩ hdb
  have z:=ha cpos pins s σ H _ I h
  rw [he] at z ⊢
  refine Calls.evalArgs_plain (wpAny_mono z (fun us s2 ⟨vs,H2,I2,r,hl,q⟩=>⟨rfl,by rw [<-r.length];exact hl,I2.kIn _ _ hC,hN _ I2.kIn,T _ I2.kIn,fun h' a m=>?_⟩) fun _ _ y=>y)
  obtain⟨tp,ea,_,_⟩:=m.there
  have J:Inv X pins σ H2 {s2 with heap:=h'}:=I2.kept (t':=s2.toks) m.keeps
  refine hx pins σ H2 _ a (.ref C) none J ⟨⟨new_of I2 hex m.new,un_of I2.hok m.new,fun p hp y=>?_,⟨_,_,ea,rfl⟩⟩,.inl ⟨_,_,ea,rfl,rfl,rfl,rfl⟩⟩ q
  have w:=(I2.pin p hp).1
  rw [y,m.new] at w
  cases w
end
end My
namespace My
open PySem PySem.Spec PyProof.Rows L2
section
variable {X: Cx} {pins: List (Addr × Obj)}
abbrev pnd (X:Cx) (pins:List (Addr × Obj)):Cx:={X with pn:=X.pn++pins}
abbrev suite (X:Cx) (a:Addr):Cx:={X with A:=X.A.mark (some (.ref a)),calm:=false,xe:=fun _ _=>False}
def XO (a:Addr) (C:Value) (d:Option Addr):HO:=.ext fun h=>∃(oe:Obj) (vs:Array Value),h.get? a=some oe/\oe.cls=C/\oe.dict=d/\oe.data=.fields vs
end
section
variable {X: Cx}
def tCut (t:TS):TS:=fun D σ H=>∃J:L2.St->Hp->Prop,t {D with nx:=J} σ H/\∀σ' H',J σ' H'->D.nx σ' H'
theorem qd6 {st:Stmt} {t:TS} (h:PS X st t):PS X st (tCut t):=by
 intro pins s σ H D I ⟨J,hw,k⟩
 refine wpAny_mono (h pins s σ H _ I hw) (fun f s' q=>?_) fun _ _ z=>z
 cases f with
 |next=>obtain⟨σ',H',I',z⟩:=q;exact⟨σ',H',I',k _ _ z⟩
 |brk=>exact q
 |cont=>exact q
 |ret u=>exact q
end
theorem qd3 {K:Frag} {C:Addr} (q:excIn K C [.type "ValueError",.type "Exception",.type "BaseException",.type "object"] "ValueError.__new__" =true):XCls K C:=by
 unfold excIn at q
 split at q
 .rename_i dd cd sl ho
  split at q
  .rename_i C' bm k0 k1 k2 k3 n k5 hm hs
   simp only [Bool.and_eq_true,beq_iff_eq,Bool.not_eq_true'] at q
   obtain⟨⟨⟨⟨⟨rfl,rfl⟩,hdel⟩,ht⟩,hok⟩,hni⟩:=q
   obtain⟨nm,bs,mro,ns,qn,hd,sn,sub,ab,col,del⟩:=cd
   dsimp only at hm hdel hok hni
   subst hm hdel
   have hsl:sl= #[k0,k1,k2,k3,some (.builtin "ValueError.__new__"),k5]:=by
    obtain⟨l⟩:=sl
    simp only at hs
    rw [hs]
   subst hsl
   unfold PySem.W.nsOkIn at hok
   split at hok
   .rename_i c1 d1 es ep sl1 hN
    have hSK:StrKeys es:=fun e he=>by
     have z:=Array.all_eq_true_iff_forall_mem.mp hok e he
     split at z
     .rename_i n t q;exact⟨n,t,q⟩
     .cases z
    have hNs:∀h:Heap,K.In h->h.Ns ns (fun x=>nsFind es x):=fun h X=>⟨_,es,ep,X _ _ hN,rfl,hSK,fun _=>rfl⟩
    refine⟨nm,qn,ns,bs,bm,hd,sn,sub,ab,col,dd,k0,k1,k2,k3,k5,fun x=>nsFind es x,ho,hNs,?_,fun h X=>PySem.W.tail_of_in X ht⟩
    unfold nsIn at hni
    rw [hN] at hni
    dsimp only at hni
    split at hni
    .cases hni
    .rename_i hf
     show nsFind es "__init__" =none
     unfold nsFind findBy
     rw [<-Array.find?_toList,hf]
     rfl
   .cases hok
  .cases q
 .cases q
def TyX (K:Frag) (H:Hp) (x:V) (t:Value) (b:Bool):Prop:=TyOf K H x t\/∃(a:Addr) (d:Option Addr),x=.ref a/\H a=some (XO a t d)/\b=true
def rIsi (K:Frag):List V->Hp->VK->Prop:=fun xs H Q=>∃(x c:V) (u t:Value) (b:Bool),xs=[x,c]/\qb2 c u/\(∀u',qb2 c u'->u'=u)/\TyX K H x t b/\kitOne K t u=some b/\Q (.bl b) H
end My
namespace My
open PySem PySem.Spec PyProof.Rows L2
theorem isi_yes {prog:Program} {w:World} {A:Around} {E:Value->Shared->Prop} {s:Shared} {Q:Value->Shared->Prop} {K:Frag} {a:Addr} {t c:Value} (KX:K.In s.heap) (hp:∃o,s.heap.get? a=some o/\o.cls=t) (e:kitOne K t c=some true)
  (h:Q (.bool true) s):wpAny (model prog w) A (call (.builtin "isinstance") [.ref a,c]) Q E s:=by
 refine call_isinstance_of ?_ (by intro q;cases q)
 obtain⟨h0,g,d,tt,os⟩:=s
 obtain⟨o,ho,hc⟩:=hp
 have LT:PySem.W.Looks (model prog w) h0 (typeOf (.ref a)) t:=hc ▸ (PySem.W.Looks.ld ho).andThen .now
 unfold kitOne at e
 unfold Builtin.«isinstance.nested»
 refine wpAny_bind (LT.at ?_)
 by_cases q:(t==c)=true
 .rw [if_pos q]
  first
   |exact wpAny_bind (wpAny_rule (wpAny_pure h))
   |exact wpAny_bind (wpAny_rule h)
 .rw [if_neg q] at e
  rw [if_neg q]
  obtain⟨hty,his,hsub⟩:=PySem.W.kit_cls (M:=model prog w) KX e
  have LI:PySem.W.Looks (model prog w) h0 (isInstance (.ref a) c) true:=LT.andThen hsub
  refine wpAny_bind (hty.at ?_)
  rw [if_pos (by decide)]
  k_delta "plainIsInstance"
  refine wpAny_bind (wpAny_bind (his.at ?_))
  simp only [Bool.not_true,Bool.false_eq_true,if_false]
  refine wpAny_bind (LI.at ?_)
  first
   |exact wpAny_pure (wpAny_pure h)
   |(simp only [if_true];first|exact wpAny_pure (wpAny_pure h) |exact wpAny_pure h|exact wpAny_bind (wpAny_pure (wpAny_pure h)))
theorem xes_no {X:Cx}:Xes X (fun _ _ _ _=>False):=fun _ _ _ _ _ _ _ _ _ w=>w.elim
section
variable {X: Cx}
theorem qbf:qcj X (.builtin "isinstance") (rIsi X.K):=by
 intro pins s σ H xs us Q I hv h
 obtain⟨x,c,u,t,b,rfl,hu,hu',ty,e,q⟩:=h
 cases hv with
 |cons r1 hv=>
  cases hv with
  |cons r2 hv=>
   cases hv
   rename_i v1 v2
   rw [hu' v2 r2]
   rcases ty with ty|⟨a,d,rfl,ea,rfl⟩
   .exact isinst_ok I r1 ty e fun tk=>⟨.bl b,H,I.tok tk,rfl,q⟩
   .cases r1
    obtain⟨⟨oe,vs,h1,h2,_⟩,_⟩:=(show qbi X.prog X.w H s.heap a (XO a t d) from I.hok a _ ea)
    exact isi_yes I.kIn ⟨oe,h1,h2⟩ e ⟨.bl true,H,I,rfl,q⟩
def rIsN:R2:=fun x y H Q=>y=.non/\Q (.bl (decide (x=.non))) H
def rNotN:R2:=fun x y H Q=>y=.non/\Q (.bl (!decide (x=.non))) H
def rAbs:List V->Hp->VK->Prop:=fun xs H Q=>∃i,xs=[.int i]/\Q (.int (if i < 0 then -i else i)) H
def rLen (K:Frag):List V->Hp->VK->Prop:=fun xs H Q=>∃p ys,xs=[.ref p]/\(SqL K H p ys\/SqT K H p ys)/\Q (.int ys.length) H
theorem qfs:qcj X (.builtin "abs") rAbs:=call_abs
theorem qbh:qcj X (.builtin "len") (rLen X.K):=call_len_seq
theorem op_isNN:OpR X (compareOp .Is) rIsN:=op_isN
theorem qgc:OpR X (compareOp .IsNot) rNotN:=op_notN
end
section
variable {K: Frag} {H: Hp} {Q: VK}
theorem r_isi {x:V} {T:String} {t:Value} {b:Bool} (ty:TyOf K H x t) (e:kitOne K t (.type T)=some b) (h:Q (.bl b) H):rIsi K [x,.ty T] H Q:=⟨x,_,_,t,b,rfl,rfl,fun _ z=>z,.inl ty,e,h⟩
end
section
variable {K: Frag}
theorem kit_int_int:kitOne K (.type "int") (.type "int")=some true:=by rfl
theorem kit_int_bool:kitOne K (.type "int") (.type "bool")=some false:=by rfl
theorem kit_str_str:kitOne K (.type "str") (.type "str")=some true:=by rfl
theorem kit_lst_lst:kitOne K (.type "list") (.type "list")=some true:=by rfl
theorem kit_tup_tup:kitOne K (.type "tuple") (.type "tuple")=some true:=by rfl
theorem kit_dct_dct:kitOne K (.type "dict") (.type "dict")=some true:=by rfl
end
end My
namespace My
open PySem PySem.Spec PyProof.Rows L2
section
variable {K: Frag} {σ σ': L2.St} {H H1: Hp} {Q: VK} {D: Ends} {ta tb te: TE} {t u: TS} {c c': TT} {ar: TA} {v x y: V} {i j: Nat}
theorem qab {N:List Str} {vs:List V} (e:start N vs=σ) (h:t D σ H):t D (start N vs) H:=e ▸ h
theorem r_var (e:σ[i]?=some (some v)) (h:Q v H):tVar i σ H Q:=⟨v,e,h⟩
theorem r_c (h:Q v H):tC v σ H Q:=h
theorem r_op {r:R2} (h:ta σ H fun x H1=>tb σ H1 fun y H2=>r x y H2 Q):tOp r ta tb σ H Q:=h
theorem r_un {r:V->Hp->VK->Prop} (h:ta σ H fun x H1=>r x H1 Q):tUn r ta σ H Q:=h
theorem r_I0 {g:Int->Int->V} {i j:Int} (h:Q (g i j) H):rI0 g (.int i) (.int j) H Q:=⟨i,j,rfl,rfl,h⟩
theorem r_I {C:Int->Int->Prop} {g:Int->Int->V} {i j:Int} (hc:C i j) (h:Q (g i j) H):rI C g (.int i) (.int j) H Q:=⟨i,j,rfl,rfl,hc,h⟩
theorem r_U {g:Int->V} {i:Int} (h:Q (g i) H):rU g (.int i) H Q:=⟨i,rfl,h⟩
theorem r_eqI {i j:Int} (h:Q (.bl (decide (i=j))) H):rEq (.int i) (.int j) H Q:=⟨rfl,by
 have e:decide (V.int i=V.int j)=decide (i=j):=by by_cases z:i=j <;> simp [z]
 rw [e];exact h⟩
theorem r_neI {i j:Int} (h:Q (.bl (!decide (i=j))) H):rNe (.int i) (.int j) H Q:=⟨rfl,by
 have e:decide (V.int i=V.int j)=decide (i=j):=by by_cases z:i=j <;> simp [z]
 rw [e];exact h⟩
theorem r_exb {b:Bool} {Q:Bool->Prop} (h:Q b):∃k,V.bl b=.bl k/\Q k:=⟨b,rfl,h⟩
theorem r_test {Q:Bool->Hp->Prop} (h:te σ H fun x H'=>∃k,x=.bl k/\Q k H'):tTest te σ H Q:=h
theorem r_tB {Q:Bool->Hp->Prop} (h:te σ H fun x H'=>∃k,x=.bl k/\Q k H'):tB te σ H Q:=h
theorem r_and {Q:Bool->Hp->Prop} (h:c σ H fun b H1=>if b=true then c' σ H1 Q else Q false H1):tAnd c c' σ H Q:=h
theorem r_or {Q:Bool->Hp->Prop} (h:c σ H fun b H1=>if b=true then Q true H1 else c' σ H1 Q):tOr c c' σ H Q:=h
theorem r_not {Q:Bool->Hp->Prop} (h:c σ H fun b H1=>Q (!b) H1):tNot c σ H Q:=h
theorem r_andV (h:ta σ H fun x H1=>∃k,x=.bl k/\if k=true then tb σ H1 Q else Q (.bl false) H1):tAndV ta tb σ H Q:=h
theorem r_notV (h:ta σ H fun x H1=>∃k,x=.bl k/\Q (.bl (!k)) H1):tNotV ta σ H Q:=h
theorem r_ifE (h:c σ H fun b H1=>if b=true then ta σ H1 Q else tb σ H1 Q):tIf c ta tb σ H Q:=h
theorem r_next (h:D.nx σ H):tNext D σ H:=h
theorem r_seq (h:t {nx:=u D,rt:=D.rt,bk:=D.bk,ct:=D.ct} σ H):tSeq t u D σ H:=h
theorem r_drop (h:te σ H fun _ H1=>D.nx σ H1):tDrop te D σ H:=h
theorem r_ret (h:te σ H D.rt):tRet te D σ H:=h
theorem r_if (h:c σ H fun b H1=>if b=true then t D σ H1 else u D σ H1):tIfS c t u D σ H:=h
theorem r_asg {g:TG} (h:te σ H fun x H1=>g x σ H1 D.nx):tAsg te g D σ H:=h
theorem r_name {Q:L2.St->Hp->Prop} (e:σ.set i (some v)=σ') (h:Q σ' H):qdv i v σ H Q:=by subst e;exact h
theorem r_gnil {Q:L2.St->Hp->Prop} (h:Q σ H):gNil [] σ H Q:=⟨rfl,h⟩
theorem r_gcons {g:TG} {gs:TGs} {vs:List V} {Q:L2.St->Hp->Prop} (h:g v σ H fun σ' H'=>gs vs σ' H' Q):gCons g gs (v :: vs) σ H Q:=⟨v,vs,rfl,h⟩
theorem r_par (h:ar σ H fun vs H1=>∃v w,vs=[v,w]/\D.nx ((σ.set i (some v)).set j (some w)) H1):tPar i j ar D σ H:=h
theorem r_two {v w:V} {Q:V->V->Prop} (h:Q v w):∃a b, [v,w]=[a,b]/\Q a b:=⟨v,w,rfl,h⟩
theorem r_nx {f b c:L2.St->Hp->Prop} {r:VK} (h:f σ H):Ends.nx {nx:=f,rt:=r,bk:=b,ct:=c} σ H:=h
theorem r_rt {f b c:L2.St->Hp->Prop} {r:VK} (h:r v H):Ends.rt {nx:=f,rt:=r,bk:=b,ct:=c} v H:=h
theorem r_nil {Q:List V->Hp->Prop} (h:Q [] H):tNil σ H Q:=h
theorem r_cons {Q:List V->Hp->Prop} (h:te σ H fun x H1=>ar σ H1 fun xs H2=>Q (x :: xs) H2):tCons te ar σ H Q:=h
theorem r_tup (h:ar σ H fun xs H1=>xs.length<=sizeLine/\∀p,H1 p=none->Q (.ref p) (upd H1 p (.tup xs))):tTup ar σ H Q:=h
theorem r_lst (h:ar σ H fun xs H1=>xs.length<=sizeLine/\∀p,H1 p=none->Q (.ref p) (upd H1 p (.lst xs))):tLst ar σ H Q:=h
theorem r_new {xs:List V} {A:Prop} (hn:xs.length<=sizeLine) (h:A):xs.length<=sizeLine/\A:=⟨hn,h⟩
theorem r_call {sp:Sp} {E:XK} (h:ar σ H fun vs H1=>sp vs H1 Q E):tCall sp [] E ar σ H Q:=by
 have e:(fun vs H1=>sp (vs++ []) H1 Q E)=fun vs H1=>sp vs H1 Q E:=by funext vs H1;rw [append_nil]
 show ar σ H fun vs H1=>sp (vs++ []) H1 Q E
 rw [e];exact h
theorem r_callX {sp:Sp} {W:L2.St->XK} (h:ar σ H fun vs H1=>sp vs H1 Q (W σ)):tCallX sp [] W ar σ H Q:=by
 have e:(fun vs H1=>sp (vs++ []) H1 Q (W σ))=fun vs H1=>sp vs H1 Q (W σ):=by funext vs H1;rw [append_nil]
 show ar σ H fun vs H1=>sp (vs++ []) H1 Q (W σ)
 rw [e];exact h
theorem r_cb {r:List V->Hp->VK->Prop} (h:ar σ H fun vs H1=>r vs H1 Q):tCB r ar σ H Q:=h
theorem r_raise {C:Addr} {W:L2.St->XK} (h:ar σ H fun xs H1=>xs.length<=sizeLine/\W σ (.ref C) none H1):tRaise ar C W D σ H:=h
theorem qcr {p:Addr} {xs:List V} {k:Int} (hS:SqL K H p xs) (e:atI xs k=some v) (h:Q v H):rIxL K (.ref p) (.int k) H Q:=⟨p,xs,k,v,rfl,rfl,hS,e,h⟩
theorem r_ixT {p:Addr} {xs:List V} {k:Int} (hS:SqT K H p xs) (e:atI xs k=some v) (h:Q v H):rIxT K (.ref p) (.int k) H Q:=⟨p,xs,k,v,rfl,rfl,hS,e,h⟩
theorem r_fresh {R:Addr->Prop} (h:∀p,H p=none->R p):∀p,H p=none->R p:=h
theorem r_menu {p:Addr} {xs:List Int} {r:Int} (hS:SqL K H p (xs.map V.int)) (h0:0<=r) (h1:r < xs.length) (h:∀m,m∈xs->Q (.int m) H):rIxL K (.ref p) (.int r) H Q:=by
 have hk:r.toNat < xs.length:=by omega
 have ek:r=((r.toNat:Nat):Int):=by omega
 have q:atI (xs.map V.int) ((r.toNat:Nat):Int)=some (.int xs[r.toNat]):=qc7 (by rw [getElem?_map,getElem?_eq_getElem hk] <;> rfl)
 rw [<-ek] at q
 exact⟨p,_,r,_,rfl,rfl,hS,q,h _ (getElem_mem hk)⟩
theorem qf6 (h:t {nx:=D.nx,rt:=D.rt,bk:=D.bk,ct:=D.ct} σ H):tCut t D σ H:=⟨D.nx,h,fun _ _ z=>z⟩
theorem r_cut (J:L2.St->Hp->Prop) (h:t {nx:=J,rt:=D.rt,bk:=D.bk,ct:=D.ct} σ H) (k:∀σ' H',J σ' H'->D.nx σ' H'):tCut t D σ H:=⟨J,h,k⟩
theorem r_lenT {p:Addr} {ys:List V} (hS:SqT K H p ys) (h:Q (.int ys.length) H):rLen K [.ref p] H Q:=⟨p,ys,rfl,.inr hS,h⟩
theorem r_lenL {p:Addr} {ys:List V} (hS:SqL K H p ys) (h:Q (.int ys.length) H):rLen K [.ref p] H Q:=⟨p,ys,rfl,.inl hS,h⟩
theorem r_abs {i:Int} (h:Q (.int (if i < 0 then -i else i)) H):rAbs [.int i] H Q:=⟨i,rfl,h⟩
theorem r_isNn (h:Q (.bl true) H):rIsN .non .non H Q:=⟨rfl,h⟩
theorem r_isNr {a:Addr} (h:Q (.bl false) H):rIsN (.ref a) .non H Q:=⟨rfl,h⟩
theorem r_notNn (h:Q (.bl false) H):rNotN .non .non H Q:=⟨rfl,h⟩
theorem r_notNi {a:Int} (h:Q (.bl true) H):rNotN (.int a) .non H Q:=⟨rfl,h⟩
end
section
variable {K: Frag} {σ: L2.St} {H: Hp} {D: Ends} {wi: TI} {g: TG} {tb: TS} {tl: TE} {ta: TA}
def FOR (J:It) (g:TG) (tb:TS) (D:Ends) (σ:L2.St) (H:Hp):Prop:=∃W:Nat->Nat->L2.St->Hp->Prop,(∃m,W 0 m σ H)/\∀i m σ H,W i m σ H->
 (J.stop i H/\D.nx σ H)\/(J.go i H/\∃N:L2.St->Hp->Prop,(∀σ' H',N σ' H'->∃m',m' < m/\W (i+1) m' σ' H')/\∀x H',J.yld i H x H'->g x σ H' fun σ2 H2=>tb {D with nx:=N,ct:=N,bk:=D.nx} σ2 H2)
def rItL (K:Frag) (x:V) (H:Hp) (R:It->Hp->Prop):Prop:=∃a,x=.ref a/\(∃xs,SqL K H a xs)/\R (Itl K a) H
def rItR (vs:List V) (H:Hp) (R:It->Hp->Prop):Prop:=∃j:Int,vs=[.int j]/\-(2^62)<=j/\j < 2^62/\R (Itr 0 j.toNat) H
theorem r_for (h:wi σ H fun J H1=>FOR J g tb D σ H1):tFor wi g tb D σ H:=h
theorem r_iL {R:It->Hp->Prop} (h:tl σ H fun x H1=>rItL K x H1 R):iList K tl σ H R:=h
theorem r_iR {R:It->Hp->Prop} (h:ta σ H fun vs H1=>rItR vs H1 R):iRng1 ta σ H R:=h
theorem r_itL {a:Addr} {xs:List V} {R:It->Hp->Prop} (hS:SqL K H a xs) (h:R (Itl K a) H):rItL K (.ref a) H R:=⟨a,rfl,⟨xs,hS⟩,h⟩
theorem r_itR {j:Int} {R:It->Hp->Prop} (h0: -(2^62)<=j) (h1:j < 2^62) (h:R (Itr 0 j.toNat) H):rItR [.int j] H R:=⟨j,rfl,h0,h1,h⟩
theorem qcc {a:Addr} {xs:List V} (Pv:Nat->L2.St->Hp->Prop) (h0:Pv 0 σ H) (hl:∀i σ H,i<=xs.length->Pv i σ H->SqL K H a xs)
  (hs:∀i x σ H,xs[i]?=some x->Pv i σ H->g x σ H fun σ2 H2=>tb {nx:=Pv (i+1),rt:=D.rt,bk:=D.nx,ct:=Pv (i+1)} σ2 H2) (hd:∀σ H,Pv xs.length σ H->D.nx σ H):FOR (Itl K a) g tb D σ H:=for_list Pv h0 hl hs hd
theorem qfp {lo:Int} {n:Nat} (Pv:Nat->L2.St->Hp->Prop) (h0:Pv 0 σ H)
  (hs:∀(i:Nat) σ H,i < n->Pv i σ H->g (.int (lo+i)) σ H fun σ2 H2=>tb {nx:=Pv (i+1),rt:=D.rt,bk:=D.nx,ct:=Pv (i+1)} σ2 H2) (hd:∀σ H,Pv n σ H->D.nx σ H):FOR (Itr lo n) g tb D σ H:=for_range Pv h0 hs hd
end
theorem qaa {H:Hp} {a p:Addr} {o o':HO} (h:H a=some o) (n:H p=none):upd H p o' a=some o:=by rw [qa6 (qa9 h n)];exact h
theorem sqL_new {K:Frag} {H:Hp} {a p:Addr} {o:HO} {xs:List V} (h:SqL K H a xs) (n:H p=none):SqL K (upd H p o) a xs:=(qa7 n o).seq h
theorem sqT_new {K:Frag} {H:Hp} {a p:Addr} {o:HO} {xs:List V} (h:SqT K H a xs) (n:H p=none):SqT K (upd H p o) a xs:=same_tup (qa7 n o) h
theorem same_upd {H0 H:Hp} {p:Addr} {o:HO} (h:Same H0 H) (n:H p=none):Same H0 (upd H p o):=h.trans (qa7 n o)
theorem i_t {c A B:Prop} [Decidable c] (h:c) (hA:A):if decide c=true then A else B:=by rw [decide_eq_true h];exact iteT hA
theorem i_f {c A B:Prop} [Decidable c] (h:¬c) (hB:B):if decide c=true then A else B:=by rw [decide_eq_false h];exact iteF hB
theorem i_2 {c A B:Prop} [Decidable c] (h1:c->A) (h2:¬c->B):if decide c=true then A else B:=by
 by_cases h:c
 .exact i_t h (h1 h)
 .exact i_f h (h2 h)
theorem i_nt {c A B:Prop} [Decidable c] (h:¬c) (hA:A):if (!decide c)=true then A else B:=by rw [decide_eq_false h];exact iteT hA
theorem i_nf {c A B:Prop} [Decidable c] (h:c) (hB:B):if (!decide c)=true then A else B:=by rw [decide_eq_true h];exact iteF hB
theorem i_n2 {c A B:Prop} [Decidable c] (h1:¬c->A) (h2:c->B):if (!decide c)=true then A else B:=by
 by_cases h:c
 .exact i_nf h (h2 h)
 .exact i_nt h (h1 h)
theorem i_nT {A B:Prop} (h:B):if (!true)=true then A else B:=h
theorem i_nF {A B:Prop} (h:A):if (!false)=true then A else B:=iteT h
end My
namespace My
open PySem PySem.Spec PyProof.Rows L2
def AllC {α:Type} (f:α->Prop):List α->Prop
 | []=>True
 |a :: l=>f a/\AllC f l
theorem AllC.mem {α:Type} {f:α->Prop}:∀{l:List α},AllC f l->∀a∈l,f a
 | [],_,_,h=>absurd h (by simp)
 |b :: l,h,a,m=>by
  rcases mem_cons.mp m with rfl|m
  .exact h.1
  .exact AllC.mem h.2 a m
def qbe (caps:List Nat) (σ:L2.St):L2.St:=caps.map fun j=>(σ[j]?).getD none
def rApp (acc:Addr) (N:Hp->Prop) (y:V) (H:Hp):Prop:=∃ys,H acc=some (.lst ys)/\ys.length < sizeLine/\N (upd H acc (.lst (ys++ [y])))
def COMP (J:It) (caps:List Nat) (tt:TT) (te:TE) (acc:Addr) (σ:L2.St) (H:Hp) (Q:VK):Prop:=∃W:Nat->Nat->Hp->Prop,(∃m,W 0 m H)/\∀i m H,W i m H->
 (J.stop i H/\Q (.ref acc) H)\/(J.go i H/\∃N:Hp->Prop,(∀H',N H'->∃m',m' < m/\W (i+1) m' H')/\∀v H',J.yld i H v H'->tt (some v :: qbe caps σ) H' fun b H2=>
  if b=true then te (some v :: qbe caps σ) H2 fun y H3=>rApp acc N y H3 else N H2)
abbrev CT (α:Type):=Addr->Shared->Hp->List Addr->α
def tComp (wi:TI) (caps:List Nat) (tt:CT TT) (te:CT TE):TE:=fun σ H Q=>wi σ H fun J H1=>∀(C:Addr) (s:Shared) (H0:Hp) (fp:List Addr) (acc:Addr),H1 acc=none->COMP J caps (tt C s H0 fp) (te C s H0 fp) acc σ (upd H1 acc (.lst [])) Q
def tTrue:TT:=fun _ H Q=>Q true H
def PIfs (X:Cx) (ifs:List Expr) (t:TT):Prop:=
 ∀(pins:List (Addr × Obj)) (s:Shared) (σ:L2.St) (H:Hp) (Q:Bool->Hp->Prop),Inv X pins σ H s->t σ H Q->
  wpAny (model X.prog X.w) X.A (forIn ifs true fun c r=>if r=true then do let ok<-isTrue c X.env (eval c X.env);pure (ForInStep.yield ok) else pure (ForInStep.yield r)) (TP X pins σ Q) X.xe s
theorem qej {X:Cx}:PIfs X [] tTrue:=fun pins s σ H Q I h=>wpAny_tests_nil ⟨H,I,h⟩
theorem pf_one {X:Cx} {c:Expr} {t:TT} (h:PT X c t):PIfs X [c] t:=fun pins s σ H Q I hw=>wpAny_tests_one (h pins s σ H Q I hw)
def cxC (X:Cx) (N:List Str) (scope:Scope) (cl:List (Str × Addr)) (C:Addr) (s:Shared) (H:Hp) (fp:List Addr):Cx where
 prog:=X.prog
 w:=X.w
 K:=X.K
 mg:=X.mg
 base:=X.base
 A:=X.A
 N:=N
 s₀:=s
 H₀:=H
 env:=compEnvC scope cl C X.env
 outer:=X.stack
 stack:=X.stack
 ex:=fp
 fn:=fun _=>false
 calm:=X.calm
 pn:=[]
 xe:=fun _ _=>False
structure Caps (X:Cx) (x:Str) (scope:Scope) (cl:List (Str × Addr)) (caps:List Nat) (cn:List Str):Prop where
 clos:closureFor scope X.env=pure cl
 kind:scope.kind=.function
 cell:∀y∈scope.names,y.2≠ .cell
 names:∀y∈scope.names,y.2=.local->scope.names.lookup y.1=some .local
 tg:scope.names.lookup x=some .local
 sub:∀y c,cl.lookup y=some c->X.env.cells.lookup y=some c
 has:∀y,((relabel scope X.env).names.lookup y=some .cell\/(relabel scope X.env).names.lookup y=some .free)->∃c,cl.lookup y=some c
 len:caps.length=cn.length
 cap:∀(k:Nat) (y:Str) (j:Nat),cn[k]?=some y->caps[k]?=some j->X.N[j]?=some y/\X.env.kindOf y=some .cell/\(relabel scope X.env).names.lookup y=some .cell/\X.env.scope.names.lookup y=some .cell/\∃c,cl.lookup y=some c
 nd:(x :: cn).Nodup
section
variable {X: Cx} {pins: List (Addr × Obj)} {σ: L2.St} {H: Hp} {s: Shared}
theorem Inv.comp {x:Str} {scope:Scope} {cl:List (Str × Addr)} {caps:List Nat} {cn:List Str} (Cp:Caps X x scope cl caps cn) (I:Inv X pins σ H s) {fp:List Addr} (hf:∀b∈fp,FpOk X pins H b) (hlt:∀b∈fp,b < s.heap.objs.size) {h₁:Heap} {t':Nat}
  (hns:h₁.Ns s.heap.objs.size (fun _=>none)) (k:∀b o,s.heap.get? b=some o->h₁.get? b=some o):
  Inv (cxC X (x :: cn) scope cl s.heap.objs.size s H fp) [] (none :: qbe caps σ) H {s with heap:=h₁,toks:=t'}:=by
 have cne:∀y c,cl.lookup y=some c->∃v,s.heap.IsCell c v:=fun y c e=>I.cell y c (Cp.sub y c e)
 have ltC:∀y c,cl.lookup y=some c->c < s.heap.objs.size:=fun y c e=>let ⟨v,q⟩:=cne y c e;q.lt
 have isC:∀c v,s.heap.IsCell c v->h₁.IsCell c v:=fun c v ⟨o,e,d⟩=>⟨o,k c o e,d⟩
 refine⟨⟨I.ok.mod,Cp.kind,I.ok.glob,I.ok.blt,Nat.le_refl _,fun y z c e1 e2=>I.ok.inj y z c (Cp.sub y c e1) (Cp.sub z c e2),fun y hy=>Cp.has y hy,fun y c z=>(Bool.false_ne_true z).elim,I.ok.hd,I.ok.frames,.inl rfl,
  fun b hb=>⟨Nat.ne_of_lt (hlt b hb),fun y c e z=>?_⟩,I.bs,Nat.le_trans I.ok.bsz I.sz,fun b o e hb=>?_,fun b hb z=>?_,I.stack,I.stkFree⟩,
  rfl,I.bare,Un.kept k,⟨_,hns,fun i y v e1 e2 e3=>?_⟩,fun y c e=>?_,I.hok.fresh (Nat.le_refl _),fun y c e=>I.freeC y c (Cp.sub y c e),fun p hp=>absurd (show p∈([]:List (Addr × Obj)) from hp) (by simp),I.hok.kept k,?_⟩
 .exact(hf b hb).2.2.2.2.1 y c (Cp.sub y c e) z
 .rcases(hf b hb).2.2.2.1 with z|z
  .exact I.ok.noex b o e z
  .exact absurd (Nat.lt_of_lt_of_le (Heap.lt_size e) (Nat.le_trans I.ok.bsz z)) (Nat.lt_irrefl _)
 .rcases mem_cons.mp (I.stkSub b z) with z|z
  .exact(hf b hb).2.1 z
  .exact(hf b hb).2.2.1 z
 .cases i with
  |zero=>cases e2
  |succ i=>
   have e1':cn[i]?=some y:=by simpa [cxC] using e1
   have e2':(qbe caps σ)[i]?=some (some v):=by simpa using e2
   unfold qbe at e2'
   rw [getElem?_map] at e2'
   obtain⟨j,hj,ej⟩:=Option.map_eq_some_iff.mp e2'
   obtain⟨c1,c2,c3,c5,c,c4⟩:=Cp.cap i y j e1' hj
   cases hs:σ[j]? with
   |none=>rw [hs] at ej;cases ej
   |some w=>
    rw [hs] at ej
    have ej':w=some v:=ej
    subst ej'
    obtain⟨m,hn,hl⟩:=I.loc
    obtain⟨u,r,l⟩:=hl j y v c1 hs (.inr (.inl c5))
    refine⟨u,r,.inr ⟨.inl c3,c,c4,?_⟩⟩
    rcases l with ⟨l,_⟩ |⟨_,c',e',q⟩
    .rw [c2] at l;cases l
    .rw [Cp.sub y c c4] at e'
     cases e'
     exact isC _ _ q
 .obtain⟨v,q⟩:=cne y c e
  exact⟨v,isC c v q⟩
 .show (none :: qbe caps σ).length=(x :: cn).length
  rw [length_cons,length_cons]
  unfold qbe
  rw [length_map,Cp.len]
theorem Inv.uncomp {N:List Str} {scope:Scope} {cl:List (Str × Addr)} {C:Addr} {σ':L2.St} {H':Hp} {s':Shared} {fp:List Addr} (I:Inv X pins σ H s) (hf:∀b∈fp,FpOk X pins H b) (hC:C=s.heap.objs.size)
  (J:Inv (cxC X N scope cl C s H fp) [] σ' H' s') {h':Heap} (sb:Heap.SameBut C s'.heap h'):Inv X pins σ H' {s' with heap:=h'}:=by
 have ne:∀b o,s.heap.get? b=some o->b≠C:=fun b o e=>by rw [hC];exact Nat.ne_of_lt (Heap.lt_size e)
 have u:Un (frs X.stack) fp H H' s.heap s'.heap:=J.base
 have hok:HOk X.prog X.w H' h':=fun b o e=>by
  refine(J.hok b o e).stay (fun c u' hc q=>(sb.2 c ?_).trans q) (fun _ q=>q) fun _ _ q=>q
  intro z
  have n:H' C=none:=J.free
  rcases hc with hc|hc
  .rw [<-hc,z,n] at e;cases e
  .rw [z,n] at hc;cases hc
 refine I.call' (s':={s' with heap:=h'}) (ch:=fp) J.os ⟨fun b o e n hb hx=>(sb.2 b (ne b o e)).trans (u.keep b o e n hb hx),fun b o e n hb hx=>?_,u.free,fun b o e hx=>?_,u.tups,u.frzs,u.tbls⟩ hok J.bare fun b hb=>?_
 .obtain⟨sl,q⟩:=u.slot b o e n hb hx
  exact⟨sl,(sb.2 b (ne b o e)).trans q⟩
 .obtain⟨o',q⟩:=u.there b o e hx
  exact⟨o',(sb.2 b (ne b o e)).trans q⟩
 .obtain⟨f0,f1,f2,f3,f4,f5⟩:=hf b hb
  exact⟨f3,f1,f4,f5⟩
end
section
variable {X: Cx}
theorem qco {elt iter:Expr} {x:Str} {px:Pos} {ifs:List Expr} {scope:Scope} {cl:List (Str × Addr)} {pos:Pos} {caps:List Nat} {cn:List Str} {wi:TI} {tt:CT TT} {te:CT TE} (Cp:Caps X x scope cl caps cn) (hc:X.calm=true)
  (hi:PI X (.Name x px) iter wi) (ht:∀C s H fp,PIfs (cxC X (x :: cn) scope cl C s H fp) ifs (tt C s H fp)) (he:∀C s H fp,PE (cxC X (x :: cn) scope cl C s H fp) elt (te C s H fp))
  (hs:∀x,foldedSetIterable iter X.env x=pure x:=by intro _;rfl):
  PE X (.ListComp elt [⟨.Name x px,iter,ifs,0⟩] scope pos) (tComp wi caps tt te):=by
 intro pins s σ H Q I h
 rw [eval_ListComp]
 refine wpAny_comprehension_free (use:=none) rfl hs Cp.clos Cp.kind Cp.names (thn (hi pins s σ H _ I h) fun v s1 h1=>thn h1 fun itv s2 h2=>?_)
 obtain⟨it,fp,tn,J,H2,e,I2,T,st2,f2,R⟩:=h2
 subst e
 have hacc:H2 s2.heap.objs.size=none:=I2.hok.fresh (Nat.le_refl _)
 refine wpAny_newObj_type ?_
 have I3:Inv X pins σ (upd H2 s2.heap.objs.size (.lst [])) {s2 with heap:=s2.heap.push {cls:=.type "list",dict:=none,data:=.seq ([]:List Value).toArray}}:=Inv.lnew (its:=[]) (t':=s2.toks) I2 .nil (Nat.zero_le _)
 have lt2:∀b∈fp,b < s2.heap.objs.size:=fun b hb=>let ⟨o,e,_⟩:=T.obj _ _ st2 b hb;Heap.lt_size e
 have f3:∀b∈fp,FpOk X pins (upd H2 s2.heap.objs.size (.lst [])) b:=fun b hb=>⟨by rw [qa6 (Nat.ne_of_lt (lt2 b hb))];exact(f2 b hb).1,(f2 b hb).2⟩
 have st3:tn 0 (s2.heap.push {cls:=.type "list",dict:=none,data:=.seq ([]:List Value).toArray}):=T.keep _ _ _ st2 fun b _ o e=>Heap.get?_push_of_some _ e
 generalize hs3:({s2 with heap:=s2.heap.push {cls:=.type "list",dict:=none,data:=.seq ([]:List Value).toArray}}:Shared)=s3 at I3 ⊢
 have st3':tn 0 s3.heap:=by rw [<-hs3];exact st3
 generalize s2.heap.objs.size=acc at hacc I3 f3 ⊢
 obtain⟨W,⟨m0,w0⟩,turn⟩:=R s3.heap.objs.size s3 (upd H2 acc (.lst [])) fp acc hacc
 have lt3:∀b∈fp,b < s3.heap.objs.size:=fun b hb=>let ⟨o,e,_⟩:=T.obj _ _ st3' b hb;Heap.lt_size e
 clear st3 hs3
 refine wpAny_newFunctionEnv Cp.cell (by intro y hy;simp at hy) (fun h₁ hns hsb=>?_) Cp.kind
 have k1:∀b o,s3.heap.get? b=some o->h₁.get? b=some o:=fun b o e=>hsb.extBut b o (Nat.ne_of_lt (Heap.lt_size e)) (Heap.get?_push_of_some _ e)
 have I4:Inv (cxC X (x :: cn) scope cl s3.heap.objs.size s3 (upd H2 acc (.lst [])) fp) [] (none :: qbe caps σ) (upd H2 acc (.lst [])) {s3 with heap:=h₁,toks:=s3.toks+([]:List (Str × Value)).length}:=
  Inv.comp Cp I3 f3 lt3 hns k1
 have st4:tn 0 h₁:=T.keep _ _ _ st3' fun b _ o e=>k1 b o e
 generalize hX:cxC X (x :: cn) scope cl s3.heap.objs.size s3 (upd H2 acc (.lst [])) fp=X' at I4
 have stat:∀{H':Hp},(∀b∈fp,H' b=none)->∀b∈fp,FpOk X' [] H' b:=fun hn b hb=>by
  subst hX
  obtain⟨g0,g1,g2,g3,g4,g5⟩:=f3 b hb
  refine⟨hn b hb,Nat.ne_of_lt (lt3 b hb),fun z=>?_,.inl hb,fun y c e=>g4 y c (Cp.sub y c e),fun p hp=>absurd (show p∈([]:List (Addr × Obj)) from hp) (by simp)⟩
  rcases mem_cons.mp (I3.stkSub b z) with z|z
  .exact g1 z
  .exact g2 z
 have core:codeAny (model X.prog X.w) X.A (.compLoop (.ListComp elt [⟨.Name x px,iter,ifs,0⟩] scope pos) 0 (.ref it) (.ref acc) (compEnvC scope cl s3.heap.objs.size X.env))
   (compPost (model X.prog X.w) X.A X.xe none (EP X pins σ Q) (.ref acc) s3.heap.objs.size) {s3 with heap:=h₁,toks:=s3.toks+([]:List (Str × Value)).length}:=by
  refine codeAny_loop rfl (fun n s'=>∃i a H',Inv X' [] (a :: qbe caps σ) H' s'/\tn i s'.heap/\(∀b∈fp,H' b=none)/\W i n H') (fun n s5 hI=>?_) m0 ⟨0,none,_,I4,st4,fun b hb=>(f3 b hb).1,w0⟩
  obtain⟨i,a0,H5,I5,st5,fr5,w5⟩:=hI
  show wpAny _ _ ((compTurn _ 0 _ _ _).onRaise _) _ _ s5
  refine wpAny_noted ?_
  rw [compTurn_list]
  refine wpAny_bind (wpAny_standAt (wpAny_bind ?_))
  have aX:X'.A=X.A:=by subst hX;rfl
  have pX:X'.prog=X.prog:=by subst hX;rfl
  have wX:X'.w=X.w:=by subst hX;rfl
  have kX:X'.K=X.K:=by subst hX;rfl
  have cX:X'.calm=true:=by subst hX;exact hc
  have eX:X'.env=compEnvC scope cl s3.heap.objs.size X.env:=by subst hX;rfl
  rcases turn i n H5 w5 with ⟨stop,qn⟩ |⟨go,N,hN,step⟩
  .have z:=T.done X' pX wX kX cX i [] s5 _ H5 (fun _ _=>False) I5 (stat fr5) st5 stop
   rw [aX] at z
   refine wpAny_mono z (fun r s6 ⟨hr,I6⟩=>?_) fun _ _ q=>q.elim
   subst hr
   subst hX
   obtain⟨m,hm,_⟩:=id I6.loc
   exact wpAny_pure ⟨m,hm,fun h' sb=>⟨.ref acc,H5,Inv.uncomp I3 f3 rfl I6 sb,rfl,qn⟩⟩
  .have z:=T.item X' pX wX kX cX i [] s5 _ H5 (fun _ _=>False) I5 (stat fr5) st5 go
   rw [aX] at z
   refine wpAny_mono z (fun r s6 ⟨u,hr,h6⟩=>?_) fun _ _ q=>q.elim
   subst hr
   refine wpAny_bind (wpAny_mono h6 (fun _ s7 ⟨v,H7,I7,r7,y7,st7,fr7⟩=>?_) fun _ _ q=>q.elim)
   have I7':=I7.pinned (stat fr7) (T.obj _ _ st7)
   have asg:wpAny (model X.prog X.w) X.A (assign (.Name x px) (compEnvC scope cl s3.heap.objs.size X.env) u) (fun _ s8=>Inv X' ([]++qcl fp s7.heap) (some v :: qbe caps σ) H7 s8) (fun _ _=>False) s7:=by
    subst hX
    exact wpAny_assign_Name (qdd (X:=cxC X (x :: cn) scope cl s3.heap.objs.size s3 (upd H2 acc (.lst [])) fp) (i:=0) I7' Cp.nd rfl (.inl (lookup_relabel_local Cp.tg)) r7 (fun s' I'=>I') (.inr (lookup_relabel_local Cp.tg)))
   refine wpAny_bind (wpAny_mono asg (fun _ s8 I8=>?_) fun _ _ q=>q.elim)
   have tst:wpAny (model X.prog X.w) X.A (forIn ifs true fun c r=>if r=true then do let ok<-isTrue c (compEnvC scope cl s3.heap.objs.size X.env) (eval c (compEnvC scope cl s3.heap.objs.size X.env));pure (ForInStep.yield ok) else pure (ForInStep.yield r))
     (TP X' ([]++qcl fp s7.heap) (some v :: qbe caps σ) (fun b H9=>if b=true then te s3.heap.objs.size s3 (upd H2 acc (.lst [])) fp (some v :: qbe caps σ) H9 (fun y H3=>rApp acc N y H3) else N H9)) (fun _ _=>False) s8:=by
    subst hX
    exact ht _ _ _ _ _ s8 _ H7 _ I8 (step v H7 y7)
   refine wpAny_bind (wpAny_mono tst (fun b s9 ⟨H9,I9,q9⟩=>?_) fun _ _ q=>q.elim)
   have fin:∀{a:Option V} {H10:Hp} {s10:Shared},Inv X' ([]++qcl fp s7.heap) (a :: qbe caps σ) H10 s10->N H10->∃m',m' < n/\∃i a H',Inv X' [] (a :: qbe caps σ) H' s10/\tn i s10.heap/\(∀b∈fp,H' b=none)/\W i m' H':=fun {a H10 s10} I10 n10=>
    let ⟨m',hm,w10⟩:=hN _ n10
    ⟨m',hm,i+1,a,H10,I10.unpinned,T.keep _ _ _ st7 fun b hb o e=>(I10.pin (b,o) (mem_append_right _ (mem_append_right _ (qcf hb e)))).1,fun b hb=>by
     obtain⟨o,e,d⟩:=T.obj _ _ st7 b hb
     exact(I10.pin (b,o) (mem_append_right _ (mem_append_right _ (qcf hb e)))).2.1,w10⟩
   cases b with
   |false=>exact wpAny_pure ⟨rfl,fin I9 q9⟩
   |true=>
    have elt':wpAny (model X.prog X.w) X.A (eval elt (compEnvC scope cl s3.heap.objs.size X.env)) (EP X' ([]++qcl fp s7.heap) (some v :: qbe caps σ) (fun y H3=>rApp acc N y H3)) (fun _ _=>False) s9:=by
     subst hX
     exact he _ _ _ _ _ s9 _ H9 _ I9 q9
    refine wpAny_bind (wpAny_bind (wpAny_mono elt' (fun y s10 ⟨w,H10,I10,r10,ys,ha,hz,q10⟩=>?_) fun _ _ q=>q.elim))
    have app:wpAny (model X.prog X.w) X.A (call (.builtin "list.append") [.ref acc,y]) (EP X' ([]++qcl fp s7.heap) (some v :: qbe caps σ) fun _ H11=>H11=upd H10 acc (.lst (ys++ [w]))) (fun _ _=>False) s10:=by
     subst hX
     exact qbs (X:=cxC X (x :: cn) scope cl s3.heap.objs.size s3 (upd H2 acc (.lst [])) fp) _ s10 _ H10 (.ref acc) [w] (.ref acc) [y] _ I10 rfl (.cons r10 .nil) ⟨acc,ys,w,rfl,rfl,ha,hz,rfl⟩
    refine wpAny_bind (wpAny_mono app (fun _ s11 ⟨_,H11,I11,_,e11⟩=>?_) fun _ _ q=>q.elim)
    subst e11
    exact wpAny_pure (wpAny_pure ⟨rfl,fin I11 q10⟩)
 exact codeAny_compStart_list core (T.self _ 0 _ _ _ st4 core)
def Its (x:Str):It:=⟨fun i _=>i < x.cps.size,fun i H v H'=>H'=H/\∃c,x.cps[i]?=some c/\v=.str ⟨#[c]⟩,fun i _=>i=x.cps.size⟩
theorem turn_str {P:Program} {w:World} {K:Frag} {y:Str} {py:Pos} (x:Str) (t:Tok) (it:Addr) (ty:String) (W:∀A:Around,A.handled=none->Walks P w A it [it] [it] x.cps.size (SignAt x) (fun i h=>h.IsStrIter it ty x t i))
  (hself:∀(A:Around) (i:Nat) (s:Shared) (Q:Value->Shared->Prop) (E:Value->Shared->Prop),s.heap.IsStrIter it ty x t i->Q (.ref it) s->wpAny (model P w) A (pyIter (.ref it)) Q E s):
  Turn P w K (.Name y py) (Its x) [it] it (fun i h=>h.IsStrIter it ty x t i) where
 mem:=by simp
 obj:=fun i h st b hb=>by
  have e:b=it:=by simpa using hb
  subst e
  obtain⟨o,e,c,d⟩:=st
  exact⟨o,e,fun v z=>by rw [d] at z;cases z⟩
 keep:=fun i h h' ⟨o,e,r⟩ k=>⟨o,k it (by simp) o e,r⟩
 item:=by
  intro X hP hw hK hc i pins s σ H E I hf st hg
  subst hP hw hK
  obtain⟨f0,f1,f2,f3,f4,f5⟩:=hf it (by simp)
  refine(W X.A (I.ok.hd hc)).item i s _ _ hg st fun v h' tk hv st' k=>?_
  have I1:Inv X pins σ H {s with heap:=h',toks:=tk}:=I.turned (t':=tk) (fun b o hb e=>k b o (fun z=>hb (by simpa using z)) e) f0 f1 f3 f4 f5
  obtain⟨c,u,hx,rfl⟩:=hv
  exact⟨_,rfl,wpAny_pure ⟨.str ⟨#[c]⟩,H,I1,⟨_,rfl⟩,⟨rfl,c,hx,rfl⟩,st',fun b hb=>(hf b hb).1⟩⟩
 done:=by
  intro X hP hw hK hc i pins s σ H E I hf st hg
  subst hP hw hK
  have hg':i=x.cps.size:=hg
  subst hg'
  obtain⟨f0,f1,f2,f3,f4,f5⟩:=hf it (by simp)
  exact(W X.A (I.ok.hd hc)).done s _ _ st fun h' tk k=>⟨rfl,I.turned (t':=tk) (fun b o hb e=>k b o (fun z=>hb (by simpa using z)) e) f0 f1 f3 f4 f5⟩
 self:=hself
def rItS (v:V) (H:Hp) (R:It->Hp->Prop):Prop:=∃x,v=.str x/\R (Its x) H
def iStr (tl:TE):TI:=fun σ H R=>tl σ H fun v H1=>rItS v H1 R
end
end My
namespace L2
open PySem PySem.Spec PyProof.Rows
section
variable {κ: Type} [DecidableEq κ]
def qce (kvs:List (κ × V)) (k:κ):Option V:=(kvs.find? fun kv=>decide (kv.1=k)).map (·.2)
def qc3 (kvs:List (κ × V)) (k:κ) (v:V):List (κ × V):=
 if (kvs.any fun kv=>decide (kv.1=k))=true then kvs.map (fun kv=>if kv.1=k then (kv.1,v) else kv) else kvs++ [(k,v)]
theorem qbt {p:κ × V} {r:List (κ × V)} {k:κ} (e:p.1=k):qce (p :: r) k=some p.2:=by simp [qce,find?_cons,e]
theorem qbu {p:κ × V} {r:List (κ × V)} {k:κ} (e:¬p.1=k):qce (p :: r) k=qce r k:=by simp [qce,find?_cons,e]
theorem qck (k:κ):∀kvs:List (κ × V),(kvs.any fun kv=>decide (kv.1=k))=(qce kvs k).isSome
 | []=>rfl
 |p :: r=>by
  rw [any_cons]
  by_cases e:p.1=k
  .simp only [qbt e,decide_eq_true e,Bool.true_or,Option.isSome_some]
  .rw [qbu e,decide_eq_false e,Bool.false_or];exact qck k r
theorem valV_map (k j:κ) (y:V):∀kvs:List (κ × V),qce (kvs.map fun kv=>if kv.1=k then (kv.1,y) else kv) j=(qce kvs j).map fun x=>if j=k then y else x
 | []=>rfl
 |p :: r=>by
  have ih:=valV_map k j y r
  rw [map_cons]
  by_cases h:p.1=k
  .rw [if_pos h]
   by_cases e:p.1=j
   .rw [qbt (p:=(p.1,y)) e,qbt e,Option.map_some,if_pos (e.symm.trans h)]
   .rw [qbu (p:=(p.1,y)) e,qbu e,ih]
  .rw [if_neg h]
   by_cases e:p.1=j
   .rw [qbt (p:=p) e,qbt e,Option.map_some,if_neg (fun z=>h (e.trans z))]
   .rw [qbu (p:=p) e,qbu e,ih]
theorem valV_snoc (k j:κ) (y:V):∀kvs:List (κ × V),qce kvs k=none->qce (kvs++ [(k,y)]) j=if j=k then some y else qce kvs j
 | [],_=>by
  by_cases e:k=j
  .rw [if_pos e.symm];exact qbt (p:=(k,y)) e
  .rw [if_neg (fun z=>e z.symm)];exact qbu (p:=(k,y)) e
 |p :: r,hn=>by
  rw [List.cons_append]
  have hk:¬p.1=k:=fun z=>by rw [qbt z] at hn;cases hn
  rw [qbu hk] at hn
  have ih:=valV_snoc k j y r hn
  by_cases e:p.1=j
  .rw [qbt e,qbt e,if_neg (fun z=>hk (e.trans z))]
  .rw [qbu e,qbu e,ih]
theorem qep (kvs:List (κ × V)) (k j:κ) (y:V):qce (qc3 kvs k y) j=if j=k then some y else qce kvs j:=by
 unfold qc3
 by_cases a:(kvs.any fun kv=>decide (kv.1=k))=true
 .rw [if_pos a,valV_map]
  rw [qck] at a
  by_cases e:j=k
  .obtain⟨x,hx⟩:=Option.isSome_iff_exists.mp a
   rw [if_pos e,e,hx,Option.map_some,if_pos rfl]
  .rw [if_neg e]
   cases qce kvs j with
   |none=>rfl
   |some x=>rw [Option.map_some,if_neg e]
 .rw [if_neg a]
  refine valV_snoc k j y kvs ?_
  rw [qck] at a
  cases q:qce kvs k with
  |none=>rfl
  |some x=>rw [q] at a;exact(a rfl).elim
theorem qax (kvs:List (κ × V)) (k:κ) (v:V):(qc3 kvs k v).length<=kvs.length+1:=by
 unfold qc3
 split
 .rw [length_map];omega
 .rw [length_append,length_cons,length_nil];omega
theorem putK_new {kvs:List (κ × V)} {k:κ} (v:V) (h:qce kvs k=none):qc3 kvs k v=kvs++ [(k,v)]:=by
 unfold qc3
 rw [qck,h]
 exact if_neg (by decide)
theorem qgl.isSome_eq {o:Option V} {u:Option Value} (r:qgl o u):o.isSome=u.isSome:=by
 cases o with
 |none=>cases u with
  |none=>rfl
  |some _=>exact(show False from r).elim
 |some _=>cases u with
  |none=>exact(show False from r).elim
  |some _=>rfl
theorem qgl.getD {o:Option V} {u:Option Value} {d:V} {d':Value} (r:qgl o u) (rd:qb2 d d'):qb2 (o.getD d) (u.getD d'):=by
 cases o with
 |none=>cases u with
  |none=>exact rd
  |some _=>exact(show False from r).elim
 |some _=>cases u with
  |none=>exact(show False from r).elim
  |some _=>exact r
theorem KV.val {kvs:List (κ × V)} {vs:List (κ × Value)} (r:KV kvs vs) (k:κ):qgl (qce kvs k) (valueAt vs k):=by
 unfold KV at r
 induction r with
 |nil=>exact True.intro
 | @cons p q ps qs h t ih=>
  obtain⟨h1,h2⟩:=h
  by_cases e:p.1=k
  .have e':q.1=k:=h1.symm.trans e
   have b:valueAt (q :: qs) k=some q.2:=by simp [valueAt,find?_cons,e']
   rw [qbt e,b];exact h2
  .have e':¬q.1=k:=fun z=>e (h1.trans z)
   have b:valueAt (q :: qs) k=valueAt qs k:=by simp [valueAt,find?_cons,e']
   rw [qbu e,b];exact ih
theorem KV.any {kvs:List (κ × V)} {vs:List (κ × Value)} (r:KV kvs vs) (k:κ):(kvs.any fun kv=>decide (kv.1=k))=vs.any fun kv=>decide (kv.1=k):=by
 unfold KV at r
 induction r with
 |nil=>rfl
 |cons h t ih=>rw [any_cons,any_cons,ih,h.1]
theorem KV.repl {kvs:List (κ × V)} {vs:List (κ × Value)} (r:KV kvs vs) (k:κ) {y:V} {u:Value} (ry:qb2 y u):
  KV (kvs.map fun kv=>if kv.1=k then (kv.1,y) else kv) (vs.map fun kv=>if kv.1=k then (kv.1,u) else kv):=by
 unfold KV at r ⊢
 induction r with
 |nil=>exact .nil
 | @cons p q ps qs h t ih=>
  rw [map_cons,map_cons]
  refine .cons ?_ ih
  obtain⟨h1,h2⟩:=h
  by_cases e:p.1=k
  .rw [if_pos e,if_pos (h1.symm.trans e)];exact⟨h1,ry⟩
  .rw [if_neg e,if_neg (fun z=>e (h1.trans z))];exact⟨h1,h2⟩
theorem KV.put {kvs:List (κ × V)} {vs:List (κ × Value)} (r:KV kvs vs) (k:κ) {y:V} {u:Value} (ry:qb2 y u):KV (qc3 kvs k y) (stored vs k u):=by
 unfold qc3 stored
 rw [r.any k]
 by_cases e:(vs.any fun kv=>decide (kv.1=k))=true
 .rw [if_pos e,if_pos e];exact r.repl k ry
 .rw [if_neg e,if_neg e];exact Paired.snoc r ⟨rfl,ry⟩
theorem KV.keys {kvs:List (κ × V)} {vs:List (κ × Value)} (r:KV kvs vs):kvs.map (·.1)=vs.map (·.1):=by
 unfold KV at r
 induction r with
 |nil=>rfl
 |cons h t ih=>rw [map_cons,map_cons,ih,h.1]
theorem KV.length {kvs:List (κ × V)} {vs:List (κ × Value)} (r:KV kvs vs):kvs.length=vs.length:=Paired.length r
end
theorem kV_is {P:Program} {w:World} {k:Key} {u:Value} (r:qb2 (kV k) u):(qb7 P w).is k u=true:=by
 cases k with
 |inl i=>obtain⟨t,e⟩:=(show ∃t,u=Value.int i t from r);subst e;exact mixKind_int P w i t
 |inr x=>obtain⟨t,e⟩:=(show ∃t,u=Value.str x t from r);subst e;exact mixKind_str P w x t
theorem items_are {P:Program} {w:World}:∀{ks:List Key} {us:List Value},qbj (ks.map kV) us->ItemsAre (qb7 P w) ks us
 | [],_,r=>by rw [List.map_nil] at r;cases r;exact .nil
 |k :: ks,_,r=>by
  rw [map_cons] at r
  cases r with
  |cons h t=>exact .cons (kV_is h) (items_are t)
abbrev KT (H:Hp):List (List Key × V)->List (List Key × Addr × Value)->Prop:=Paired fun p q=>p.1=q.1/\H q.2.1=some (.tup (p.1.map kV))/\qb2 p.2 q.2.2
theorem KT.val {H:Hp} {kvs:List (List Key × V)} {xs:List (List Key × Addr × Value)} (r:KT H kvs xs) (k:List Key):qgl (qce kvs k) ((atKey xs k).map (·.2)):=by
 induction r with
 |nil=>exact True.intro
 | @cons p q ps qs h t ih=>
  obtain⟨h1,_,h2⟩:=h
  by_cases e:p.1=k
  .have e':q.1=k:=h1.symm.trans e
   have b:atKey (q :: qs) k=some q.2:=by simp [atKey,find?_cons,e']
   rw [qbt e,b];exact h2
  .have e':¬q.1=k:=fun z=>e (h1.trans z)
   have b:atKey (q :: qs) k=atKey qs k:=by simp [atKey,find?_cons,e']
   rw [qbu e,b];exact ih
theorem KT.repl {H:Hp} {kvs:List (List Key × V)} {xs:List (List Key × Addr × Value)} (r:KT H kvs xs) (k:List Key) {y:V} {u:Value} (ry:qb2 y u):
  KT H (kvs.map fun kv=>if kv.1=k then (kv.1,y) else kv) (xs.map (putAt k u)):=by
 induction r with
 |nil=>exact .nil
 | @cons p q ps qs h t ih=>
  rw [map_cons,map_cons]
  refine .cons ?_ ih
  obtain⟨h1,h2,h3⟩:=h
  unfold putAt
  by_cases e:p.1=k
  .rw [if_pos e,if_pos (h1.symm.trans e)];exact⟨h1,h2,ry⟩
  .rw [if_neg e,if_neg (fun z=>e (h1.trans z))];exact⟨h1,h2,h3⟩
theorem KT.put {H:Hp} {kvs:List (List Key × V)} {xs:List (List Key × Addr × Value)} (r:KT H kvs xs) (k:List Key) {b:Addr} {y:V} {u:Value} (hb:H b=some (.tup (k.map kV))) (ry:qb2 y u):
  KT H (qc3 kvs k y) (storedH xs k b u):=by
 have e:(kvs.any fun kv=>decide (kv.1=k))=(atKey xs k).isSome:=by
  rw [qck,(r.val k).isSome_eq,Option.isSome_map]
 unfold qc3 storedH
 rw [e]
 by_cases q:(atKey xs k).isSome=true
 .rw [if_pos q,if_pos q];exact r.repl k ry
 .rw [if_neg q,if_neg q];exact Paired.snoc r ⟨rfl,hb,ry⟩
theorem KT.keeps {H H':Hp} {kvs:List (List Key × V)} {xs:List (List Key × Addr × Value)} (r:KT H kvs xs) (ht:∀b ys,H b=some (.tup ys)->H' b=some (.tup ys)):KT H' kvs xs:=
 Paired.mapP r fun _ _ z=>⟨z.1,ht _ _ z.2.1,z.2.2⟩
section
variable {P: Program} {w: World} {H: Hp} {h: Heap} {a: Addr}
theorem rd_of {u:HO} (ok:HOk P w H h) (e:Rd H a u):qbi P w H h a u:=e.ok ok
theorem qem {kvs:List (Key × V)} (ok:HOk P w H h) (e:Rd H a (.dK kvs)):kvs.length<=sizeLine/\(a==sysModules)=false/\∃vs,KV kvs vs/\h.DictOf (qb7 P w) a vs:=
 show qbi P w H h a (.dK kvs) from rd_of ok e
theorem dk_of {kvs:List (Key × V)} (ok:HOk P w H h) (e:H a=some (.dK kvs)):kvs.length<=sizeLine/\(a==sysModules)=false/\∃vs,KV kvs vs/\h.DictOf (qb7 P w) a vs:=qem ok (.inl e)
theorem qg5 {ks:List Key} (ok:HOk P w H h) (e:H a=some (.tup (ks.map kV))):(tupleKind (qb7 P w)).is h ks a:=by
 obtain⟨_,its,r,o,h1,h2,n,h3⟩:=(show qbi P w H h a (.tup (ks.map kV)) from ok a _ e)
 exact⟨o,its.toArray,n,h1,h2,h3,by simpa using items_are r⟩
theorem dt_rd {kvs:List (List Key × V)} (ok:HOk P w H h) (e:Rd H a (.dT kvs)):kvs.length<=sizeLine/\(a==sysModules)=false/\
  ∃xs,KT H kvs xs/\h.DictOfH (tupleKind (qb7 P w)) a xs:=by
 obtain⟨z,y,xs,r,o,es,ep,h1,h2,h3,h4,h5⟩:=(show qbi P w H h a (.dT kvs) from rd_of ok e)
 refine⟨z,y,xs,r,o,es,ep,h1,h2,h3,h4,fun x hx=>?_,h5⟩
 have all:∀{l:List (List Key × V)} {m:List (List Key × Addr × Value)},KT H l m->∀x∈m,(tupleKind (qb7 P w)).is h x.1 x.2.1:=by
  intro l m q
  induction q with
  |nil=>intro x hx;exact nomatch hx
  | @cons p q ps qs hq t ih=>
   intro x hx
   rcases mem_cons.mp hx with e|hx
   .subst e
    exact qg5 ok (by rw [<-hq.1];exact hq.2.1)
   .exact ih x hx
 exact all r x hx
theorem dt_of {kvs:List (List Key × V)} (ok:HOk P w H h) (e:H a=some (.dT kvs)):kvs.length<=sizeLine/\(a==sysModules)=false/\
  ∃xs,KT H kvs xs/\h.DictOfH (tupleKind (qb7 P w)) a xs:=dt_rd ok (.inl e)
end
def DGet (H:Hp) (a:Addr) (y:V) (r:Option V):Prop:=
 (∃kvs k,Rd H a (.dK kvs)/\y=kV k/\r=qce kvs k)\/∃kvs k b,Rd H a (.dT kvs)/\y=.ref b/\H b=some (.tup (k.map kV))/\r=qce kvs k
def DPut (H:Hp) (a:Addr) (y v:V) (H':Hp):Prop:=
 (∃kvs k,H a=some (.dK kvs)/\y=kV k/\kvs.length < sizeLine/\H'=upd H a (.dK (qc3 kvs k v)))\/
 ∃kvs k b,H a=some (.dT kvs)/\y=.ref b/\H b=some (.tup (k.map kV))/\kvs.length < sizeLine/\H'=upd H a (.dT (qc3 kvs k v))
theorem DPut.k {H:Hp} {a:Addr} {kvs:List (Key × V)} {k:Key} {v:V} (e:H a=some (.dK kvs)) (hl:kvs.length < sizeLine):DPut H a (kV k) v (upd H a (.dK (qc3 kvs k v))):=.inl ⟨kvs,k,e,rfl,hl,rfl⟩
section
variable {X: Cx} {pins: List (Addr × Obj)} {σ: St} {H: Hp} {s: Shared} {a: Addr} {y v: V} {u r: Value} {o: Option V} {A: Around} {E: Value -> Shared -> Prop}
theorem Inv.big (I:Inv X pins σ H s):sysModules < s.heap.objs.size:=by
 have h:mainGlobals < s.heap.objs.size:=(I.mod.glob.keeps I.bk).lt
 exact Nat.lt_trans (by decide) h
theorem d_getItem {Q:Value->Shared->Prop} (hu:A.units+1 < cLine) (I:Inv X pins σ H s) (g:DGet H a y (some v)) (ry:qb2 y u) (h:∀w' s',Inv X pins σ H s'->qb2 v w'->Q w' s'):
  wpAny (model X.prog X.w) A (getItem (.ref a) u) Q E s:=by
 rcases g with ⟨kvs,k,e,ey,l⟩ |⟨kvs,k,b,e,ey,eb,l⟩
 .subst ey
  obtain⟨z,hd,vs,rel,dd⟩:=qem I.hok e
  obtain⟨w',hw,rw'⟩:=qgl.some_of (v:=v) (o:=valueAt vs k) (by rw [l];exact rel.val k)
  exact wpAny_getItem_of (kV_is ry) dd.mapOf hw (h w' _ (I.tok _) rw')
 .subst ey
  cases (show u=Value.ref b from ry)
  obtain⟨z,hd,xs,rel,dd⟩:=dt_rd I.hok e
  obtain⟨w',hw,rw'⟩:=qgl.some_of (v:=v) (o:=(atKey xs k).map (·.2)) (by rw [l];exact rel.val k)
  obtain⟨p,hp,hp2⟩:=Option.map_eq_some_iff.mp hw
  refine wpAny_getItem_heap (tupleKind_room_in1 hu) (qg5 I.hok eb) dd hp ?_
  rw [hp2]
  exact h w' _ (I.tok _) rw'
theorem d_in {Q:Value->Shared->Prop} (hu:A.units+1 < cLine) (I:Inv X pins σ H s) (g:DGet H a y o) (ry:qb2 y u) (h:∀s',Inv X pins σ H s'->Q (.bool o.isSome) s'):
  wpAny (model X.prog X.w) A (compareOp .In u (.ref a)) Q E s:=by
 rcases g with ⟨kvs,k,e,ey,l⟩ |⟨kvs,k,b,e,ey,eb,l⟩
 .subst ey
  obtain⟨z,hd,vs,rel,dd⟩:=qem I.hok e
  refine wpAny_in_of (kV_is ry) hd dd.mapOf ?_
  rw [<-(rel.val k).isSome_eq,<-l]
  exact h _ (I.tok _)
 .subst ey
  cases (show u=Value.ref b from ry)
  obtain⟨z,hd,xs,rel,dd⟩:=dt_rd I.hok e
  refine wpAny_in_heap (tupleKind_room_in1 hu) (qg5 I.hok eb) hd dd ?_
  have q:=(rel.val k).isSome_eq
  rw [Option.isSome_map] at q
  rw [<-q,<-l]
  exact h _ (I.tok _)
theorem d_notIn {Q:Value->Shared->Prop} (hu:A.units+1 < cLine) (I:Inv X pins σ H s) (g:DGet H a y o) (ry:qb2 y u) (h:∀s',Inv X pins σ H s'->Q (.bool (!o.isSome)) s'):
  wpAny (model X.prog X.w) A (compareOp .NotIn u (.ref a)) Q E s:=by
 rcases g with ⟨kvs,k,e,ey,l⟩ |⟨kvs,k,b,e,ey,eb,l⟩
 .subst ey
  obtain⟨z,hd,vs,rel,dd⟩:=qem I.hok e
  refine wpAny_notIn_of (kV_is ry) hd dd.mapOf ?_
  rw [<-(rel.val k).isSome_eq,<-l]
  exact h _ (I.tok _)
 .subst ey
  cases (show u=Value.ref b from ry)
  obtain⟨z,hd,xs,rel,dd⟩:=dt_rd I.hok e
  refine wpAny_notIn_heap (tupleKind_room_in1 hu) (qg5 I.hok eb) hd dd ?_
  have q:=(rel.val k).isSome_eq
  rw [Option.isSome_map] at q
  rw [<-q,<-l]
  exact h _ (I.tok _)
theorem d_write {h':Heap} {t':Nat} {ob:HO} (I:Inv X pins σ H s) (mu:Mut (H a)) (hs:Heap.SameBut a s.heap h') (he:∃q,h'.get? a=some q) (new:qbi X.prog X.w (upd H a ob) h' a ob):
  Inv X pins σ (upd H a ob) {s with heap:=h',toks:=t'}:=
 I.write (x:=a) (e:=a) mu (.inl rfl) (fun b q hb z=>(hs.2 b hb).trans z) he new
theorem dk_new {P:Program} {w:World} {H':Hp} {h':Heap} {kvs:List (Key × V)} {vs:List (Key × Value)} (z:kvs.length<=sizeLine) (hd:(a==sysModules)=false) (rel:KV kvs vs) (dd:h'.DictOf (qb7 P w) a vs):
  qbi P w H' h' a (.dK kvs):=⟨z,hd,vs,rel,dd⟩
theorem d_setItem {H':Hp} {Q:Unit->Shared->Prop} (hu:A.units+1 < cLine) (I:Inv X pins σ H s) (g:DPut H a y v H') (ry:qb2 y u) (rv:qb2 v r) (h:∀s',Inv X pins σ H' s'->Q () s'):
  wpAny (model X.prog X.w) A (setItem (.ref a) u r) Q E s:=by
 rcases g with ⟨kvs,k,e,ey,l,eH⟩ |⟨kvs,k,b,e,ey,eb,l,eH⟩
 .subst ey eH
  obtain⟨z,hd,vs,rel,dd⟩:=dk_of I.hok e
  have hz:vs.length<=sizeLine:=by rw [<-rel.length];exact z
  have hl:(qc3 kvs k v).length<=sizeLine:=by have:=qax kvs k v;omega
  refine wpAny_setItem_pairs (hsz:=hz) (kV_is ry) dd fun h' dd' hs=>h _ ?_
  have he:∃q,h'.get? a=some q:=let ⟨q,_,_,hq,_⟩:=dd';⟨q,hq⟩
  exact d_write I (by rw [e];exact True.intro) hs he (dk_new hl hd (rel.put k rv) dd')
 .subst ey eH
  cases (show u=Value.ref b from ry)
  obtain⟨z,hd,xs,rel,dd⟩:=dt_of I.hok e
  have hz:xs.length<=sizeLine:=by rw [<-Paired.length rel];exact z
  have hl:(qc3 kvs k v).length<=sizeLine:=by have:=qax kvs k v;omega
  refine wpAny_setItem_heap (hsz:=hz) (tupleKind_room_in1 hu) (qg5 I.hok eb) dd fun h' dd' hs=>h _ ?_
  obtain⟨q,es,ep,hq,h2,h3,h4,_,h5⟩:=dd'
  refine d_write I (by rw [e];exact True.intro) hs ⟨q,hq⟩ ⟨hl,hd,_,(rel.put k eb rv).keeps fun c ys ec=>?_,q,es,ep,hq,h2,h3,h4,h5⟩
  rw [qa6 (ne_of ec e (fun z=>nomatch z))]
  exact ec
end
section
variable {X: Cx} {pins: List (Addr × Obj)} {σ: St} {H: Hp} {s: Shared} {a: Addr} {kvs: List (Key × V)} {A: Around} {E: Value -> Shared -> Prop}
theorem d_len {Q:Value->Shared->Prop} (I:Inv X pins σ H s) (e:Rd H a (.dK kvs)) (h:∀t s',Inv X pins σ H s'->Q (.int kvs.length t) s'):wpAny (model X.prog X.w) A (call (.builtin "len") [.ref a]) Q E s:=by
 obtain⟨z,hd,vs,rel,dd⟩:=qem I.hok e
 refine call_len_dict hd dd (by rw [<-rel.length];rw [sizeLine_eq] at z;omega) ?_
 rw [<-rel.length]
 exact h _ _ (I.tok _)
end
def NoSl (i:Expr):Prop:=∀ov iv,subscripted i false ov iv=operate [ov,iv] (getItem ov iv)
theorem subD_of {prog:Program} {w:World} {A:Around} {E:Value->Shared->Prop} {s:Shared} {env:Env} {value slice:Expr} {pos:Pos} {T id:String} {Q:Value->Shared->Prop}
  (hl:typeLookup (.type T) "__getitem__" =pure (some (.builtin id))) (hs:NoSl slice)
  (h:wpAny (model prog w) A (eval value env) (fun o s₁=>wpAny (model prog w) A (eval slice env) (fun i s₂=>s₂.TypeIs o T/\wpAny (model prog w) A (getItem o i) Q E s₂) E s₁) E s):
  wpAny (model prog w) A (eval (.Subscript value slice pos) env) Q E s:=by
 refine Subscript_ (wpAny_mono h (fun o s₁ h₁=>wpAny_mono h₁ (fun i s₂ h₂=>?_) fun _ _ x=>x) fun _ _ x=>x)
 obtain⟨hT,h₂⟩:=h₂
 unfold subscriptTail
 refine wpAny_bind ?_
 rw [getitemInPython_of_ne hT.not_modules]
 refine wpAny_bind (wpAny_specialOf hT hl ?_)
 have fin:wpAny (model prog w) A (subscripted slice false o i) (fun r s₃=>wpAny (model prog w) A (letTemporaryGo value o r >>= fun _=>pure r) Q E s₃) E s₂:=by
  rw [hs o i]
  exact wpAny_operating (wpAny_mono h₂ (fun r s₃ h₃=>wpAny_bind (wpAny_letTemporaryGo (wpAny_pure h₃))) fun _ _ x=>x)
 first
  |exact wpAny_pure (wpAny_bind fin)
  |exact wpAny_bind (wpAny_pure (wpAny_bind fin))
  |exact wpAny_bind fin
theorem dict_typeIs {X:Cx} {pins:List (Addr × Obj)} {σ:St} {H:Hp} {s:Shared} {a:Addr} {y:V} {o:Option V} (I:Inv X pins σ H s) (g:DGet H a y o):s.TypeIs (.ref a) "dict":=by
 rcases g with ⟨kvs,k,e,_,_⟩ |⟨kvs,k,b,e,_,_,_⟩
 .obtain⟨_,_,vs,_,dd⟩:=qem I.hok e
  exact dd.typeIs
 .obtain⟨_,_,xs,_,dd⟩:=dt_rd I.hok e
  exact dd.typeIs
def tDGet (td ty:TE):TE:=fun σ H Q=>td σ H fun x H1=>ty σ H1 fun y H2=>∃a v,x=.ref a/\DGet H2 a y (some v)/\Q v H2
def tDIn (ty td:TE):TE:=fun σ H Q=>ty σ H fun y H1=>td σ H1 fun x H2=>∃a o,x=.ref a/\DGet H2 a y o/\Q (.bl o.isSome) H2
def tDNotIn (ty td:TE):TE:=fun σ H Q=>ty σ H fun y H1=>td σ H1 fun x H2=>∃a o,x=.ref a/\DGet H2 a y o/\Q (.bl (!o.isSome)) H2
def sDPut (td ty tv:TE):TS:=fun D σ H=>tv σ H fun v H1=>td σ H1 fun x H2=>ty σ H2 fun y H3=>∃a H4,x=.ref a/\DPut H3 a y v H4/\D.nx σ H4
section
variable {X: Cx} {o i value: Expr} {pos pos': Pos} {td ty tv: TE}
theorem qat (hu:X.A.units+1 < cLine) (ho:PE X o td) (hi:PE X i ty) (hs:NoSl i):PE X (.Subscript o i pos) (tDGet td ty):=by
 intro pins s σ H Q I h
 refine subD_of PySem.F.slot_dict_getitem.lookup hs (thn (ho pins s σ H _ I h) fun u s1 ⟨x,H1,I1,rx,q1⟩=>thn (hi pins s1 σ H1 _ I1 q1) fun iv s2 ⟨y,H2,I2,ry,a,v,ex,g,q2⟩=>?_)
 subst ex
 obtain rfl:u=Value.ref a:=rx
 exact⟨dict_typeIs I2 g,d_getItem hu I2 g ry fun w' s3 I3 rw'=>⟨v,H2,I3,rw',q2⟩⟩
theorem pc_din (hu:X.A.units+1 < cLine) (hi:PE X i ty) (ho:PE X o td):PC X .In i o (tDIn ty td):=by
 intro pins s σ H Q I h
 refine thn (hi pins s σ H _ I h) fun iv s1 ⟨y,H1,I1,ry,q1⟩=>thn (ho pins s1 σ H1 _ I1 q1) fun u s2 ⟨x,H2,I2,rx,a,ov,ex,g,q2⟩=>?_
 subst ex
 obtain rfl:u=Value.ref a:=rx
 exact d_in hu I2 g ry fun s3 I3=>⟨.bl ov.isSome,H2,I3,rfl,q2⟩
theorem qe4 (hu:X.A.units+1 < cLine) (hi:PE X i ty) (ho:PE X o td):PC X .NotIn i o (tDNotIn ty td):=by
 intro pins s σ H Q I h
 refine thn (hi pins s σ H _ I h) fun iv s1 ⟨y,H1,I1,ry,q1⟩=>thn (ho pins s1 σ H1 _ I1 q1) fun u s2 ⟨x,H2,I2,rx,a,ov,ex,g,q2⟩=>?_
 subst ex
 obtain rfl:u=Value.ref a:=rx
 exact d_notIn hu I2 g ry fun s3 I3=>⟨.bl (!ov.isSome),H2,I3,rfl,q2⟩
theorem qbp (hu:X.A.units+1 < cLine) (ho:PE X o td) (hi:PE X i ty) (hv:PE X value tv) (hs:swapsWith value (some (.Subscript o i pos')) pos.line X.env=pure false):
  PS X (.Assign [.Subscript o i pos'] value pos) (sDPut td ty tv):=by
 intro pins s σ H D I h
 refine wpAny_Assign_Subscript (thn (hv pins s σ H _ I h) fun r s1 ⟨v,H1,I1,rv,q1⟩=>thn (ho pins s1 σ H1 _ I1 q1) fun u s2 ⟨x,H2,I2,rx,q2⟩=>thn (hi pins s2 σ H2 _ I2 q2) fun iv s3 ⟨y,H3,I3,ry,a,H4,ex,g,q3⟩=>?_) hs
 subst ex
 obtain rfl:u=Value.ref a:=rx
 exact d_setItem hu I3 g ry rv fun s4 I4=>⟨σ,H4,I4,q3⟩
end
theorem dk_empty {P:Program} {w:World} {H:Hp} (h:Heap) (hb:sysModules < h.objs.size):qbi P w H (h.push {cls:=.type "dict",data:=.dict #[]}) h.objs.size (.dK []):=
 ⟨Nat.zero_le _,beq_eq_false_iff_ne.mpr (Ne.symm (Nat.ne_of_lt hb)), [],.nil,Heap.DictOf.new h⟩
def tDNewK:TE:=fun _ H Q=>∀p,H p=none->Q (.ref p) (upd H p (.dK []))
section
variable {X: Cx} {pos: Pos}
theorem qb8:PE X (.Dict [] [] pos) tDNewK:=fun pins s σ H Q I h=>
 wpAny_Dict_empty ⟨.ref s.heap.objs.size,_,I.laid (a:=s.heap.objs.size) (o:=.dK []) (t':=s.toks) (fun _ _ q=>Heap.get?_push_of_some _ q) (Nat.le_refl _) (dk_empty s.heap I.big),rfl,h _ (I.hok.fresh (Nat.le_refl _))⟩
end
def tPairs:List (TE × TE)->St->Hp->(List (V × V)->Hp->Prop)->Prop
 | [],_,H,Q=>Q [] H
 |(tk,tv) :: r,σ,H,Q=>tk σ H fun x H1=>tv σ H1 fun y H2=>tPairs r σ H2 fun ps H3=>Q ((x,y) :: ps) H3
abbrev VV:List (V × V)->List (Value × Value)->Prop:=Paired fun p q=>qb2 p.1 q.1/\qb2 p.2 q.2
def PPs (X:Cx) (pos:Pos) (keys:List (Option Expr)) (values:List Expr) (trs:List (TE × TE)):Prop:=
 ∀(pins:List (Addr × Obj)) (s:Shared) (σ:St) (H:Hp) (Q:List (V × V)->Hp->Prop),Inv X pins σ H s->tPairs trs σ H Q->
  wpAny (model X.prog X.w) X.A (evalPairs (pairTrees keys values X.env pos)) (fun vs s'=>∃ps H',Inv X pins σ H' s'/\VV ps vs/\Q ps H') X.xe s
theorem pps_nil {X:Cx} {pos:Pos}:PPs X pos [] [] []:=fun pins s σ H Q I h=>pairTrees_nil_walk ⟨[],H,I,.nil,h⟩
theorem pps_cons {X:Cx} {pos:Pos} {k v:Expr} {ks:List (Option Expr)} {vs:List Expr} {tk tv:TE} {trs:List (TE × TE)} (hk:PE X k tk) (hv:PE X v tv) (hr:PPs X pos ks vs trs):
  PPs X pos (some k :: ks) (v :: vs) ((tk,tv) :: trs):=fun pins s σ H Q I h=>
 pairTrees_cons_walk (thn (hk pins s σ H _ I h) fun u s1 ⟨x,H1,I1,rx,q1⟩=>thn (hv pins s1 σ H1 _ I1 q1) fun w2 s2 ⟨y,H2,I2,ry,q2⟩=>
  thn (hr pins s2 σ H2 _ I2 q2) fun ws s3 ⟨ps,H3,I3,rel,q3⟩=>⟨(x,y) :: ps,H3,I3,.cons ⟨rx,ry⟩ rel,q3⟩)
def qg3 (kvs more:List (Key × V)):List (Key × V):=more.foldl (fun acc kv=>qc3 acc kv.1 kv.2) kvs
theorem KV.merge:∀{more:List (Key × V)} {rs:List (Key × Value)} {kvs:List (Key × V)} {vs:List (Key × Value)},KV more rs->KV kvs vs->KV (qg3 kvs more) (merged vs rs):=by
 intro more rs kvs vs r
 unfold KV at r
 induction r generalizing kvs vs with
 |nil=>intro q;exact q
 | @cons p q ps qs h t ih=>
  intro r0
  have e:KV (qc3 kvs p.1 p.2) (stored vs q.1 q.2):=by
   have:=r0.put p.1 h.2
   rw [<-h.1];exact this
  exact ih e
theorem qe8:∀(more kvs:List (Key × V)),(qg3 kvs more).length<=kvs.length+more.length
 | [],kvs=>by show kvs.length<=kvs.length+0;omega
 |p :: r,kvs=>by
  have h1:=qe8 r (qc3 kvs p.1 p.2)
  have h2:=qax kvs p.1 p.2
  show (qg3 (qc3 kvs p.1 p.2) r).length<=_
  rw [length_cons];omega
theorem qg6 {P:Program} {w:World}:∀{kvs:List (Key × V)} {ws:List (Value × Value)},VV (kvs.map fun kv=>(kV kv.1,kv.2)) ws->∃rs,Carries (qb7 P w) ws rs/\KV kvs rs
 | [],_,r=>by rw [List.map_nil] at r;cases r;exact⟨[],True.intro,.nil⟩
 |p :: kvs,_,r=>by
  rw [map_cons] at r
  cases r with
  | @cons a b as bs h t=>
   obtain⟨rs,c,q⟩:=qg6 (P:=P) (w:=w) t
   obtain⟨b1,b2⟩:=b
   exact⟨(p.1,b2) :: rs,⟨kV_is h.1,rfl,c⟩,.cons ⟨rfl,h.2⟩ q⟩
def tDisp (trs:List (TE × TE)):TE:=fun σ H Q=>∀p,H p=none->tPairs trs σ (upd H p (.dK [])) fun ps H2=>H2 p=some (.dK [])/\∃kvs:List (Key × V),ps=kvs.map (fun kv=>(kV kv.1,kv.2))/\kvs.length<=15/\Q (.ref p) (upd H2 p (.dK (qg3 [] kvs)))
theorem pe_disp {X:Cx} {pos:Pos} {keys:List (Option Expr)} {values:List Expr} {trs:List (TE × TE)} (h:PPs X pos keys values trs) (hall:keys.all (·.isSome)=true) (hl:keys.length=values.length) (h0:keys≠ [])
  (h15:keys.length<=15):PE X (.Dict keys values pos) (tDisp trs):=by
 intro pins s σ H Q I q
 have hn:=I.hok.fresh (Nat.le_refl s.heap.objs.size)
 have I1:=I.laid (a:=s.heap.objs.size) (o:=.dK []) (h':=s.heap.push {cls:=.type "dict",data:=.dict #[]}) (t':=s.toks) (fun _ _ q=>Heap.get?_push_of_some _ q) (Nat.le_refl _) (dk_empty s.heap I.big)
 refine wpAny_Dict_walk (knd:=qb7 X.prog X.w) hall hl h0 h15 (thn (h pins _ σ _ _ I1 (q _ hn)) fun ws s2 ⟨ps,H2,I2,rel,e,kvs,ep,lk,q2⟩=>?_)
 subst ep
 obtain⟨rs,c,rk⟩:=qg6 (P:=X.prog) (w:=X.w) rel
 obtain⟨z,hd,vs0,r0,dd⟩:=dk_of I2.hok e
 cases r0
 refine⟨rs,c,dd,fun h' dd' hs=>⟨.ref s.heap.objs.size,_,?_,rfl,q2⟩⟩
 have hz:(qg3 [] kvs).length<=sizeLine:=by
  have h1:=qe8 kvs []
  rw [length_nil] at h1
  rw [sizeLine_eq];omega
 have he:∃q,h'.get? s.heap.objs.size=some q:=let ⟨q,_,_,hq,_⟩:=dd';⟨q,hq⟩
 exact d_write I2 (by rw [e];exact True.intro) hs he (dk_new hz hd (rk.merge .nil) dd')
structure M1 (X:Cx) (o:Expr) (m:Str) (apos:Pos) (e:Expr) (cpos:Pos):Prop where
 base:attributeBase o m X.env (eval o X.env)=eval o X.env
 few:((backTo cpos (starEach [e] X.env)).all (fun x=>!x.1) && (backToKw cpos (keywordEach [] X.env)).all (fun x=>x.1.isSome)
  && decide (([e]:List Expr).length+([]:List Keyword).length+(if ([]:List Keyword).isEmpty then 0 else 1) < 30))=true
 line:(apos.endLine==cpos.line)=true
 trees:backTo cpos (starEach [e] X.env)=[(false,eval e X.env)]
structure M2 (X:Cx) (o:Expr) (m:Str) (apos:Pos) (e f:Expr) (cpos:Pos):Prop where
 base:attributeBase o m X.env (eval o X.env)=eval o X.env
 few:((backTo cpos (starEach [e,f] X.env)).all (fun x=>!x.1) && (backToKw cpos (keywordEach [] X.env)).all (fun x=>x.1.isSome)
  && decide (([e,f]:List Expr).length+([]:List Keyword).length+(if ([]:List Keyword).isEmpty then 0 else 1) < 30))=true
 line:(apos.endLine==cpos.line)=true
 trees:backTo cpos (starEach [e,f] X.env)=[(false,eval e X.env),(false,eval f X.env)]
def IsD (H:Hp) (a:Addr):Prop:=(∃kvs,Rd H a (.dK kvs))\/∃kvs,Rd H a (.dT kvs)
theorem isD_at {X:Cx} {pins:List (Addr × Obj)} {σ:St} {H:Hp} {s:Shared} {a:Addr} (I:Inv X pins σ H s) (d:IsD H a):
  s.TypeIs (.ref a) "dict"/\(∀b,Value.ref a=.ref b->∃ob,s.heap.get? b=some ob/\ob.dict=none)/\(a==sysModules)=false:=by
 rcases d with ⟨kvs,e⟩ |⟨kvs,e⟩
 .obtain⟨_,hd,vs,_,dd⟩:=qem I.hok e
  refine⟨dd.typeIs,fun b q=>?_,hd⟩
  cases q
  obtain⟨ob,_,_,h1,h2,_⟩:=dd
  exact⟨ob,h1,h2.2.1⟩
 .obtain⟨_,hd,xs,_,dd⟩:=dt_rd I.hok e
  refine⟨dd.typeIs,fun b q=>?_,hd⟩
  cases q
  obtain⟨ob,_,_,h1,h2,_⟩:=dd
  exact⟨ob,h1,h2.2.1⟩
section
variable {X: Cx} {pins: List (Addr × Obj)} {σ: St} {H: Hp} {s: Shared} {a: Addr} {y d: V} {u r: Value} {o: Option V} {A: Around} {E: Value -> Shared -> Prop}
theorem d_get2 {Q:Value->Shared->Prop} (hu:A.units+1 < cLine) (I:Inv X pins σ H s) (g:DGet H a y o) (ry:qb2 y u) (rd:qb2 d r) (h:∀w' s',Inv X pins σ H s'->qb2 (o.getD d) w'->Q w' s'):
  wpAny (model X.prog X.w) A (call (.builtin "dict.get") [.ref a,u,r]) Q E s:=by
 rcases g with ⟨kvs,k,e,ey,l⟩ |⟨kvs,k,b,e,ey,eb,l⟩
 .subst ey
  obtain⟨z,hd,vs,rel,dd⟩:=qem I.hok e
  refine call_meetsIn PySem.F.slot_dict_get dd.typeIs PySem.F.entry_dict_get (PySem.F.args_dict_get_3 _ _ _) (meets_dict_get_default (qb7 X.prog X.w) a (kV_is ry) hd r) ⟨_,dd.mapOf,h _ _ (I.tok _) ?_⟩
  rw [l]
  exact(rel.val k).getD rd
 .subst ey
  cases (show u=Value.ref b from ry)
  obtain⟨z,hd,xs,rel,dd⟩:=dt_rd I.hok e
  refine call_meetsIn PySem.F.slot_dict_get dd.typeIs PySem.F.entry_dict_get (PySem.F.args_dict_get_3 _ _ _) (meetsH_dict_get_default (tupleKind (qb7 X.prog X.w)) a b hd r) ⟨tupleKind_room_in1 hu,k,xs,qg5 I.hok eb,dd,h _ _ (I.tok _) ?_⟩
  rw [l]
  exact(rel.val k).getD rd
end
def tDGet2 (td ty tx:TE):TE:=fun σ H Q=>td σ H fun x H1=>∃a,x=.ref a/\IsD H1 a/\ty σ H1 fun y H2=>tx σ H2 fun z H3=>∃o,DGet H3 a y o/\Q (o.getD z) H3
section
variable {X: Cx} {o e f: Expr} {apos cpos: Pos} {td ty tx: TE}
theorem pe_dget2 (hu:X.A.units+1 < cLine) (ho:PE X o td) (he:PE X e ty) (hf:PE X f tx) (m:M2 X o "get" apos e f cpos):PE X (.Call (.Attribute o "get" apos) [e,f] [] cpos) (tDGet2 td ty tx):=by
 intro pins s σ H Q I h
 refine wpAny_Call_method m.base m.few m.line PySem.F.plainAttrs_dict PySem.F.slot_dict_get PySem.F.type_dict_get (thn (ho pins s σ H _ I h) fun u s1 ⟨x,H1,I1,rx,a,ex,d,q1⟩=>?_)
 subst ex
 obtain rfl:u=Value.ref a:=rx
 obtain⟨t1,t2,_⟩:=isD_at I1 d
 refine⟨t1,t2,?_⟩
 rw [m.trees]
 refine Calls.callWith_builtin rfl (Calls.evalArgs_plain (Calls.spliced_cons (thn (he pins s1 σ H1 _ I1 q1) fun iv s2 ⟨y,H2,I2,ry,q2⟩=>
  Calls.spliced_cons (thn (hf pins s2 σ H2 _ I2 q2) fun fv s3 ⟨z,H3,I3,rz,ov,g,q3⟩=>Calls.spliced_nil ?_))))
 exact d_get2 hu I3 g ry rz fun w' s4 I4 rw'=>⟨_,H3,I4,rw',q3⟩
end
section
variable {X: Cx} {pins: List (Addr × Obj)} {σ: St} {H: Hp} {s: Shared} {a: Addr} {kvs: List (Key × V)} {A: Around} {E: Value -> Shared -> Prop}
theorem d_copyOf {Q:Value->Shared->Prop} (I:Inv X pins σ H s) (e:Rd H a (.dK kvs)) (h:∀p s',H p=none->Inv X pins σ (upd H p (.dK kvs)) s'->Q (.ref p) s'):wpAny (model X.prog X.w) A (call (.type "dict") [.ref a]) Q E s:=by
 obtain⟨z,hd,vs,rel,dd⟩:=qem I.hok e
 refine kt_call_dict hd dd (by rw [<-rel.length];exact z) fun h' dd' hs=>?_
 refine h _ _ (I.hok.fresh (Nat.le_refl _)) (I.laid (a:=s.heap.objs.size) (o:=.dK kvs) (t':=s.toks) (fun b q hq=>?_) (Nat.le_refl _) (dk_new z (beq_eq_false_iff_ne.mpr (Ne.symm (Nat.ne_of_lt I.big))) rel dd'))
 exact(hs.2 b (Nat.ne_of_lt (Heap.lt_size hq))).trans (Heap.get?_push_of_some _ hq)
end
section
variable {X: Cx}
theorem call_lenD:qcj X (.builtin "len") (fun xs H Q=>∃a kvs,xs=[V.ref a]/\H a=some (.dK kvs)/\Q (.int kvs.length) H):=by
 intro pins s σ H xs us Q I r h
 obtain⟨a,kvs,rfl,ha,q⟩:=h
 obtain⟨u,rfl,ru⟩:=vals1 r
 cases ru
 exact d_len I (.inl ha) fun t s' I'=>⟨.int kvs.length,H,I',⟨t,rfl⟩,q⟩
end
section
variable {κ: Type} [DecidableEq κ]
theorem valV_not {kvs:List (κ × V)} {k:κ} (h:qce kvs k=none):¬k∈kvs.map (·.1):=by
 intro m
 obtain⟨p,hp,e⟩:=mem_map.mp m
 have q:(kvs.any fun kv=>decide (kv.1=k))=true:=any_eq_true.mpr ⟨p,hp,decide_eq_true e⟩
 rw [qck,h] at q
 exact absurd q (by simp)
theorem valV_in {kvs:List (κ × V)} {k:κ} {v:V} (h:qce kvs k=some v):k∈kvs.map (·.1):=by
 have q:(kvs.any fun kv=>decide (kv.1=k))=true:=by
  rw [qck,h]
  all_goals rfl
 obtain⟨p,hp,e⟩:=any_eq_true.mp q
 exact mem_map.mpr ⟨p,hp,of_decide_eq_true e⟩
theorem nd_snoc:∀{l:List κ} {k:κ},l.Nodup->¬k∈l->(l++ [k]).Nodup
 | [],k,_,_=>by simp
 |a :: r,k,h,hk=>by
  obtain⟨h1,h2⟩:=nodup_cons.mp h
  show (a ::(r++ [k])).Nodup
  refine nodup_cons.mpr ⟨fun m=>?_,nd_snoc h2 fun m=>hk (mem_cons.mpr (Or.inr m))⟩
  rcases mem_append.mp m with q|q
  .exact h1 q
  .exact hk (mem_cons.mpr (Or.inl (mem_singleton.mp q).symm))
theorem nd_putK {kvs:List (κ × V)} {k:κ} (v:V) (hn:(kvs.map (·.1)).Nodup) (h:qce kvs k=none):((qc3 kvs k v).map (·.1)).Nodup:=by
 rw [putK_new v h,map_append]
 exact nd_snoc hn (valV_not h)
end
end L2
namespace My
open PySem PySem.Spec PyProof.Rows L2
theorem qdf {α:Type} {β:Type} [BEq α] [LawfulBEq α]:∀{l:List (α × β)} {x:α} {v:β},l.lookup x=some v->(x,v)∈l
 |(a,b) :: l,x,v,h=>by
  rw [lookup_cons] at h
  cases e:x==a with
  |true=>rw [e] at h;have e':=eq_of_beq e;have h':b=v:=Option.some.inj h;subst e' h';exact mem_cons_self
  |false=>rw [e] at h;exact mem_cons_of_mem _ (qdf h)
theorem qc6 {X:Cx} {x:Str} {scope:Scope} {cl:List (Str × Addr)} {caps:List Nat} {cn:List Str} (h1:closureFor scope X.env=pure cl) (h2:scope.kind=.function) (h3:scope.names.all (fun p=>p.2 !=.cell)=true)
  (h4:scope.names.all (fun p=>p.2 !=.local || scope.names.lookup p.1==some .local)=true) (h5:scope.names.lookup x=some .local) (h6:AllC (fun p=>X.env.cells.lookup p.1=some p.2) cl)
  (h7:(relabel scope X.env).names.all (fun p=>!(p.2==.cell || p.2==.free) ||(cl.lookup p.1).isSome)=true) (h8:caps.length=cn.length)
  (h9:AllC (fun p=>X.N[p.1]?=some p.2/\X.env.kindOf p.2=some .cell/\(relabel scope X.env).names.lookup p.2=some .cell/\X.env.scope.names.lookup p.2=some .cell/\∃c,cl.lookup p.2=some c) (caps.zip cn)) (h10:(x :: cn).Nodup):Caps X x scope cl caps cn:=by
 refine⟨h1,h2,fun y hy z=>?_,fun y hy z=>?_,h5,fun y c e=>AllC.mem h6 _ (qdf e),fun y hy=>?_,h8,fun k y j e1 e2=>?_,h10⟩
 .have q:=all_eq_true.mp h3 y hy
  rw [z] at q
  cases q
 .have q:=all_eq_true.mp h4 y hy
  rw [z] at q
  simpa using q
 .have m:∃k,(y,k)∈(relabel scope X.env).names/\(k=.cell\/k=.free):=by
   rcases hy with hy|hy
   .exact⟨_,qdf hy,.inl rfl⟩
   .exact⟨_,qdf hy,.inr rfl⟩
  obtain⟨k,hm,hk⟩:=m
  have q:=all_eq_true.mp h7 _ hm
  have hk':(k==NameKind.cell || k==NameKind.free)=true:=by rcases hk with rfl|rfl <;> decide
  rw [hk'] at q
  exact Option.isSome_iff_exists.mp (by simpa using q)
 .refine AllC.mem h9 (j,y) ?_
  have hz:(caps.zip cn)[k]?=some (j,y):=by rw [List.getElem?_zip_eq_some];exact⟨e2,e1⟩
  exact mem_of_getElem? hz
section
variable {X: Cx}
theorem pi_str {l:Expr} {tl:TE} {y:Str} {py:Pos} (hl:PE X l tl):PI X (.Name y py) l (iStr tl):=by
 intro pins s σ H R I h
 refine thn (hl pins s σ H _ I h) fun u s1 ⟨v,H1,I1,r,x,ev,q⟩=>?_
 subst ev
 obtain⟨t,rfl⟩:=r
 have hn:H1 s1.heap.objs.size=none:=I1.hok.fresh (Nat.le_refl _)
 have fp:∀b∈ [s1.heap.objs.size],FpOk X pins H1 b:=fun b hb=>by
  have e:b=s1.heap.objs.size:=by simpa using hb
  subst e
  exact I1.fpOk (Nat.le_refl _) hn
 cases ha:x.cps.all (·< 128)
 .exact wpAny_pyIter_wide ha ⟨_, [s1.heap.objs.size],fun i h=>h.IsStrIter s1.heap.objs.size "str_iterator" x t i,Its x,H1,rfl,I1.kept (t':=s1.toks) (fun _ _ e=>Heap.get?_push_of_some _ e),
   turn_str x t _ _ (fun A hA=>Walks.strWide hA _ x t) fun A i s' Q' E' st hq=>wpAny_pyIter_striter_wide st hq,⟨_,Heap.get?_push_size _ rfl,rfl,rfl⟩,fp,q⟩
 .exact wpAny_pyIter_ascii ha ⟨_, [s1.heap.objs.size],fun i h=>h.IsStrIter s1.heap.objs.size "str_ascii_iterator" x t i,Its x,H1,rfl,I1.kept (t':=s1.toks) (fun _ _ e=>Heap.get?_push_of_some _ e),
   turn_str x t _ _ (fun A hA=>Walks.strAscii hA _ x t) fun A i s' Q' E' st hq=>wpAny_pyIter_striter_ascii st hq,⟨_,Heap.get?_push_size _ rfl,rfl,rfl⟩,fp,q⟩
def rAll (K:Frag):List V->Hp->VK->Prop:=fun xs H Q=>∃(p:Addr) (bs:List Bool),xs=[.ref p]/\SqL K H p (bs.map V.bl)/\Q (.bl (bs.all id)) H
theorem all_range (bs:List Bool):((List.range bs.length).all fun i=>(bs[i]?).getD true)=bs.all id:=by
 rw [Bool.eq_iff_iff,all_eq_true,all_eq_true]
 constructor
 .intro h b hb
  obtain⟨i,hi,e⟩:=mem_iff_getElem.mp hb
  have q:=h i (List.mem_range.mpr hi)
  rw [getElem?_eq_getElem hi,e] at q
  exact q
 .intro h i hi
  have hi':=List.mem_range.mp hi
  rw [getElem?_eq_getElem hi']
  exact h _ (getElem_mem hi')
theorem call_allB (hc:X.calm=true):qcj X (.builtin "all") (rAll X.K):=by
 intro pins s σ H xs us Q I hv h
 obtain⟨p,bs,rfl,hS,q⟩:=h
 obtain⟨u,rfl,ru⟩:=hv.one
 cases ru
 obtain⟨its,rv,pl,hz⟩:=I.list hS
 have hl:=pl.isList
 have hlt:p < s.heap.objs.size:=by obtain⟨_,e,_⟩:=hl;exact Heap.lt_size e
 have hlen:=rv.length
 rw [length_map] at hlen
 refine call_all_walk (wpAny_pyIter_list hl ?_)
 refine⟨s.heap.objs.size, [s.heap.objs.size,p], [s.heap.objs.size],its.toArray.size,_,_,fun i=>(bs[i]?).getD true,rfl,Walks.list (A:=X.A.in1) (I.ok.hd hc) _ p (Nat.ne_of_lt hlt) its.toArray,⟨⟨_,Heap.get?_push_size _ rfl,rfl,rfl⟩,hl.push _⟩,fun i v s' Q' E' hP hQ=>?_,fun h' tk hk=>?_⟩
 .have hi:its[i]?=some v:=by simpa using hP
  have hb:i < bs.length:=by rw [hlen];exact(List.getElem?_eq_some_iff.mp hi).1
  have hx:(bs.map V.bl)[i]?=some (.bl bs[i]):=by rw [getElem?_map,getElem?_eq_getElem hb];rfl
  obtain⟨u,e,r⟩:=rv.get hx
  rw [hi] at e
  cases e
  cases r
  dsimp only at hQ
  rw [getElem?_eq_getElem hb] at hQ
  exact wpAny_truthy_bool hQ
 .have e:((List.range its.toArray.size).all fun i=>(bs[i]?).getD true)=bs.all id:=by
   rw [size_toArray,<-hlen];exact all_range bs
  rw [e]
  exact⟨.bl _,H,I.kept (t':=tk) (fun b o eb=>hk b o (fun hm=>by have z:=Heap.lt_size eb;rw [mem_singleton.mp hm] at z;exact Nat.lt_irrefl _ z) (Heap.get?_push_of_some _ eb)),rfl,q⟩
def rCatS:R2:=fun x y H Q=>∃i j,x=.str i/\y=.str j/\i.length+j.length<=sizeLine/\Q (.str (i++j)) H
theorem op_catS:OpR X (binaryOp .Add) rCatS:=op_add_str
def rInS:R2:=fun x y H Q=>∃i j,x=.str i/\y=.str j/\Q (.bl (!(Builtin.Str.occurrences j i 0 j.length 1).isEmpty)) H
theorem op_inS:OpR X (compareOp .In) rInS:=op_in_str
def rLenS:List V->Hp->VK->Prop:=fun xs H Q=>∃z,xs=[.str z]/\z.length<=sizeLine/\Q (.int z.length) H
theorem call_lenS:qcj X (.builtin "len") rLenS:=call_len_str
end
section
variable {K: Frag} {H: Hp} {Q: VK} {σ: L2.St}
theorem r_chain {r r':R2} {ta tb tc:TE} (h:ta σ H fun x H1=>tb σ H1 fun y H2=>r x y H2 fun z H3=>∃k,z=.bl k/\(if k=true then tc σ H3 fun w' H4=>r' y w' H4 Q else Q (.bl false) H3)):tChain r r' ta tb tc σ H Q:=h
theorem r_all {p:Addr} {bs:List Bool} (hS:SqL K H p (bs.map V.bl)) (h:Q (.bl (bs.all id)) H):rAll K [.ref p] H Q:=⟨p,bs,rfl,hS,h⟩
theorem r_catS {i j:Str} (hn:i.length+j.length<=sizeLine) (h:Q (.str (i++j)) H):rCatS (.str i) (.str j) H Q:=⟨i,j,rfl,rfl,hn,h⟩
theorem r_inS {i j:Str} (h:Q (.bl (!(Builtin.Str.occurrences j i 0 j.length 1).isEmpty)) H):rInS (.str i) (.str j) H Q:=⟨i,j,rfl,rfl,h⟩
theorem r_lenS {z:Str} (hn:z.length<=sizeLine) (h:Q (.int z.length) H):rLenS [.str z] H Q:=⟨z,rfl,hn,h⟩
theorem r_ixS {z:Str} {i:Int} {c:Nat} (hn:z.length<=sizeLine) (e:atI z.cps.toList i=some c) (h:Q (.str ⟨#[c]⟩) H):rIxS (.str z) (.int i) H Q:=⟨z,i,c,rfl,rfl,hn,e,h⟩
theorem r_iS {tl:TE} {R:It->Hp->Prop} (h:tl σ H fun v H1=>rItS v H1 R):iStr tl σ H R:=h
theorem r_itS {x:Str} {R:It->Hp->Prop} (h:R (Its x) H):rItS (.str x) H R:=⟨x,rfl,h⟩
theorem r_comp {wi:TI} {caps:List Nat} {tt:CT TT} {te:CT TE} (h:wi σ H fun J H1=>∀(C:Addr) (s:Shared) (H0:Hp) (fp:List Addr) (acc:Addr),H1 acc=none->COMP J caps (tt C s H0 fp) (te C s H0 fp) acc σ (upd H1 acc (.lst [])) Q):tComp wi caps tt te σ H Q:=h
theorem r_true {Q:Bool->Hp->Prop} (h:Q true H):tTrue σ H Q:=h
theorem r_app {acc:Addr} {N:Hp->Prop} {y:V} {ys:List V} (ha:H acc=some (.lst ys)) (hz:ys.length < sizeLine) (h:N (upd H acc (.lst (ys++ [y])))):rApp acc N y H:=⟨ys,ha,hz,h⟩
theorem c_by {J:It} {caps:List Nat} {tt:TT} {te:TE} {acc:Addr} (n:Nat) (Pv:Nat->Hp->Prop) (h0:Pv 0 H) (hgo:∀i H,i < n->Pv i H->J.go i H) (hst:∀H,Pv n H->J.stop n H)
  (hs:∀i H v H',i < n->Pv i H->J.yld i H v H'->tt (some v :: qbe caps σ) H' fun b H2=>if b=true then te (some v :: qbe caps σ) H2 fun y H3=>rApp acc (Pv (i+1)) y H3 else Pv (i+1) H2)
  (hd:∀H,Pv n H->Q (.ref acc) H):COMP J caps tt te acc σ H Q:=by
 refine⟨fun i m H=>m=n - i/\i<=n/\Pv i H,⟨n,rfl,Nat.zero_le _,h0⟩,?_⟩
 rintro i m H ⟨rfl,hi,p⟩
 by_cases hlt:i < n
 .exact .inr ⟨hgo i H hlt p,Pv (i+1),fun H' p'=>⟨n - (i+1),by omega,rfl,hlt,p'⟩,fun v H' y=>hs i H v H' hlt p y⟩
 .have e:i=n:=by omega
  subst e
  exact .inl ⟨hst H p,hd H p⟩
end
end My
namespace My
open PySem PySem.Spec PyProof.Rows L2
section
variable {X: Cx}
def rRep:R2:=fun x y H Q=>∃z n,x=.str z/\y=.int n/\0<=n/\n<=1/\Q (.str (if n < 1 then Str.empty else z)) H
def rIntB:List V->Hp->VK->Prop:=fun xs H Q=>∃b:Bool,xs=[.bl b]/\Q (.int (if b then 1 else 0)) H
theorem call_intB:qcj X (.type "int") rIntB:=by
 intro pins s σ H xs us Q I r h
 obtain⟨b,rfl,q⟩:=h
 cases r with
 |cons r1 r2=>
  cases r2
  cases r1
  exact call_int_bool ⟨.int _,H,I.tok _,⟨_,rfl⟩,q⟩
end
section
variable {H: Hp} {Q: VK}
theorem r_intB {b:Bool} (h:Q (.int (if b then 1 else 0)) H):rIntB [.bl b] H Q:=⟨b,rfl,h⟩
end
end My
namespace My
open PySem PySem.Spec PyProof.Rows L2
section
variable {prog: Program} {w: World} {A: Around} {E: Value -> Shared -> Prop} {h: Heap} {g: Array GenState} {d: Drawn} {t: Nat} {os: OsState}
variable {nm q: Str} {C N fI: Addr} {bs bm bmB: List Value} {hdct: Bool} {sn: List Str} {sub: List Value} {ab: Bool} {col: Option Bool} {dd: Option Addr} {k0 k1 k2 k3 k5: Option Value} {B Bn newId nid initId inN: String} {bmN: List Value}
def qd1 (h:Heap) (C:Addr) (rest:List Value):Heap:=(h.push {cls:=.type "tuple",data:=.seq rest.toArray}).push {cls:=.ref C,data:=.fields #[.ref h.objs.size,.none,.none,.none,.bool false,.none]}
theorem qfx (Fn:ExcBaseFacts Bn newId inN bmN) (hBn:bmB.contains (.type Bn)=true) (F:ExcBaseFacts B nid initId bmB) (T:OwnTail h bmB bm) {mN:Str->Option Value} {rest:List Value} {Q:Fin->Shared->Prop}
  (hC:h.get? C=some (excClassObj nm q C N bs bm hdct sn sub ab col dd k0 k1 k2 k3 k5 newId)) (hn:h.Ns N mN) (hni:mN "__init__" =some (.ref fI))
  (hb:PySem.W.Looks (model prog w) (qd1 h C rest) (bindSpecial (.ref fI) (.ref (h.objs.size+1))) (.ref fI, [.ref (h.objs.size+1)]))
  (hq:wpAny (model prog w) A (call (.ref fI) (.ref (h.objs.size+1) :: rest)) (fun v s'=>v=.none/\Q (.done (.ret (.ref (h.objs.size+1)))) s') E ⟨qd1 h C rest,g,d,t,os⟩) (hrest:rest.length<=sizeLine:=by size_fits):
  wpAny (model prog w) A (Builtin.«type.__call__» ⟨.ref C :: rest, []⟩) Q E ⟨h,g,d,t,os⟩:=by
 repeat (first|with_reducible refine wpAny_loadPart_at hC ?_|with_reducible refine wpAny_madeBy_exc hC ?_|wp_step)
 refine codeAny_call_builtin_code (Code.quiet_builtin _ Fn.quiet) (wpAny_check_new_subU Fn hBn T hC ?_)
 refine codeAny_exc_new_subU Fn hBn F T hC ?_ hrest
 show wpAny _ _ _ _ _ _
 have hC₁:=Heap.get?_push_of_some {cls:=.ref C,data:=.fields #[.ref h.objs.size,.none,.none,.none,.bool false,.none]}
  (Heap.get?_push_of_some {cls:=.type "tuple",data:=.seq rest.toArray} hC)
 have hn₁:((h.push {cls:=.type "tuple",data:=.seq rest.toArray}).push {cls:=.ref C,data:=.fields #[.ref h.objs.size,.none,.none,.none,.bool false,.none]}).Ns N mN:=
  let ⟨o,es,ep,e,r⟩:=hn;⟨o,es,ep,Heap.get?_push_of_some _ (Heap.get?_push_of_some _ e),r⟩
 have hget:((h.push {cls:=.type "tuple",data:=.seq rest.toArray}).push
   {cls:=.ref C,data:=.fields #[.ref h.objs.size,.none,.none,.none,.bool false,.none]}).get? (h.objs.size+1)=some
   {cls:=.ref C,data:=.fields #[.ref h.objs.size,.none,.none,.none,.bool false,.none]}:=by heap_get
 have hcC:(Value.ref C :: bm).contains (.ref C)=true:=by simp
 have T₁:=T.keeps (h':=(h.push {cls:=.type "tuple",data:=.seq rest.toArray}).push {cls:=.ref C,data:=.fields #[.ref h.objs.size,.none,.none,.none,.bool false,.none]})
  fun b o e=>Heap.get?_push_of_some _ (Heap.get?_push_of_some _ e)
 unfold isInstance
 repeat (first|with_reducible refine wpAny_loadPart_at hget ?_|(with_reducible refine wpAny_isSubtype_exc hC₁ ?_;rw [hcC]) |wp_step)
 show wpAny _ _ (typeLookup (.ref C) _) _ _ _
 refine wpAny_typeLookup_tail hC₁ hn₁ T₁ F.mroIs F.init.lookup ?_
 rw [hni]
 refine wpAny_holding (wpAny_bind (hb.at ?_))
 refine wpAny_bind (wpAny_mono hq (fun v s' ⟨ev,q⟩=>?_) fun _ _ x=>x)
 subst ev
 wp_walk
 exact q
theorem qgj (Fn:ExcBaseFacts Bn newId inN bmN) (hBn:bmB.contains (.type Bn)=true) (F:ExcBaseFacts B nid initId bmB) (T:OwnTail h bmB bm) {mN:Str->Option Value} {rest:List Value} {Q:Value->Shared->Prop}
  (hC:h.get? C=some (excClassObj nm q C N bs bm hdct sn sub ab col dd k0 k1 k2 k3 k5 newId)) (hn:h.Ns N mN) (hni:mN "__init__" =some (.ref fI))
  (hb:PySem.W.Looks (model prog w) (qd1 h C rest) (bindSpecial (.ref fI) (.ref (h.objs.size+1))) (.ref fI, [.ref (h.objs.size+1)]))
  (hq:wpAny (model prog w) (A.under (.builtin "type.__call__" ⟨.ref C :: rest, []⟩)) (call (.ref fI) (.ref (h.objs.size+1) :: rest)) (fun v s'=>v=.none/\Q (.ref (h.objs.size+1)) s') E ⟨qd1 h C rest,g,d,t,os⟩) (hrest:rest.length<=sizeLine:=by size_fits):
  wpAny (model prog w) A (call (.ref C) rest) Q E ⟨h,g,d,t,os⟩:=by
 have f1:=tc_lookup
 have f2:=tc_bind (.ref C)
 have hT:(⟨h,g,d,t,os⟩:Shared).TypeIs (.ref C) "type":=⟨_,hC,rfl⟩
 refine wpAny_call (codeAny_of_tree ?_)
 show wpAny _ _ (callAny (.ref C) _) _ _ _
 repeat (any_goals (first|assumption|with_reducible refine wpAny_loadPart_at hC ?_|wp_step))
 refine⟨rfl,?_⟩
 refine codeAny_call_builtin_at (Code.quiet_builtin _ (by decide+kernel)) entry_typeCall (wpAny_check_type_call_sub hC (qfx (hrest:=hrest) Fn hBn F T hC hn hni hb ?_))
 exact hq
theorem qg0 {env:Env} {M:Model} {s:Shared} {x:Sem Value} {Q:Flow->Shared->Prop} (hbase:bm.contains (.type "BaseException")=true) (hh:A.handled=none)
  (h:wpAny M A x (fun v s₁=>∃e oe,v=.ref e/\s₁.heap.get? C=some (excClassObj nm q C N bs bm hdct sn sub ab col dd k0 k1 k2 k3 k5 newId)/\
   s₁.heap.get? e=some oe/\oe.cls=.ref C/\(∃vs,oe.data=.fields vs/\vs[1]?=some .none)/\E (.ref e) s₁) E s):
  wpAny M A (raiseStmt env (some x) none) Q E s:=by
 have hcB:(Value.ref C :: bm).contains (.type "BaseException")=true:=by rw [List.contains_cons,hbase,Bool.or_true]
 unfold raiseStmt
 refine wpAny_bind (wpAny_mono h (fun v s₁ h₁=>?_) fun _ _ x=>x)
 obtain⟨e,oe,rfl,hC,he,hcls,⟨vs,hd,h1⟩,hE⟩:=h₁
 obtain⟨hp,g,d,tk,os⟩:=s₁
 obtain⟨oc,odd,oda,osl⟩:=oe
 obtain rfl:oc=.ref C:=hcls
 obtain rfl:oda=.fields vs:=hd
 repeat (first|with_reducible refine wpAny_loadPart_at he ?_|with_reducible refine wpAny_loadPart_at hC ?_|(with_reducible refine wpAny_isSubtype_exc hC ?_;rw [hcB]) |wp_step)
 rw [h1]
 refine wpAny_pure ?_
 rw [if_neg (by decide)]
 exact wpAny_pure (wpAny_raiseNew_none hh hE)
theorem qfw {env:Env} {s:Shared} (Fn:ExcBaseFacts Bn newId inN bmN) (hBn:bmB.contains (.type Bn)=true) (F:ExcBaseFacts B nid initId bmB) {mN:Str->Option Value} {x:Str} {np cpos pos:Pos} {args:List Expr} {Q:Flow->Shared->Prop}
  (hbase:bm.contains (.type "BaseException")=true) (hh:A.handled=none) (hplain:(backTo cpos (starEach args env)).any (·.1)=false) (hni:mN "__init__" =some (.ref fI))
  (h:wpAny (model prog w) A (eval (.Name x np) env) (fun f s₁=>f=.ref C/\wpAny (model prog w) A (evalArgs (.ref C) true (backTo cpos (starEach args env)) [])
   (fun a s₂=>a.kw=[]/\a.pos.length<=sizeLine/\s₂.heap.get? C=some (excClassObj nm q C N bs bm hdct sn sub ab col dd k0 k1 k2 k3 k5 newId)/\s₂.heap.Ns N mN/\OwnTail s₂.heap bmB bm/\
    PySem.W.Looks (model prog w) (qd1 s₂.heap C a.pos) (bindSpecial (.ref fI) (.ref (s₂.heap.objs.size+1))) (.ref fI, [.ref (s₂.heap.objs.size+1)])/\
    wpAny (model prog w) (A.under (.builtin "type.__call__" ⟨.ref C :: a.pos, []⟩)) (call (.ref fI) (.ref (s₂.heap.objs.size+1) :: a.pos))
     (fun v s'=>v=.none/\s'.heap.get? C=some (excClassObj nm q C N bs bm hdct sn sub ab col dd k0 k1 k2 k3 k5 newId)/\(∃oe,s'.heap.get? (s₂.heap.objs.size+1)=some oe/\oe.cls=.ref C/\∃vs,oe.data=.fields vs/\vs[1]?=some .none)/\E (.ref (s₂.heap.objs.size+1)) s') E {s₂ with heap:=qd1 s₂.heap C a.pos}) E s₁) E s):
  wpAny (model prog w) A (exec (.Raise (some (.Call (.Name x np) args [] cpos)) none pos) env) Q E s:=by
 rw [arm_exec_Raise]
 first
  |refine wpAny_bind (wpAny_standAt (qg0 (C:=C) (nm:=nm) (q:=q) (N:=N) (bs:=bs) (bm:=bm) (hdct:=hdct) (sn:=sn) (sub:=sub) (ab:=ab) (col:=col) (dd:=dd) (k0:=k0) (k1:=k1) (k2:=k2) (k3:=k3) (k5:=k5) (newId:=newId) hbase hh (wpAny_bind (wpAny_mono (wpAny_Call_ofName (wpAny_mono h (fun f s₁ h₁=>?_) fun _ _ x=>x)) (fun v s₃ h₃=>wpAny_bind (wpAny_standAt (wpAny_pure h₃))) fun _ _ x=>x))))
  |(simp only [evalOpt,Option.map];refine wpAny_bind (wpAny_standAt (qg0 (C:=C) (nm:=nm) (q:=q) (N:=N) (bs:=bs) (bm:=bm) (hdct:=hdct) (sn:=sn) (sub:=sub) (ab:=ab) (col:=col) (dd:=dd) (k0:=k0) (k1:=k1) (k2:=k2) (k3:=k3) (k5:=k5) (newId:=newId) hbase hh (wpAny_bind (wpAny_mono (wpAny_Call_ofName (wpAny_mono h (fun f s₁ h₁=>?_) fun _ _ x=>x)) (fun v s₃ h₃=>wpAny_bind (wpAny_standAt (wpAny_pure h₃))) fun _ _ x=>x)))))
 obtain⟨rfl,h₁⟩:=h₁
 unfold callWith
 refine wpAny_bind (wpAny_holding (wpAny_mono h₁ (fun a s₂ h₂=>wpAny_bind (wpAny_standAt ?_)) fun _ _ x=>x))
 obtain⟨apos,akw⟩:=a
 obtain⟨hkw,hlen,hC,hn,T,hb,h₂⟩:=h₂
 obtain rfl:akw=[]:=hkw
 obtain⟨hp,g,d,tk,os⟩:=s₂
 simp only [hplain]
 refine wpAny_bind (wpAny_keeperOf_exc hC ?_)
 refine wpAny_bind (qgj (hrest:=hlen) Fn hBn F T hC hn hni hb (wpAny_mono h₂ (fun v s' ⟨e1,e2,⟨oe,e3,e4,e6⟩,e5⟩=>⟨e1,wpAny_bind (wpAny_holding (wpAny_point (wpAny_pure ?_)))⟩) fun _ _ x=>x))
 exact⟨_,oe,rfl,e2,e3,e4,e6,e5⟩
end
end My
namespace My
open PySem PySem.Spec PyProof.Rows L2
def onlyVE:List Value->Bool
 | .ref _ :: r=>onlyVE r
 | [.type a,.type b,.type c,.type e]=>a== "ValueError" && b== "Exception" && c== "BaseException" && e== "object"
 |_=>false
def overVE (K:Frag) (C:Addr):Bool:=(PySem.W.clsIn K C).any fun cd=>onlyVE cd.mro
end My
namespace My
open PySem PySem.Spec PyProof.Rows L2
section
variable {K: Frag} {C: Addr}
open PySem.W in
open PySem.W in
open PySem.W in
open PySem.W in
structure XAt (K:Frag) (C:Addr):Prop where
 ga:findIn K (.ref C) "__getattribute__" =some (some (.builtin "BaseException.__getattribute__"))
 gn:findIn K (.ref C) "__getattr__" =some none
 mb:mroIn K C (.type "BaseException")=some true
 mo:mroIn K C (.type "object")=some true
 hd:hasDictIn K C=true
 cl:findIn K (.ref C) "__class__" =some (some (.builtin "object.__class__"))
 sp:specialIn K (.builtin "object.__class__") "__get__" =some (some (.builtin "getset_descriptor.__get__"))
 tk:PySem.W.takesIn K (.builtin "object.__class__")=some true
 sa:findIn K (.ref C) "__setattr__" =some (some (.builtin "object.__setattr__"))
 po:overVE K C=true
open PySem.W in
open PySem.W in
end
end My
namespace My
open PySem PySem.Spec PyProof.Rows L2
def XS (a C:Addr) (d:Option Addr):HO:=.ext fun h=>∃(oe:Obj) (vs:Array Value),h.get? a=some oe/\oe.cls=.ref C/\oe.dict=d/\oe.data=.fields vs/\vs[1]?=some .none/\(∃t0:Addr,vs[0]?=some (.ref t0))/\∀dx,d=some dx->dx≠a
section
variable {H: Hp} {a C dx: Addr}
theorem xs_ok {P:Program} {w:World} {H:Hp} {h:Heap} {d:Option Addr} (x:∃(oe:Obj) (vs:Array Value),h.get? a=some oe/\oe.cls=.ref C/\oe.dict=d/\oe.data=.fields vs/\vs[1]?=some .none/\(∃t0:Addr,vs[0]?=some (.ref t0))/\∀dx,d=some dx->dx≠a):qbi P w H h a (XS a C d):=by
 obtain⟨oe,vs,h1,h2⟩:=id x
 exact⟨x,⟨oe,h1⟩,fun h1 h2 ⟨oe,vs,z,zz⟩ k=>⟨oe,vs,k _ z,zz⟩⟩
theorem xs_get {P:Program} {w:World} {h:Heap} {d:Option Addr} (x:HOk P w H h) (e:H a=some (XS a C d)):∃(oe:Obj) (vs:Array Value),h.get? a=some oe/\oe.cls=.ref C/\oe.dict=d/\oe.data=.fields vs/\vs[1]?=some .none/\(∃t0:Addr,vs[0]?=some (.ref t0))/\∀dx,d=some dx->dx≠a:=
 (show qbi P w H h a (XS a C d) from x a _ e).1
end
end My
namespace My
open PySem PySem.Spec PyProof.Rows L2
def del (H:Hp) (a:Addr):Hp:=fun b=>if b=a then none else H b
theorem qdk {H:Hp} {a:Addr}:del H a a=none:=by unfold del;rw [if_pos rfl]
theorem qdq {H:Hp} {a b:Addr} (h:b≠a):del H a b=H b:=by unfold del;rw [if_neg h]
section
variable {X: Cx} {pins: List (Addr × Obj)} {σ: L2.St} {H: Hp} {s: Shared} {a: Addr} {φ: Heap -> Prop}
theorem Inv.del (I:Inv X pins σ H s) (e:H a=some (.ext φ)):Inv X pins σ (My.del H a) s:=by
 have ne:∀b o,H b=some o->(∀φ,o≠ .ext φ)->b≠a:=fun b o q d z=>by rw [z,e] at q;cases q;exact d _ rfl
 refine⟨I.ok,I.os,I.bare,⟨I.base.keep,I.base.slot,fun b o q n hx=>?_,I.base.there,fun b xs q=>?_,fun b o u q=>?_,fun b ps q=>?_⟩,I.loc,I.cell,?_,fun x c q=>?_,fun p hp=>?_,fun b o q=>?_,I.len⟩
 .have z:=I.base.free b o q n hx
  by_cases hb:b=a
  .rw [hb];exact qdk
  .rw [qdq hb];exact z
 .have z:=I.base.tups b xs q
  rw [qdq (ne _ _ z (by intro φ y;cases y))];exact z
 .have z:=I.base.frzs b o u q
  rw [qdq (ne _ _ z (by intro φ y;cases y))];exact z
 .obtain⟨more,z⟩:=I.base.tbls b ps q
  exact⟨more,by rw [qdq (ne _ _ z (by intro φ y;cases y))];exact z⟩
 .by_cases hb:X.env.locals=a
  .rw [hb];exact qdk
  .rw [qdq hb];exact I.free
 .by_cases hb:c=a
  .rw [hb];exact qdk
  .rw [qdq hb];exact I.freeC x c q
 .obtain⟨z,n,l⟩:=I.pin p hp
  refine⟨z,?_,l⟩
  by_cases hb:p.1=a
  .rw [hb];exact qdk
  .rw [qdq hb];exact n
 .have hb:b≠a:=fun z=>by rw [z,qdk] at q;cases q
  rw [qdq hb] at q
  exact(I.hok b o q).stay (fun _ _ _ q=>q) (fun c q=>by rw [qdq (ne _ _ q (by intro φ y;cases y))];exact q) fun c xs q=>by rw [qdq (ne _ _ q (by intro φ y;cases y))];exact q
end
structure XClI (K:Frag) (C f:Addr):Prop where
 ob:∃(nm q:Str) (N:Addr) (bs bm:List Value) (hdct:Bool) (sn:List Str) (sub:List Value) (ab:Bool) (col:Option Bool) (dd:Option Addr) (k0 k1 k2 k3 k5:Option Value) (mN:Str->Option Value),
  K.lookup C=some (excClassObj nm q C N bs bm hdct sn sub ab col dd k0 k1 k2 k3 k5 "ValueError.__new__")/\(∀h:Heap,K.In h->h.Ns N mN)/\mN "__init__" =some (.ref f)/\
  ∀h:Heap,K.In h->OwnTail h [.type "ValueError",.type "Exception",.type "BaseException",.type "object"] bm
 fn:isFn K (.ref f)=true
section
variable {X: Cx} {k: Nat} {f: Addr} {fd: FuncData} {ps: List Str} {sp: Sp} {x: Str} {C: Addr} {W: L2.St -> XK} {np cpos pos: Pos} {e: Expr} {es: List Expr} {t: TA}
def tRaiseI (t:TA) (C:Addr) (sp:Sp) (W:L2.St->XK):TS:=fun _ σ H=>t σ H fun xs H1=>xs.length<=sizeLine/\∀a,H1 a=none->sp (.ref a :: xs) (upd H1 a (XS a C none)) (fun v H2=>v=.non/\∃d,H2 a=some (XS a C d)/\W σ (.ref C) d (My.del H2 a)) E0
theorem ps_raiseI (hc:X.calm=true) (M:XClI X.K C f) (F:FnOk X.prog X.w X.K X.mg X.base CX0 k f fd ps sp) (hr:Room (k+1) X.A) (hb:qaj X.K fd ps []) (hg:Gl X x) (hm:X.mg x=some (.ref C)) (hx:Xes X W) (ha:PA X (e :: es) t) (hex:X.ex=[]:=by rfl) (hdb:(x==("__debug__" :Str))=false:=by decide)
  (he:starEach (e :: es) X.env=(false,eval e X.env) :: starEach es X.env:=by rfl) (hpl:(backTo cpos (starEach es X.env)).any (·.1)=false:=by rfl):
  PS X (.Raise (some (.Call (.Name x np) (e :: es) [] cpos)) none pos) (tRaiseI t C sp W):=by
 intro pins s σ H D I h
 obtain⟨nm,q,N,bs,bm,hdct,sn,sub,ab,col,dd,k0,k1,k2,k3,k5,mN,hC,hN,hni,T⟩:=M.ob
 refine qfw (C:=C) (fI:=f) (nm:=nm) (q:=q) (N:=N) (bs:=bs) (bm:=bm) (hdct:=hdct) (sn:=sn) (sub:=sub) (ab:=ab) (col:=col) (dd:=dd) (k0:=k0) (k1:=k1) (k2:=k2) (k3:=k3) (k5:=k5)
  PySem.F.excBase_ValueError (by decide) PySem.F.excBase_ValueError (mN:=mN) ((T _ I.kIn).hasType PySem.F.excBase_ValueError.hasBase) (I.ok.hd hc) ?_ hni ?_
 .rw [he];show (false ||(backTo cpos (starEach es X.env)).any (·.1))=false;rw [hpl];rfl
 .refine qdu I hg hm ⟨rfl,?_⟩ hdb
  have z:=ha cpos pins s σ H _ I h
  rw [he] at z ⊢
  refine Calls.evalArgs_plain (wpAny_mono z (fun us s2 ⟨vs,H2,I2,r,hl,q⟩=>?_) fun _ _ y=>y)
  have ea:(qd1 s2.heap C us).get? (s2.heap.objs.size+1)=some {cls:=.ref C,data:=.fields #[.ref s2.heap.objs.size,.none,.none,.none,.bool false,.none]}:=by
   have:=Heap.get?_push_size (s2.heap.push {cls:=.type "tuple",data:=.seq us.toArray}) (o:={cls:=.ref C,data:=.fields #[.ref s2.heap.objs.size,.none,.none,.none,.bool false,.none]}) rfl
   rwa [Heap.size_push] at this
  have hn:H2 (s2.heap.objs.size+1)=none:=I2.hok.fresh (Nat.le_succ _)
  have I3:Inv X pins σ (upd H2 (s2.heap.objs.size+1) (XS (s2.heap.objs.size+1) C none)) {s2 with heap:=qd1 s2.heap C us}:=
   I2.laid (t':=s2.toks) (fun b o y=>Heap.get?_push_of_some _ (Heap.get?_push_of_some _ y)) (Nat.le_succ _) (xs_ok ⟨_,_,ea,rfl,rfl,rfl,rfl,⟨_,rfl⟩,fun dx y=>by cases y⟩)
  have q:=q _ hn
  refine⟨rfl,by rw [<-r.length];exact hl,I2.kIn _ _ hC,hN _ I2.kIn,T _ I2.kIn,PySem.W.bind_fn I3.kIn _ (beq_iff_eq.mp M.fn),?_⟩
  have r2:qbj (V.ref (s2.heap.objs.size+1) :: vs) (Value.ref (s2.heap.objs.size+1) :: us):=.cons rfl r
  have hln:(Value.ref (s2.heap.objs.size+1) :: us++ []).length=ps.length:=by rw [append_nil,<-r2.length];exact F.len _ _ _ _ q
  have hb':=hb {s2 with heap:=qd1 s2.heap C us} (Value.ref (s2.heap.objs.size+1) :: us) I3.kIn hln
  rw [append_nil] at hb'
  refine wpAny_call (codeAny_mono (F.run _ X.stack _ _ ⟨Value.ref (s2.heap.objs.size+1) :: us, []⟩ (Value.ref (s2.heap.objs.size+1) :: us) _ _ E0 (hr.make C us []) (I3.env0.make C us []) hb' r2 q) fun r s' hq'=>?_)
  cases r with
  |error e=>exact False.elim hq'
  |ok fl=>
   cases fl with
   |ret u=>
    obtain⟨v,H',I4,rv,ev,d,e4,q4⟩:=I3.after hq'
    subst ev
    obtain⟨oe,ws,g1,g2,g3,g4,g5,g6,g7⟩:=xs_get I4.hok e4
    refine⟨rv,I4.kIn _ _ hC,⟨oe,g1,g2,ws,g4,g5⟩,?_⟩
    have new:s2.heap.get? (s2.heap.objs.size+1)=none:=Heap.get?_none_of_le (Nat.le_succ _)
    refine hx pins σ _ _ _ (.ref C) d (Inv.del I4 e4) ⟨⟨new_of I2 hex new,qdk,fun p hp y=>?_,⟨_,_,g1,g4⟩⟩,.inl ⟨_,_,g1,g2,g3,g4,g5⟩⟩ q4
    have w:=(I2.pin p hp).1
    rw [y,new] at w
    cases w
   |next=>exact False.elim hq'
   |brk=>exact False.elim hq'
   |cont=>exact False.elim hq'
end
end My
namespace My
open PySem PySem.Spec PyProof.Rows L2
section
variable {X: Cx}
inductive PJ (X:Cx):List Expr->List TE->Prop
 |nil:PJ X [] []
 |cons {e:Expr} {es:List Expr} {t:TE} {ts:List TE} (h:PE X e t) (r:PJ X es ts):PJ X (e :: es) (t :: ts)
end
end My
namespace My
open PySem PySem.Spec PyProof.Rows L2
end My
namespace My
open PySem PySem.Spec PyProof.Rows L2
structure XBase (K:Frag) (T:Addr):Prop where
 ga:specialIn K (.ref T) "__getattribute__" =some (some (.builtin "type.__getattribute__"))
 rd:PySem.W.readsIn K T (.type "type")=true
 at_:PySem.W.findCls K (.ref T) (.type "type") "__init__" =some (.val (.builtin "ValueError.__init__"))
end My
namespace My
open PySem PySem.Spec PyProof.Rows L2
end My
namespace My
open PySem PySem.Spec PyProof.Rows L2
open PySem.MeetsSeq PySem.MeetsSeq2 PySem.MeetsSeq3 PySem.SeqRoads2
def EqW (P:Program) (w:World) (A:Around) (s:Shared) (y x:Value) (b:Bool):Prop:=∀(E:Value->Shared->Prop) (Q:Bool->Shared->Prop),Q b s->wpAny (model P w) A (eqBool y x) Q E s
def opN:Bool->CmpOp
 |false=> .Eq
 |true=> .NotEq
def RcW (P:Program) (w:World) (A:Around) (s:Shared) (ne:Bool) (y x:Value) (b:Bool):Prop:=∀(E:Value->Shared->Prop) (Q:Value->Shared->Prop),Q (.bool b) s->wpAny (model P w) A (richCompare (opN ne) y x) Q E s
def codeN:Bool->Int
 |false=>2
 |true=>3
abbrev lo (dd:Option Addr) (xs:Array Value) (n:Nat) (sl:Array (Option Value)):Obj:={cls:=.type "list",dict:=dd,data:=.seq xs n,slots:=sl}
abbrev tob (dd:Option Addr) (xs:Array Value) (n:Nat) (sl:Array (Option Value)):Obj:={cls:=.type "tuple",dict:=dd,data:=.seq xs n,slots:=sl}
section
variable {P: Program} {w: World} {A: Around} {s: Shared} {l b: Addr} {k: Bool}
theorem EqW.of {y x:Value} (h:SeqAt.EqAt A s y x k):EqW P w A s y x k:=fun E Q q=>h P w E Q q
theorem EqW.refs (hn:l≠b) (h:RcW P w A s false (.ref l) (.ref b) k):EqW P w A s (.ref l) (.ref b) k:=fun E Q q=>by
 unfold eqBool
 refine wpAny_holding (wpAny_ite_split (fun z=>?_) fun _=>wpAny_bind (h E _ (wpAny_truthy_bool q)))
 have z':=eq_of_beq z
 injection z' with z'
 exact absurd z' hn
abbrev Fin1 (P:Program) (w:World) (A:Around) (R:Result->Shared->Prop):PySem.Fin->Shared->Prop:=fun f s'=>match f with| .done r=>R (.ok r) s'| .again c=>c.quiet=true/\codeAny (model P w) A c R s'
theorem loopW (ne:Bool) {xs ys:Array Value} {n m:Nat} {d1 d2:Option Addr} {s1 s2:Array (Option Value)} (hz:xs.size=ys.size) (f:Nat->Bool) (r:Nat):∀(i:Nat),xs.size - i=r->∀(A:Around) (R:Result->Shared->Prop) (s:Shared),s.heap.get? l=some (lo d1 xs n s1)->s.heap.get? b=some (lo d2 ys m s2)->
  (∀j (h1:j < xs.size) (h2:j < ys.size),EqW P w A.in1 s xs[j] ys[j] (f j))->R (.ok (.ret (.bool (ne !=((List.range xs.size).drop i).all f)))) s->
  wpAny (model P w) A.in1 (Builtin.«list.__eq__.loop» ⟨[.ref l,.ref b,rawInt i,rawInt (codeN ne)], []⟩) (Fin1 P w A R) (fun e s'=>R (.error e) s') s:=by
 induction r with
 |zero=>
  intro i hr A R s hl hb he q
  obtain⟨hp,g,d,tk,os⟩:=s
  have t1:xs[((i:Nat):Int).toNat]?=none:=by simp;omega
  have t2:ys[((i:Nat):Int).toNat]?=none:=by simp;omega
  have t3:(List.range xs.size).drop i=[]:=by simp;omega
  rw [t3] at q
  cases ne with
  |false=>
   wp_walk using AutoSeq1.wpAny_loadPart' hl,AutoSeq1.wpAny_loadPart' hb
   rw [t1,t2]
   wp_walk using AutoSeq1.wpAny_loadPart' hl,AutoSeq1.wpAny_loadPart' hb
   show R (.ok (.ret (.bool (xs.size==ys.size)))) _
   rw [hz]
   simpa using q
  |true=>
   wp_walk using AutoSeq1.wpAny_loadPart' hl,AutoSeq1.wpAny_loadPart' hb
   rw [t1,t2]
   wp_walk using AutoSeq1.wpAny_loadPart' hl,AutoSeq1.wpAny_loadPart' hb
   show R (.ok (.ret (.bool (xs.size !=ys.size)))) _
   rw [hz]
   simpa using q
 |succ r ih=>
  intro i hr A R s hl hb he q
  obtain⟨hp,g,d,tk,os⟩:=s
  have j1:i < xs.size:=by omega
  have j2:i < ys.size:=by omega
  have t1:xs[((i:Nat):Int).toNat]?=some xs[i]:=by simp [j1]
  have t2:ys[((i:Nat):Int).toNat]?=some ys[i]:=by simp [j2]
  have t3:(List.range xs.size).drop i=i ::(List.range xs.size).drop (i+1):=by simp [List.drop_eq_getElem_cons,j1]
  have t4:((i:Int)+1)=((i+1:Nat):Int):=by push_cast;rfl
  rw [t3,all_cons] at q
  cases ne with
  |false=>
   wp_walk using AutoSeq1.wpAny_loadPart' hl,AutoSeq1.wpAny_loadPart' hb
   rw [t1,t2]
   refine wpAny_bind (he i j1 j2 _ _ ?_)
   cases hf:f i with
   |true=>
    rw [hf] at q
    wp_walk
    rw [t4]
    refine⟨plainId_quiet plain_eq_loop _,codeAny_builtin entry_eq_loop ?_⟩
    rw [Around.under_plainId plain_eq_loop _]
    exact ih (i+1) (by omega) A R _ hl hb he (by simpa using q)
   |false=>
    rw [hf] at q
    wp_walk using AutoSeq1.wpAny_loadPart' hl,AutoSeq1.wpAny_loadPart' hb
    rw [t1,t2]
    wp_walk
    simpa using q
  |true=>
   wp_walk using AutoSeq1.wpAny_loadPart' hl,AutoSeq1.wpAny_loadPart' hb
   rw [t1,t2]
   refine wpAny_bind (he i j1 j2 _ _ ?_)
   cases hf:f i with
   |true=>
    rw [hf] at q
    wp_walk
    rw [t4]
    refine⟨plainId_quiet plain_eq_loop _,codeAny_builtin entry_eq_loop ?_⟩
    rw [Around.under_plainId plain_eq_loop _]
    exact ih (i+1) (by omega) A R _ hl hb he (by simpa using q)
   |false=>
    rw [hf] at q
    wp_walk using AutoSeq1.wpAny_loadPart' hl,AutoSeq1.wpAny_loadPart' hb
    rw [t1,t2]
    wp_walk
    simpa using q
theorem listW (ne:Bool) {xs ys:Array Value} {n m:Nat} {d1 d2:Option Addr} {s1 s2:Array (Option Value)} (hz:xs.size=ys.size) (f:Nat->Bool) {R:Result->Shared->Prop} (hl:s.heap.get? l=some (lo d1 xs n s1)) (hb:s.heap.get? b=some (lo d2 ys m s2))
  (he:∀j (h1:j < xs.size) (h2:j < ys.size),EqW P w A.in1 s xs[j] ys[j] (f j)) (q:R (.ok (.ret (.bool (ne !=(List.range xs.size).all f)))) s):
  wpAny (model P w) A.in1 ((if ne=true then Builtin.«list.__ne__» else Builtin.«list.__eq__») ⟨[.ref l,.ref b], []⟩) (Fin1 P w A R) (fun e s'=>R (.error e) s') s:=by
 obtain⟨hp,g,d,tk,os⟩:=s
 have f3:=AutoSeq1.sub_list_list
 have z0:¬(xs.size !=ys.size)=true:=by simp [hz]
 cases ne with
 |false=>
  show wpAny _ _ (Builtin.«list.__eq__» _) _ _ _
  wp_walk using AutoSeq1.wpAny_loadPart' hl,AutoSeq1.wpAny_loadPart' hb
  refine⟨plainId_quiet plain_eq_loop _,codeAny_builtin entry_eq_loop ?_⟩
  rw [Around.under_plainId plain_eq_loop _]
  exact loopW false hz f _ 0 rfl A R _ hl hb he (by simpa using q)
 |true=>
  show wpAny _ _ (Builtin.«list.__ne__» _) _ _ _
  wp_walk using AutoSeq1.wpAny_loadPart' hl,AutoSeq1.wpAny_loadPart' hb
  refine⟨plainId_quiet plain_eq_loop _,codeAny_builtin entry_eq_loop ?_⟩
  rw [Around.under_plainId plain_eq_loop _]
  exact loopW true hz f _ 0 rfl A R _ hl hb he (by simpa using q)
theorem callW {T id:String} {name:Str} {B:Builtin} {self:Value} {rest:List Value} {E Q:Value->Shared->Prop} (slot:Slot T name id) (hT:s.TypeIs self T) (entry:entryFor table id=some B) (args:argsOk id ⟨self :: rest, []⟩)
  (h:wpAny (model P w) A.in1 (B ⟨self :: rest, []⟩) (Fin1 P w A (wants Q E)) (fun e s'=>wants Q E (.error e) s') s):wpAny (model P w) A (call (.builtin id) (self :: rest)) Q E s:=
 wpAny_call (codeAny_call_builtin slot.plain entry (slot.check _ _ _ _ _ _ _ _ hT args h))
theorem RcW.lists (ne:Bool) {xs ys:Array Value} {f:Nat->Bool} (hl:s.heap.IsList l xs) (hb:s.heap.IsList b ys) (hz:xs.size=ys.size) (hu:A.units < cLine) (he:∀j (h1:j < xs.size) (h2:j < ys.size),EqW P w A.in1 s xs[j] ys[j] (f j)):
  RcW P w A s ne (.ref l) (.ref b) (ne !=(List.range xs.size).all f):=fun E Q q=>by
 obtain⟨⟨c1,d1,e1,s1⟩,ho,hc,n,hd⟩:=id hl
 obtain⟨⟨c2,d2,e2,s2⟩,ho2,hc2,m,hd2⟩:=id hb
 simp only at hc hd hc2 hd2
 subst hc hd hc2 hd2
 have q':Value.bool (ne !=(List.range xs.size).all f)≠Value.notImplemented/\Q (.bool (ne !=(List.range xs.size).all f)) s:=⟨(fun x=>nomatch x),q⟩
 cases ne with
 |false=>exact wpAny_richCompare_same_room (op:=.Eq) ⟨_,ho,rfl⟩ ⟨_,ho2,rfl⟩ F.slot_list_eq (callW F.slot_list_eq ⟨_,ho,rfl⟩ F.entry_list_eq (F.args_list_eq_2 _ _) (listW (R:=wants (fun v s'=>v≠ .notImplemented/\Q v s') E) false hz f ho ho2 he q')) hu
 |true=>exact wpAny_richCompare_same_room (op:=.NotEq) ⟨_,ho,rfl⟩ ⟨_,ho2,rfl⟩ F.slot_list_ne (callW F.slot_list_ne ⟨_,ho,rfl⟩ F.entry_list_ne (F.args_list_ne_2 _ _) (listW (R:=wants (fun v s'=>v≠ .notImplemented/\Q v s') E) true hz f ho ho2 he q')) hu
theorem RcW.listsN (ne:Bool) {xs ys:Array Value} (hl:s.heap.IsList l xs) (hb:s.heap.IsList b ys) (hz:(xs.size !=ys.size)=true) (hu:A.units < cLine):RcW P w A s ne (.ref l) (.ref b) (ne !=false):=fun E Q q=>by
 cases ne with
 |false=>exact SeqAt.RcAt.lists_lengths hl hb hz hu P w E Q q
 |true=>exact SeqAt.RcNeAt.lists_lengths hl hb hz hu P w E Q q
theorem tupW (ne:Bool) {xs ys:Array Value} {n m:Nat} {d1 d2:Option Addr} {s1 s2:Array (Option Value)} (f:Nat->Bool) {E Q:Value->Shared->Prop} (hl:s.heap.get? l=some (tob d1 xs n s1)) (hb:s.heap.get? b=some (tob d2 ys m s2))
  (he:∀j (h1:j < xs.size) (h2:j < ys.size),EqW P w A.in1 s xs[j] ys[j] (f j)) (q:Q (.bool (ne !=((List.range (min xs.size ys.size)).all f && xs.size==ys.size))) s):
  wpAny (model P w) A.in1 ((if ne=true then Builtin.«tuple.__ne__» else Builtin.«tuple.__eq__») ⟨[.ref l,.ref b], []⟩) (fun fin s'=>∃v,fin=.done (.ret v)/\Q v s') E s:=by
 obtain⟨hp,g,d,tk,os⟩:=s
 have f2:=AutoSeq1.sub_tuple_tuple
 have hZ:(xs.toList.zip ys.toList).length=min xs.size ys.size:=by simp
 have turn:∀(x y:Value) (rest:List (Value × Value)) (i:Nat),(x,y) :: rest=(xs.toList.zip ys.toList).drop i->∃(h1:i < xs.size) (h2:i < ys.size),x=xs[i]/\y=ys[i]/\rest=(xs.toList.zip ys.toList).drop (i+1)/\(List.range (min xs.size ys.size)).drop i=i ::(List.range (min xs.size ys.size)).drop (i+1):=fun x y rest i hz=>by
  have hlt:i <(xs.toList.zip ys.toList).length:=by
   rcases Nat.lt_or_ge i (xs.toList.zip ys.toList).length with z|z
   .exact z
   .rw [List.drop_of_length_le z] at hz;cases hz
  have hm:i < min xs.size ys.size:=hZ ▸ hlt
  have h1:i < xs.size:=Nat.lt_of_lt_of_le hm (Nat.min_le_left _ _)
  have h2:i < ys.size:=Nat.lt_of_lt_of_le hm (Nat.min_le_right _ _)
  rw [List.drop_eq_getElem_cons hlt] at hz
  injection hz with hxy hrest
  exact⟨h1,h2,by have:=congrArg Prod.fst hxy;simpa using this,by have:=congrArg Prod.snd hxy;simpa using this,hrest,by simp [List.drop_eq_getElem_cons,hm]⟩
 have last:∀i:Nat, []=(xs.toList.zip ys.toList).drop i->(List.range (min xs.size ys.size)).drop i=[]:=fun i hz=>by
  have hge:min xs.size ys.size<=i:=by
   rcases Nat.lt_or_ge i (xs.toList.zip ys.toList).length with z|z
   .rw [List.drop_eq_getElem_cons z] at hz;cases hz
   .exact hZ ▸ z
  exact List.drop_of_length_le (by simpa using hge)
 cases ne with
 |false=>
  show wpAny _ _ (Builtin.«tuple.__eq__» _) _ _ _
  wp_walk using AutoSeq1.wpAny_loadPart' hl,AutoSeq1.wpAny_loadPart' hb,wpAny_forIn_list _ (fun rest c s'=>c.1=none/\s'=⟨hp,g,d,tk,os⟩/\∃i,rest=(xs.toList.zip ys.toList).drop i/\Q (.bool (((List.range (min xs.size ys.size)).drop i).all f && xs.size==ys.size)) ⟨hp,g,d,tk,os⟩) _
  case turn=>
   rintro⟨x,y⟩ rest c s' ⟨hc,rfl,i,hz,hR⟩
   obtain⟨h1,h2,rfl,rfl,hrest,hd⟩:=turn x y rest i hz
   rw [hd,all_cons] at hR
   refine wpAny_bind (he i h1 h2 _ _ ?_)
   cases hf:f i with
   |true=>
    rw [hf] at hR
    wp_walk
    exact⟨rfl,rfl,i+1,hrest,by simpa using hR⟩
   |false=>
    rw [hf] at hR
    wp_walk
    exact⟨_,rfl,by simpa using hR⟩
  case fin=>
   rintro⟨c1,c2⟩ s' ⟨hc,rfl,i,hz,hR⟩
   simp only at hc
   subst hc
   rw [last i hz] at hR
   wp_walk
   exact⟨_,rfl,by simpa [Builtin.Tuple.tupleCompareSizes] using hR⟩
  case h=>exact⟨rfl,rfl,0,rfl,by simpa using q⟩
 |true=>
  show wpAny _ _ (Builtin.«tuple.__ne__» _) _ _ _
  wp_walk using AutoSeq1.wpAny_loadPart' hl,AutoSeq1.wpAny_loadPart' hb,wpAny_forIn_list _ (fun rest c s'=>c.1=none/\s'=⟨hp,g,d,tk,os⟩/\∃i,rest=(xs.toList.zip ys.toList).drop i/\Q (.bool (!(((List.range (min xs.size ys.size)).drop i).all f && xs.size==ys.size))) ⟨hp,g,d,tk,os⟩) _
  case turn=>
   rintro⟨x,y⟩ rest c s' ⟨hc,rfl,i,hz,hR⟩
   obtain⟨h1,h2,rfl,rfl,hrest,hd⟩:=turn x y rest i hz
   rw [hd,all_cons] at hR
   refine wpAny_bind (he i h1 h2 _ _ ?_)
   cases hf:f i with
   |true=>
    rw [hf] at hR
    wp_walk
    exact⟨rfl,rfl,i+1,hrest,by simpa using hR⟩
   |false=>
    rw [hf] at hR
    wp_walk
    exact⟨_,rfl,by simpa using hR⟩
  case fin=>
   rintro⟨c1,c2⟩ s' ⟨hc,rfl,i,hz,hR⟩
   simp only at hc
   subst hc
   rw [last i hz] at hR
   wp_walk
   exact⟨_,rfl,by simpa [Builtin.Tuple.tupleCompareSizes,bne] using hR⟩
  case h=>exact⟨rfl,rfl,0,rfl,by simpa using q⟩
theorem RcW.tuples (ne:Bool) {xs ys:Array Value} {f:Nat->Bool} (hl:s.heap.IsTuple l xs) (hb:s.heap.IsTuple b ys) (hu:A.units < cLine) (he:∀j (h1:j < xs.size) (h2:j < ys.size),EqW P w A.in1 s xs[j] ys[j] (f j)):
  RcW P w A s ne (.ref l) (.ref b) (ne !=((List.range (min xs.size ys.size)).all f && xs.size==ys.size)):=fun E Q q=>by
 obtain⟨⟨c1,d1,e1,s1⟩,ho,hc,n,hd⟩:=id hl
 obtain⟨⟨c2,d2,e2,s2⟩,ho2,hc2,m,hd2⟩:=id hb
 simp only at hc hd hc2 hd2
 subst hc hd hc2 hd2
 cases ne with
 |false=>exact wpAny_richCompare_same_room (op:=.Eq) ⟨_,ho,rfl⟩ ⟨_,ho2,rfl⟩ F.slot_tuple_eq (wpAny_call_entry F.slot_tuple_eq ⟨_,ho,rfl⟩ F.entry_tuple_eq (tupW (Q:=fun v s'=>v≠ .notImplemented/\Q v s') false f ho ho2 he ⟨(fun x=>nomatch x),q⟩) (F.args_tuple_eq_2 _ _)) hu
 |true=>exact wpAny_richCompare_same_room (op:=.NotEq) ⟨_,ho,rfl⟩ ⟨_,ho2,rfl⟩ F.slot_tuple_ne (wpAny_call_entry F.slot_tuple_ne ⟨_,ho,rfl⟩ F.entry_tuple_ne (tupW (Q:=fun v s'=>v≠ .notImplemented/\Q v s') true f ho ho2 he ⟨(fun x=>nomatch x),q⟩) (F.args_tuple_ne_2 _ _)) hu
end
end My
namespace My
open PySem PySem.Spec PyProof.Rows L2
inductive DEq (K:Frag) (H:Hp):Nat->V->V->Bool->Prop
 |same {n:Nat} {a:Addr}:DEq K H n (.ref a) (.ref a) true
 |flat {n:Nat} {x y:V} (hx:qct x=true) (hy:qct y=true):DEq K H n x y (eqV x y)
 |ls {n:Nat} {a b:Addr} {xs ys:List V} {e:Nat->Bool} (ha:SqL K H a xs) (hb:SqL K H b ys) (ne:a≠b) (hl:xs.length=ys.length)
   (he:∀j (h1:j < xs.length) (h2:j < ys.length),DEq K H n xs[j] ys[j] (e j)):DEq K H (n+1) (.ref a) (.ref b) ((List.range xs.length).all e)
 |lsN {n:Nat} {a b:Addr} {xs ys:List V} (ha:SqL K H a xs) (hb:SqL K H b ys) (ne:a≠b) (hl:xs.length≠ys.length):DEq K H (n+1) (.ref a) (.ref b) false
 |ts {n:Nat} {a b:Addr} {xs ys:List V} {e:Nat->Bool} (ha:SqT K H a xs) (hb:SqT K H b ys) (ne:a≠b)
   (he:∀j (h1:j < xs.length) (h2:j < ys.length),DEq K H n xs[j] ys[j] (e j)):DEq K H (n+1) (.ref a) (.ref b) ((List.range (min xs.length ys.length)).all e && xs.length==ys.length)
 |dd {n:Nat} {a b:Addr} {ka kb:List (Key × V)} (ha:Rd H a (.dK ka)) (hb:Rd H b (.dK kb)) (ne:a≠b) (fa:∀p∈ka,qct p.2=true) (fb:∀p∈kb,qct p.2=true):
   DEq K H (n+1) (.ref a) (.ref b) (ka.length==kb.length && ka.all fun p=>(qce kb p.1).elim false (eqV p.2))
theorem qcn {xs:List V} {us:List Value} (r:qbj xs us) {j:Nat} (h1:j < xs.length) (h2:j < us.length):qb2 xs[j] us[j]:=by
 obtain⟨u,e,ru⟩:=r.get (getElem?_eq_getElem h1)
 rw [getElem?_eq_getElem h2] at e
 cases e
 exact ru
theorem valV_mem {kvs:List (Key × V)} {k:Key} {v:V} (h:qce kvs k=some v):(k,v)∈kvs:=by
 unfold qce at h
 obtain⟨p,hp,rfl⟩:=Option.map_eq_some_iff.mp h
 have e:=List.find?_some hp
 have e':p.1=k:=of_decide_eq_true e
 subst e'
 exact List.mem_of_find?_eq_some hp
theorem hits_of {A:Around} {s:Shared} {kb:List (Key × V)} {vb:List (Key × Value)} (rb:KV kb vb) (fb:∀p∈kb,qct p.2=true) {ka:List (Key × V)} {va:List (Key × Value)} (ra:KV ka va) (fa:∀p∈ka,qct p.2=true):
  PySem.W.KeqHits A s vb va (ka.all fun p=>(qce kb p.1).elim false (eqV p.2)):=by
 induction ra with
 |nil=>exact .nil
 | @cons p q l1 l2 h t ih=>
  obtain⟨k,v⟩:=p
  obtain⟨k',u⟩:=q
  obtain⟨e,ru⟩:=h
  dsimp only at e ru
  subst e
  have z:=rb.val k
  rw [all_cons]
  have ih':=ih fun p hp=>fa p (mem_cons_of_mem _ hp)
  cases hv:qce kb k with
  |none=>
   rw [hv] at z
   have hn:valueAt vb k=none:=qgl.none_of z
   exact .miss hn
  |some y=>
   rw [hv] at z
   cases hu:valueAt vb k with
   |none=>rw [hu] at z;exact z.elim
   |some yu=>
    rw [hu] at z
    exact .hit hu (eqAt_V ru z (fa _ (mem_cons_self ..)) (fb _ (valV_mem hv))) ih'
section
variable {X: Cx} {pins: List (Addr × Obj)} {σ: L2.St} {H: Hp} {s: Shared}
theorem PlainL.isList {h:Heap} {a:Addr} {its:Array Value} (p:PlainL h a its):h.IsList a its:=by
 obtain⟨o,n,e,c,d,t⟩:=p
 exact⟨o,e,c,n,t⟩
theorem deq_ok (I:Inv X pins σ H s) {n:Nat} {x y:V} {k:Bool} (q:DEq X.K H n x y k):∀(A:Around) (u v:Value),qb2 x u->qb2 y v->A.units+n < cLine->
  EqW X.prog X.w A s u v k/\∀a b,x=.ref a->y=.ref b->a≠b->∀ne:Bool,RcW X.prog X.w A s ne (.ref a) (.ref b) (ne !=k):=by
 have both:∀{A:Around} {a b:Addr} {k:Bool},a≠b->(∀ne:Bool,RcW X.prog X.w A s ne (.ref a) (.ref b) (ne !=k))->
   EqW X.prog X.w A s (.ref a) (.ref b) k/\∀a' b',V.ref a=.ref a'->V.ref b=.ref b'->a'≠b'->∀ne:Bool,RcW X.prog X.w A s ne (.ref a') (.ref b') (ne !=k):=fun {A a b k} ne R=>
  ⟨EqW.refs ne (by have z:=R false;simpa using z),fun a' b' e1 e2 _=>by cases e1;cases e2;exact R⟩
 induction q with
 | @same n a=>
  intro A u v ru rv hu
  obtain rfl:u=Value.ref a:=ru
  obtain rfl:v=Value.ref a:=rv
  exact⟨EqW.of (SeqAt.EqAt.same _),fun a' b' e1 e2 ne=>by cases e1;cases e2;exact absurd rfl ne⟩
 |flat hx hy=>
  intro A u v ru rv hu
  exact⟨EqW.of (eqAt_V ru rv hx hy),fun a b e _ _=>by subst e;cases hx⟩
 | @ls n a b xs ys e ha hb ne hl he ih=>
  intro A u v ru rv hu
  obtain rfl:u=Value.ref a:=ru
  obtain rfl:v=Value.ref b:=rv
  obtain⟨its,r1,p1,_⟩:=I.list ha
  obtain⟨its2,r2,p2,_⟩:=I.list hb
  have l1:=r1.length
  have l2:=r2.length
  refine both ne fun nb=>?_
  have z:=RcW.lists (P:=X.prog) (w:=X.w) (A:=A) (s:=s) nb (f:=e) (PlainL.isList p1) (PlainL.isList p2) (by rw [size_toArray,size_toArray];omega) (by omega) fun j h1 h2=>by
   have k1:j < its.length:=by simpa using h1
   have k2:j < its2.length:=by simpa using h2
   have w:=(ih j (by omega) (by omega) A.in1 its[j] its2[j] (qcn r1 (by omega) k1) (qcn r2 (by omega) k2) (by show A.units+1+n < cLine;omega)).1
   simpa using w
  rw [size_toArray,<-l1] at z
  exact z
 | @lsN n a b xs ys ha hb ne hl=>
  intro A u v ru rv hu
  obtain rfl:u=Value.ref a:=ru
  obtain rfl:v=Value.ref b:=rv
  obtain⟨its,r1,p1,_⟩:=I.list ha
  obtain⟨its2,r2,p2,_⟩:=I.list hb
  have l1:=r1.length
  have l2:=r2.length
  exact both ne fun nb=>RcW.listsN nb (PlainL.isList p1) (PlainL.isList p2) (by rw [size_toArray,size_toArray];simp;omega) (by omega)
 | @ts n a b xs ys e ha hb ne he ih=>
  intro A u v ru rv hu
  obtain rfl:u=Value.ref a:=ru
  obtain rfl:v=Value.ref b:=rv
  obtain⟨its,r1,p1,_⟩:=I.tuple ha
  obtain⟨its2,r2,p2,_⟩:=I.tuple hb
  have l1:=r1.length
  have l2:=r2.length
  refine both ne fun nb=>?_
  have z:=RcW.tuples (P:=X.prog) (w:=X.w) (A:=A) (s:=s) nb (f:=e) p1 p2 (by omega) fun j h1 h2=>by
   have k1:j < its.length:=by simpa using h1
   have k2:j < its2.length:=by simpa using h2
   have w:=(ih j (by omega) (by omega) A.in1 its[j] its2[j] (qcn r1 (by omega) k1) (qcn r2 (by omega) k2) (by show A.units+1+n < cLine;omega)).1
   simpa using w
  rw [size_toArray,size_toArray,<-l1,<-l2] at z
  exact z
 | @dd n a b ka kb ha hb ne fa fb=>
  intro A u v ru rv hu
  obtain rfl:u=Value.ref a:=ru
  obtain rfl:v=Value.ref b:=rv
  obtain⟨_,ga,va,ra,da⟩:=qem I.hok ha
  obtain⟨_,gb,vb,rb,db⟩:=qem I.hok hb
  have l1:=ra.length
  have l2:=rb.length
  refine both ne fun nb E Q q=>?_
  have hits:=hits_of (A:=A.in1) (s:=s) rb fb ra fa
  rw [l1,l2] at q
  cases nb with
  |false=>exact PySem.W.keq_eq ga gb da db (by omega) (fun _=>hits) (by simpa using q)
  |true=>exact PySem.W.keq_ne ga gb da db (by omega) (fun _=>hits) (by simpa using q)
def rEqD (K:Frag):R2:=fun x y H Q=>∃a b n k,x=.ref a/\y=.ref b/\a≠b/\n<=8/\DEq K H n (.ref a) (.ref b) k/\Q (.bl k) H
theorem op_eqD (hu:X.A.units+8 < cLine):OpR X (compareOp .Eq) (rEqD X.K):=by
 intro pins s σ H x y v u Q I rx ry h
 obtain⟨a,b,n,k,rfl,rfl,ne,hn,q,z⟩:=h
 cases rx
 cases ry
 have r:=(deq_ok I q X.A _ _ rfl rfl (by omega)).2 a b rfl rfl ne false X.xe (EP X pins σ Q)
 rw [Bool.false_bne] at r
 exact r ⟨.bl k,H,I,rfl,z⟩
end
end My
namespace My
open PySem PySem.Spec PyProof.Rows L2
section
variable {X: Cx}
def rListOf (K:Frag):List V->Hp->VK->Prop:=fun xs H Q=>∃p ys,xs=[.ref p]/\(SqL K H p ys\/SqT K H p ys)/\∀l,H l=none->Q (.ref l) (upd H l (.lst ys))
theorem call_listR:qcj X (.type "list") (rListOf X.K):=call_list_of
end
section
variable {K: Frag} {σ: L2.St} {H: Hp} {Q: VK} {p l b: Addr} {ys xs zs: List V} {to: TE} {t: TA} {T: String} {r: V -> List V -> Hp -> VK -> Prop} {x v: V}
theorem r_bm (h:to σ H fun x H1=>tyV K T x H1/\t σ H1 fun xs H2=>r x xs H2 Q):tBM K T r to t σ H Q:=h
theorem r_bm0 (h:to σ H fun x H1=>tyV K T x H1/\r x [] H1 Q):tBM0 K T r to σ H Q:=h
theorem r_tyL {P:Prop} (h:SqL K H p ys) (q:P):tyV K "list" (.ref p) H/\P:=⟨.inl ⟨rfl,_,h⟩,q⟩
theorem r_append (h:H l=some (.lst xs)) (hz:xs.length < sizeLine) (q:Q .non (upd H l (.lst (xs++ [v])))):rAppend (.ref l) [v] H Q:=⟨l,xs,v,rfl,rfl,h,hz,q⟩
theorem r_clear (h:H l=some (.lst xs)) (q:Q .non (upd H l (.lst []))):rClear (.ref l) [] H Q:=⟨l,xs,rfl,rfl,h,q⟩
theorem r_cat (h:H l=some (.lst xs)) (h':H b=some (.lst zs)) (hz:xs.length+zs.length<=sizeLine) (q:∀p,H p=none->Q (.ref p) (upd H p (.lst (xs++zs)))):rCat (.ref l) (.ref b) H Q:=⟨l,b,xs,zs,rfl,rfl,h,h',hz,q⟩
end
end My
namespace My
open PySem PySem.Spec PyProof.Rows L2
def initIn (K:Frag) (C f:Addr):Bool:=match K.lookup C with
 |some ⟨.type "type",_,.cls cd,sl⟩=>(match cd.mro,sl.toList with
  | .ref C' :: bm, [_,_,_,_,some (.builtin n),_]=>C'==C && n== "ValueError.__new__" && !cd.hasDel && PySem.W.tailIn K [.type "ValueError",.type "Exception",.type "BaseException",.type "object"] bm && PySem.W.nsOkIn K cd.ns && nsIn K cd.ns "__init__" ==some (some (.ref f))
  |_,_=>false)
 |_=>false
theorem xcli_of {K:Frag} {C f:Addr} (q:initIn K C f=true) (hf:isFn K (.ref f)=true):XClI K C f:=by
 refine⟨?_,hf⟩
 unfold initIn at q
 split at q
 .rename_i dd cd sl ho
  split at q
  .rename_i C' bm k0 k1 k2 k3 n k5 hm hs
   simp only [Bool.and_eq_true,beq_iff_eq,Bool.not_eq_true'] at q
   obtain⟨⟨⟨⟨⟨rfl,rfl⟩,hdel⟩,ht⟩,hok⟩,hni⟩:=q
   obtain⟨nm,bs,mro,ns,qn,hd,sn,sub,ab,col,del⟩:=cd
   dsimp only at hm hdel hok hni
   subst hm hdel
   have hsl:sl= #[k0,k1,k2,k3,some (.builtin "ValueError.__new__"),k5]:=by
    obtain⟨l⟩:=sl
    simp only at hs
    rw [hs]
   subst hsl
   unfold PySem.W.nsOkIn at hok
   split at hok
   .rename_i c1 d1 es ep sl1 hN
    have hSK:StrKeys es:=fun e he=>by
     have z:=Array.all_eq_true_iff_forall_mem.mp hok e he
     split at z
     .rename_i n t q;exact⟨n,t,q⟩
     .cases z
    have hNs:∀h:Heap,K.In h->h.Ns ns (fun x=>nsFind es x):=fun h X=>⟨_,es,ep,X _ _ hN,rfl,hSK,fun _=>rfl⟩
    refine⟨nm,qn,ns,bs,bm,hd,sn,sub,ab,col,dd,k0,k1,k2,k3,k5,fun x=>nsFind es x,ho,hNs,?_,fun h X=>PySem.W.tail_of_in X ht⟩
    unfold nsIn at hni
    rw [hN] at hni
    dsimp only at hni
    split at hni
    .rename_i hf
     show nsFind es "__init__" =some (.ref f)
     unfold nsFind findBy
     rw [<-Array.find?_toList,hf]
     exact congrArg some (Option.some.inj (Option.some.inj hni))
    .first|(split at hni <;> cases hni) |simp at hni
   .cases hok
  .cases q
 .cases q
end My
namespace My
open PySem PySem.Spec PyProof.Rows L2
structure RoomH (k:Nat) (A:Around):Prop where
 dp:A.depth+3*k+5 < recursionLimit
 un:A.units+16*k+200 < cLine
structure FnOkH (P:Program) (w:World) (K:Frag) (mg:Str->Option Value) (base:Heap) (k:Nat) (f:Addr) (fd:FuncData) (ps:List Str) (sp:Sp):Prop where
 len:∀vs H Q E,sp vs H Q E->vs.length=ps.length
 run:∀(a:Addr) (A:Around) (outer:List Env) (s:Shared) (H:Hp) (args:Args) (us:List Value) (vs:List V) (Q:VK) (E:XK),RoomH k A->A.handled=some (.ref a)->Env0 P w K mg base A outer s H->BindsTo s fd args (ps.zip us)->qbj vs us->sp vs H Q E->
  codeAny (model P w) A (.call (.ref f) args) (CR CX0 outer P w H s Q E) s
end My
namespace My
open PySem PySem.Spec PyProof.Rows L2
section
variable {X: Cx}
def rNeD (K:Frag):R2:=fun x y H Q=>∃a b n k,x=.ref a/\y=.ref b/\a≠b/\n<=8/\DEq K H n (.ref a) (.ref b) k/\Q (.bl (!k)) H
theorem op_neD (hu:X.A.units+8 < cLine):OpR X (compareOp .NotEq) (rNeD X.K):=by
 intro pins s σ H x y v u Q I rx ry h
 obtain⟨a,b,n,k,rfl,rfl,ne,hn,q,z⟩:=h
 cases rx
 cases ry
 have r:=(deq_ok I q X.A _ _ rfl rfl (by omega)).2 a b rfl rfl ne true X.xe (EP X pins σ Q)
 rw [Bool.true_bne] at r
 exact r ⟨.bl (!k),H,I,rfl,z⟩
end
section
variable {K: Frag} {H: Hp} {Q: VK} {a b: Addr} {n: Nat} {k: Bool}
theorem r_eqD (ne:a≠b) (hn:n<=8) (q:DEq K H n (.ref a) (.ref b) k) (h:Q (.bl k) H):rEqD K (.ref a) (.ref b) H Q:=⟨a,b,n,k,rfl,rfl,ne,hn,q,h⟩
theorem r_neD (ne:a≠b) (hn:n<=8) (q:DEq K H n (.ref a) (.ref b) k) (h:Q (.bl (!k)) H):rNeD K (.ref a) (.ref b) H Q:=⟨a,b,n,k,rfl,rfl,ne,hn,q,h⟩
end
end My
namespace My
open PySem PySem.Spec PyProof.Rows L2
end My
namespace My
open PySem PySem.Spec PyProof.Rows L2
theorem hu8 {k:Nat} {A:Around} (r:Room k A):A.units+8 < cLine:=by have:=r.un;omega
def DEqs (K:Frag) (H:Hp) (n:Nat):List V->List V->Prop
 | [], []=>True
 |x :: xs,y :: ys=>DEq K H n x y true/\DEqs K H n xs ys
 |_,_=>False
theorem DEqs.len {K:Frag} {H:Hp} {n:Nat}:∀{xs ys:List V},DEqs K H n xs ys->xs.length=ys.length
 | [], [],_=>rfl
 |_ :: _,_ :: _,h=>congrArg (·+1) (DEqs.len h.2)
 | [],_ :: _,h=>h.elim
 |_ :: _, [],h=>h.elim
theorem DEqs.get {K:Frag} {H:Hp} {n:Nat}:∀{xs ys:List V},DEqs K H n xs ys->∀j (h1:j < xs.length) (h2:j < ys.length),DEq K H n xs[j] ys[j] true
 | [], [],_,j,h1,_=>absurd h1 (Nat.not_lt_zero j)
 |_ :: _,_ :: _,h,0,_,_=>h.1
 |_ :: _,_ :: _,h,j+1,h1,h2=>DEqs.get h.2 j (Nat.lt_of_succ_lt_succ h1) (Nat.lt_of_succ_lt_succ h2)
 | [],_ :: _,h,_,_,_=>h.elim
 |_ :: _, [],h,_,_,_=>h.elim
theorem qdj {K:Frag} {H:Hp} {n:Nat} {a b:Addr} {xs ys:List V} (ha:SqL K H a xs) (hb:SqL K H b ys) (ne:a≠b) (h:DEqs K H n xs ys):DEq K H (n+1) (.ref a) (.ref b) true:=by
 have z:=DEq.ls (n:=n) (e:=fun _=>true) ha hb ne h.len h.get
 have e:(List.range xs.length).all (fun _=>true)=true:=by simp
 rw [e] at z
 exact z
theorem deq_str {K:Frag} {H:Hp} {n:Nat} (z:Str):DEq K H n (.str z) (.str z) true:=by
 have w:=DEq.flat (K:=K) (H:=H) (n:=n) (x:=.str z) (y:=.str z) rfl rfl
 have e:eqV (.str z) (.str z)=true:=by simp [eqV]
 rw [e] at w
 exact w
def SameBut (L:Addr) (H H':Hp):Prop:=∀b o,b≠L->H b=some o->H' b=some o
theorem SameBut.at {H H':Hp} {L:Addr} {o:HO} (e:SameBut L H H'):SameBut L H (upd H' L o):=fun b u hb q=>by
 rw [qa6 hb];exact e b u hb q
theorem SameBut.of {H H':Hp} {L:Addr} (s:Same H H'):SameBut L H H':=fun b u _ q=>s b u q
end My
namespace My
open PySem PySem.Spec PyProof.Rows L2
def NoFrz (H:Hp) (a:Addr):Prop:=∀o u,H a≠some (.frz o u)
section
variable {X: Cx} {pins: List (Addr × Obj)} {σ: L2.St} {H H': Hp} {s: Shared} {a: Addr} {kvs: List (Key × V)} {o: Obj}
theorem Inv.freeze (I:Inv X pins σ H s) (e:H a=some (.dK kvs)) (ho:s.heap.get? a=some o):Inv X pins σ (upd H a (.frz o (.dK kvs))) s:=by
 have ok:=I.hok a _ e
 have z:=I.write (x:=a) (e:=a) (o:=.frz o (.dK kvs)) (h':=s.heap) (t':=s.toks) (by rw [e];exact True.intro) (.inl rfl) (fun _ _ _ q=>q) ⟨o,ho⟩ ⟨ho,ok⟩
 exact z
theorem Inv.thaw (I:Inv X pins σ H s) (e:H a=some (.frz o (.dK kvs))) (n0:NoFrz X.H₀ a):Inv X pins σ (upd H a (.dK kvs)) s:=by
 have ne:∀b,H b=none->b≠a:=fun b q z=>by subst z;rw [e] at q;cases q
 have nk:∀b u,H b=some u->(∀o' u',u≠ .frz o' u')->b≠a:=fun b u q z w=>by subst w;rw [e] at q;cases q;exact z _ _ rfl
 refine⟨I.ok,I.os,I.bare,⟨I.base.keep,I.base.slot,fun b ob q n hx=>?_,I.base.there,fun b xs q=>?_,fun b ob u q=>?_,fun b ps q=>?_⟩,I.loc,I.cell,?_,fun x c q=>?_,fun p hp=>?_,fun b u q=>?_,I.len⟩
 .have z:=I.base.free b ob q n hx
  rw [qa6 (ne b z)];exact z
 .have z:=I.base.tups b xs q
  rw [qa6 (nk b _ z (by intro _ _ h;cases h))];exact z
 .have z:=I.base.frzs b ob u q
  rw [qa6 (fun w=>by subst w;exact n0 _ _ q)];exact z
 .obtain⟨m,z⟩:=I.base.tbls b ps q
  exact⟨m,by rw [qa6 (nk b _ z (by intro _ _ h;cases h))];exact z⟩
 .have z:=I.free
  rw [qa6 (ne _ z)];exact z
 .have z:=I.freeC x c q
  rw [qa6 (ne _ z)];exact z
 .obtain⟨p1,p2,p3⟩:=I.pin p hp
  exact⟨p1,by rw [qa6 (ne _ p2)];exact p2,p3⟩
 .by_cases hb:b=a
  .subst hb
   rw [qa1] at q
   cases q
   exact(I.hok b _ e).2
  .rw [qa6 hb] at q
   exact(I.hok b u q).stay (fun _ _ _ r=>r) (fun c r=>by rw [qa6 (nk c _ r (by intro _ _ h;cases h))];exact r) fun c xs r=>by rw [qa6 (nk c _ r (by intro _ _ h;cases h))];exact r
def Thaw (H0 H H':Hp):Prop:=H'=H\/∃a o kvs,H a=some (.frz o (.dK kvs))/\NoFrz H0 a/\H'=upd H a (.dK kvs)
theorem Inv.thawed (I:Inv X pins σ H s) (t:Thaw X.H₀ H H'):Inv X pins σ H' s:=by
 rcases t with rfl|⟨a,o,kvs,e,n,rfl⟩
 .exact I
 .exact Inv.thaw I e n
end
section
variable {X: Cx} {st: Stmt} {e: Expr} {t: TS} {te: TE}
def thE (H0:Hp) (D:Ends):Ends:={nx:=fun σ H=>∃H',Thaw H0 H H'/\D.nx σ H',rt:=fun v H=>∃H',Thaw H0 H H'/\D.rt v H',bk:=fun σ H=>∃H',Thaw H0 H H'/\D.bk σ H',ct:=fun σ H=>∃H',Thaw H0 H H'/\D.ct σ H'}
def tThA (H0:Hp) (t:TS):TS:=fun D σ H=>t (thE H0 D) σ H
theorem qdn (h:PS X st t):PS X st (tThA X.H₀ t):=fun pins s σ H D I q=>thn (h pins s σ H _ I q) fun f s' hs=>by
 cases f with
 |next=>obtain⟨σ',H1,J,H2,th,q⟩:=hs;exact⟨σ',H2,Inv.thawed J th,q⟩
 |brk=>obtain⟨σ',H1,J,H2,th,q⟩:=hs;exact⟨σ',H2,Inv.thawed J th,q⟩
 |cont=>obtain⟨σ',H1,J,H2,th,q⟩:=hs;exact⟨σ',H2,Inv.thawed J th,q⟩
 |ret u=>obtain⟨v,σ',H1,J,r,H2,th,q⟩:=hs;exact⟨v,σ',H2,Inv.thawed J th,r,q⟩
def tThV (H0:Hp) (t:TE):TE:=fun σ H Q=>t σ H fun v H1=>∃H',Thaw H0 H1 H'/\Q v H'
theorem pe_thV (h:PE X e te):PE X e (tThV X.H₀ te):=fun pins s σ H Q I q=>thn (h pins s σ H _ I q) fun u s' ⟨v,H1,J,r,H2,th,q⟩=>⟨v,H2,Inv.thawed J th,r,q⟩
end
theorem kvget {κ:Type} {kvs:List (κ × V)} {vs:List (κ × Value)} (r:KV kvs vs):∀{i:Nat} {k:κ} {v:V},kvs[i]?=some (k,v)->∃u,vs[i]?=some (k,u)/\qb2 v u:=by
 induction r with
 |nil=>intro i k v e;simp at e
 |cons h t ih=>
  intro i k v e
  cases i with
  |zero=>
   simp only [List.getElem?_cons_zero,Option.some.injEq] at e ⊢
   subst e
   obtain⟨h1,h2⟩:=h
   exact⟨_,Prod.ext h1.symm rfl,h2⟩
  |succ i=>
   simp only [List.getElem?_cons_succ] at e ⊢
   exact ih e
theorem kV_rel {k:Key} {u:Value} (h:keyIs k u=true):qb2 (kV k) u:=by
 rcases qb6 h with ⟨i,t,rfl,rfl⟩ |⟨x,t,rfl,rfl⟩
 .exact⟨t,rfl⟩
 .exact⟨t,rfl⟩
def ItD (d:Addr) (o:Obj) (kvs:List (Key × V)):It:=
 ⟨fun i H=>H d=some (.frz o (.dK kvs))/\i < kvs.length,fun i H x H'=>H'=H/\∃k v,kvs[i]?=some (k,v)/\x=kV k,fun i H=>H d=some (.frz o (.dK kvs))/\kvs.length<=i⟩
theorem frz_at {P:Program} {w:World} {H:Hp} {h:Heap} {d:Addr} {o:Obj} {kvs:List (Key × V)} {es:Array DictEntry} {ep:Nat} (ok:HOk P w H h) (e:H d=some (.frz o (.dK kvs))) (hd:o.data=.dict es ep):
  ∃vs,KV kvs vs/\h.DictAt (qb7 P w) d vs ep:=by
 obtain⟨ho,_,_,vs,rel,o',es',ep',ho',ex,hd',ks,ps,nd⟩:=ok d _ e
 rw [ho] at ho'
 cases ho'
 rw [hd] at hd'
 cases hd'
 exact⟨vs,rel,o,es,ho,ex,hd,ks,ps,nd⟩
theorem turn_dict {P:Program} {w:World} {K:Frag} {tg:Expr} {o:Obj} {kvs:List (Key × V)} {es:Array DictEntry} {ep:Nat} (d it:Addr) (hd:o.data=.dict es ep):Turn P w K tg (ItD d o kvs) [it] it (fun i h=>h.IsKeyIter it d i kvs.length ep) where
 mem:=by simp
 obj:=fun i h st b hb=>by
  have e:b=it:=by simpa using hb
  subst e
  obtain⟨ob,e,c,dd⟩:=st
  exact⟨ob,e,fun v z=>by rw [dd] at z;cases z⟩
 keep:=fun i h h' st k=>st.at fun ob e=>k it (by simp) ob e
 item:=by
  intro X hP hw hK hc i pins s σ H E I hf st hg
  subst hP hw hK
  obtain⟨hfz,hi⟩:=hg
  obtain⟨vs,rel,dat⟩:=frz_at I.hok hfz hd
  obtain⟨f0,f1,f2,f3,f4,f5⟩:=hf it (by simp)
  have hl:=rel.length
  obtain⟨u,hu,ru⟩:=kvget rel (i:=i) (k:=kvs[i].1) (v:=kvs[i].2) (by rw [getElem?_eq_getElem hi])
  rw [hl] at st
  refine wpAny_pyNext_dict_item st dat hu fun key h' hkey st' hs'=>?_
  have I1:Inv X pins σ H {s with heap:=h'}:=I.turned (t':=s.toks) (fun b ob hb e=>hs'.extBut b ob hb e) f0 f1 f3 f4 f5
  obtain⟨ob,e,c,dd⟩:=id st'
  exact⟨key,rfl,go_of (s:={s with heap:=h'}) e c dd (by decide) ⟨kV kvs[i].1,H,I1,kV_rel hkey,⟨rfl,kvs[i].1,kvs[i].2,getElem?_eq_getElem hi,rfl⟩,by rw [hl];exact st',fun b hb=>(hf b hb).1⟩⟩
 done:=by
  intro X hP hw hK hc i pins s σ H E I hf st hg
  subst hP hw hK
  obtain⟨hfz,hi⟩:=hg
  obtain⟨vs,rel,dat⟩:=frz_at I.hok hfz hd
  obtain⟨f0,f1,f2,f3,f4,f5⟩:=hf it (by simp)
  have hl:=rel.length
  rw [hl] at st hi
  exact wpAny_pyNext_dict_end (I.ok.hd hc) st dat (by simpa using hi) fun h' eb=>⟨rfl,I.turned (t':=s.toks) (fun b ob hb e=>eb b ob hb e) f0 f1 f3 f4 f5⟩
 self:=fun _ _ _ _ _ st h=>wpAny_pyIter_keyiter st h
def rItD (x:V) (H:Hp) (R:It->Hp->Prop):Prop:=∃a kvs,x=.ref a/\((H a=some (.dK kvs)/\∀o,R (ItD a o kvs) (upd H a (.frz o (.dK kvs))))\/∃o,H a=some (.frz o (.dK kvs))/\R (ItD a o kvs) H)
def iDict (td:TE):TI:=fun σ H R=>td σ H fun x H1=>rItD x H1 R
theorem dat_of {P:Program} {w:World} {H:Hp} {h:Heap} {d:Addr} {kvs:List (Key × V)} (ok:qbi P w H h d (.dK kvs)):∃o es ep vs,h.get? d=some o/\o.data=.dict es ep/\KV kvs vs/\h.DictAt (qb7 P w) d vs ep/\(d==sysModules)=false:=by
 obtain⟨_,hs,vs,rel,o,es,ep,ho,ex,hd,ks,ps,nd⟩:=ok
 exact⟨o,es,ep,vs,ho,hd,rel,⟨o,es,ho,ex,hd,ks,ps,nd⟩,hs⟩
theorem qch {X:Cx} {tg l:Expr} {tl:TE} (hl:PE X l tl):PI X tg l (iDict tl):=by
 intro pins s σ H R I h
 refine thn (hl pins s σ H _ I h) fun v s1 ⟨x,H1,I1,r1,q1⟩=>?_
 obtain⟨a,kvs,e,q⟩:=q1
 subst e
 cases r1
 have ok:qbi X.prog X.w H1 s1.heap a (.dK kvs):=by
  rcases q with ⟨e,_⟩ |⟨o,e,_⟩
  .exact I1.hok a _ e
  .exact(I1.hok a _ e).2
 obtain⟨o,es,ep,vs,ho,hd,rel,dat,hs⟩:=dat_of ok
 have hlen:=rel.length
 refine wpAny_pyIter_dict hs dat ?_
 have it0:(s1.heap.push {cls:=.type "dict_keyiterator",data:=.fields #[.ref a,.int 0 0,.int vs.length 0,.int ep 0]}).IsKeyIter s1.heap.objs.size a 0 kvs.length ep:=by
  rw [hlen];exact⟨_,Heap.get?_push_size _ rfl,rfl,rfl⟩
 rcases q with ⟨e,q⟩ |⟨o',e,q⟩
 .have I2:=Inv.freeze I1 e ho
  refine⟨s1.heap.objs.size, [s1.heap.objs.size],_,_,_,rfl,I2.kept (t':=s1.toks) fun b ob e=>Heap.get?_push_of_some _ e,turn_dict (kvs:=kvs) a _ hd,it0,fun b hb=>?_,q o⟩
  have e:b=s1.heap.objs.size:=by simpa using hb
  subst e
  exact I2.fpOk (Nat.le_refl _) (I2.hok.fresh (Nat.le_refl _))
 .have eo:o'=o:=by
   have z:=(I1.hok a _ e).1
   rw [ho] at z
   cases z
   rfl
  subst eo
  refine⟨s1.heap.objs.size, [s1.heap.objs.size],_,_,_,rfl,I1.kept (t':=s1.toks) fun b ob e=>Heap.get?_push_of_some _ e,turn_dict (kvs:=kvs) a _ hd,it0,fun b hb=>?_,q⟩
  have e:b=s1.heap.objs.size:=by simpa using hb
  subst e
  exact I1.fpOk (Nat.le_refl _) (I1.hok.fresh (Nat.le_refl _))
section
variable {σ: L2.St} {H H': Hp} {D: Ends} {t: TS} {te tl: TE} {Q: VK} {g: TG} {tb: TS} {a: Addr} {o: Obj} {kvs: List (Key × V)} {H0: Hp} {v: V}
theorem r_thA (h:t (thE H0 D) σ H):tThA H0 t D σ H:=h
theorem qdm (th:Thaw H0 H H') (h:D.nx σ H'):(thE H0 D).nx σ H:=⟨H',th,h⟩
theorem r_thV (h:te σ H fun v H1=>∃H',Thaw H0 H1 H'/\Q v H'):tThV H0 te σ H Q:=h
theorem qez (e:H a=some (.frz o (.dK kvs))) (n:NoFrz H0 a):Thaw H0 H (upd H a (.dK kvs)):=.inr ⟨a,o,kvs,e,n,rfl⟩
theorem r_iD {R:It->Hp->Prop} (h:tl σ H fun x H1=>rItD x H1 R):iDict tl σ H R:=h
theorem qf5 {R:It->Hp->Prop} (e:H a=some (.dK kvs)) (h:∀o,R (ItD a o kvs) (upd H a (.frz o (.dK kvs)))):rItD (.ref a) H R:=⟨a,kvs,rfl,.inl ⟨e,h⟩⟩
theorem qdp (Pv:Nat->L2.St->Hp->Prop) (h0:Pv 0 σ H) (hl:∀i σ H,i<=kvs.length->Pv i σ H->H a=some (.frz o (.dK kvs)))
  (hs:∀i k v σ H,kvs[i]?=some (k,v)->Pv i σ H->g (kV k) σ H fun σ2 H2=>tb {nx:=Pv (i+1),rt:=D.rt,bk:=D.nx,ct:=Pv (i+1)} σ2 H2) (hd:∀σ H,Pv kvs.length σ H->D.nx σ H):FOR (ItD a o kvs) g tb D σ H:=by
 refine⟨fun i m σ H=>m=kvs.length - i/\i<=kvs.length/\Pv i σ H,⟨kvs.length,rfl,Nat.zero_le _,h0⟩,?_⟩
 rintro i m σ H ⟨rfl,hi,p⟩
 have q:=hl i σ H hi p
 by_cases hlt:i < kvs.length
 .refine .inr ⟨⟨q,hlt⟩,Pv (i+1),fun σ' H' p'=>⟨kvs.length - (i+1),by omega,rfl,hlt,p'⟩,fun x H' y=>?_⟩
  obtain⟨e,k,v,hk,rfl⟩:=y
  subst e
  exact hs i k v σ _ hk p
 .have e:i=kvs.length:=Nat.le_antisymm hi (Nat.le_of_not_lt hlt)
  subst e
  exact .inl ⟨⟨q,Nat.le_refl _⟩,hd σ H p⟩
end
end My
namespace My
open PySem PySem.Spec PyProof.Rows L2
theorem objOk_get {P:Program} {w:World} {H:Hp} {h:Heap} {a:Addr} {o:HO} (x:qbi P w H h a o):∃u,h.get? a=some u:=by
 induction o with
 |lst xs=>obtain⟨_,_,_,_,e⟩:=x;exact⟨_,e⟩
 |tup xs=>obtain⟨_,_,_,ob,e,_⟩:=x;exact⟨_,e⟩
 |dK kvs=>obtain⟨_,_,_,_,o,_,_,e,_⟩:=x;exact⟨_,e⟩
 |dT kvs=>obtain⟨_,_,_,_,o,_,_,e,_⟩:=x;exact⟨_,e⟩
 |set S n=>obtain⟨o,_,_,_,e,_⟩:=x;exact⟨_,e⟩
 |ins C dx fs=>obtain⟨_,_,_,e,_⟩:=x;exact⟨_,e⟩
 |own y=>exact x
 |xd fs=>obtain⟨_,⟨_,_,_,e,_⟩,_⟩:=x;exact⟨_,e⟩
 |rng lo hi=>obtain⟨_,_,_,e⟩:=x;exact⟨_,e⟩
 |frz ob u ih=>exact⟨_,x.1⟩
 |tbl ps=>exact⟨_,x⟩
 |met f y=>exact⟨_,x⟩
 |ext φ=>exact x.2.1
theorem Inv.laidN {X:Cx} {pins:List (Addr × Obj)} {σ:L2.St} {H:Hp} {s:Shared} {h':Heap} {a:Addr} {o:HO} {t':Nat} (I:Inv X pins σ H s) (k:∀b u,s.heap.get? b=some u->h'.get? b=some u) (hg:s.heap.get? a=none) (new:qbi X.prog X.w (upd H a o) h' a o):
  H a=none/\Inv X pins σ (upd H a o) {s with heap:=h',toks:=t'}:=by
 have hn:H a=none:=by
  cases q:H a with
  |none=>rfl
  |some u=>obtain⟨v,e⟩:=objOk_get (I.hok a u q);rw [hg] at e;cases e
 refine⟨hn,I.un ⟨fun b u q _ _ _=>k b u q,fun b u q _ _ _=>⟨u.slots,k b u q⟩,fun b u q n _=>by rw [qa6 (fun z=>by subst z;rw [hg] at q;cases q)];exact n,fun b u q _=>⟨u,k b u q⟩,fun b xs q=>by rw [qa6 (qa9 q hn)];exact q,
  fun b u xs q=>by rw [qa6 (qa9 q hn)];exact q,fun b ps q=>⟨#[],by rw [qa6 (qa9 q hn),q];simp⟩⟩ fun b u e=>?_⟩
 by_cases hb:b=a
 .subst hb;rw [qa1] at e;cases e;exact new
 .rw [qa6 hb] at e
  exact(I.hok b u e).stay (fun c v _ q=>k c v q) (fun c q=>by rw [qa6 (qa9 q hn)];exact q) fun c xs q=>by rw [qa6 (qa9 q hn)];exact q
section
variable {X: Cx}
def rDictCp:List V->Hp->VK->Prop:=fun xs H Q=>∃p kvs,xs=[.ref p]/\Rd H p (.dK kvs)/\∀q,H q=none->Q (.ref q) (upd H q (.dK kvs))
theorem qeh:qcj X (.type "dict") rDictCp:=by
 intro pins s σ H xs us Q I hv h
 obtain⟨p,kvs,rfl,e,q⟩:=h
 obtain⟨u,rfl,ru⟩:=hv.one
 cases ru
 exact d_copyOf I e fun l s' hl I'=>⟨.ref l,_,I',rfl,q l hl⟩
theorem strs_of:∀{ss:List Str} {us:List Value},qbj (ss.map V.str) us->StrsAre us ss
 | [],_,r=>by cases r;exact .nil
 |x :: ss,_,r=>by
  cases r with
  |cons h t=>obtain⟨k,rfl⟩:=h;exact .cons x k (strs_of t)
theorem qew:∀{us:List Value} {ss:List Str},StrsAre us ss->qbj (ss.map V.str) us
 |_,_,.nil=> .nil
 |_,_,.cons x t h=> .cons ⟨t,rfl⟩ (qew h)
def rSortL (K:Frag):List V->Hp->VK->Prop:=fun xs H Q=>∃p ss,xs=[.ref p]/\SqL K H p (ss.map V.str)/\ss.length < 64/\∀l ss',H l=none->ss'.Perm ss->sortedS ss'=true->Q (.ref l) (upd H l (.lst (ss'.map V.str)))
theorem qdl:qcj X (.builtin "sorted") (rSortL X.K):=by
 intro pins s σ H xs us Q I hv h
 obtain⟨p,ss,rfl,hS,hz,q⟩:=h
 obtain⟨u,rfl,ru⟩:=hv.one
 cases ru
 obtain⟨its,rv,pl,hz'⟩:=I.list hS
 have hlen:=rv.length
 rw [length_map] at hlen
 refine sorted_strs (vs:=its) (PlainL.isList pl) (strs_of rv) (by omega) fun out ss' a1 a2 a3=>?_
 obtain⟨e,he⟩:=sortedAll_at s.heap its out
 have hl2:=a2.length_eq
 have I2:=I.laid (a:=s.heap.objs.size+1) (o:=.lst (ss'.map V.str)) (t':=s.toks) (fun b ob hb=>sortedAll_old hb) (Nat.le_succ _) ⟨by rw [length_map,sizeLine_eq];omega,out.toList,e,qew a1,by simpa [seqObj] using he⟩
 exact⟨.ref _,_,I2,rfl,q _ ss' (I.hok.fresh (Nat.le_succ _)) a2 a3⟩
def rSortD:List V->Hp->VK->Prop:=fun xs H Q=>∃p kvs ss,xs=[.ref p]/\Rd H p (.dK kvs)/\kvs.map (·.1)=ss.map Sum.inr/\ss.length < 64/\∀l ss',H l=none->ss'.Perm ss->sortedS ss'=true->Q (.ref l) (upd H l (.lst (ss'.map V.str)))
theorem strs_keys {ss:List Str} {us:List Value} (hl:us.length=ss.length) (h:∀(j:Nat) (u:Value),us[j]?=some u->∃x,ss[j]?=some x/\keyIs (.inr x) u=true):StrsAre us ss:=by
 induction us generalizing ss with
 |nil=>cases ss with
  |nil=>exact .nil
  |cons _ _=>simp at hl
 |cons u us ih=>cases ss with
  |nil=>simp at hl
  |cons x ss=>
   obtain⟨y,hy,hk⟩:=h 0 u rfl
   simp only [List.getElem?_cons_zero,Option.some.injEq] at hy
   subst hy
   rcases qb6 hk with ⟨i,t,e,_⟩ |⟨z,t,e,rfl⟩
   .cases e
   .cases e
    exact .cons x t (ih (by simpa using hl) fun j v hv=>by have:=h (j+1) v (by simpa using hv);simpa using this)
theorem qcu (hc:X.calm=true):qcj X (.builtin "sorted") rSortD:=by
 intro pins s σ H xs us Q I hv h
 obtain⟨p,kvs,ss,rfl,hR,hk,hz,q⟩:=h
 obtain⟨u,rfl,ru⟩:=hv.one
 cases ru
 obtain⟨o,es,ep,vs,ho,hd,rel,dat,hs⟩:=dat_of (hR.ok I.hok)
 have hlen:=rel.length
 have hks:=rel.keys
 have hl2:kvs.length=ss.length:=by have:=congrArg List.length hk;simpa using this
 refine Calls.call_function_entry kind_sorted plain_sorted entry_sorted (args_sorted1 _) ?_
 unfold Builtin.«sorted»
 refine wpAny_bind (m:=checkCount "sorted" 1 1 _) (wpAny_pure ?_)
 refine wpAny_bind (PySem.W.kdu_collect (A:=X.A.in1) (PySem.W.kdl_dict (knd:=qb7 X.prog X.w) (kvs:=vs) (ep:=ep) hs) (I.ok.hd hc) dat (by rw [sizeLine_eq];omega) fun h' tk acc hkeep hacc=>?_)
 have hal:acc.toList.length=vs.length:=by rw [Array.length_toList];exact hacc.1
 refine wpAny_bind (wpAny_newList ?_ (by rw [hal,sizeLine_eq];omega))
 have hS:StrsAre acc.toList ss:=by
  refine strs_keys (by omega) fun j v hv=>?_
  obtain⟨k,x,hx,hkv⟩:=hacc.2 j v (by rw [<-Array.getElem?_toList];exact hv)
  have e1:(vs.map (·.1))[j]?=some k:=by rw [getElem?_map,hx];rfl
  rw [<-hks,hk,getElem?_map] at e1
  obtain⟨z,hz1,rfl⟩:=Option.map_eq_some_iff.mp e1
  exact⟨z,hz1,hkv⟩
 have hoL:(h'.push {cls:=.type "list",data:=.seq acc.toList.toArray}).get? h'.objs.size=some (seqObj "list" acc.toList.toArray 0):=Heap.get?_push_size _ rfl
 refine wpAny_bind (wpAny_holding (wpAny_call_entry slot_list_sort ⟨_,hoL,rfl⟩ entry_list_sort (list_sort_treeK strKind_oneLt hoL hS.keysOf (fun v₁ v₂ rest e=>keyKind_strs (by rw [<-e];exact hS)) (by omega) fun st' a1 a2=>⟨_,rfl,?_⟩) (args_list_sort _)))
 obtain⟨ss',b1,b2,b3⟩:=sorted_out_str hS a1 a2
 obtain⟨e,he⟩:=sortedHeap_at (out:=(arrOf st').map (·.2)) hoL
 have hl3:=b2.length_eq
 have hg:s.heap.get? h'.objs.size=none:=by
  cases q:s.heap.get? h'.objs.size with
  |none=>rfl
  |some ob=>exact absurd (Heap.lt_size (hkeep _ _ q)) (Nat.lt_irrefl _)
 obtain⟨hn,I2⟩:=Inv.laidN I (h':=sortedHeap (h'.push {cls:=.type "list",data:=.seq acc.toList.toArray}) h'.objs.size acc.toList ((arrOf st').map (·.2))) (a:=h'.objs.size) (o:=.lst (ss'.map V.str)) (t':=tk) (fun b ob hb=>by
  have hb':=hkeep b ob hb
  rw [sortedHeap_old (Nat.ne_of_lt (Heap.lt_size hb')) (by rw [size_push'];exact Nat.lt_succ_of_lt (Heap.lt_size hb'))]
  exact Heap.get?_push_of_some _ hb') hg ⟨by rw [length_map,sizeLine_eq];omega,((arrOf st').map (·.2)).toList,e,qew b1,by rw [Array.toArray_toList];exact he⟩
 exact wpAny_pure ⟨_,rfl,.ref _,_,I2,rfl,q _ ss' hn b2 b3⟩
end
section
variable {K: Frag} {H: Hp} {Q: VK} {p: Addr} {kvs: List (Key × V)} {ss: List Str}
theorem r_dictCp (e:Rd H p (.dK kvs)) (h:∀q,H q=none->Q (.ref q) (upd H q (.dK kvs))):rDictCp [.ref p] H Q:=⟨p,kvs,rfl,e,h⟩
theorem r_tyD {B:Prop} (h:H p=some (.dK kvs)) (q:B):tyV K "dict" (.ref p) H/\B:=⟨.inr (.inr (.inl ⟨rfl,.inl ⟨_,h⟩⟩)),q⟩
theorem qg9 (e:SqL K H p (ss.map V.str)) (hz:ss.length < 64) (h:∀l ss',H l=none->ss'.Perm ss->sortedS ss'=true->Q (.ref l) (upd H l (.lst (ss'.map V.str)))):rSortL K [.ref p] H Q:=⟨p,ss,rfl,e,hz,h⟩
theorem qf4 (e:Rd H p (.dK kvs)) (hk:kvs.map (·.1)=ss.map Sum.inr) (hz:ss.length < 64) (h:∀l ss',H l=none->ss'.Perm ss->sortedS ss'=true->Q (.ref l) (upd H l (.lst (ss'.map V.str)))):rSortD [.ref p] H Q:=⟨p,kvs,ss,rfl,e,hk,hz,h⟩
end
end My
namespace My
open PySem PySem.Spec PyProof.Rows L2
structure AD (kvs:List (Key × V)) (f:Str->Option Int):Prop where
 nd:(kvs.map (·.1)).Nodup
 sh:∀p∈kvs,∃z i,p=(Sum.inr z,V.int i)
 get:∀z,qce kvs (Sum.inr z)=(f z).map V.int
def noF:Str->Option Int:=fun _=>none
def putF' (f:Str->Option Int) (z:Str) (i:Int):Str->Option Int:=fun y=>if y=z then some i else f y
theorem AD.nil:AD [] noF:=⟨nodup_nil,fun p hp=>absurd hp (by simp),fun z=>rfl⟩
theorem AD.cast {kvs:List (Key × V)} {f g:Str->Option Int} (h:AD kvs f) (e:∀z,f z=g z):AD kvs g:=⟨h.nd,h.sh,fun z=>by rw [h.get,e]⟩
theorem qe1 {kvs:List (Key × V)} {k:Key} {v:V} (h:qce kvs k≠none):(qc3 kvs k v).map (·.1)=kvs.map (·.1):=by
 unfold qc3
 have e:(kvs.any fun kv=>decide (kv.1=k))=true:=by rw [qck];cases q:qce kvs k with
  |none=>exact absurd q h
  |some _=>rfl
 rw [if_pos e,List.map_map]
 apply List.map_congr_left
 intro p _
 show (if p.1=k then (p.1,v) else p).1=p.1
 split <;> rfl
theorem putK_mem {kvs:List (Key × V)} {k:Key} {v:V} {p:Key × V} (h:p∈qc3 kvs k v):p=(k,v)\/p∈kvs:=by
 unfold qc3 at h
 split at h
 .obtain⟨q,hq,e⟩:=mem_map.mp h
  split at e
  .rename_i ek;subst ek;exact .inl e.symm
  .subst e;exact .inr hq
 .rcases mem_append.mp h with h|h
  .exact .inr h
  .exact .inl (by simpa using h)
theorem AD.put {kvs:List (Key × V)} {f:Str->Option Int} (h:AD kvs f) (z:Str) (i:Int):AD (qc3 kvs (Sum.inr z) (.int i)) (putF' f z i):=by
 refine⟨?_,fun p hp=>?_,fun y=>?_⟩
 .cases q:qce kvs (Sum.inr z) with
  |none=>exact nd_putK _ h.nd q
  |some v=>rw [qe1 (by rw [q];simp)];exact h.nd
 .rcases putK_mem hp with rfl|hp
  .exact⟨z,i,rfl⟩
  .exact h.sh p hp
 .rw [qep]
  unfold putF'
  by_cases e:y=z
  .subst e;rw [if_pos rfl,if_pos rfl];rfl
  .rw [if_neg (fun q=>e (Sum.inr.inj q)),if_neg e];exact h.get y
theorem AD.flat {kvs:List (Key × V)} {f:Str->Option Int} (h:AD kvs f):∀p∈kvs,qct p.2=true:=fun p hp=>by
 obtain⟨z,i,rfl⟩:=h.sh p hp
 rfl
theorem qex {kvs:List (Key × V)} (nd:(kvs.map (·.1)).Nodup) {k:Key} {v:V} (h:(k,v)∈kvs):qce kvs k=some v:=by
 induction kvs with
 |nil=>simp at h
 |cons p r ih=>
  rw [map_cons,nodup_cons] at nd
  rcases mem_cons.mp h with rfl|h
  .exact qbt rfl
  .have ne:¬p.1=k:=fun e=>nd.1 (e ▸ mem_map.mpr ⟨(k,v),h,rfl⟩)
   rw [qbu ne]
   exact ih nd.2 h
theorem AD.mem {kvs:List (Key × V)} {f:Str->Option Int} (h:AD kvs f) {k:Key} {v:V} (hm:(k,v)∈kvs):∃z n,k=Sum.inr z/\v=.int n/\f z=some n:=by
 obtain⟨z,n,e⟩:=h.sh _ hm
 cases e
 have q:=qex h.nd hm
 rw [h.get] at q
 cases hf:f z with
 |none=>rw [hf] at q;cases q
 |some m=>rw [hf] at q;cases q;exact⟨z,_,rfl,rfl,hf⟩
def qbq (kvs:List (Key × V)):List Str:=kvs.filterMap fun p=>match p.1 with| .inr z=>some z| .inl _=>none
theorem AD.keys {kvs:List (Key × V)} {f:Str->Option Int} (h:AD kvs f):kvs.map (·.1)=(qbq kvs).map Sum.inr:=by
 have sh:=h.sh
 clear h
 induction kvs with
 |nil=>rfl
 |cons p r ih=>
  obtain⟨z,i,rfl⟩:=sh p (mem_cons_self ..)
  show Sum.inr z :: r.map (·.1)=(z :: qbq r).map Sum.inr
  rw [map_cons,ih fun q hq=>sh q (mem_cons_of_mem _ hq)]
theorem AD.klen {kvs:List (Key × V)} {f:Str->Option Int} (h:AD kvs f):(qbq kvs).length=kvs.length:=by
 have:=congrArg List.length h.keys
 simpa using this.symm
theorem AD.knd {kvs:List (Key × V)} {f:Str->Option Int} (h:AD kvs f):(qbq kvs).Nodup:=by
 have nd:=h.nd
 rw [h.keys] at nd
 exact List.Pairwise.imp (fun ne e=>ne (congrArg Sum.inr e)) (List.pairwise_map.mp nd)
theorem AD.kin {kvs:List (Key × V)} {f:Str->Option Int} (h:AD kvs f) (z:Str):z∈qbq kvs↔f z≠none:=by
 constructor
 .intro hz
  have hm:(Sum.inr z:Key)∈kvs.map (·.1):=by rw [h.keys];exact mem_map.mpr ⟨z,hz,rfl⟩
  obtain⟨⟨k,v⟩,hp,e⟩:=mem_map.mp hm
  dsimp only at e
  subst e
  obtain⟨z',n,e1,_,hf⟩:=h.mem hp
  cases e1
  rw [hf];simp
 .intro hf
  cases q:f z with
  |none=>exact absurd q hf
  |some n=>
   have hv:=h.get z
   rw [q] at hv
   have hm:=valV_in hv
   rw [h.keys] at hm
   obtain⟨y,hy,e⟩:=mem_map.mp hm
   cases e
   exact hy
theorem nd_le:∀{l m:List Str},l.Nodup->(∀a∈l,a∈m)->l.length<=m.length
 | [],_,_,_=>Nat.zero_le _
 |a :: l,m,nd,h=>by
  have ha:=h a (mem_cons_self ..)
  rw [nodup_cons] at nd
  have q:=nd_le (l:=l) (m:=m.erase a) nd.2 fun b hb=>(List.mem_erase_of_ne (fun(e:b=a)=>nd.1 (by rw [<-e];exact hb))).mpr (h b (mem_cons_of_mem _ hb))
  rw [List.length_erase_of_mem ha] at q
  have:0 < m.length:=List.length_pos_of_mem ha
  simp only [length_cons]
  omega
theorem AD.le {kvs:List (Key × V)} {f:Str->Option Int} (h:AD kvs f) {ws:List Str} (hs:∀z,f z≠none->z∈ws):kvs.length<=ws.length:=by
 rw [<-h.klen]
 exact nd_le h.knd fun z hz=>hs z ((h.kin z).mp hz)
theorem AD.eq {ka kb:List (Key × V)} {f:Str->Option Int} (h:AD ka f) (h':AD kb f):(ka.length==kb.length && ka.all fun p=>(qce kb p.1).elim false (eqV p.2))=true:=by
 rw [Bool.and_eq_true,beq_iff_eq,all_eq_true]
 constructor
 .have l1:=nd_le h.knd fun z hz=>(h'.kin z).mpr ((h.kin z).mp hz)
  have l2:=nd_le h'.knd fun z hz=>(h.kin z).mpr ((h'.kin z).mp hz)
  rw [h.klen,h'.klen] at l1
  rw [h.klen,h'.klen] at l2
  omega
 .rintro⟨k,v⟩ hp
  obtain⟨z,n,rfl,rfl,hf⟩:=h.mem hp
  show ((qce kb (Sum.inr z)).elim false (eqV (.int n)))=true
  rw [h'.get,hf]
  show (n==n)=true
  simp
theorem AD.at {kvs:List (Key × V)} {f:Str->Option Int} (h:AD kvs f) {i:Nat} {k:Key} {v:V} (e:kvs[i]?=some (k,v)):∃z n,k=Sum.inr z/\v=.int n/\f z=some n/\(qbq kvs)[i]?=some z:=by
 obtain⟨z,n,rfl,rfl,hf⟩:=h.mem (mem_of_getElem? e)
 refine⟨z,n,rfl,rfl,hf,?_⟩
 have q:(kvs.map (·.1))[i]?=some (Sum.inr z):=by rw [getElem?_map,e];rfl
 rw [h.keys,getElem?_map] at q
 obtain⟨y,hy,e⟩:=Option.map_eq_some_iff.mp q
 cases e
 exact hy
def leS (a b:Str):Prop:=ltCps b.cps.toList a.cps.toList=false
theorem qdb {a b:Str}:leS a b↔a.cps.toList<=b.cps.toList:=by
 unfold leS
 rw [ltCps_eq,decide_eq_false_iff_not]
 exact List.not_lt
theorem leS_refl (a:Str):leS a a:=qdb.mpr (List.le_refl _)
theorem leS_trans {a b c:Str} (h:leS a b) (h':leS b c):leS a c:=qdb.mpr (List.le_trans (qdb.mp h) (qdb.mp h'))
theorem leS_anti {a b:Str} (h:leS a b) (h':leS b a):a=b:=by
 have e:=List.le_antisymm (qdb.mp h) (qdb.mp h')
 obtain⟨⟨x⟩⟩:=a
 obtain⟨⟨y⟩⟩:=b
 have e':x=y:=e
 subst e'
 rfl
theorem rising_pw:∀{p:Str} {l:List Str},risingS p l=true->(p :: l).Pairwise leS
 |p, [],_=>List.pairwise_singleton _ _
 |p,x :: r,h=>by
  have h':(!ltCps x.cps.toList p.cps.toList && risingS x r)=true:=h
  rw [Bool.and_eq_true,Bool.not_eq_true'] at h'
  have q:=rising_pw h'.2
  refine List.pairwise_cons.mpr ⟨fun y hy=>?_,q⟩
  rcases mem_cons.mp hy with rfl|hy
  .exact h'.1
  .exact leS_trans h'.1 (List.rel_of_pairwise_cons q hy)
theorem qdz:∀{l:List Str},sortedS l=true->l.Pairwise leS
 | [],_=>List.Pairwise.nil
 |x :: r,h=>rising_pw h
def gN (f:Str->Option Int) (z:Str):Int:=(f z).getD 0
def qgk (f g:Str->Option Int):Str->Option Int:=fun y=>match g y with|none=>f y|some b=>some (gN f y+b)
def qd7 (f:Str->Option Int):Str->Option Int:=fun y=>match f y with|none=>none|some a=>if 0 < a then some a else none
theorem gN_get {kvs:List (Key × V)} {f:Str->Option Int} (h:AD kvs f) (z:Str):(qce kvs (Sum.inr z)).getD (.int 0)=.int (gN f z):=by
 rw [h.get]
 unfold gN
 cases f z <;> rfl
theorem qam {l:List Str} {i:Nat} {z:Str} (h:l[i]?=some z) (y:Str):y∈l.take (i+1)↔y∈l.take i\/y=z:=by
 rw [take_add_one,h,mem_append]
 simp
theorem qet {l:List Str} (nd:l.Nodup) {i:Nat} {z:Str} (h:l[i]?=some z):z∉l.take i:=fun hm=>by
 obtain⟨j,hj,e⟩:=mem_iff_getElem.mp hm
 have hj':j < i:=by rw [length_take] at hj;omega
 have hjl:j < l.length:=by rw [length_take] at hj;omega
 rw [List.getElem_take] at e
 obtain⟨hi,e2⟩:=List.getElem?_eq_some_iff.mp h
 exact absurd ((List.getElem_inj nd).mp (e.trans e2.symm)) (by omega)
end My
namespace My
open PySem PySem.Spec PyProof.Rows L2
end My
namespace My
open PySem PySem.Spec PyProof.Rows L2
section
variable {σ: L2.St} {H H': Hp} {Q: VK} {D: Ends} {td ty tx tv: TE} {a b p: Addr} {kvs kb: List (Key × V)} {f: Str -> Option Int} {z: Str} {n: Int} {v: V} {o: Obj}
def rDG (a:Addr) (y z:V) (H:Hp) (Q:VK):Prop:=∃o,DGet H a y o/\Q (o.getD z) H
def kDG2 (ty tx:TE) (σ:L2.St) (Q:VK) (x:V) (H:Hp):Prop:=∃a,x=.ref a/\IsD H a/\ty σ H fun y H2=>tx σ H2 fun z H3=>rDG a y z H3 Q
theorem r_dg2 (h:td σ H fun x H1=>kDG2 ty tx σ Q x H1):tDGet2 td ty tx σ H Q:=h
theorem r_dg2a (d:Rd H a (.dK kvs)) (h:ty σ H fun y H2=>tx σ H2 fun z H3=>rDG a y z H3 Q):kDG2 ty tx σ Q (.ref a) H:=⟨a,rfl,.inl ⟨kvs,d⟩,h⟩
theorem r_dg2b (d:Rd H a (.dK kvs)) (A:AD kvs f) (h:Q (.int (gN f z)) H):rDG a (.str z) (.int 0) H Q:=by
 refine⟨qce kvs (Sum.inr z),.inl ⟨kvs,Sum.inr z,d,rfl,rfl⟩,?_⟩
 rw [gN_get A]
 exact h
def rDGk (x y:V) (H:Hp) (Q:VK):Prop:=∃a v,x=.ref a/\DGet H a y (some v)/\Q v H
theorem r_dg (h:td σ H fun x H1=>ty σ H1 fun y H2=>rDGk x y H2 Q):tDGet td ty σ H Q:=h
theorem r_dgk (d:Rd H a (.dK kvs)) (A:AD kvs f) (e:f z=some n) (h:Q (.int n) H):rDGk (.ref a) (.str z) H Q:=
 ⟨a,.int n,rfl,.inl ⟨kvs,Sum.inr z,d,rfl,by rw [A.get,e];rfl⟩,h⟩
def rDP (x y v:V) (H:Hp) (D:Ends) (σ:L2.St):Prop:=∃a H4,x=.ref a/\DPut H a y v H4/\D.nx σ H4
theorem r_dp (h:tv σ H fun v H1=>td σ H1 fun x H2=>ty σ H2 fun y H3=>rDP x y v H3 D σ):sDPut td ty tv D σ H:=h
theorem r_dpk (e:H a=some (.dK kvs)) (hz:kvs.length < sizeLine) (h:D.nx σ (upd H a (.dK (qc3 kvs (Sum.inr z) v)))):rDP (.ref a) (.str z) v H D σ:=⟨a,_,rfl,DPut.k (k:=Sum.inr z) e hz,h⟩
def rDI (x y:V) (H:Hp) (Q:VK):Prop:=∃a o,x=.ref a/\DGet H a y o/\Q (.bl o.isSome) H
theorem r_di (h:ty σ H fun y H1=>td σ H1 fun x H2=>rDI x y H2 Q):tDIn ty td σ H Q:=h
theorem r_dik (d:Rd H a (.dK kvs)) (A:AD kvs f) (h:Q (.bl (f z).isSome) H):rDI (.ref a) (.str z) H Q:=by
 refine⟨a,qce kvs (Sum.inr z),rfl,.inl ⟨kvs,Sum.inr z,d,rfl,rfl⟩,?_⟩
 rw [A.get,Option.isSome_map]
 exact h
theorem r_dnew (h:∀p,H p=none->Q (.ref p) (upd H p (.dK []))):tDNewK σ H Q:=h
theorem qc8 (e:H a=some (.dK kvs)):NoFrz H a:=fun o u z=>by rw [e] at z;cases z
theorem rd_new (d:Rd H a (.dK kvs)) (n:H p=none) {u:HO}:Rd (upd H p u) a (.dK kvs):=by
 rcases d with d|⟨o,d⟩
 .exact .inl (qaa d n)
 .exact .inr ⟨o,qaa d n⟩
theorem rd_in (d:Rd H b (.dK kb)) (ea:H a=some (.dK kvs)) (sb:SameBut a H H') (fz:H' a=some (.frz o (.dK kvs))):Rd H' b (.dK kb):=by
 by_cases e:b=a
 .subst e
  rcases d with d|⟨o',d⟩
  .rw [ea] at d;cases d;exact .inr ⟨o,fz⟩
  .rw [ea] at d;cases d
 .rcases d with d|⟨o',d⟩
  .exact .inl (sb _ _ e d)
  .exact .inr ⟨o',sb _ _ e d⟩
theorem qd5 (e:H a=some (.dK kvs)) (sb:SameBut a H H'):Same H (upd H' a (.dK kvs)):=fun b u q=>by
 by_cases h:b=a
 .subst h;rw [qa1];rw [e] at q;exact q
 .rw [qa6 h];exact sb b u h q
theorem sb_frz (e:H a=some (.dK kvs)):SameBut a H (upd H a (.frz o (.dK kvs))):=fun b u h q=>by rw [qa6 h];exact q
theorem sb_put {l:Addr} {u:HO} (sb:SameBut a H H') (n:H l=none):SameBut a H (upd H' l u):=fun b w h q=>by
 rw [qa6 (qa9 q n)];exact sb b w h q
theorem qb4 {l:Addr} {u:HO} (s:Same H H') (n:H l=none):Same H (upd H' l u):=fun b w q=>by rw [qa6 (qa9 q n)];exact s b w q
end
def viol (f g:Str->Option Int) (y:Str):Prop:=f y≠none/\gN g y < gN f y
theorem addF_sup {f g:Str->Option Int} {ws:List Str} (hf:∀z,f z≠none->z∈ws) (hg:∀z,g z≠none->z∈ws) (z:Str) (h:qgk f g z≠none):z∈ws:=by
 unfold qgk at h
 cases e:g z with
 |none=>rw [e] at h;exact hf z h
 |some b=>exact hg z (by rw [e];simp)
theorem step_put {l:List Str} {i:Nat} {z:Str} (h:l[i]?=some z) (F G:Str->Option Int) {v:Int} (hv:F z=some v) (y:Str):putF' (fun y=>if y∈l.take i then F y else G y) z v y=if y∈l.take (i+1) then F y else G y:=by
 unfold putF'
 by_cases e:y=z
 .subst e
  rw [if_pos rfl,if_pos ((qam h y).mpr (.inr rfl)),hv]
 .rw [if_neg e]
  by_cases e2:y∈l.take i
  .rw [if_pos ((qam h y).mpr (.inl e2))];exact if_pos e2
  .rw [if_neg (fun q=>((qam h y).mp q).elim e2 e)];exact if_neg e2
theorem step_no {l:List Str} {i:Nat} {z:Str} (h:l[i]?=some z) (F G:Str->Option Int) (hv:F z=G z) (y:Str):(if y∈l.take i then F y else G y)=if y∈l.take (i+1) then F y else G y:=by
 by_cases e2:y∈l.take i
 .rw [if_pos e2,if_pos ((qam h y).mpr (.inl e2))]
 .rw [if_neg e2]
  by_cases e:y=z
  .subst e
   rw [if_pos ((qam h y).mpr (.inr rfl)),hv]
  .rw [if_neg (fun q=>((qam h y).mp q).elim e2 e)]
theorem step_end {kvs:List (Key × V)} {g:Str->Option Int} (hB:AD kvs g) (F G:Str->Option Int) (hn:∀y,g y=none->F y=G y) (y:Str):(if y∈(qbq kvs).take kvs.length then F y else G y)=F y:=by
 rw [<-hB.klen,take_length]
 by_cases e:y∈qbq kvs
 .rw [if_pos e]
 .rw [if_neg e]
  refine(hn y ?_).symm
  cases hf:g y with
  |none=>rfl
  |some n=>exact absurd ((hB.kin y).mpr (by rw [hf];simp)) e
end My
namespace My
open PySem PySem.Spec PyProof.Rows L2
section
variable {X: Cx}
theorem ps_comp {elt iter:Expr} {x y:Str} {px py:Pos} {ifs:List Expr} {scope:Scope} {cl:List (Str × Addr)} {pos spos:Pos} {caps:List Nat} {cn:List Str} {wi:TI} {tt:CT TT} {te:CT TE} {j:Nat} (Cp:Caps X x scope cl caps cn) (hc:X.calm=true)
  (hN:X.N.Nodup) (hy:X.N[j]?=some y) (hly:X.env.scope.names.lookup y=some .local)
  (hi:PI X (.Name x px) iter wi) (ht:∀C s H fp,PIfs (cxC X (x :: cn) scope cl C s H fp) ifs (tt C s H fp)) (he:∀C s H fp,PE (cxC X (x :: cn) scope cl C s H fp) elt (te C s H fp))
  (hsw:swapsWith (.ListComp elt [⟨.Name x px,iter,ifs,0⟩] scope pos) (some (.Name y py)) spos.line X.env=pure true:=by rfl) (hs:∀x,foldedSetIterable iter X.env x=pure x:=by intro _;rfl):
  PS X (.Assign [.Name y py] (.ListComp elt [⟨.Name x px,iter,ifs,0⟩] scope pos) spos) (tAsg (tComp wi caps tt te) (qdv j)):=by
 intro pins s σ H D I h
 replace h:tComp wi caps tt te σ H (fun v H1=>D.nx (σ.set j (some v)) H1):=h
 rw [exec_Assign_Name_used _ _ _ _ hsw]
 refine wpAny_bind (wpAny_standAt (wpAny_bind ?_))
 show wpAny _ X.A (do let _<-comprehension (.ListComp elt [⟨.Name x px,iter,ifs,0⟩] scope pos) scope X.env _ (newList []) false (eval iter X.env) (some (assign (.Name y py) X.env))) _ _ s
 refine wpAny_bind (wpAny_mono (wpAny_comprehension_free (use:=some (assign (.Name y py) X.env)) (Q:=fun _ s'=>SP X pins D .next s') rfl hs Cp.clos Cp.kind Cp.names
  (thn (hi pins s σ H _ I h) fun v s1 h1=>thn h1 fun itv s2 h2=>?_)) (fun _ s' hq=>wpAny_pure (wpAny_pure hq)) fun _ _ e=>e)
 obtain⟨it,fp,tn,J,H2,e,I2,T,st2,f2,R⟩:=h2
 subst e
 have hacc:H2 s2.heap.objs.size=none:=I2.hok.fresh (Nat.le_refl _)
 refine wpAny_newObj_type ?_
 have I3:Inv X pins σ (upd H2 s2.heap.objs.size (.lst [])) {s2 with heap:=s2.heap.push {cls:=.type "list",dict:=none,data:=.seq ([]:List Value).toArray}}:=Inv.lnew (its:=[]) (t':=s2.toks) I2 .nil (Nat.zero_le _)
 have lt2:∀b∈fp,b < s2.heap.objs.size:=fun b hb=>let ⟨o,e,_⟩:=T.obj _ _ st2 b hb;Heap.lt_size e
 have f3:∀b∈fp,FpOk X pins (upd H2 s2.heap.objs.size (.lst [])) b:=fun b hb=>⟨by rw [qa6 (Nat.ne_of_lt (lt2 b hb))];exact(f2 b hb).1,(f2 b hb).2⟩
 have st3:tn 0 (s2.heap.push {cls:=.type "list",dict:=none,data:=.seq ([]:List Value).toArray}):=T.keep _ _ _ st2 fun b _ o e=>Heap.get?_push_of_some _ e
 generalize hs3:({s2 with heap:=s2.heap.push {cls:=.type "list",dict:=none,data:=.seq ([]:List Value).toArray}}:Shared)=s3 at I3 ⊢
 have st3':tn 0 s3.heap:=by rw [<-hs3];exact st3
 generalize s2.heap.objs.size=acc at hacc I3 f3 ⊢
 obtain⟨W,⟨m0,w0⟩,turn⟩:=R s3.heap.objs.size s3 (upd H2 acc (.lst [])) fp acc hacc
 have lt3:∀b∈fp,b < s3.heap.objs.size:=fun b hb=>let ⟨o,e,_⟩:=T.obj _ _ st3' b hb;Heap.lt_size e
 clear st3 hs3
 refine wpAny_newFunctionEnv Cp.cell (by intro y hy;simp at hy) (fun h₁ hns hsb=>?_) Cp.kind
 have k1:∀b o,s3.heap.get? b=some o->h₁.get? b=some o:=fun b o e=>hsb.extBut b o (Nat.ne_of_lt (Heap.lt_size e)) (Heap.get?_push_of_some _ e)
 have I4:Inv (cxC X (x :: cn) scope cl s3.heap.objs.size s3 (upd H2 acc (.lst [])) fp) [] (none :: qbe caps σ) (upd H2 acc (.lst [])) {s3 with heap:=h₁,toks:=s3.toks+([]:List (Str × Value)).length}:=
  Inv.comp Cp I3 f3 lt3 hns k1
 have st4:tn 0 h₁:=T.keep _ _ _ st3' fun b _ o e=>k1 b o e
 generalize hX:cxC X (x :: cn) scope cl s3.heap.objs.size s3 (upd H2 acc (.lst [])) fp=X' at I4
 have stat:∀{H':Hp},(∀b∈fp,H' b=none)->∀b∈fp,FpOk X' [] H' b:=fun hn b hb=>by
  subst hX
  obtain⟨g0,g1,g2,g3,g4,g5⟩:=f3 b hb
  refine⟨hn b hb,Nat.ne_of_lt (lt3 b hb),fun z=>?_,.inl hb,fun y c e=>g4 y c (Cp.sub y c e),fun p hp=>absurd (show p∈([]:List (Addr × Obj)) from hp) (by simp)⟩
  rcases mem_cons.mp (I3.stkSub b z) with z|z
  .exact g1 z
  .exact g2 z
 have core:codeAny (model X.prog X.w) X.A (.compLoop (.ListComp elt [⟨.Name x px,iter,ifs,0⟩] scope pos) 0 (.ref it) (.ref acc) (compEnvC scope cl s3.heap.objs.size X.env))
   (compPost (model X.prog X.w) X.A X.xe (some (assign (.Name y py) X.env)) (fun _ s'=>SP X pins D .next s') (.ref acc) s3.heap.objs.size) {s3 with heap:=h₁,toks:=s3.toks+([]:List (Str × Value)).length}:=by
  refine codeAny_loop rfl (fun n s'=>∃i a H',Inv X' [] (a :: qbe caps σ) H' s'/\tn i s'.heap/\(∀b∈fp,H' b=none)/\W i n H') (fun n s5 hI=>?_) m0 ⟨0,none,_,I4,st4,fun b hb=>(f3 b hb).1,w0⟩
  obtain⟨i,a0,H5,I5,st5,fr5,w5⟩:=hI
  show wpAny _ _ ((compTurn _ 0 _ _ _).onRaise _) _ _ s5
  refine wpAny_noted ?_
  rw [compTurn_list]
  refine wpAny_bind (wpAny_standAt (wpAny_bind ?_))
  have aX:X'.A=X.A:=by subst hX;rfl
  have pX:X'.prog=X.prog:=by subst hX;rfl
  have wX:X'.w=X.w:=by subst hX;rfl
  have kX:X'.K=X.K:=by subst hX;rfl
  have cX:X'.calm=true:=by subst hX;exact hc
  have eX:X'.env=compEnvC scope cl s3.heap.objs.size X.env:=by subst hX;rfl
  rcases turn i n H5 w5 with ⟨stop,qn⟩ |⟨go,N,hN,step⟩
  .have z:=T.done X' pX wX kX cX i [] s5 _ H5 (fun _ _=>False) I5 (stat fr5) st5 stop
   rw [aX] at z
   refine wpAny_mono z (fun r s6 ⟨hr,I6⟩=>?_) fun _ _ q=>q.elim
   subst hr
   subst hX
   obtain⟨m,hm,_⟩:=id I6.loc
   have J0:Inv X pins σ H5 s6:=Inv.uncomp I3 f3 rfl I6 (h':=s6.heap) ⟨rfl,fun _ _=>rfl⟩
   have fC:FpOk X pins H5 s3.heap.objs.size:=I3.fpOk (Nat.le_refl _) I6.free
   refine wpAny_pure ?_
   show wpAny _ X.A (assign (.Name y py) X.env (.ref acc)) _ _ s6
   refine wpAny_assign_Name (store_ok2 (X:=X) (v:=.ref acc) J0 hN hy (.inl hly) rfl (fun s7 I7 ⟨a,sb,ha⟩=>?_) (.inr hly))
   have nC:s3.heap.objs.size≠a:=by
    rcases ha with rfl|ha
    .exact fC.2.1
    .exact(fC.2.2.2.2.1 y a ha).symm
   refine⟨m,hm.sameBut sb nC,fun h' sb'=>⟨_,H5,?_,qn⟩⟩
   exact I7.turned (t':=s7.toks) (fun b o hb e=>(sb'.2 b hb).trans e) fC.1 fC.2.1 fC.2.2.2.1 fC.2.2.2.2.1 fC.2.2.2.2.2
  .have z:=T.item X' pX wX kX cX i [] s5 _ H5 (fun _ _=>False) I5 (stat fr5) st5 go
   rw [aX] at z
   refine wpAny_mono z (fun r s6 ⟨u,hr,h6⟩=>?_) fun _ _ q=>q.elim
   subst hr
   refine wpAny_bind (wpAny_mono h6 (fun _ s7 ⟨v,H7,I7,r7,y7,st7,fr7⟩=>?_) fun _ _ q=>q.elim)
   have I7':=I7.pinned (stat fr7) (T.obj _ _ st7)
   have asg:wpAny (model X.prog X.w) X.A (assign (.Name x px) (compEnvC scope cl s3.heap.objs.size X.env) u) (fun _ s8=>Inv X' ([]++qcl fp s7.heap) (some v :: qbe caps σ) H7 s8) (fun _ _=>False) s7:=by
    subst hX
    exact wpAny_assign_Name (qdd (X:=cxC X (x :: cn) scope cl s3.heap.objs.size s3 (upd H2 acc (.lst [])) fp) (i:=0) I7' Cp.nd rfl (.inl (lookup_relabel_local Cp.tg)) r7 (fun s' I'=>I') (.inr (lookup_relabel_local Cp.tg)))
   refine wpAny_bind (wpAny_mono asg (fun _ s8 I8=>?_) fun _ _ q=>q.elim)
   have tst:wpAny (model X.prog X.w) X.A (forIn ifs true fun c r=>if r=true then do let ok<-isTrue c (compEnvC scope cl s3.heap.objs.size X.env) (eval c (compEnvC scope cl s3.heap.objs.size X.env));pure (ForInStep.yield ok) else pure (ForInStep.yield r))
     (TP X' ([]++qcl fp s7.heap) (some v :: qbe caps σ) (fun b H9=>if b=true then te s3.heap.objs.size s3 (upd H2 acc (.lst [])) fp (some v :: qbe caps σ) H9 (fun y H3=>rApp acc N y H3) else N H9)) (fun _ _=>False) s8:=by
    subst hX
    exact ht _ _ _ _ _ s8 _ H7 _ I8 (step v H7 y7)
   refine wpAny_bind (wpAny_mono tst (fun b s9 ⟨H9,I9,q9⟩=>?_) fun _ _ q=>q.elim)
   have fin:∀{a:Option V} {H10:Hp} {s10:Shared},Inv X' ([]++qcl fp s7.heap) (a :: qbe caps σ) H10 s10->N H10->∃m',m' < n/\∃i a H',Inv X' [] (a :: qbe caps σ) H' s10/\tn i s10.heap/\(∀b∈fp,H' b=none)/\W i m' H':=fun {a H10 s10} I10 n10=>
    let ⟨m',hm,w10⟩:=hN _ n10
    ⟨m',hm,i+1,a,H10,I10.unpinned,T.keep _ _ _ st7 fun b hb o e=>(I10.pin (b,o) (mem_append_right _ (mem_append_right _ (qcf hb e)))).1,fun b hb=>by
     obtain⟨o,e,d⟩:=T.obj _ _ st7 b hb
     exact(I10.pin (b,o) (mem_append_right _ (mem_append_right _ (qcf hb e)))).2.1,w10⟩
   cases b with
   |false=>exact wpAny_pure ⟨rfl,fin I9 q9⟩
   |true=>
    have elt':wpAny (model X.prog X.w) X.A (eval elt (compEnvC scope cl s3.heap.objs.size X.env)) (EP X' ([]++qcl fp s7.heap) (some v :: qbe caps σ) (fun y H3=>rApp acc N y H3)) (fun _ _=>False) s9:=by
     subst hX
     exact he _ _ _ _ _ s9 _ H9 _ I9 q9
    refine wpAny_bind (wpAny_bind (wpAny_mono elt' (fun y s10 ⟨w,H10,I10,r10,ys,ha,hz,q10⟩=>?_) fun _ _ q=>q.elim))
    have app:wpAny (model X.prog X.w) X.A (call (.builtin "list.append") [.ref acc,y]) (EP X' ([]++qcl fp s7.heap) (some v :: qbe caps σ) fun _ H11=>H11=upd H10 acc (.lst (ys++ [w]))) (fun _ _=>False) s10:=by
     subst hX
     exact qbs (X:=cxC X (x :: cn) scope cl s3.heap.objs.size s3 (upd H2 acc (.lst [])) fp) _ s10 _ H10 (.ref acc) [w] (.ref acc) [y] _ I10 rfl (.cons r10 .nil) ⟨acc,ys,w,rfl,rfl,ha,hz,rfl⟩
    refine wpAny_bind (wpAny_mono app (fun _ s11 ⟨_,H11,I11,_,e11⟩=>?_) fun _ _ q=>q.elim)
    subst e11
    exact wpAny_pure (wpAny_pure ⟨rfl,fin I11 q10⟩)
 exact codeAny_compStart_list core (T.self _ 0 _ _ _ st4 core)
end
end My
namespace My
open PySem PySem.Spec PyProof.Rows L2
end My
namespace My
open PySem PySem.Spec PyProof.Rows L2
end My
namespace My
open PySem PySem.Spec PyProof.Rows L2
section
variable {K: Frag} {σ: L2.St} {H: Hp} {Q: VK} {D: Ends} {ta tv: TE} {t: TA} {a C dx: Addr} {fs: List (Str × V)} {f m: Str} {v y: V} {sp: Sp} {dvs: List V} {E: XK}
def kMk (C:Addr) (sp:Sp) (dvs:List V) (E:XK) (Q:VK) (vs:List V) (H:Hp):Prop:=∀x dx,H x=none->H dx=none->dx≠x->sp (.ref x ::(vs++dvs)) (upd (upd H dx (.own x)) x (.ins C dx [])) (fun v H2=>v=.non/\Q (.ref x) H2) E
theorem r_mk (h:t σ H fun vs H1=>kMk C sp dvs E Q vs H1):tMake C sp dvs E t σ H Q:=h
def kMt (C:Addr) (m:Str) (sp:Sp) (dvs:List V) (E:XK) (t:TA) (σ:L2.St) (Q:VK) (x:V) (H:Hp):Prop:=∃a dx fs,x=.ref a/\H a=some (.ins C dx fs)/\fs.lookup m=none/\t σ H fun vs H2=>sp (x ::(vs++dvs)) H2 Q E
theorem r_mt (h:ta σ H fun x H1=>kMt C m sp dvs E t σ Q x H1):tMeth C m sp dvs E ta t σ H Q:=h
theorem r_mtk (e:H a=some (.ins C dx fs)) (l:fs.lookup m=none) (h:t σ H fun vs H2=>sp (.ref a ::(vs++dvs)) H2 Q E):kMt C m sp dvs E t σ Q (.ref a) H:=⟨a,dx,fs,rfl,e,l,h⟩
def kFl (K:Frag) (f:Str) (Q:VK) (x:V) (H:Hp):Prop:=∃a C dx fs v,x=.ref a/\H a=some (.ins C dx fs)/\Cls K C/\qap K C f/\fs.lookup f=some v/\Q v H
theorem r_fl (h:ta σ H fun x H1=>kFl K f Q x H1):tFld K ta f σ H Q:=h
theorem r_flk (e:H a=some (.ins C dx fs)) (c:Cls K C) (n:qap K C f) (l:fs.lookup f=some v) (h:Q v H):kFl K f Q (.ref a) H:=⟨a,C,dx,fs,v,rfl,e,c,n,l,h⟩
def kFs (K:Frag) (f:Str) (y:V) (D:Ends) (σ:L2.St) (x:V) (H:Hp):Prop:=∃a C dx fs,x=.ref a/\H a=some (.ins C dx fs)/\Cls K C/\qap K C f/\fs.length < 1000/\D.nx σ (upd H a (.ins C dx (qec f y fs)))
theorem r_fs (h:tv σ H fun y H1=>ta σ H1 fun x H2=>kFs K f y D σ x H2):sFld K ta tv f D σ H:=h
theorem qfy (e:H a=some (.ins C dx fs)) (c:Cls K C) (n:qap K C f) (hz:fs.length < 1000) (h:D.nx σ (upd H a (.ins C dx (qec f y fs)))):kFs K f y D σ (.ref a) H:=⟨a,C,dx,fs,rfl,e,c,n,hz,h⟩
end
structure IsC (K:Frag) (C:Addr):Prop where
 ha:findIn K (.ref C) "__class__" =some (some (.builtin "object.__class__"))
 hn:specialIn K (.builtin "object.__class__") "__get__" =some (some (.builtin "getset_descriptor.__get__"))
 htk:PySem.W.takesIn K (.builtin "object.__class__")=some true
 hm:mroIn K C (.type "object")=some true
end My
namespace My
open PySem PySem.Spec PyProof.Rows L2
section
variable {X: Cx} {k: Nat} {f C: Addr} {fd: FuncData} {ps: List Str} {sp: Sp} {dvs: List V} {ds: List Value} {W: L2.St -> XK} {x m: Str} {p pos apos: Pos} {e o: Expr} {es: List Expr} {ta: TE} {t: TA}
def tMethX (C:Addr) (m:Str) (sp:Sp) (dvs:List V) (W:L2.St->XK) (ta:TE) (t:TA):TE:=fun σ H Q=>ta σ H fun x H1=>∃a dx fs,x=.ref a/\H1 a=some (.ins C dx fs)/\fs.lookup m=none/\t σ H1 fun vs H2=>sp (x ::(vs++dvs)) H2 Q (W σ)
theorem qaz {pl:Sem Bool} (he:PE X o ta) (c:Cls X.K C) (hm:Meth X.K C m f) (F:FnOk X.prog X.w X.K X.mg X.base (CX1 X.prog X.w) k f fd ps sp) (hr:Room k X.A) (hb:qaj X.K fd ps ds) (hd:qbj dvs ds) (hx:Xes X W) (ha:PA X (e :: es) t) (hex:X.ex=[]:=by rfl)
  (hst:starEach (e :: es) X.env=(false,eval e X.env) :: starEach es X.env:=by rfl) (hpl:(backTo pos (starEach es X.env)).any (·.1)=false:=by rfl)
  (ht:eval (.Call (.Attribute o m apos) (e :: es) [] pos) X.env=(do
   let ov<-eval o X.env
   standAt apos.atName
   let (f,first)<-holding [ov] (getMethod ov m pl)
   callWith pos f first (backTo pos (starEach (e :: es) X.env)) (backToKw pos (keywordEach [] X.env))):=by rfl):
  PE X (.Call (.Attribute o m apos) (e :: es) [] pos) (tMethX C m sp dvs W ta t):=by
 intro pins s σ H Q I h
 refine PySem.W.methodCall_KW (pl:=pl) (thn (he pins s σ H _ I h) fun u s1 ⟨x,H1,I1,rx,a,dx,fs,ex,ea,l,q⟩=>?_) ht
 subst ex
 obtain rfl:u=Value.ref a:=rx
 refine qdi I1 ea c hm l (PySem.W.callWith_K (first:=[.ref a]) (h₀:=X.base) I.ok.mod.kin hm.kp (thn (ha pos pins s1 σ H1 _ I1 q) fun us s2 ⟨vs,H2,I2,r,q2⟩=>⟨I2.kIn,?_⟩) hst hpl)
 exact run_fnX (us:=.ref a :: us) (vs:=.ref a :: vs) F hr hb hd hx hex I2 (.cons rfl r) q2
theorem pe_methX0 {pl:Sem Bool} (he:PE X o ta) (c:Cls X.K C) (hm:Meth X.K C m f) (F:FnOk X.prog X.w X.K X.mg X.base (CX1 X.prog X.w) k f fd ps sp) (hr:Room k X.A) (hb:qaj X.K fd ps ds) (hd:qbj dvs ds) (hx:Xes X W) (hex:X.ex=[]:=by rfl)
  (ht:eval (.Call (.Attribute o m apos) [] [] pos) X.env=(do
   let ov<-eval o X.env
   standAt apos.atName
   let (f,first)<-holding [ov] (getMethod ov m pl)
   callWith pos f first (backTo pos (starEach [] X.env)) (backToKw pos (keywordEach [] X.env))):=by rfl):
  PE X (.Call (.Attribute o m apos) [] [] pos) (tMethX C m sp dvs W ta tNil):=by
 intro pins s σ H Q I h
 refine PySem.W.methodCall_KW (pl:=pl) (thn (he pins s σ H _ I h) fun u s1 ⟨x,H1,I1,rx,a,dx,fs,ex,ea,l,q⟩=>?_) ht
 subst ex
 obtain rfl:u=Value.ref a:=rx
 exact qdi I1 ea c hm l (PySem.W.callWith_K0 (first:=[.ref a]) I1.kIn hm.kp (run_fnX (us:=[.ref a]) (vs:=[.ref a]) F hr hb hd hx hex I1 (.cons rfl .nil) q))
def tMakeX (C:Addr) (sp:Sp) (dvs:List V) (W:L2.St->XK) (t:TA):TE:=fun σ H Q=>t σ H fun vs H1=>∀x dx,H1 x=none->H1 dx=none->dx≠x->sp (.ref x ::(vs++dvs)) (upd (upd H1 dx (.own x)) x (.ins C dx [])) (fun v H2=>v=.non/\Q (.ref x) H2) (W σ)
theorem run_makeX {pins:List (Addr × Obj)} {σ:L2.St} {H:Hp} {s:Shared} {Q:VK} {us:List Value} {vs:List V} (M:Mk X.K C f) (F:FnOk X.prog X.w X.K X.mg X.base (CX1 X.prog X.w) k f fd ps sp) (hr:Room (k+1) X.A) (hb:qaj X.K fd ps ds) (hd:qbj dvs ds)
  (hx:Xes X W) (hex:X.ex=[]) (I:Inv X pins σ H s) (r:qbj vs us)
  (h:∀x dx,H x=none->H dx=none->dx≠x->sp (.ref x ::(vs++dvs)) (upd (upd H dx (.own x)) x (.ins C dx [])) (fun v H2=>v=.non/\Q (.ref x) H2) (W σ)):
  wpAny (model X.prog X.w) X.A (call (.ref C) us) (EP X pins σ Q) X.xe s:=by
 have hq:=h (s.heap.objs.size+1) s.heap.objs.size (I.hok.fresh (Nat.le_succ _)) (I.hok.fresh (Nat.le_refl _)) (Nat.ne_of_lt (Nat.lt_succ_self _))
 have I2:=Inv.made (C:=C) I
 have r2:qbj (V.ref (s.heap.objs.size+1) ::(vs++dvs)) (Value.ref (s.heap.objs.size+1) ::(us++ds)):=.cons rfl (r.append hd)
 have hl:(Value.ref (s.heap.objs.size+1) :: us++ds).length=ps.length:=by
  have e:=r2.length
  rw [F.len _ _ _ _ hq] at e
  exact e.symm
 refine wpAny_call (make_map (f:=f) I.kIn M.makes M.init (beq_iff_eq.mp M.fn) (codeAny_mono (F.run _ X.stack _ _ ⟨Value.ref (s.heap.objs.size+1) :: us, []⟩ (Value.ref (s.heap.objs.size+1) ::(us++ds)) _ _ (W σ) (hr.make C us [])
  (I2.env0.make C us []) (hb _ (Value.ref (s.heap.objs.size+1) :: us) I2.kIn hl) r2 hq) fun r s' hq'=>?_))
 cases r with
 |error e=>exact xes_call hx hex I2 hq'
 |ok fl=>
  cases fl with
  |ret u=>
   obtain⟨v,H',I3,rv,ev,q3⟩:=I2.after hq'
   subst ev
   exact⟨rv,⟨V.ref (s.heap.objs.size+1),H',I3,rfl,q3⟩⟩
  |next=>exact False.elim hq'
  |brk=>exact False.elim hq'
  |cont=>exact False.elim hq'
theorem pe_makeX (M:Mk X.K C f) (F:FnOk X.prog X.w X.K X.mg X.base (CX1 X.prog X.w) k f fd ps sp) (hr:Room (k+1) X.A) (hg:Gl X x) (hm:X.mg x=some (.ref C)) (hb:qaj X.K fd ps ds) (hd:qbj dvs ds) (hx:Xes X W)
  (ha:PA X (e :: es) t) (hex:X.ex=[]:=by rfl) (hdb:(x==("__debug__" :Str))=false:=by decide) (he:starEach (e :: es) X.env=(false,eval e X.env) :: starEach es X.env:=by rfl) (hpl:(backTo pos (starEach es X.env)).any (·.1)=false:=by rfl):
  PE X (.Call (.Name x p) (e :: es) [] pos) (tMakeX C sp dvs W t):=by
 intro pins s σ H Q I h
 refine wpAny_Call_Name_kw (qdu I hg hm ?_ hdb)
 refine PySem.W.callWith_K (h₀:=X.base) I.ok.mod.kin M.kp (thn (ha pos pins s σ H _ I h) fun us s1 ⟨vs,H1,I1,r,q⟩=>⟨I1.kIn,?_⟩) he hpl
 exact run_makeX M F hr hb hd hx hex I1 r q
end
structure FunD (K:Frag) (x qual:Str) (st:Stmt) (f:Addr) (fd:FuncData) (T:Addr) (items:Array Value):Prop where
 ex:∃(oc:Value) (od:Option Addr) (kV doc pm:Value) (an:Option Addr) (cdv ct:Value) (osl:Array (Option Value)),
  fd=fnOf x qual (qbd st) (qbo st) (qa8 st) (.ref T) kV doc pm an cdv ct/\K.lookup f=some ⟨oc,od,.func fd,osl⟩/\codeIn K cdv qual=true
 kp:keepIn K (.ref f)=true
 tup:∃(o:Obj) (n:Nat),K.lookup T=some o/\o.data=.seq items n
section
variable {K: Frag} {x qual: Str} {st: Stmt} {f T: Addr} {fd: FuncData} {ps: List Str} {items: Array Value}
theorem FunD.binds (F:FunD K x qual st f fd T items) {ds:List Value} (h:∀(kV doc pm:Value) (an:Option Addr) (cdv ct:Value) (us:List Value),(us++ds).length=ps.length->
   bindArgs (fnOf x qual (qbd st) (qbo st) (qa8 st) (.ref T) kV doc pm an cdv ct) ⟨us, []⟩=pure (ps.zip (us++ds))\/
   ∃g:Option (Array Value)->Sem (List (Str × Value)),bindArgs (fnOf x qual (qbd st) (qbo st) (qa8 st) (.ref T) kV doc pm an cdv ct) ⟨us, []⟩=seqItems? (.ref T) >>= g/\g (some items)=pure (ps.zip (us++ds))):qaj K fd ps ds:=by
 obtain⟨oc,od,kV,doc,pm,an,cdv,ct,osl,rfl,lk,hcd⟩:=F.ex
 obtain⟨o,n,hT,hd⟩:=F.tup
 intro s us KX hl
 rcases h kV doc pm an cdv ct us hl with h|⟨g,h1,h2⟩
 .exact .of_eq h
 .exact BindsTo.of_defaults (T:=T) rfl (KX _ _ hT) hd h1 h2
end
section
variable {σ: L2.St} {H: Hp} {Q: VK} {ta: TE} {t: TA} {a C dx: Addr} {fs: List (Str × V)} {m: Str} {sp: Sp} {dvs: List V} {W: L2.St -> XK}
def kMtX (C:Addr) (m:Str) (sp:Sp) (dvs:List V) (W:L2.St->XK) (t:TA) (σ:L2.St) (Q:VK) (x:V) (H:Hp):Prop:=∃a dx fs,x=.ref a/\H a=some (.ins C dx fs)/\fs.lookup m=none/\t σ H fun vs H2=>sp (x ::(vs++dvs)) H2 Q (W σ)
theorem r_mtX (h:ta σ H fun x H1=>kMtX C m sp dvs W t σ Q x H1):tMethX C m sp dvs W ta t σ H Q:=h
theorem r_mtkX (e:H a=some (.ins C dx fs)) (l:fs.lookup m=none) (h:t σ H fun vs H2=>sp (.ref a ::(vs++dvs)) H2 Q (W σ)):kMtX C m sp dvs W t σ Q (.ref a) H:=⟨a,dx,fs,rfl,e,l,h⟩
def kMkX (C:Addr) (sp:Sp) (dvs:List V) (W:L2.St->XK) (σ:L2.St) (Q:VK) (vs:List V) (H:Hp):Prop:=∀x dx,H x=none->H dx=none->dx≠x->sp (.ref x ::(vs++dvs)) (upd (upd H dx (.own x)) x (.ins C dx [])) (fun v H2=>v=.non/\Q (.ref x) H2) (W σ)
theorem r_mkX (h:t σ H fun vs H1=>kMkX C sp dvs W σ Q vs H1):tMakeX C sp dvs W t σ H Q:=h
end
end My
namespace My
open PySem PySem.Spec PyProof.Rows L2
end My
namespace My
open PySem PySem.Spec PyProof.Rows L2
section
variable {prog: Program} {w: World} {A: Around} {E: Value -> Shared -> Prop}
theorem drawL {j l:Addr} {xs:List Value} (ne:l≠j):∀(todo:List Value) (i:Nat) (s:Shared) (Q:List Value->Shared->Prop),xs.drop i=todo->s.heap.IsListIter j l i->s.heap.IsList l xs.toArray->
  (∀h',h'.IsListIter j l (i+todo.length)->(∀b o,b≠j->s.heap.get? b=some o->h'.get? b=some o)->Q todo {s with heap:=h'})->wpAny (model prog w) A (draw (.ref j) todo.length) Q E s
 | [],i,s,Q,_,st,_,q=>by
  show wpAny _ _ (pure []) _ _ _
  exact wpAny_pure (q s.heap st fun _ _ _ e=>e)
 |x :: todo,i,s,Q,hd,st,hl,q=>by
  have hx:xs[i]?=some x:=by
   have z:=congrArg (fun l=>l[0]?) hd
   simpa using z
  have hd2:xs.drop (i+1)=todo:=by
   have z:=congrArg (List.drop 1) hd
   simpa [List.drop_drop] using z
  show wpAny _ _ (pyNext (.ref j) >>= _) _ _ _
  refine wpAny_bind (wpAny_pyNext_list_item st hl (x:=x) (by simpa using hx) fun h1 st1 sb=>?_)
  have kp:∀b o,b≠j->s.heap.get? b=some o->h1.get? b=some o:=fun b o hb e=>(sb.2 b hb).trans e
  refine wpAny_bind (wpAny_holding (drawL ne todo (i+1) _ _ hd2 st1 (hl.at fun o e=>kp _ o ne e) fun h2 st2 kp2=>wpAny_pure ?_))
  refine q h2 ?_ fun b o hb e=>kp2 b o hb (kp b o hb e)
  rw [length_cons,show i+(todo.length+1)=i+1+todo.length by omega]
  exact st2
theorem assignL {s:Shared} {env:Env} {elts:List Expr} {x1} {pos:Pos} {l:Addr} {xs:List Value} {Q:Unit->Shared->Prop} (calm:A.handled=none) (hl:s.heap.IsList l xs.toArray) (hn:(assignEach elts env).length=xs.length) (hst:(assignEach elts env).findIdx? (·.1)=none)
  (q:∀h',(∀b o,s.heap.get? b=some o->h'.get? b=some o)->wpAny (model prog w) A (assignInOrder ((assignEach elts env).map (·.2)) xs) Q E {s with heap:=h'}):wpAny (model prog w) A (assign (.Tuple elts x1 pos) env (.ref l)) Q E s:=by
 have ne:l≠s.heap.objs.size:=by obtain⟨o,ho,_⟩:=hl;exact Nat.ne_of_lt (Heap.lt_size ho)
 rw [assign_Tuple]
 refine wpAny_bind (wpAny_standAt ?_)
 unfold unpack
 rw [hn,hst]
 refine wpAny_bind (wpAny_holding ?_)
 unfold unpackItems notIterableAtAll
 refine wpAny_bind (wpAny_bind (wpAny_specialOf hl.typeIs F.slot_list_iter.lookup (wpAny_pure ?_)))
 simp only [Bool.false_eq_true,if_false]
 have hl1:(s.heap.push {cls:=.type "list_iterator",data:=.fields #[.ref l,.int 0 0]}).IsList l xs.toArray:=hl.at fun o e=>Heap.get?_push_of_some _ e
 refine wpAny_bind (wpAny_holding (wpAny_pyIter_list hl (wpAny_bind (wpAny_holding (drawL ne xs 0 _ _ (by simp) ⟨_,Heap.get?_push_size _ rfl,rfl,rfl⟩ hl1 fun h1 st1 kp=>?_)))))
 rw [if_neg (Nat.lt_irrefl _)]
 refine wpAny_bind (wpAny_holding (wpAny_pyNext_list_end calm st1 (hl1.at fun o e=>kp _ o ne e) (by simp) fun h2 kp2=>?_))
 simp only [Option.isSome_none,Bool.false_eq_true,if_false]
 refine wpAny_pure (q h2 fun b o e=>?_)
 have nb:b≠s.heap.objs.size:=Nat.ne_of_lt (Heap.lt_size e)
 exact kp2 b o nb (kp b o nb (Heap.get?_push_of_some _ e))
end
section
variable {X: Cx} {pos: Pos}
def gLst (K:Frag) (n:Nat) (t:TGs):TG:=fun v σ H Q=>∃a xs,v=.ref a/\SqL K H a xs/\xs.length=n/\t xs σ H Q
theorem qfc {es:List Expr} {k:Nat} {t:TGs} {n:Nat} (hc:X.calm=true) (h:PGs X es t) (hn:(assignEach es X.env).length=n:=by rfl) (hst:(assignEach es X.env).findIdx? (·.1)=none:=by rfl):PG X (.Tuple es k pos) (gLst X.K n t):=by
 intro pins s σ H v u Q I r hw
 obtain⟨a,xs,rfl,hq,hl,hw⟩:=hw
 cases r
 obtain⟨ws,rv,pl,_⟩:=I.list hq
 refine assignL (I.ok.hd hc) (PlainL.isList pl) (by rw [hn,<-hl,rv.length]) hst fun h' kp=>?_
 exact h pins _ σ H xs _ Q (I.kept (t':=s.toks) kp) rv hw
end
theorem r_glst {K:Frag} {σ:L2.St} {H:Hp} {a:Addr} {xs:List V} {n:Nat} {t:TGs} {Q:L2.St->Hp->Prop} (s:SqL K H a xs) (hn:xs.length=n) (h:t xs σ H Q):gLst K n t (.ref a) σ H Q:=⟨a,xs,rfl,s,hn,h⟩
end My
namespace My
open PySem PySem.Spec PyProof.Rows L2
def kDs (p:Addr) (Q:VK) (x y:V) (H2:Hp):Prop:=H2 p=some (.dK [])/\∃kvs:List (Key × V), [(x,y)]=kvs.map (fun kv=>(kV kv.1,kv.2))/\kvs.length<=15/\Q (.ref p) (upd H2 p (.dK (qg3 [] kvs)))
theorem r_disp1 {σ:L2.St} {H:Hp} {Q:VK} {tk tv:TE} (h:∀p,H p=none->tk σ (upd H p (.dK [])) fun x H1=>tv σ H1 fun y H2=>kDs p Q x y H2):tDisp [(tk,tv)] σ H Q:=fun p hp=>h p hp
theorem r_ds {H:Hp} {Q:VK} {p:Addr} {z:Str} {y:V} (e:H p=some (.dK [])) (h:Q (.ref p) (upd H p (.dK [(Sum.inr z,y)]))):kDs p Q (.str z) y H:=⟨e, [(Sum.inr z,y)],rfl,Nat.le_of_ble_eq_true rfl,h⟩
end My
namespace My
open PySem PySem.Spec PyProof.Rows L2
section
variable {P: Program} {w: World} {K: Frag} {mg: Str -> Option Value} {base: Heap} {x qual: Str} {st: Stmt} {f T: Addr} {fd: FuncData} {N ps: List Str} {k: Nat} {sp: Sp} {items: Array Value}
theorem okDX (F:FunD K x qual st f fd T items) (S:FnScope N ps (qa8 st)) (len:∀vs H Q E,sp vs H Q E->vs.length=ps.length)
  (hbody:∀(cdv:Value) (A:Around) (outer:List Env) (s:Shared) (H:Hp) (vs:List V) (Q:VK) (E:XK),Room k (A.deeper (envOfC qual (qa8 st) s.heap.objs.size f cdv))->sp vs H Q E->
   ∃t,PSs (xw (cxOf (CX1 P w) P w K mg base N qual (qa8 st) f cdv A outer s H E) (fun _=>E)) (qbo st) t/\t {nx:=fun _ H'=>Q .non H',rt:=Q} (start N vs) H):FnOk P w K mg base (CX1 P w) (k+1) f fd ps sp:=by
 obtain⟨oc,od,kV,doc,pm,an,cdv,ct,osl,rfl,lk,hcd⟩:=F.ex
 refine fn_of lk hcd S len fun A outer s H vs Q E hr hsp=>?_
 obtain⟨t,ht,q⟩:=hbody cdv A outer s H vs Q E hr hsp
 exact⟨t,PSs.xes xes_fn ht,q⟩
theorem funD_mk {oc:Value} {od an:Option Addr} {osl:Array (Option Value)} {kV doc pm cdv ct:Value} {o:Obj} {n:Nat} (l:K.lookup f=some ⟨oc,od,.func (fnOf x qual (qbd st) (qbo st) (qa8 st) (.ref T) kV doc pm an cdv ct),osl⟩)
  (c:codeIn K cdv qual=true) (kp:keepIn K (.ref f)=true) (t:K.lookup T=some o) (hd:o.data=.seq items n):FunD K x qual st f (fnOf x qual (qbd st) (qbo st) (qa8 st) (.ref T) kV doc pm an cdv ct) T items:=
 ⟨⟨oc,od,kV,doc,pm,an,cdv,ct,osl,rfl,l,c⟩,kp,o,n,t,hd⟩
end
end My
namespace My
open PySem PySem.Spec PyProof.Rows L2
def oK (hs:List (Str × Addr)):List (Key × V):=hs.map fun p=>(Sum.inr p.1,.ref p.2)
def qci:List (Str × Addr)->Str->Option Addr
 | [],_=>none
 |p :: r,z=>if p.1=z then some p.2 else qci r z
theorem qey (z:Str):∀hs:List (Str × Addr),qce (oK hs) (Sum.inr z)=(qci hs z).map V.ref
 | []=>rfl
 |p :: r=>by
  have ih:=qey z r
  unfold qce oK at ih ⊢
  rw [map_cons,find?_cons]
  by_cases h:p.1=z
  .have e:decide ((Sum.inr p.1:Key)=Sum.inr z)=true:=by rw [h];exact decide_eq_true rfl
   simp only [e,qci,if_pos h]
   rfl
  .have e:decide ((Sum.inr p.1:Key)=Sum.inr z)=false:=decide_eq_false fun q=>h (Sum.inr.inj q)
   simp only [e,qci,if_neg h]
   exact ih
theorem lookO_mem {z:Str} {h:Addr}:∀{hs:List (Str × Addr)},qci hs z=some h->(z,h)∈hs
 |p :: r,e=>by
  unfold qci at e
  by_cases q:p.1=z
  .rw [if_pos q] at e
   have e':=Option.some.inj e
   rw [<-q,<-e']
   exact mem_cons_self ..
  .rw [if_neg q] at e
   exact mem_cons_of_mem _ (lookO_mem e)
theorem qdg {z:Str}:∀{hs:List (Str × Addr)},qci hs z=none↔z∉hs.map (·.1)
 | []=>by simp [qci]
 |p :: r=>by
  have ih:=qdg (z:=z) (hs:=r)
  unfold qci
  by_cases q:p.1=z
  .rw [if_pos q]
   simp [q]
  .rw [if_neg q,ih]
   simp [Ne.symm q,fun e:z=p.1=>q e.symm]
theorem qgf {z:Str} {h:Addr}:∀{hs:List (Str × Addr)},(hs.map (·.1)).Nodup->(z,h)∈hs->qci hs z=some h
 |p :: r,nd,m=>by
  rw [map_cons,nodup_cons] at nd
  unfold qci
  rcases mem_cons.mp m with e|e
  .rw [<-e,if_pos rfl]
  .have q:p.1≠z:=fun q=>nd.1 (by rw [q];exact mem_map.mpr ⟨(z,h),e,rfl⟩)
   rw [if_neg q]
   exact qgf nd.2 e
theorem putK_oK {hs:List (Str × Addr)} {z:Str} {h:Addr} (n:qci hs z=none):qc3 (oK hs) (Sum.inr z) (.ref h)=oK (hs++ [(z,h)]):=by
 have hn:=qdg.mp n
 have e:((oK hs).any fun kv=>decide (kv.1=Sum.inr z))=false:=by
  rw [List.any_eq_false]
  intro kv hkv
  obtain⟨p,hp,rfl⟩:=mem_map.mp hkv
  intro q
  have q':=Sum.inr.inj (of_decide_eq_true q)
  exact hn (mem_map.mpr ⟨p,hp,q'⟩)
 unfold qc3
 rw [if_neg (by rw [e];decide)]
 unfold oK
 rw [map_append];rfl
theorem oK_len (hs:List (Str × Addr)):(oK hs).length=hs.length:=length_map _
theorem oK_keys (hs:List (Str × Addr)):(oK hs).map (·.1)=(hs.map (·.1)).map Sum.inr:=by unfold oK;rw [List.map_map,List.map_map];rfl
section
variable {H: Hp} {Q: VK} {a h: Addr} {hs: List (Str × Addr)} {z: Str}
theorem r_diO (d:Rd H a (.dK (oK hs))) (q:Q (.bl (qci hs z).isSome) H):rDI (.ref a) (.str z) H Q:=by
 refine⟨a,qce (oK hs) (Sum.inr z),rfl,.inl ⟨_,Sum.inr z,d,rfl,rfl⟩,?_⟩
 rw [qey,Option.isSome_map]
 exact q
theorem r_dgO (d:Rd H a (.dK (oK hs))) (e:qci hs z=some h) (q:Q (.ref h) H):rDGk (.ref a) (.str z) H Q:=
 ⟨a,.ref h,rfl,.inl ⟨_,Sum.inr z,d,rfl,by rw [qey,e];rfl⟩,q⟩
end
end My
set_option exponentiation.threshold 2000
namespace My
open PySem PySem.Spec PyProof.Rows L2
end My
set_option maxHeartbeats 3200000
namespace My
open PySem PySem.Spec PyProof.Rows L2
section
variable {P: Program} {w: World} {A: Around}
theorem sk_is (z:Str) (t:Tok):(strKind P w).is z (.str z t)=true:=by
 show Value.isStrOf z (.str z t)=true
 simp [Value.isStrOf]
theorem take_in {zs:List Str} {i:Nat} {z:Str} (nd:zs.Nodup) (h:zs[i]?=some z):(zs.take i).contains z=false:=by
 rw [<-Bool.not_eq_true,List.contains_iff_mem]
 intro m
 obtain⟨j,hj,e⟩:=mem_iff_getElem.mp m
 obtain⟨hi,e2⟩:=List.getElem?_eq_some_iff.mp h
 rw [length_take] at hj
 rw [List.getElem_take] at e
 exact(List.pairwise_iff_getElem.mp nd) j i (by omega) hi (by omega) (by rw [e,e2])
theorem take_next {zs:List Str} {i:Nat} {z:Str} (h:zs[i]?=some z) (y:Str):((zs.take i).contains y || decide (y=z))=(zs.take (i+1)).contains y:=by
 rw [take_add_one,h,Bool.eq_iff_iff,Bool.or_eq_true,List.contains_iff_mem,List.contains_iff_mem,mem_append,decide_eq_true_iff]
 simp
theorem setT_loop {R:Result->Shared->Prop} {it c:Addr} {fp wr:List Addr} {G:Array GenState->Array GenState->Prop} {zs:List Str} {pv:Nat->Value->Prop} {St:Nat->Shared->Prop}
  (W:WalksS P w A.in1 it fp wr G zs.length pv St) (hc:c∉fp) (nd:zs.Nodup) (hv:∀i v,pv i v->∃z t,zs[i]?=some z/\v=.str z t) (hb:zs.length+1 < scanBound):
  ∀(k i:Nat) (s:Shared),zs.length - i=k->i<=zs.length->St i s->s.heap.SetOf (strKind P w) c (fun y=>(zs.take i).contains y) i->
   (∀s',Moved (c :: wr) G s s'->s'.heap.SetOf (strKind P w) c (fun y=>(zs.take zs.length).contains y) zs.length->R (.ok (.ret .none)) s')->
   codeAny (model P w) A (.builtin "set.update.loop" ⟨[.ref c,.ref it], []⟩) R s:=by
 have cw:c∉wr:=fun h=>hc (W.sub _ h)
 have stays:∀{n:Nat} {S:Str->Bool} {s s':Shared},Moved wr G s s'->s.heap.SetOf (strKind P w) c S n->s'.heap.SetOf (strKind P w) c S n:=fun hm hS=>by
  obtain⟨o,es,ep,t,ho,rest⟩:=hS
  exact⟨o,es,ep,t,hm.heap c _ cw ho,rest⟩
 intro k
 induction k with
 |zero=>
  intro i s hk hi st hS hR
  have e:i=zs.length:=by omega
  subst e
  refine codeAny_builtin PyProof.Rows.F.entry_set_update_loop ?_
  rw [Around.under_plainId PyProof.Rows.F.plain_set_update_loop]
  show wpAny _ _ (pyNext (.ref it) >>= _) _ _ _
  refine wpAny_bind (W.done s _ _ st fun s1 hm=>?_)
  exact wpAny_pure (hR s1 (hm.mono fun b h=>mem_cons_of_mem _ h) (stays hm hS))
 |succ k ih=>
  intro i s hk hi st hS hR
  have lt:i < zs.length:=by omega
  refine codeAny_builtin PyProof.Rows.F.entry_set_update_loop ?_
  rw [Around.under_plainId PyProof.Rows.F.plain_set_update_loop]
  show wpAny _ _ (pyNext (.ref it) >>= _) _ _ _
  refine wpAny_bind (W.item i s _ _ lt st fun v s1 hp st1 hm=>?_)
  obtain⟨z,t,hz,rfl⟩:=hv i v hp
  have S1:=stays hm hS
  show wpAny _ _ (holding [Value.str z t] (setAdd c (.str z t)) >>= _) _ _ _
  refine wpAny_bind (wpAny_holding ?_)
  unfold setAdd
  refine wpAny_holding (wpAny_bind ((strKind P w).pyHash (k:=z) (sk_is z t) ?_))
  refine wpAny_setAddHashed_of (knd:=strKind P w) (s:={s1 with toks:=s1.toks+1}) (sk_is z t) rfl S1 (by omega) fun h2 sb S2=>?_
  have S3:h2.SetOf (strKind P w) c (fun y=>(zs.take (i+1)).contains y) (i+1):=SetOf_congr S2 (take_next hz) (by simp only [take_in nd hz];rfl)
  refine wpAny_pure ⟨plainId_quiet PyProof.Rows.F.plain_set_update_loop _,ih (i+1) _ (by omega) lt (W.frame _ s1 _ _ st1 (Nat.le_succ _) fun b h o e=>?_) S3 fun s4 hm4 S4=>?_⟩
  .rw [sb.2 b fun q=>hc (q ▸ h)];exact e
  .refine hR s4 (Moved.trans W.gtrans ((hm.mono fun b h=>mem_cons_of_mem _ h).then_heap (Nat.le_succ _) fun b o h e=>?_) hm4) S4
   rw [sb.2 b fun q=>h (q ▸ mem_cons_self)];exact e
abbrev setO (led:Bool):Obj:={cls:=.type "set",dict:=none,data:=.set #[] 0 (.fresh 0 0 led)}
theorem setT_call {E:Value->Shared->Prop} {s:Shared} {l:Addr} {items:Array Value} {zs:List Str} {Q:Value->Shared->Prop} (hh:A.handled=none) (hl:s.heap.IsList l items) (hi:StrsAre items.toList zs) (nd:zs.Nodup) (hb:zs.length+1 < scanBound)
  (h:∀(h':Heap) (tk:Nat),h'.SetOf (strKind P w) s.heap.objs.size (fun y=>(zs.take zs.length).contains y) zs.length->(∀b o,b < s.heap.objs.size->s.heap.get? b=some o->h'.get? b=some o)->Q (.ref s.heap.objs.size) {s with heap:=h',toks:=tk}):
  wpAny (model P w) A (call (.type "set") [.ref l]) Q E s:=by
 obtain⟨c,tl,hmro⟩:=PySem.F.called_set.mro
 have hmade:=PySem.F.called_set.made
 have hsub:=PySem.F.called_set.sub
 refine wpAny_call (codeAny_of_tree ?_)
 show wpAny _ _ (callAny (.type "set") _) _ _ _
 refine wpAny_pure ⟨Code.quiet_builtin _ (by decide+kernel),codeAny_builtin PySem.F.entry_type_call ?_⟩
 rw [Around.under_plain (weight_type_call_type "set" [.ref l] []) rfl]
 have h1:=PySem.F.called_set.notType
 have h2:=PySem.F.called_set.canCreate
 have hct:=PySem.F.typeCall_set_1 (.ref l)
 repeat any_goals first|assumption|wp_step
 refine codeAny_mono (code_set_new_1 (.ref l) (E:=E) (Q₁:=fun x s1=>∃led:Bool,x=.ref s.heap.objs.size/\s1={s with heap:=s.heap.push (setO led)}) fun led=>⟨led,rfl,rfl⟩) fun r s1 hr=>?_
 cases r with
 |error e=>exact hr
 |ok fl=>
  cases fl with
  |ret obj=>
   obtain⟨led,rfl,rfl⟩:=hr
   have hS:(s.heap.push (setO led)).get? s.heap.objs.size=some (setO led):=Heap.get?_push_size _ rfl
   have hT:Shared.TypeIs {s with heap:=s.heap.push (setO led)} (.ref s.heap.objs.size) "set":=⟨_,hS,rfl⟩
   have hli:=PySem.F.called_set.init.lookup
   have hbi:=PySem.F.called_set.init.bind (.ref s.heap.objs.size)
   repeat any_goals first|assumption|wp_step
   refine codeAny_mono (codeAny_call_builtin (R:=wants (fun x s2=>x=.none/\∃h' tk,s2={s with heap:=h',toks:=tk}/\h'.SetOf (strKind P w) s.heap.objs.size (fun y=>(zs.take zs.length).contains y) zs.length/\(∀b o,b < s.heap.objs.size->s.heap.get? b=some o->h'.get? b=some o)) E) PySem.F.called_set.init.plain PySem.F.entry_set_init (check_set_init_1 hT ?_)) fun r2 s2 hr2=>?_
   .obtain⟨ol,hol,hcl,nl,hdl⟩:=hl
    obtain⟨ocls,odict,odata,oslots⟩:=ol
    dsimp only at hcl hdl
    subst hcl hdl
    have hol':=Heap.get?_push_of_some (setO led) hol
    have q1:=PySem.F.sub_list_set
    have q2:=PySem.F.sub_list_frozenset
    have q3:(Value.type "list" ==Value.type "dict")=false:=by decide
    have hl1:(s.heap.push (setO led)).IsList l items:=⟨_,hol',rfl,nl,rfl⟩
    unfold Builtin.«set.__init__» noKeywords Builtin.Frozenset.updateFrom
    generalize hPI:pyIter=PI
    wp_walk
    subst hPI
    refine wpAny_pyIter_list hl1 (wpAny_bind (wpAny_runValue ?_))
    have lS:l < s.heap.objs.size:=Heap.lt_size hol
    have h3:A.in1.in1.in1.handled=none:=by simp [hh]
    have nI:l≠(s.heap.push (setO led)).objs.size:=by
     rw [Heap.size_push];exact Nat.ne_of_lt (Nat.lt_succ_of_lt lS)
    have nS:s.heap.objs.size∉ [(s.heap.push (setO led)).objs.size,l]:=by
     rw [Heap.size_push]
     intro z
     simp only [mem_cons,not_mem_nil,or_false] at z
     rcases z with z|z
     .exact absurd z (Nat.ne_of_lt (Nat.lt_succ_self _))
     .rw [z] at lS;exact Nat.lt_irrefl _ lS
    have ez:items.size=zs.length:=by
     have:=hi.length
     simpa using this
    have W:WalksS P w A.in1.in1.in1 _ _ _ _ items.size _ _:=(Walks.list h3 _ l nI items).toS
    rw [ez] at W
    refine setT_loop (zs:=zs) W nS nd (fun i v hv=>?_) hb (zs.length - 0) 0 _ (by omega) (Nat.zero_le _) ⟨⟨_,Heap.get?_push_size _ rfl,rfl,rfl⟩,hl1.push _⟩ ?_ ?_
    .obtain⟨y,t,e1,e2⟩:=hi.item i v (by rw [Array.getElem?_toList];exact hv)
     exact⟨y,t,e2,e1⟩
    .have hget:=Heap.get?_push_of_some {cls:=.type "list_iterator",data:=.fields #[.ref l,.int 0 0]} hS
     exact SetOf_congr ((setObjOf_fresh (knd:=strKind P w) led).setOf hget (by unfold scanBound;omega)) (fun _=>rfl) rfl
    .intro s4 hm hS4
     obtain⟨h4,g4,d4,tk4,os4⟩:=s4
     have eg:g4=s.gens:=hm.gens
     have ed:d4=s.drawn:=hm.drawn
     have eo:os4=s.os:=hm.os
     subst eg ed eo
     refine wpAny_pure ?_
     refine wpAny_pure ⟨rfl,h4,tk4,rfl,hS4,fun b o hb' e=>?_⟩
     refine hm.heap b o (fun z=>?_) (Heap.get?_push_of_some _ (Heap.get?_push_of_some _ e))
     rw [Heap.size_push] at z
     simp only [mem_cons,not_mem_nil,or_false] at z
     rcases z with z|z
     .rw [z] at hb';exact Nat.lt_irrefl _ hb'
     .rw [z] at hb';exact Nat.lt_irrefl _ (Nat.lt_trans (Nat.lt_succ_self _) hb')
   .cases r2 with
    |error e=>exact hr2
    |ok fl2=>
     cases fl2 with
     |ret r=>
      obtain⟨rfl,h',tk,rfl,hS',hk'⟩:=hr2
      repeat any_goals first|assumption|wp_step
      exact h _ _ hS' hk'
     |next=>exact hr2.elim
     |brk=>exact hr2.elim
     |cont=>exact hr2.elim
  |next=>exact hr.elim
  |brk=>exact hr.elim
  |cont=>exact hr.elim
end
def SetT (P:Program) (w:World) (c:Addr) (n:Nat):HO:=.ext fun h=>∃S,h.SetOf (strKind P w) c S n
def rSetT (P:Program) (w:World) (K:Frag):List V->Hp->VK->Prop:=fun xs H Q=>∃(p:Addr) (zs:List Str),xs=[.ref p]/\SqL K H p (zs.map V.str)/\zs.Nodup/\zs.length<=60/\∀c,H c=none->Q (.ref c) (upd H c (SetT P w c zs.length))
def rLenT (P:Program) (w:World):List V->Hp->VK->Prop:=fun xs H Q=>∃c n,xs=[.ref c]/\H c=some (SetT P w c n)/\Q (.int n) H
section
variable {X: Cx}
theorem call_setT (hc:X.calm=true:=by rfl):qcj X (.type "set") (rSetT X.prog X.w X.K):=by
 intro pins s σ H xs us Q I hv h
 obtain⟨p,zs,rfl,hS,nd,hz,q⟩:=h
 obtain⟨u,rfl,ru⟩:=hv.one
 cases ru
 obtain⟨its,rv,pl,hz'⟩:=I.list hS
 refine setT_call (I.ok.hd hc) (PlainL.isList pl) (zs:=zs) (by simpa using strs_of rv) nd (by unfold scanBound;omega) fun h' tk hT hk=>?_
 have hg:=hT
 obtain⟨o,es,ep,t,ho,_⟩:=hg
 exact⟨.ref _,_,I.laid (a:=s.heap.objs.size) (o:=SetT X.prog X.w s.heap.objs.size zs.length) (t':=tk) (fun b ob e=>hk b ob (Heap.lt_size e) e) (Nat.le_refl _) ⟨⟨_,hT⟩,⟨o,ho⟩,fun h1 h2 ⟨S,o1,r1,r2,r3,e1,rest⟩ k=>⟨S,o1,r1,r2,r3,k _ e1,rest⟩⟩,rfl,q _ (I.hok.fresh (Nat.le_refl _))⟩
theorem call_lenT:qcj X (.builtin "len") (rLenT X.prog X.w):=by
 intro pins s σ H xs us Q I hv h
 obtain⟨c,n,rfl,e,q⟩:=h
 obtain⟨u,rfl,ru⟩:=hv.one
 cases ru
 obtain⟨⟨S,o,es,ep,t,ho,hx,hd,_,_,hb,hf,rfl⟩,_⟩:=I.hok c _ e
 refine call_len_set ho hx hd hf (by unfold scanBound at hb;omega) ⟨.int es.size,H,I.tok _,⟨_,rfl⟩,q⟩
end
section
variable {P: Program} {w: World} {K: Frag} {H: Hp} {Q: VK}
theorem r_setT {p:Addr} {zs:List Str} (hS:SqL K H p (zs.map V.str)) (nd:zs.Nodup) (hz:zs.length<=60) (h:∀c,H c=none->Q (.ref c) (upd H c (SetT P w c zs.length))):rSetT P w K [.ref p] H Q:=⟨p,zs,rfl,hS,nd,hz,h⟩
theorem r_lenT2 {c:Addr} {n:Nat} (e:H c=some (SetT P w c n)) (h:Q (.int n) H):rLenT P w [.ref c] H Q:=⟨c,n,rfl,e,h⟩
end
def rLenD:List V->Hp->VK->Prop:=fun xs H Q=>∃a kvs,xs=[V.ref a]/\H a=some (.dK kvs)/\Q (.int kvs.length) H
theorem call_lenDD {X:Cx}:qcj X (.builtin "len") rLenD:=L2.call_lenD
theorem r_lenD {H:Hp} {Q:VK} {a:Addr} {kvs:List (Key × V)} (e:H a=some (.dK kvs)) (h:Q (.int kvs.length) H):rLenD [.ref a] H Q:=⟨a,kvs,rfl,e,h⟩
end My
set_option maxHeartbeats 1000000
namespace My
open PySem PySem.Spec PyProof.Rows L2
def rRepC:R2:=fun x y H Q=>∃(c:Nat) (n:Int),x=.str ⟨#[c]⟩/\y=.int n/\1<=n/\n<=100/\Q (.str ⟨(List.replicate n.toNat c).toArray⟩) H
theorem mul_c (c:Nat) {n:Int} (h:1<=n):Txt.mul ⟨#[c]⟩ n=⟨(List.replicate n.toNat c).toArray⟩:=by
 have key:∀(m:Nat) (a:Array Nat),(List.replicate m #[c]).foldl (·++·) a=a++(List.replicate m c).toArray:=by
  intro m
  induction m with
  |zero=>intro a;simp
  |succ m ih=>
   intro a
   rw [List.replicate_succ,List.foldl_cons,ih,List.replicate_succ]
   apply Array.ext'
   simp
 unfold Txt.mul
 rw [if_neg (by omega)]
 by_cases z:((n==1 ||(⟨#[c]⟩:Str).length==0)=true)
 .rw [if_pos z]
  have e:n=1:=by
   rw [Bool.or_eq_true] at z
   rcases z with z|z
   .simpa using z
   .cases z
  subst e
  rfl
 .rw [if_neg z,key]
  simp
section
variable {X: Cx}
theorem op_repC:OpR X (binaryOp .Mult) rRepC:=by
 intro pins s σ H x y v u Q I rx ry h
 obtain⟨c,n,rfl,rfl,h0,h1,q⟩:=h
 obtain⟨t,rfl⟩:=rx
 obtain⟨k,rfl⟩:=ry
 refine SB.mul ?_ fun t' k=>⟨.str ⟨(List.replicate n.toNat c).toArray⟩,H,I.tok _,⟨t',by rw [mul_c c h0]⟩,q⟩
 refine⟨by rw [decide_eq_false (by omega),decide_eq_false (by omega)];rfl,fun _ _=>?_,fun _ _=>?_⟩
 .have z:(1:Int)<=(2^63 - 1) / n:=Int.le_ediv_of_mul_le (by omega) (by omega)
  show ¬((1:Int) >(2^63 - 1) / n)
  omega
 .refine decide_eq_false (p:=(1*n.toNat > sizeLine)) ?_
  rw [sizeLine_eq]
  omega
end
theorem r_repC {H:Hp} {Q:VK} {c:Nat} {n:Int} (h0:1<=n) (h1:n<=100) (h:Q (.str ⟨(List.replicate n.toNat c).toArray⟩) H):rRepC (.str ⟨#[c]⟩) (.int n) H Q:=⟨c,n,rfl,rfl,h0,h1,h⟩
end My
namespace My
open PySem PySem.Spec PyProof.Rows L2
def ValO (v d:Addr):HO:=.ext fun h=>h.IsValuesView v d
def rVals:V->List V->Hp->VK->Prop:=fun x xs H Q=>∃p kvs,x=.ref p/\xs=[]/\Rd H p (.dK kvs)/\∀v,H v=none->Q (.ref v) (upd H v (ValO v p))
section
variable {X: Cx}
theorem mt_vals:MtR X "dict.values" rVals:=by
 intro pins s σ H x xs v us Q I rx rv h
 obtain⟨p,kvs,rfl,rfl,e,q⟩:=h
 cases rx
 have hus:=rv.zero
 subst hus
 obtain⟨z,hd,vs,rel,dd⟩:=qem I.hok e
 refine call_meetsIn PySem.F.slot_dict_values dd.typeIs PySem.F.entry_dict_values (PySem.F.args_dict_values_1 _) (meets_dict_values (qb7 X.prog X.w) p hd) ⟨⟨vs,dd⟩,?_⟩
 exact⟨.ref _,_,I.laid (a:=s.heap.objs.size) (o:=ValO s.heap.objs.size p) (t':=s.toks) (fun b ob e=>Heap.get?_push_of_some _ e) (Nat.le_refl _) ⟨⟨_,Heap.get?_push_size _ rfl,rfl,rfl⟩,⟨_,Heap.get?_push_size _ rfl⟩,fun h1 h2 ⟨o,e1,r⟩ k=>⟨o,k _ e1,r⟩⟩,rfl,q _ (I.hok.fresh (Nat.le_refl _))⟩
end
section
variable {H: Hp} {kvs: List (Key × V)} {Q: VK}
theorem r_vals {p:Addr} (e:Rd H p (.dK kvs)) (h:∀v,H v=none->Q (.ref v) (upd H v (ValO v p))):rVals (.ref p) [] H Q:=⟨p,kvs,rfl,rfl,e,h⟩
end
end My
namespace My
open PySem PySem.Spec PyProof.Rows L2 PyProof
end My
namespace My
open PySem PySem.Spec PyProof.Rows L2
end My
namespace My
open PySem PySem.Spec PyProof.Rows L2
section
inductive OddV (K:Frag) (H:Hp):V->Prop
 |non:OddV K H .non
 |bl (b:Bool):OddV K H (.bl b)
 |int (i:Int):OddV K H (.int i)
 |lst {a:Addr} {xs:List V} (h:SqL K H a xs):OddV K H (.ref a)
 |tup {a:Addr} {xs:List V} (h:SqT K H a xs):OddV K H (.ref a)
 |dct {a:Addr} {kvs:List (Key × V)} (h:H a=some (.dK kvs)):OddV K H (.ref a)
end
section
theorem qgi {y:Str}:∀nm:List Str,inV (.str y) (nm.map V.str)=decide (y∈nm)
 | []=>rfl
 |z :: r=>by
  have ih:=qgi (y:=y) r
  unfold inV at ih ⊢
  rw [map_cons,any_cons,ih]
  by_cases c:z=y
  .subst c
   rw [show eqV (V.str z) (V.str z)=true from beq_self_eq_true z,decide_eq_true (mem_cons_self ..)]
   rfl
  .rw [show eqV (V.str z) (V.str y)=false from beq_false_of_ne c,Bool.false_or]
   by_cases m:y∈r
   .rw [decide_eq_true m,decide_eq_true (mem_cons_of_mem _ m)]
   .rw [decide_eq_false m,decide_eq_false fun h=>(mem_cons.mp h).elim (fun e=>c e.symm) m]
theorem qfo (nm:List Str):(nm.map V.str).all qct=true:=by
 rw [List.all_map]
 exact all_eq_true.mpr fun _ _=>rfl
end
end My
namespace My
open PySem PySem.Spec PyProof.Rows L2
end My
namespace My
open PySem PySem.Spec PyProof.Rows L2
def rSumL (K:Frag):List V->Hp->VK->Prop:=fun xs H Q=>∃(p:Addr) (ns:List Int),xs=[.ref p]/\SqL K H p (ns.map V.int)/\Q (.int ns.sum) H
section
variable {X: Cx}
theorem qfb (ns:List Int):∀k,k<=ns.length->preSum (fun i=>(ns[i]?).getD 0) k=(ns.take k).sum
 |0,_=>by simp [preSum]
 |k+1,h=>by
  have hk:k < ns.length:=by omega
  show preSum _ k+(ns[k]?).getD 0=_
  rw [qfb ns k (by omega),take_add_one,getElem?_eq_getElem hk,List.sum_append]
  simp
theorem call_sumL (hc:X.calm=true):qcj X (.builtin "sum") (rSumL X.K):=by
 intro pins s σ H xs us Q I hv h
 obtain⟨p,ns,rfl,hS,q⟩:=h
 obtain⟨u,rfl,ru⟩:=hv.one
 cases ru
 obtain⟨its,rv,pl,hz⟩:=I.list hS
 have hl:=pl.isList
 have hlt:p < s.heap.objs.size:=by obtain⟨_,e,_⟩:=hl;exact Heap.lt_size e
 have hlen:=rv.length
 rw [length_map] at hlen
 refine call_sum_walkG (wpAny_pyIter_list hl ?_)
 refine⟨s.heap.objs.size, [s.heap.objs.size,p], [s.heap.objs.size],its.toArray.size,_,_,fun i=>(ns[i]?).getD 0,rfl,Walks.list (A:=X.A.in1) (I.ok.hd hc) _ p (Nat.ne_of_lt hlt) its.toArray,⟨⟨_,Heap.get?_push_size _ rfl,rfl,rfl⟩,hl.push _⟩,fun b hb=>?_,fun i v hP=>?_,fun h' tk t' hk=>?_⟩
 .have e:(s.heap.push {cls:=.type "list_iterator",data:=.fields #[.ref p,.int 0 0]}).objs.size=s.heap.objs.size+1:=by simp [Heap.push]
  rcases mem_cons.mp hb with rfl|hb
  .show _ <(s.heap.push _).objs.size
   rw [e];omega
  .rw [mem_singleton.mp hb]
   show _ <(s.heap.push _).objs.size
   rw [e];exact Nat.lt_succ_of_lt hlt
 .have hi:its[i]?=some v:=by simpa using hP
  have hb:i < ns.length:=by rw [hlen];exact(List.getElem?_eq_some_iff.mp hi).1
  have hx:(ns.map V.int)[i]?=some (.int ns[i]):=by rw [getElem?_map,getElem?_eq_getElem hb];rfl
  obtain⟨u,e,r⟩:=rv.get hx
  rw [hi] at e
  cases e
  obtain⟨t,rfl⟩:=r
  exact⟨t,by show Value.int ns[i] t=Value.int ((ns[i]?).getD 0) t;rw [getElem?_eq_getElem hb];rfl⟩
 .have e:preSum (fun i=>(ns[i]?).getD 0) its.toArray.size=ns.sum:=by
   rw [size_toArray,<-hlen,qfb ns _ (Nat.le_refl _),take_length]
  rw [e]
  exact⟨.int _,H,I.kept (t':=tk) (fun b o eb=>hk b o (fun hm=>by have z:=Heap.lt_size eb;rw [mem_singleton.mp hm] at z;exact Nat.lt_irrefl _ z) (Heap.get?_push_of_some _ eb)),⟨_,rfl⟩,q⟩
end
section
variable {K: Frag} {H: Hp} {Q: VK} {p: Addr} {ns: List Int}
theorem r_sumL (hS:SqL K H p (ns.map V.int)) (h:Q (.int ns.sum) H):rSumL K [.ref p] H Q:=⟨p,ns,rfl,hS,h⟩
end
end My
namespace My
open PySem PySem.Spec PyProof.Rows L2
end My
namespace My
open PySem PySem.Spec PyProof.Rows L2
end My
namespace My
open PySem PySem.Spec PyProof.Rows L2 PyProof PySem.Builtin.Str
end My
namespace My
open PySem PySem.Spec PyProof.Rows L2 PyProof PySem.Builtin.Str PySem.StrLaws
def hits (l:List Nat) (c:Nat) (is:List Nat):List Nat:=is.filter fun i=>decide (l[i]?=some c)
end My
namespace My
open PySem PySem.Spec PyProof.Rows L2 PyProof PySem.Builtin.Str PySem.NumText
def dg (m:Nat):List Nat:=(Nat.toDigits 10 m).map Char.toNat
end My
namespace My
open PySem PySem.Spec PyProof.Rows L2 PyProof PySem.Builtin.Str
end My
namespace My
open PySem PySem.Spec PyProof.Rows L2 PySem.Builtin
end My
namespace My
open PySem PySem.Spec PyProof.Rows L2
end My
namespace My
open PySem PySem.Spec PyProof.Rows L2 PyProof PySem.SeqAt
end My
namespace My
open PySem PySem.Spec PyProof.Rows L2
end My
namespace My
open PySem PySem.Spec PyProof.Rows L2
end My
namespace My
open PySem PySem.Spec PyProof.Rows L2 PyProof PySem.SeqAt
end My
namespace My
open PySem PySem.Spec PyProof.Rows L2
end My
namespace My
open PySem PySem.Spec PyProof.Rows L2
section
variable {K: Frag} {H: Hp} {p: Addr} {n: Int} {xs: List V}
theorem deq_nilL {n:Nat} {a b:Addr} (ha:SqL K H a xs) (hb:SqL K H b []) (ne:a≠b):DEq K H (n+1) (.ref a) (.ref b) (decide (xs=[])):=by
 cases xs with
 |nil=>
  have z:=DEq.ls (n:=n) (e:=fun _=>true) ha hb ne rfl (fun j h1 h2=>absurd h1 (Nat.not_lt_zero j))
  exact z
 |cons p r=>exact DEq.lsN ha hb ne (by simp)
end
end My
namespace My
open PySem PySem.Spec PyProof.Rows L2
end My
namespace My
open PySem PySem.Spec PyProof.Rows L2
end My
namespace My
open PySem PySem.Spec PyProof.Rows L2
end My
namespace My
open PySem PySem.Spec PyProof.Rows L2
inductive PEq (K:Frag) (H:Hp):Nat->V->V->Bool->Prop
 |same {n:Nat} {a:Addr}:PEq K H n (.ref a) (.ref a) true
 |flat {n:Nat} {x y:V} (hx:qct x=true) (hy:qct y=true):PEq K H n x y (eqV x y)
 |ls {n:Nat} {a b:Addr} {xs ys:List V} {e:Nat->Bool} (ha:SqL K H a xs) (hb:SqL K H b ys) (ne:a≠b) (hl:xs.length=ys.length)
   (he:∀j (h1:j < xs.length) (h2:j < ys.length),PEq K H n xs[j] ys[j] (e j)):PEq K H (n+1) (.ref a) (.ref b) ((List.range xs.length).all e)
 |lsN {n:Nat} {a b:Addr} {xs ys:List V} (ha:SqL K H a xs) (hb:SqL K H b ys) (ne:a≠b) (hl:xs.length≠ys.length):PEq K H (n+1) (.ref a) (.ref b) false
 |ts {n:Nat} {a b:Addr} {xs ys:List V} {e:Nat->Bool} (ha:SqT K H a xs) (hb:SqT K H b ys) (ne:a≠b)
   (he:∀j (h1:j < xs.length) (h2:j < ys.length),PEq K H n xs[j] ys[j] (e j)):PEq K H (n+1) (.ref a) (.ref b) ((List.range (min xs.length ys.length)).all e && xs.length==ys.length)
section
variable {X: Cx} {pins: List (Addr × Obj)} {σ: L2.St} {H: Hp} {s: Shared}
theorem peq_ok (I:Inv X pins σ H s) {n:Nat} {x y:V} {k:Bool} (q:PEq X.K H n x y k):∀(A:Around) (u v:Value),qb2 x u->qb2 y v->A.units+n < cLine->SeqAt.EqAt A s u v k:=by
 induction q with
 | @same n a=>
  intro A u v ru rv hu
  obtain rfl:u=Value.ref a:=ru
  obtain rfl:v=Value.ref a:=rv
  exact SeqAt.EqAt.same _
 |flat hx hy=>
  intro A u v ru rv hu
  exact eqAt_V ru rv hx hy
 | @ls n a b xs ys e ha hb ne hl he ih=>
  intro A u v ru rv hu
  obtain rfl:u=Value.ref a:=ru
  obtain rfl:v=Value.ref b:=rv
  obtain⟨its,r1,p1,_⟩:=I.list ha
  obtain⟨its2,r2,p2,_⟩:=I.list hb
  have l1:=r1.length
  have l2:=r2.length
  have z:=SeqAt.RcAt.lists (A:=A) (s:=s) (e:=e) (PlainL.isList p1) (PlainL.isList p2) (by rw [size_toArray,size_toArray];omega) (by omega) fun j h1 h2=>by
   have k1:j < its.length:=by simpa using h1
   have k2:j < its2.length:=by simpa using h2
   have w:=ih j (by omega) (by omega) A.in1 its[j] its2[j] (qcn r1 (by omega) k1) (qcn r2 (by omega) k2) (by show A.units+1+n < cLine;omega)
   simpa using w
  rw [size_toArray,<-l1] at z
  exact SeqAt.EqAt.of_refs ne z
 | @lsN n a b xs ys ha hb ne hl=>
  intro A u v ru rv hu
  obtain rfl:u=Value.ref a:=ru
  obtain rfl:v=Value.ref b:=rv
  obtain⟨its,r1,p1,_⟩:=I.list ha
  obtain⟨its2,r2,p2,_⟩:=I.list hb
  have l1:=r1.length
  have l2:=r2.length
  exact SeqAt.EqAt.of_refs ne (SeqAt.RcAt.lists_lengths (PlainL.isList p1) (PlainL.isList p2) (by rw [size_toArray,size_toArray];simp;omega) (by omega))
 | @ts n a b xs ys e ha hb ne he ih=>
  intro A u v ru rv hu
  obtain rfl:u=Value.ref a:=ru
  obtain rfl:v=Value.ref b:=rv
  obtain⟨its,r1,p1,_⟩:=I.tuple ha
  obtain⟨its2,r2,p2,_⟩:=I.tuple hb
  have l1:=r1.length
  have l2:=r2.length
  have z:=SeqAt.RcAt.tuples (A:=A) (s:=s) (e:=e) p1 p2 (by omega) fun j h1 h2=>by
   have k1:j < its.length:=by simpa using h1
   have k2:j < its2.length:=by simpa using h2
   have w:=ih j (by omega) (by omega) A.in1 its[j] its2[j] (qcn r1 (by omega) k1) (qcn r2 (by omega) k2) (by show A.units+1+n < cLine;omega)
   simpa using w
  rw [size_toArray,size_toArray,<-l1,<-l2] at z
  exact SeqAt.EqAt.of_refs ne z
theorem vals_of {xs:List V} {us:List Value} (r:qbj xs us) {u:Value} (hu:u∈us):∃x∈xs,qb2 x u:=by
 obtain⟨j,hj,e⟩:=mem_iff_getElem.mp hu
 have hl:=r.length
 exact⟨xs[j]'(by omega),getElem_mem _,by rw [<-e];exact qcn r (by omega) hj⟩
end
end My
namespace My
open PySem PySem.Spec PyProof.Rows L2
end My
namespace My
open PySem PySem.Spec PyProof.Rows L2 PyProof PySem.SeqAt
end My
namespace My
open PySem PySem.Spec PyProof.Rows L2 PySem.W
structure SO (n:Nat) (lt:Nat->Nat->Bool):Prop where
 tr:∀i j k,i < n->j < n->k < n->lt i j=true->lt j k=true->lt i k=true
 to:∀i j,i < n->j < n->i≠j->lt i j=false->lt j i=true
abbrev gt0 (p:Array Nat) (i:Nat):Nat:=p.getD i 0
structure Pm (n:Nat) (p:Array Nat):Prop where
 pm:p.Perm (List.toArray (List.range n))
def Dn (lt:Nat->Nat->Bool) (p:Array Nat) (m:Nat):Prop:=∀i j,i < j->j < m->lt (gt0 p j) (gt0 p i)=true
end My
namespace My
open PySem PySem.Spec PyProof.Rows L2
end My
namespace My
open PySem PySem.Spec PyProof.Rows L2 PySem.W
theorem kv_vals {kvs:List (Key × V)} {vs:List (Key × Value)} (rel:KV kvs vs):qbj (kvs.map (·.2)) (vs.map (·.2)):=by
 induction rel with
 |nil=>exact .nil
 |cons r _ ih=>exact .cons r.2 ih
section
variable {X: Cx}
def rListV:List V->Hp->VK->Prop:=fun xs H Q=>∃(v p:Addr) (kvs:List (Key × V)),xs=[.ref v]/\H v=some (ValO v p)/\Rd H p (.dK kvs)/\∀l,H l=none->Q (.ref l) (upd H l (.lst (kvs.map (·.2))))
theorem call_listV (hc:X.calm=true):qcj X (.type "list") rListV:=by
 intro pins s σ H xs us Q I hv h
 obtain⟨v,p,kvs,rfl,ev,hR,q⟩:=h
 obtain⟨u,rfl,ru⟩:=hv.one
 cases ru
 have ok:=hR.ok I.hok
 have hz:kvs.length<=sizeLine:=ok.1
 obtain⟨o,es,ep,vs,ho,hd,rel,dat,hs⟩:=dat_of ok
 obtain⟨hv1,_⟩:=I.hok v _ ev
 have hlen:=rel.length
 refine kdl_call (kdl_values (knd:=qb7 X.prog X.w) (r:=v) (d:=p) (kvs:=vs) (ep:=ep)) (I.ok.hd hc) ⟨hv1,dat⟩ (by omega) fun h' tk acc c hk hD hacc=>?_
 have e1:=kdl_vals_eq (kvs:=vs) acc.toList (by rw [Array.length_toList];exact hacc.1) fun j u hu=>hacc.2 j u (by rw [<-Array.getElem?_toList];exact hu)
 have rv:qbj (kvs.map (·.2)) acc.toList:=by
  rw [e1]
  exact kv_vals rel
 have hg:s.heap.get? s.heap.objs.size=none:=Heap.get?_none_of_le (Nat.le_refl _)
 obtain⟨hn,I2⟩:=Inv.laidN I (h':=h') (a:=s.heap.objs.size) (o:=.lst (kvs.map (·.2))) (t':=tk) hk hg ⟨by rw [length_map];exact hz,acc.toList,c,rv,by rw [Array.toArray_toList];exact hD⟩
 exact⟨.ref _,_,I2,rfl,q _ hn⟩
end
theorem r_listV {H:Hp} {Q:VK} {v p:Addr} {kvs:List (Key × V)} (ev:H v=some (ValO v p)) (h:Rd H p (.dK kvs)) (q:∀l,H l=none->Q (.ref l) (upd H l (.lst (kvs.map (·.2))))):rListV [.ref v] H Q:=⟨v,p,kvs,rfl,ev,h,q⟩
def absV:Value->V
 | .none=> .non
 | .bool b=> .bl b
 | .int i _=> .int i
 | .str x _=> .str x
 | .bytes b _=> .byt b
 | .float b _=> .flt b
 | .ref a=> .ref a
 | .type n=> .ty n
 |_=> .non
theorem abs_of {x:V} {u:Value} (h:L2.qb2 x u):absV u=x:=by
 cases x with
 |non=>have h:u=_:=h;subst h;rfl
 |bl b=>have h:u=_:=h;subst h;rfl
 |int i=>obtain⟨t,rfl⟩:=h;rfl
 |str i=>obtain⟨t,rfl⟩:=h;rfl
 |byt i=>obtain⟨t,rfl⟩:=h;rfl
 |flt i=>obtain⟨t,rfl⟩:=h;rfl
 |ref a=>have h:u=_:=h;subst h;rfl
 |ty n=>have h:u=_:=h;subst h;rfl
theorem relV_inj {x y:V} {u:Value} (h:L2.qb2 x u) (h':L2.qb2 y u):x=y:=(abs_of h).symm.trans (abs_of h')
section
variable {X: Cx}
def rInX (K:Frag):R2:=fun x y H Q=>∃(p:Addr) (xs:List V) (e:V->Bool),y=.ref p/\SqL K H p xs/\(∀v∈xs,∃n,n<=7/\PEq K H n v x (e v))/\Q (.bl (xs.any e)) H
theorem op_inX (hu:X.A.units+8 < cLine):OpR X (compareOp .In) (rInX X.K):=by
 intro pins s σ H x y v u Q I rx ry h
 obtain⟨p,xs,e,rfl,hq,he,q⟩:=h
 cases ry
 obtain⟨its,r,pl,hz⟩:=I.list hq
 classical
 have key:∀(z:Value) (a:V),a∈xs->L2.qb2 a z->decide (∃b∈xs,L2.qb2 b z/\e b=true)=e a:=fun z a ha ra=>by
  cases c:e a with
  |true=>exact decide_eq_true ⟨a,ha,ra,c⟩
  |false=>
   refine decide_eq_false ?_
   rintro⟨b,_,rb,eb⟩
   rw [relV_inj rb ra,c] at eb
   cases eb
 have ea:its.toArray.any (fun z=>decide (∃b∈xs,L2.qb2 b z/\e b=true))=xs.any e:=by
  rw [List.any_toArray,Bool.eq_iff_iff,any_eq_true,any_eq_true]
  constructor
  .rintro⟨z,hz,hd⟩
   obtain⟨b,hb,_,eb⟩:=of_decide_eq_true hd
   exact⟨b,hb,eb⟩
  .rintro⟨b,hb,eb⟩
   obtain⟨j,hj,rfl⟩:=mem_iff_getElem.mp hb
   have hl:=r.length
   exact⟨its[j]'(by omega),getElem_mem _,decide_eq_true ⟨_,hb,qcn r hj (by omega),eb⟩⟩
 refine SeqAt.in_listAt (fun z=>decide (∃b∈xs,L2.qb2 b z/\e b=true)) pl.isList (fun z hz=>?_) ⟨.bl _,H,I,rfl,by rw [ea];exact q⟩
 have hz:z∈its:=by simpa using hz
 obtain⟨a,ha,ra⟩:=vals_of r hz
 obtain⟨n,hn,pe⟩:=he a ha
 have w:=peq_ok I pe X.A.in1 z v ra rx (by show X.A.units+1+n < cLine;omega)
 rw [key z a ha ra]
 exact w
end
structure Rw2 where
 a:Addr
 n:Str
 r:List V
def lt2 (a b:Rw2):Bool:=decide (a.n.cps.toList < b.n.cps.toList)
end My
namespace My
open PySem PySem.Spec PyProof.Rows L2
@[irreducible] def PSsx (X:Cx) (l:List Stmt) (t:TS):Prop:=PSs X l t
@[irreducible] def PEx (X:Cx) (e:Expr) (t:TE):Prop:=PE X e t
@[irreducible] def PAx (X:Cx) (es:List Expr) (t:TA):Prop:=PA X es t
section
variable {X: Cx}
theorem pssx_set {pos:Pos} {i:Nat} {x:Str} {e:Expr} {te:TE} {pos':Pos} {rest:List Stmt} {u:TS} (hN:X.N.Nodup) (hi:X.N[i]?=some x) (hx:L2.Loc X.env.scope x) (he:PEx X e te) (h2:PSs X rest u)
  (hs:swapsWith e (some (Expr.Name x pos')) pos.line X.env=pure false:=by rfl) (hf:X.fn x=true\/List.lookup x X.env.scope.names=some NameKind.local:=by first|exact .inl rfl|exact .inr rfl|assumption):
  PSsx X (.Assign [.Name x pos'] e pos :: rest) (tSeq (tAsg te (qdv i)) u):=by
 unfold PEx at he
 unfold PSsx
 exact qa2 (qaf hN hi hx he hs hf) h2
theorem pax_nil:PAx X [] tNil:=by unfold PAx;exact qa3
theorem qes {e:Expr} {es:List Expr} {te:TE} {t:TA} (h:PE X e te) (hr:PAx X es t) (hs:starEach (e :: es) X.env=(false,eval e X.env) :: starEach es X.env:=by rfl):PAx X (e :: es) (tCons te t):=by
 unfold PAx at*
 exact qa0 h hr hs
theorem pex_ixL {es:List Expr} {t:TA} {b:Expr} {tb:TE} {p p':Pos} (hl:PAx X es t) (hb:PE X b tb) (hsl:PlainIx b):PEx X (.Subscript (.List es p) b p') (tOp (rIxL X.K) (tLst t) tb):=by
 unfold PAx at hl
 unfold PEx
 exact qai qan (qbr hl) hb hsl
end
end My
namespace My
open PySem PySem.Spec PyProof.Rows L2
def OnlyT (p:Addr) (H:Hp):Prop:=∀b,H b=none\/(∃o xs,H b=some (.frz o (.lst xs)))\/(b=p/\H b=some (.tbl #[]))
theorem law_callT {P:Program} {w:World} {K:Frag} {mg mb:Str->Option Value} {CX:CXT} {k:Nat} {fa a p c:Addr} {fd:FuncData} {x:Str} {sp:Sp} {s₁:Shared} {vs:List Value} {ns:List Int}
  (KX:K.In s₁.heap) (hns:s₁.heap.Ns mainGlobals mg) (hb:s₁.heap.Ns builtinsNs mb) (hbb:∀x:Str,x≠"__name__"->mb x=bootBuiltins x) (hlim:s₁.heap.NoLimit) (hg:s₁.gens= #[])
  (ha:s₁.heap.get? a=some {cls:=.type "list",data:=.seq vs.toArray}) (hi:IntsAre vs ns) (hl:ns.length<=sizeLine) (hr:Room k callerA)
  (hT:s₁.heap.TableAt c p #[]) (hKp:K.lookup p=none)
  (F:∀base:Heap,K.In base->base.Ns mainGlobals mg->(∀b o,s₁.heap.get? b=some o->b≠a->b≠p->base.get? b=some o)->FnOk P w K mg base CX k fa fd [x] sp) (hbind:∀(s:Shared) (u:Value),BindsTo s fd ⟨[u], []⟩ [(x,u)])
  (hsp:∀H:Hp,H p=some (.tbl #[])->SqL K H a (ns.map V.int)->sp [.ref a] H (fun v _=>v=.bl true) fun _ _ _=>False)
  (hCX:∀H e s',CX [] H s₁ (fun _ _ _=>False) e s'->False):
  codeAny (model P w) callerA (.call (.ref fa) ⟨[.ref a], []⟩) (fun r s'=>r=.ok (.ret (.bool true))/\OldK s₁.heap s'.heap/\s'.os=s₁.os/\AllBare s'.gens) s₁:=by
 have rv:=vals_ints hi
 have lenV:=hi.length
 have hTo:s₁.heap.get? p=some {cls:=.none,data:=.fields #[]}:=hT.2
 have npa:p≠a:=fun z=>by subst z;rw [ha] at hTo;cases hTo
 have core:∀H:Hp,OnlyT p H->H p=some (.tbl #[])->SqL K H a (ns.map V.int)->HOk P w H s₁.heap->(∀b,H b≠none->b=a\/b=p)->(H a≠none->K.lookup a=none)->
   codeAny (model P w) callerA (.call (.ref fa) ⟨[.ref a], []⟩) (fun r s'=>r=.ok (.ret (.bool true))/\OldK s₁.heap s'.heap/\s'.os=s₁.os/\AllBare s'.gens) s₁:=by
  intro H hO hp hS hok hA hK
  have base_of:∀{b:Addr} {o:Obj},s₁.heap.get? b=some o->H b=none->(hidT s₁.heap H).get? b=some o:=fun e n=>hidT_get e n
  have noA:∀{b:Addr} {o:Obj} {es:Array DictEntry} {ep:Nat},s₁.heap.get? b=some o->o.data=.dict es ep->H b=none:=fun {b o es ep} e d=>by
   cases q:H b with
   |none=>rfl
   |some u=>
    rcases hA b (by rw [q];simp) with e'|e'
    .subst e'
     rw [ha] at e;cases e
     have d':Data.seq vs.toArray _=Data.dict es ep:=d
     cases d'
    .subst e'
     rw [hTo] at e;cases e
     have d':Data.fields #[]=Data.dict es ep:=d
     cases d'
  have nsK:∀{b:Addr} {m:Str->Option Value},s₁.heap.Ns b m->(hidT s₁.heap H).Ns b m:=fun {b m} ⟨o,es,ep,e,d,r⟩=>⟨o,es,ep,base_of e (noA e d),d,r⟩
  have hKb:K.In (hidT s₁.heap H):=fun b o e=>base_of (KX b o e) (by
   cases q:H b with
   |none=>rfl
   |some u=>
    rcases hA b (by rw [q];simp) with e'|e'
    .subst e'
     rw [hK (by rw [q];simp)] at e;cases e
    .subst e'
     rw [hKp] at e;cases e)
  have hM:Mod K mg (hidT s₁.heap H):=⟨hKb,nsK hns,⟨mb,nsK hb,hbb⟩,let ⟨mc,h1,h2⟩:=hlim;⟨mc,nsK h1,h2⟩⟩
  have e0:Env0 P w K mg (hidT s₁.heap H) callerA [] s₁ H:=⟨rfl,hM,fun b o e=>of_hidT e,Nat.le_of_eq (hidT_size _ _),trivial,fun b hb=>absurd (show b∈([]:List Addr) from hb) (by simp),hok,.of_eq hg⟩
  have hbase:∀b o,s₁.heap.get? b=some o->b≠a->b≠p->(hidT s₁.heap H).get? b=some o:=fun b o e n1 n2=>base_of e (by
   cases q:H b with
   |none=>rfl
   |some u=>exact absurd (hA b (by rw [q];simp)) (by simp [n1,n2]))
  refine codeAny_mono ((F _ hKb (nsK hns) hbase).run callerA [] s₁ H ⟨[.ref a], []⟩ [.ref a] [.ref a] _ _ hr e0 (hbind s₁ (.ref a)) (.cons rfl .nil) (hsp H hp hS)) fun r s' h=>?_
  cases r with
  |error e=>exact(hCX H e s' h).elim
  |ok fl=>
   cases fl with
   |next=>exact False.elim h
   |brk=>exact False.elim h
   |cont=>exact False.elim h
   |ret u=>
    obtain⟨v,H',os,bare,un,hok',r',q⟩:=h
    have q':v=.bl true:=q
    subst q'
    obtain rfl:u=Value.bool true:=r'
    have main:∀b o,s₁.heap.get? b=some o->b≠p->s'.heap.get? b=some o:=fun b o e np=>by
     cases q:H b with
     |none=>exact un.keep b o e q (by intro z;exact absurd (show b∈([]:List Addr) from z) (by simp)) (by simp)
     |some u=>
      rcases hO b with z|⟨ob,xs,z⟩ |⟨z,_⟩
      .rw [q] at z;cases z
      .have z2:=un.frzs b ob _ z
       obtain⟨e1,_⟩:=hok b _ z
       obtain⟨e2,_⟩:=hok' b _ z2
       rw [e] at e1;cases e1
       exact e2
      .exact absurd z np
    obtain⟨more,hp'⟩:=un.tbls p #[] hp
    have ep':s'.heap.get? p=some {cls:=.none,data:=.fields (#[]++more)}:=hok' p _ hp'
    refine⟨rfl,⟨fun b o e=>?_,fun b o e=>?_⟩,os,bare⟩
    .by_cases hb:b=p
     .subst hb
      rw [hTo] at e
      cases e
      exact .inr (.inl ⟨hT.isCodeTable,rfl,#[],more,rfl,ep'⟩)
     .exact .inl (main b o e hb)
    .by_cases hb:b=p
     .subst hb;exact⟨_,ep'⟩
     .exact⟨o,main b o e hb⟩
 have okP:∀H:Hp,qbi P w H s₁.heap p (.tbl #[]):=fun H=>hTo
 cases hk:K.lookup a with
 |some o=>
  have e:=KX a o hk
  rw [ha] at e
  cases e
  refine core (fun b=>if b=p then some (.tbl #[]) else none) (fun b=>?_) (if_pos rfl) (.inr ⟨_,vs.toArray,_,hk,rfl,rfl,rfl,by rw [size_toArray,lenV];exact hl,by simpa using rv⟩) (fun b u z=>?_) (fun b z=>?_) fun z=>absurd (if_neg npa.symm) z
  .by_cases hb:b=p
   .exact .inr (.inr ⟨hb,if_pos hb⟩)
   .exact .inl (if_neg hb)
  .by_cases hb:b=p
   .have z':=(if_pos hb).symm.trans z
    cases z'
    subst hb
    exact okP _
   .have z':=(if_neg hb).symm.trans z
    cases z'
  .by_cases hb:b=p
   .exact .inr hb
   .exact absurd (if_neg hb) z
 |none=>
  refine core (fun b=>if b=p then some (.tbl #[]) else if b=a then some (.frz {cls:=.type "list",data:=.seq vs.toArray} (.lst (ns.map V.int))) else none) (fun b=>?_) (if_pos rfl) (.inl (.inr ⟨{cls:=.type "list",data:=.seq vs.toArray},?_⟩)) (fun b u z=>?_) (fun b z=>?_) fun _=>hk
  .by_cases hb:b=p
   .exact .inr (.inr ⟨hb,if_pos hb⟩)
   .by_cases hb2:b=a
    .exact .inr (.inl ⟨_,_,(if_neg hb).trans (if_pos hb2)⟩)
    .exact .inl ((if_neg hb).trans (if_neg hb2))
  .exact(if_neg npa.symm).trans (if_pos rfl)
  .by_cases hb:b=p
   .have z':=(if_pos hb).symm.trans z
    cases z'
    subst hb
    exact okP _
   .by_cases hb2:b=a
    .have z':=((if_neg hb).trans (if_pos hb2)).symm.trans z
     cases z'
     subst hb2
     exact⟨ha,by rw [length_map];exact hl,vs,_,rv,ha⟩
    .have z':=((if_neg hb).trans (if_neg hb2)).symm.trans z
     cases z'
  .by_cases hb:b=p
   .exact .inr hb
   .by_cases hb2:b=a
    .exact .inl hb2
    .exact absurd ((if_neg hb).trans (if_neg hb2)) z
def BmAt (mg:Str->Option Value) (h:Heap):Prop:=∃bm o,mg "__builtins__" =some (.ref bm)/\bm≠builtinsNs/\bm≠mainGlobals/\h.get? bm=some o/\o.cls=.type "module"/\o.dict=some builtinsNs/\o.data=.plain
theorem walk_ofT {l:PySem.W.OpenLaw} {n k:Nat} {q:Program} {loose:List Str} {XP:(Str->Option Value)->Heap->Prop} {YP:World->Heap->Prop} {d dy:DefRec} {K:Params->Frag} {CX:World->CXT} {sp:World->Addr->Addr->Sp} {x y:Str}
  (hn:l.most=some n) (hn2:n<=sizeLine) (hdf:d.params.defaults=[]) (hr:Room k callerA)
  (hY:∀(w:World) (h:Heap),YP w h->(K w.params).In h)
  (hrec:(PyProof.Rows.recsOf q).find? (fun e=>e.name==y)=some dy) (tab:∀w:World,∃c p,tabIn (K w.params) y=some (c,p)/\(K w.params).lookup p=none)
  (F:∀(w:World) (mg:Str->Option Value) (fa:Addr) (h:Heap) (c p:Addr),(K w.params).In h->h.Ns mainGlobals mg->mg d.name=some (.ref fa)->tabIn (K w.params) y=some (c,p)->
   ∃fd:FuncData,(∀(s:Shared) (u:Value),BindsTo s fd ⟨[u], []⟩ [(x,u)])/\
    ∀base:Heap,(K w.params).In base->base.Ns mainGlobals mg->PySem.W.CodeHd base c p->BmAt mg base->FnOk l.prog w (K w.params) mg base (CX w) k fa fd [x] (sp w c p))
  (hsp:∀(w:World) (c p:Addr) (H:Hp) (a:Addr) (ns:List Int),ns.length<=n->H p=some (.tbl #[])->SqL (K w.params) H a (ns.map V.int)->sp w c p [.ref a] H (fun v _=>v=.bl true) fun _ _ _=>False)
  (hCX:∀(w:World) (H:Hp) (s:Shared) (e:Value) (s':Shared),CX w [] H s (fun _ _ _=>False) e s'->False):
  PySem.W.WalkO q loose XP YP l.row.toRowW d [] (fun f vs=>PySem.call f vs):=by
 refine Att.attach_call hn hdf fun w s₀ s₁ mg mb fa o pm cd doc a vs ns G Y ho hd hcd hmg hobj hints hlen hg=>?_
 have KX:=hY w _ Y
 obtain⟨c,p,ht,hKp⟩:=tab w
 obtain⟨hc,hp⟩:=PySem.W.tab_of G.T KX hrec ht
 obtain⟨fd,hb,hF⟩:=F w mg fa _ c p KX G.T.g hmg ht
 refine law_callT KX G.T.g G.T.b G.T.builtins G.T.nolimit hg hobj hints (Nat.le_trans hlen hn2) hr (hc.tab hp) hKp (fun base kb nb keep=>hF base kb nb ?_ ?_) hb (fun H hH hS=>hsp w c p H a ns hlen hH hS) fun H e s'=>hCX w H s₁ e s'
 .obtain⟨oc,vc,file,tf,flags,tg,inF,text,tt,e1,e2,e3,r⟩:=hc
  refine⟨oc,vc,file,tf,flags,tg,inF,text,tt,keep c oc e1 (fun z=>?_) r.2.2.2.2.2.2,e2,e3,r⟩
  subst z
  rw [hobj] at e1
  cases e1
  exact absurd (show Value.type "list" =Value.type "code" from e2) (by intro h;injection h with h;revert h;decide)
 .obtain⟨bm,ob,b1,b2,b3,b4,b5,b6⟩:=G.T.bmain
  refine⟨bm,ob,b1,b2,fun z=>?_,keep bm ob b3 (fun z=>?_) (fun z=>?_),b4,b5,b6⟩
  .obtain⟨o,es,ep,e,hd,_⟩:=G.T.g
   rw [z,e] at b3;cases b3;rw [hd] at b6;cases b6
  .rw [z,hobj] at b3;cases b3;cases b6
  .rw [z,hp] at b3;cases b3;cases b4
end My
namespace My
open PySem PySem.Spec PyProof.Rows L2
def FnO (g:Addr) (name qual:Str) (params:Arguments) (body:List Stmt) (scope:Scope) (x:Str) (cl cd:Addr):HO:=
 .ext fun h=>∃doc pm ctv,h.get? g=some (fnMade name qual params body scope [(x,cl)] doc pm cd ctv)
def CodO (cd:Addr) (qual:Str):HO:=.ext fun h=>h.CodeRec (.ref cd) qual
def qeo (cl:Addr) (v:V):HO:=.ext fun h=>∃u,qb2 v u/\h.IsCell cl (some u)
theorem FnO.ok {P:Program} {w:World} {H:Hp} {h:Heap} {g cl cd:Addr} {name qual x:Str} {params:Arguments} {body:List Stmt} {scope:Scope} {doc pm ctv:Value}
  (e:h.get? g=some (fnMade name qual params body scope [(x,cl)] doc pm cd ctv)):qbi P w H h g (FnO g name qual params body scope x cl cd):=
 ⟨⟨doc,pm,ctv,e⟩,⟨_,e⟩,fun h1 h2 ⟨d,m,c,e1⟩ k=>⟨d,m,c,k _ e1⟩⟩
theorem CodO.ok {P:Program} {w:World} {H:Hp} {h:Heap} {cd:Addr} {qual:Str} (e:h.CodeRec (.ref cd) qual):qbi P w H h cd (CodO cd qual):=by
 refine⟨e,?_,fun h1 h2 q k=>?_⟩
 .obtain⟨c,o,vs,t,e1,e2,_⟩:=e
  cases e1
  exact⟨o,e2⟩
 .obtain⟨c,o,vs,t,e1,e2,r⟩:=q
  cases e1
  exact⟨cd,o,vs,t,rfl,k _ e2,r⟩
theorem qeo.ok {P:Program} {w:World} {H:Hp} {h:Heap} {cl:Addr} {v:V} {u:Value} (r:qb2 v u) (e:h.IsCell cl (some u)):qbi P w H h cl (qeo cl v):=by
 refine⟨⟨u,r,e⟩,?_,fun h1 h2 ⟨u',r',o,e1,d⟩ k=>⟨u',r',o,k _ e1,d⟩⟩
 obtain⟨o,e1,_⟩:=e
 exact⟨o,e1⟩
def made (H:Hp) (p g cd cl:Addr) (more:Array Value) (v:V) (name qual:Str) (params:Arguments) (body:List Stmt) (scope:Scope) (x:Str):Hp:=
 upd (upd (upd (upd H p (.tbl more)) cl (qeo cl v)) cd (CodO cd qual)) g (FnO g name qual params body scope x cl cd)
def spMaker (p:Addr) (name qual:Str) (params:Arguments) (body:List Stmt) (scope:Scope) (x:Str):Sp:=fun vs H Q _=>
 ∃v,vs=[v]/\H p=some (.tbl #[])/\∀(more:Array Value) (g cd cl:Addr),H g=none->H cd=none->H cl=none->cd≠cl->g≠cl->g≠cd->Q (.ref g) (made H p g cd cl more v name qual params body scope x)
section
variable {P: Program} {w: World} {H: Hp} {h h': Heap} {p g cd cl: Addr} {more: Array Value} {v: V} {u: Value} {name qual x: Str} {params: Arguments} {body: List Stmt} {scope: Scope} {doc pm ctv: Value} {fs: List Addr}
theorem qde {b:Addr} (h1:b≠p) (h2:b≠cl) (h3:b≠cd) (h4:b≠g):made H p g cd cl more v name qual params body scope x b=H b:=by
 unfold made;rw [qa6 h4,qa6 h3,qa6 h2,qa6 h1]
theorem made_hok (ok:HOk P w H h) (hp:H p=some (.tbl #[])) (hg:h.objs.size<=g) (hd:h.objs.size<=cd) (hl:h.objs.size<=cl) (k:∀b o,b≠p->h.get? b=some o->h'.get? b=some o)
  (n1:cd≠cl) (n2:g≠cl) (n3:g≠cd)
  (ep:h'.get? p=some {cls:=.none,data:=.fields more}) (eg:h'.get? g=some (fnMade name qual params body scope [(x,cl)] doc pm cd ctv)) (ed:h'.CodeRec (.ref cd) qual) (r:qb2 v u) (el:h'.IsCell cl (some u)):
  HOk P w (made H p g cd cl more v name qual params body scope x) h':=fun b o e=>by
 have ng:=ok.fresh hg
 have nd:=ok.fresh hd
 have nl:=ok.fresh hl
 by_cases b4:b=g
 .subst b4
  unfold made at e;rw [qa1] at e;cases e
  exact FnO.ok eg
 by_cases b3:b=cd
 .subst b3
  unfold made at e;rw [qa6 b4,qa1] at e;cases e
  exact CodO.ok ed
 by_cases b2:b=cl
 .subst b2
  unfold made at e;rw [qa6 b4,qa6 b3,qa1] at e;cases e
  exact qeo.ok r el
 by_cases b1:b=p
 .subst b1
  unfold made at e;rw [qa6 b4,qa6 b3,qa6 b2,qa1] at e;cases e
  exact ep
 rw [qde b1 b2 b3 b4] at e
 have old:∀c z,H c=some z->c≠p->made H p g cd cl more v name qual params body scope x c=some z:=fun c z q np=>by
  rw [qde np (qa9 q nl) (qa9 q nd) (qa9 q ng)];exact q
 refine(ok b o e).stay (fun c z hc q=>k c z ?_ q) (fun c q=>old c _ q ?_) fun c xs q=>old c _ q ?_
 .rcases hc with rfl|hc
  .exact b1
  .rintro rfl;rw [hp] at hc;cases hc
 .rintro rfl;rw [hp] at q;cases q
 .rintro rfl;rw [hp] at q;cases q
theorem made_un (ok:HOk P w H h) (hp:H p=some (.tbl #[])) (hg:h.objs.size<=g) (hd:h.objs.size<=cd) (hl:h.objs.size<=cl) (k:∀b o,b≠p->h.get? b=some o->h'.get? b=some o) (ep:∃o,h'.get? p=some o):
  Un fs [] H (made H p g cd cl more v name qual params body scope x) h h':=by
 have ng:=ok.fresh hg
 have nd:=ok.fresh hd
 have nl:=ok.fresh hl
 have lt:∀{b:Addr} {o:Obj} {c:Addr},h.get? b=some o->h.objs.size<=c->b≠c:=fun e q=>Nat.ne_of_lt (Nat.lt_of_lt_of_le (Heap.lt_size e) q)
 have np:∀{b:Addr},H b=none->b≠p:=fun e z=>by subst z;rw [hp] at e;cases e
 have old:∀c z,H c=some z->c≠p->made H p g cd cl more v name qual params body scope x c=some z:=fun c z q np=>by
  rw [qde np (qa9 q nl) (qa9 q nd) (qa9 q ng)];exact q
 refine⟨fun b o e n _ _=>k b o (np n) e,fun b o e n _ _=>⟨o.slots,k b o (np n) e⟩,fun b o e n _=>?_,fun b o e _=>?_,fun b xs e=>old b _ e ?_,fun b o z e=>old b _ e ?_,fun b ps e=>?_⟩
 .rw [qde (np n) (lt e hl) (lt e hd) (lt e hg)];exact n
 .by_cases hb:b=p
  .subst hb;exact ep
  .exact⟨o,k b o hb e⟩
 .rintro rfl;rw [hp] at e;cases e
 .rintro rfl;rw [hp] at e;cases e
 .by_cases hb:b=p
  .subst hb
   rw [hp] at e;cases e
   refine⟨more,?_⟩
   unfold made
   rw [qa6 (qa9 hp ng),qa6 (qa9 hp nd),qa6 (qa9 hp nl),qa1,Array.empty_append]
  .exact⟨#[],by rw [Array.append_empty];exact old b _ e hb⟩
end
theorem fn_maker {CX:CXT} {P:Program} {w:World} {K:Frag} {mg:Str->Option Value} {base:Heap} {k:Nat} {f c p:Addr} {name qual qual' x y:Str} {params params':Arguments} {body':List Stmt} {scope scope':Scope} {dV kV doc pm ct oc:Value} {an od:Option Addr}
  {osl:Array (Option Value)} {pos p1 p2:Pos}
  (lk:K.lookup f=some ⟨oc,od,.func (fnOf name qual params [.FunctionDef y params' body' [] none [] scope' none y pos,.Return (some (.Name y p1)) p2] scope dV kV doc pm an (.ref c) ct),osl⟩) (hcd:codeIn K (.ref c) qual=true)
  (C:PySem.W.CodeHd base c p) (hbm:BmAt mg base)
  (hk:scope.kind=.function) (hco:scope.isCoroutine=false) (hge:scope.isGenerator=false) (hx:scope.names.lookup x=some .cell) (hy:scope.names.lookup y=some .local) (hcs:∀n,cellsFrom n scope.names []=[(x,n)]) (hyd:(y==("__debug__" :Str))=false)
  (hcl:∀L,closureFor scope' (envOfC qual scope L f (.ref c))=pure [(x,L+1)]) (hd0:params'.defaults=[]) (hk0:params'.kw_defaults=[]) (ha:∀L,annTrees params' none (envOfC qual scope L f (.ref c))=[])
  (hqn:∀L,qualnameIn (envOfC qual scope L f (.ref c)) y y=qual'):
  FnOk P w K mg base CX (k+1) f (fnOf name qual params [.FunctionDef y params' body' [] none [] scope' none y pos,.Return (some (.Name y p1)) p2] scope dV kV doc pm an (.ref c) ct) [x] (spMaker p y qual' params' body' scope' x):=by
 refine⟨fun vs H Q E ⟨v,e,_⟩=>by rw [e];rfl,fun A outer s H args us vs Q E hr e0 hb r hsp=>?_⟩
 obtain⟨v,rfl,hp,hq⟩:=hsp
 obtain⟨u,rfl,rv⟩:∃u,us=[u]/\qb2 v u:=by
  cases r with
  |cons r1 r2=>cases r2;exact⟨_,rfl,r1⟩
 have bk:∀b o,base.get? b=some o->s.heap.get? b=some o:=fun b o e=>(e0.bs b o e).1
 have KX:K.In s.heap:=e0.mod.kin.keeps bk
 have lim:s.heap.NoLimit:=e0.mod.nolimit.keeps bk
 have hP:s.heap.get? p=some (PySem.W.tabObj #[]):=e0.hok p _ hp
 refine codeAny_call_function hr.depth (KX _ _ lk) rfl hco hge rfl (PySem.W.codeRec_of KX hcd) (hb _ _ _ _ ?_)
 refine wpAny_newFunctionEnv_cells hk (fun z hz=>?_) fun env he s1 X=>?_
 .have:z=(x,u):=by simpa using hz
  subst this
  exact .inr ⟨hx,by rw [hcs];simp⟩
 subst he
 refine⟨lim.keeps X.toInCall.keep,codeAny_func ?_⟩
 obtain⟨hh,tk0,rfl⟩:=X.toInCall.same
 have keep:∀b o,s.heap.get? b=some o->hh.get? b=some o:=X.toInCall.keep
 have nsL:=X.toInCall.ns
 have szL:s.heap.objs.size < hh.objs.size:=nsL.lt
 have hcell:hh.IsCell (s.heap.objs.size+1) (some u):=by
  have q:=X.cell x (s.heap.objs.size+1) (by show (cellsFrom (s.heap.objs.size+1) scope.names []).lookup x=_;rw [hcs];simp)
  have e:bindC (envOfC qual scope s.heap.objs.size f (.ref c)).kindOf ([x].zip [u]) (fun _=>none) x=some u:=by
   show bindC _ [(x,u)] _ x=_
   unfold bindC
   rw [if_neg (by show ¬scope.names.lookup x=_;rw [hx];decide)]
   exact if_pos rfl
  exact e ▸ q
 have gS:hh.Ns mainGlobals mg:=(e0.mod.glob.keeps bk).keeps keep
 have hPh:hh.get? p=some (PySem.W.tabObj #[]):=keep _ _ hP
 have hgP:mainGlobals≠p:=fun z=>by
  obtain⟨o,es,ep,e,hd,_⟩:=gS
  rw [z,hPh] at e;cases e;cases hd
 have hbuilt:hh.BuiltinsAt mg p:=by
  obtain⟨bm,o,b1,b2,b3,b4,r⟩:=hbm
  refine⟨bm,o,b1,b2,b3,fun z=>?_,keep _ _ (bk _ _ b4),r⟩
  have:=(e0.bs _ _ b4).2
  rw [z,hp] at this;cases this
 refine wpAny_execs_cons (PySem.W.nestDef_K hd0 hk0 (ha _) ?_)
 refine PySem.W.makeFunction_K (mg:=mg) (c:=c) (P:=p) (ps:=#[]) (hcl _) rfl gS rfl ((C.keeps bk).keeps keep) hPh (by trivial) (by rfl) hgP hbuilt fun c' ctv doc' h' tk hxt hge' hlt hrec htb=>?_
 have szc:hh.objs.size<=c':=hge'
 have ltp:p < s.heap.objs.size:=Heap.lt_size hP
 have ltc:s.heap.objs.size+1 < hh.objs.size:=by
  obtain⟨o,e,d⟩:=hcell
  exact Heap.lt_size e
 have l1:s.heap.objs.size+1 < c':=Nat.lt_of_lt_of_le ltc szc
 have l2:s.heap.objs.size+1 < h'.objs.size:=Nat.lt_trans l1 hlt
 have l3:s.heap.objs.size < c':=Nat.lt_of_succ_lt l1
 have l4:s.heap.objs.size < h'.objs.size:=Nat.lt_of_succ_lt l2
 have nL:s.heap.objs.size≠p:=Nat.ne_of_gt ltp
 have ncl:s.heap.objs.size+1≠p:=Nat.ne_of_gt (Nat.lt_succ_of_lt ltp)
 have nsH:h'.Ns s.heap.objs.size _:=nsL.extBut hxt nL
 have hqn':=hqn s.heap.objs.size
 generalize hQ:qualnameIn (newEnv _ _ _ _ _ _ _ _ _) y y=qq at hrec ⊢
 obtain rfl:qual'=qq:=hqn'.symm.trans hQ
 refine wpAny_storeName_local hy (nsH.push _) (fun h2 ns2 sb=>?_) (by
  have hk':scope.kind=.function:=hk
  show ((scope.kind==.class) ||(scope.kind==.module && _))=false
  rw [hk'];rfl)
 refine wpAny_execs_cons (wpAny_Return_some (wpAny_Name (wpAny_loadName_local hk hy ns2 (if_pos rfl) ?_) hyd))
 have sb':Heap.SameBut s.heap.objs.size (h'.push (fnMade y qual' params' body' scope' [(x,s.heap.objs.size+1)] doc' ((mg "__name__").getD .none) c' ctv)) h2:=sb
 have kp:∀b o,b≠p->s.heap.get? b=some o->h2.get? b=some o:=fun b o hb e=>by
  rw [sb'.2 b (Nat.ne_of_lt (Heap.lt_size e))]
  exact Heap.get?_push_of_some _ (hxt b o hb (keep b o e))
 have kq:∀b o,b≠s.heap.objs.size->h'.get? b=some o->h2.get? b=some o:=fun b o hb e=>by
  rw [sb'.2 b hb]
  exact Heap.get?_push_of_some _ e
 have hcl':h'.IsCell (s.heap.objs.size+1) (some u):=by
  obtain⟨o,e,d⟩:=hcell
  exact⟨o,hxt _ _ ncl e,d⟩
 have e1:h2.get? p=some (PySem.W.tabObj (#[]++#[rawInt pos.line,rawInt pos.col,.ref c'])):=kq p _ (Ne.symm nL) htb
 have e2:h2.get? h'.objs.size=some (fnMade y qual' params' body' scope' [(x,s.heap.objs.size+1)] doc' ((mg "__name__").getD .none) c' ctv):=by
  rw [sb'.2 _ (Nat.ne_of_gt l4)]
  exact Heap.get?_push_size _ rfl
 have e3:h2.CodeRec (.ref c') qual':=by
  obtain⟨cc,o,vs,t,q1,q2,q3⟩:=hrec
  cases q1
  exact⟨c',o,vs,t,rfl,kq _ _ (Nat.ne_of_gt l3) q2,q3⟩
 have e4:h2.IsCell (s.heap.objs.size+1) (some u):=by
  obtain⟨o,e,d⟩:=hcl'
  exact⟨o,kq _ _ (Nat.succ_ne_self _) e,d⟩
 have z1:=Nat.le_of_lt l4
 have z2:=Nat.le_of_lt l3
 have z3:=Nat.le_succ s.heap.objs.size
 exact⟨.ref h'.objs.size,made H p h'.objs.size c' (s.heap.objs.size+1) _ v y qual' params' body' scope' x,rfl,e0.bare,made_un e0.hok hp z1 z2 z3 kp ⟨_,e1⟩,
  made_hok e0.hok hp z1 z2 z3 kp (Nat.ne_of_gt l1) (Nat.ne_of_gt l2) (Nat.ne_of_gt hlt) e1 e2 e3 rv e4,rfl,hq _ _ _ _ (e0.hok.fresh z1) (e0.hok.fresh z2) (e0.hok.fresh z3) (Nat.ne_of_gt l1) (Nat.ne_of_gt l2) (Nat.ne_of_gt hlt)⟩
theorem Fun.maker {CX:CXT} {P:Program} {w:World} {K:Frag} {mg:Str->Option Value} {base:Heap} {k:Nat} {f c p:Addr} {fd:FuncData} {nm qual qual' x y:Str} {st:Stmt} {params':Arguments} {body':List Stmt} {scope':Scope} {pos p1 p2:Pos}
  (F:Fun K nm qual st f fd) (hm:mg nm=some (.ref f)) (kin:K.In base) (hns:base.Ns mainGlobals mg) (ht:tabIn K nm=some (c,p)) (C:PySem.W.CodeHd base c p) (hbm:BmAt mg base)
  (hb:qbo st=[.FunctionDef y params' body' [] none [] scope' none y pos,.Return (some (.Name y p1)) p2])
  (hk:(qa8 st).kind=.function) (hco:(qa8 st).isCoroutine=false) (hge:(qa8 st).isGenerator=false) (hx:(qa8 st).names.lookup x=some .cell) (hy:(qa8 st).names.lookup y=some .local) (hcs:∀n,cellsFrom n (qa8 st).names []=[(x,n)]) (hyd:(y==("__debug__" :Str))=false)
  (hcl:∀L cd,closureFor scope' (envOfC qual (qa8 st) L f cd)=pure [(x,L+1)]) (hd0:params'.defaults=[]) (hk0:params'.kw_defaults=[]) (ha:∀L cd,annTrees params' none (envOfC qual (qa8 st) L f cd)=[])
  (hqn:∀L cd,qualnameIn (envOfC qual (qa8 st) L f cd) y y=qual'):
  FnOk P w K mg base CX (k+1) f fd [x] (spMaker p y qual' params' body' scope' x):=by
 obtain⟨oc,od,kV,doc,pm,an,cdv,ct,osl,rfl,lk,hcd⟩:=F.ex
 have hc:cdv=.ref c:=by
  unfold tabIn at ht
  split at ht
  .rename_i f' hf
   have e1:=PySem.W.mg_of kin hns hf
   rw [hm] at e1
   cases e1
   split at ht
   .rename_i hfo
    rw [lk] at hfo
    cases hfo
    split at ht
    .rename_i c2 hc2
     have hc2':cdv=.ref c2:=hc2
     split at ht
     .split at ht
      .cases ht;exact hc2'
      .cases ht
     .cases ht
    .cases ht
   .cases ht
  .cases ht
 subst hc
 rw [hb] at lk ⊢
 exact fn_maker lk hcd C hbm hk hco hge hx hy hcs hyd (fun L=>hcl L _) hd0 hk0 (fun L=>ha L _) (fun L=>hqn L _)
end My
namespace My
open PySem PySem.Spec PyProof.Rows L2
def less (H:Hp) (c:Addr):Hp:=fun b=>if b=c then none else H b
theorem qe7 {H:Hp} {c:Addr}:less H c c=none:=if_pos rfl
theorem qcz {H:Hp} {b c:Addr} (h:b≠c):less H c b=H b:=if_neg h
theorem qcs {H:Hp} {b c:Addr} (h:H b=none):less H c b=none:=by
 by_cases hb:b=c
 .exact if_pos hb
 .rw [qcz hb];exact h
theorem less_back {H:Hp} {c:Addr} {o:HO} (h:H c=some o):upd (less H c) c o=H:=by
 funext b
 by_cases hb:b=c
 .subst hb;rw [qa1,h]
 .rw [qa6 hb,qcz hb]
def cxM (CX:CXT) (P:Program) (w:World) (K:Frag) (mg:Str->Option Value) (base:Heap) (N:List Str) (qual:Str) (scope:Scope) (g:Addr) (cd:Value) (cl:List (Str × Addr)) (A:Around) (outer:List Env) (s:Shared) (H0 H:Hp) (E:XK):Cx where
 prog:=P
 w:=w
 K:=K
 mg:=mg
 base:=base
 A:=A.deeper (envX qual scope s.heap.objs.size g cd cl)
 N:=N
 s₀:=s
 H₀:=H0
 env:=envX qual scope s.heap.objs.size g cd cl
 outer:=outer
 stack:=envX qual scope s.heap.objs.size g cd cl :: outer
 ex:=[]
 calm:=true
 fn:=fun _=>false
 pn:=[]
 xe:=fun e s'=>wpAny (model P w) (A.deeper (envX qual scope s.heap.objs.size g cd cl)) (leaving (envX qual scope s.heap.objs.size g cd cl) e) (fun _ s''=>CX outer H s E e s'') (fun e' s''=>CX outer H s E e' s'') s'
theorem less_hok {P:Program} {w:World} {H:Hp} {h:Heap} {c:Addr} {φ:Heap->Prop} (ok:HOk P w H h) (hc:H c=some (.ext φ)):HOk P w (less H c) h:=fun b o e=>by
 have hb:b≠c:=fun z=>by subst z;rw [qe7] at e;cases e
 rw [qcz hb] at e
 refine(ok b o e).stay (fun _ _ _ q=>q) (fun d q=>?_) fun d xs q=>?_
 .rw [qcz fun z=>by subst z;rw [hc] at q;cases q];exact q
 .rw [qcz fun z=>by subst z;rw [hc] at q;cases q];exact q
structure MadeOk (name qual:Str) (params:Arguments) (body:List Stmt) (scope:Scope) (z x:Str):Prop where
 kind:scope.kind=.function
 co:scope.isCoroutine=false
 gen:scope.isGenerator=false
 nocell:∀y∈scope.names,y.2≠ .cell
 par:scope.names.lookup z=some .local
 free:scope.names.lookup x=some .free
 only:∀y,scope.names.lookup y=some .free->y=x
 bind:∀(cl cd:Addr) (ct doc pm:Value) (s:Shared) (u:Value),BindsTo s (PySem.W.fnX name qual params body scope [(x,cl)] .none .none doc pm none (.ref cd) ct) ⟨[u], []⟩ [(z,u)]
theorem run_made {CX:CXT} {P:Program} {w:World} {K:Frag} {mg:Str->Option Value} {base:Heap} {k:Nat} {g cl cd:Addr} {name qual x z:Str} {params:Arguments} {body:List Stmt} {scope:Scope} {vx vz:V} {uz:Value} {A:Around} {outer:List Env} {s:Shared} {H:Hp} {Q:VK} {E:XK}
  (M:MadeOk name qual params body scope z x) (hr:Room (k+1) A) (e0:Env0 P w K mg base A outer s H) (hg:H g=some (FnO g name qual params body scope x cl cd)) (hd:H cd=some (CodO cd qual)) (hc:H cl=some (qeo cl vx)) (rz:qb2 vz uz)
  (hbody:Room k (A.deeper (envX qual scope s.heap.objs.size g (.ref cd) [(x,cl)]))->∃t,PSs (cxM CX P w K mg base [z,x] qual scope g (.ref cd) [(x,cl)] A outer s (less H cl) H E) body t/\
   t {nx:=fun _ H'=>Q .non (upd H' cl (qeo cl vx)),rt:=fun v H'=>Q v (upd H' cl (qeo cl vx))} [some vz,some vx] (less H cl)):
  codeAny (model P w) A (.call (.ref g) ⟨[uz], []⟩) (CR CX outer P w H s Q E) s:=by
 obtain⟨⟨doc,pm,ctv,eg⟩,_⟩:=e0.hok g _ hg
 obtain⟨ec,_⟩:=e0.hok cd _ hd
 obtain⟨⟨ux,rx,ecell⟩,_⟩:=e0.hok cl _ hc
 have ec':s.heap.CodeRec (.ref cd) qual:=ec
 have lim:s.heap.NoLimit:=e0.mod.nolimit.keeps fun b o e=>(e0.bs b o e).1
 refine codeAny_call_def (fd:=PySem.W.fnX name qual params body scope [(x,cl)] .none .none doc pm none (.ref cd) ctv) (body:=body) (binds:=[(z,uz)]) hr.depth eg rfl lim ec' rfl (M.bind cl cd ctv doc pm s uz) M.nocell
  (fun y hy=>?_) (fun h₁ hns hk1=>?_) M.co M.gen M.kind
 .have:y=(z,uz):=by simpa using hy
  subst this
  exact M.par
 obtain⟨t,ht,hq⟩:=hbody (hr.deeper _)
 have lk:∀y c,([(x,cl)]:List (Str × Addr)).lookup y=some c->y=x/\c=cl:=fun y c e=>by
  rw [lookup_cons] at e
  cases hb:y==x with
  |true=>rw [hb] at e;cases e;exact⟨eq_of_beq hb,rfl⟩
  |false=>rw [hb] at e;cases e
 have lx:([(x,cl)]:List (Str × Addr)).lookup x=some cl:=by rw [lookup_cons,beq_self_eq_true]
 have noA:∀b:Addr,b∉([]:List Addr):=fun b z=>absurd z (by simp)
 have nfr:cl∉frs outer:=fun q=>by rw [e0.frf cl q] at hc;cases hc
 have I:Inv (cxM CX P w K mg base [z,x] qual scope g (.ref cd) [(x,cl)] A outer s (less H cl) H E) [] [some vz,some vx] (less H cl) {s with heap:=h₁,toks:=s.toks+1}:=by
  refine⟨⟨e0.mod,M.kind,rfl,rfl,Nat.le_refl _,fun y y' c q1 q2=>?_,fun y hy=>?_,fun y c q=>(Bool.false_ne_true q).elim,fun _=>hr.hd,Around.frames_deeper e0.frames,.inr ⟨rfl,rfl⟩,fun b q=>absurd q (noA b),fun b o e=>⟨(e0.bs b o e).1,qcs (e0.bs b o e).2⟩,e0.bsz,
   fun b _ _=>noA b,fun b q=>absurd q (noA b),e0.funs,fun b q=>qcs (e0.frf b q)⟩,rfl,e0.bare,Un.kept hk1,⟨_,hns,fun i y v q1 q2 q3=>?_⟩,fun y c q=>?_,qcs (e0.hok.fresh (Nat.le_refl _)),fun y c q=>?_,fun p hp=>absurd (show p∈([]:List (Addr × Obj)) from hp) (by simp),
   (less_hok e0.hok hc).kept hk1,rfl⟩
  .rw [(lk y c q1).1,(lk y' c q2).1]
  .have hy:scope.names.lookup y=some .cell\/scope.names.lookup y=some .free:=hy
   rcases hy with hy|hy
   .exact absurd rfl (M.nocell _ (PySem.mem_of_lookup hy))
   .rw [M.only y hy];exact⟨cl,lx⟩
  .match i,q1,q2 with
   |0,q1,q2=>
    cases q1
    cases q2
    exact⟨uz,rz,.inl ⟨M.par,by show ([(z,uz)]:List (Str × Value)).lookup z=_;rw [lookup_cons,beq_self_eq_true]⟩⟩
   |1,q1,q2=>
    cases q1
    cases q2
    exact⟨ux,rx,.inr ⟨.inr M.free,cl,lx,ecell.keeps hk1⟩⟩
   |i+2,q1,q2=>cases q2
  .rw [(lk y c q).2];exact⟨_,ecell.keeps hk1⟩
  .rw [(lk y c q).2];exact qe7
 have fin:∀{σ':L2.St} {H':Hp} {v:V} {u:Value} {s':Shared},Inv (cxM CX P w K mg base [z,x] qual scope g (.ref cd) [(x,cl)] A outer s (less H cl) H E) [] σ' H' s'->qb2 v u->Q v (upd H' cl (qeo cl vx))->CE outer P w H s Q u s':=fun {σ' H' v u s'} J rv q=>by
  obtain⟨oc,eoc,dc⟩:=ecell
  have B:Un (frs outer) [] (less H cl) H' s.heap s'.heap:=J.base
  have nc:H' cl=none:=B.free cl oc eoc qe7 (noA _)
  have kc:s'.heap.get? cl=some oc:=B.keep cl oc eoc qe7 nfr (noA _)
  have nb:∀{b:Addr},H b=none->b≠cl:=fun e z=>by subst z;rw [hc] at e;cases e
  refine⟨v,upd H' cl (qeo cl vx),J.os,J.bare,⟨fun b o e n h1 h2=>B.keep b o e (qcs n) h1 h2,fun b o e n h1 h2=>B.slot b o e (qcs n) h1 h2,fun b o e n h1=>?_,B.there,fun b xs e=>?_,fun b o u e=>?_,fun b ps e=>?_⟩,fun b o e=>?_,rv,q⟩
  .rw [qa6 (nb n)];exact B.free b o e (qcs n) h1
  .have hb:b≠cl:=fun z=>by subst z;rw [hc] at e;cases e
   rw [qa6 hb];exact B.tups b xs (by rw [qcz hb];exact e)
  .have hb:b≠cl:=fun z=>by subst z;rw [hc] at e;cases e
   rw [qa6 hb];exact B.frzs b o u (by rw [qcz hb];exact e)
  .have hb:b≠cl:=fun z=>by subst z;rw [hc] at e;cases e
   obtain⟨more,em⟩:=B.tbls b ps (by rw [qcz hb];exact e)
   exact⟨more,by rw [qa6 hb];exact em⟩
  .by_cases hb:b=cl
   .subst hb
    rw [qa1] at e;cases e
    exact qeo.ok rx ⟨oc,kc,dc⟩
   .rw [qa6 hb] at e
    refine(J.hok b o e).stay (fun _ _ _ q=>q) (fun d q=>?_) fun d xs q=>?_
    .rw [qa6 (qa9 q nc)];exact q
    .rw [qa6 (qa9 q nc)];exact q
 refine wpAny_mono (ht [] _ _ _ _ I hq) (fun fl s' hs=>?_) fun e s' hs=>hs
 cases fl with
 |ret u=>
  obtain⟨v,σ',H',J,rv,q⟩:=hs
  exact fin J rv q
 |next=>
  obtain⟨σ',H',J,q⟩:=hs
  exact fin (v:=V.non) (u:=Value.none) J rfl q
 |brk=>
  obtain⟨_,_,_,q⟩:=hs
  exact False.elim q
 |cont=>
  obtain⟨_,_,_,q⟩:=hs
  exact False.elim q
def Wg (name qual:Str) (params:Arguments) (body:List Stmt) (scope:Scope) (x:Str) (H:Hp) (g t:Addr):Prop:=
 ∃cl cd,H g=some (FnO g name qual params body scope x cl cd)/\H cd=some (CodO cd qual)/\H cl=some (qeo cl (.ref t))
theorem dget_less {H:Hp} {a c:Addr} {y:V} {r:Option V} {φ:Heap->Prop} (g:DGet H a y r) (hc:H c=some (.ext φ)):DGet (less H c) a y r:=by
 have old:∀{b:Addr} {o:HO},H b=some o->(∀ψ,o≠ .ext ψ)->less H c b=some o:=fun {b o} e n=>by
  rw [qcz fun z=>by subst z;rw [hc] at e;exact n φ (Option.some.inj e).symm];exact e
 rcases g with ⟨kvs,k,e,r1,r2⟩ |⟨kvs,k,b,e,r1,e2,r2⟩
 .refine .inl ⟨kvs,k,?_,r1,r2⟩
  rcases e with e|⟨o,e⟩
  .exact .inl (old e fun ψ z=>by cases z)
  .exact .inr ⟨o,old e fun ψ z=>by cases z⟩
 .refine .inr ⟨kvs,k,b,?_,r1,old e2 (fun ψ z=>by cases z),r2⟩
  rcases e with e|⟨o,e⟩
  .exact .inl (old e fun ψ z=>by cases z)
  .exact .inr ⟨o,old e fun ψ z=>by cases z⟩
theorem FnO.at {P:Program} {w:World} {H:Hp} {h:Heap} {g cl cd:Addr} {name qual x:Str} {params:Arguments} {body:List Stmt} {scope:Scope} (ok:HOk P w H h) (e:H g=some (FnO g name qual params body scope x cl cd)):PySem.W.FnAt g h:=by
 obtain⟨⟨doc,pm,ctv,eg⟩,_⟩:=ok g _ e
 exact⟨_,_,_,_,eg⟩
abbrev wgBody (x z:Str) (p1 p2 p3 p4:Pos):List Stmt:=[.Return (some (.Subscript (.Name x p1) (.Name z p2) p3)) p4]
def tWg (W:Hp->Addr->Addr->Prop) (i:Nat) (ta:TA):TE:=fun σ H Q=>∃g t,σ[i]?=some (some (.ref g))/\W H g t/\ta σ H fun vs H1=>∃vz z,vs=[vz]/\W H1 g t/\DGet H1 t vz (some z)/\Q z H1
theorem pe_wg {X:Cx} {k i:Nat} {y name qual x z:Str} {params:Arguments} {scope:Scope} {p pos p1 p2 p3 p4:Pos} {e:Expr} {ta:TA} (M:MadeOk name qual params (wgBody x z p1 p2 p3 p4) scope z x) (hr:Room (k+1) X.A) (hN:X.N[i]?=some y) (hv:Vis X.env.scope y) (ha:PA X [e] ta)
  (d1:(x==("__debug__" :Str))=false:=by decide) (d2:(x==("__classdict__" :Str))=false:=by decide) (d3:(z==("__debug__" :Str))=false:=by decide) (d4:(z==("__classdict__" :Str))=false:=by decide)
  (d5:(y==("__debug__" :Str))=false:=by decide) (d6:(y==("__classdict__" :Str))=false:=by decide) (he:starEach [e] X.env=(false,eval e X.env) :: starEach [] X.env:=by rfl) (hpl:(backTo pos (starEach [] X.env)).any (·.1)=false:=by rfl):
  PE X (.Call (.Name y p) [e] [] pos) (tWg (Wg name qual params (wgBody x z p1 p2 p3 p4) scope x) i ta):=by
 intro pins s σ H Q I h
 obtain⟨g,t,eg,W0,h⟩:=h
 refine wpAny_Call_Name_kw (thn (pe_var hN hv d5 d6 pins s σ H (fun v H'=>v=.ref g/\H'=H) I ⟨.ref g,eg,rfl,rfl⟩) fun f s1 ⟨v,H1,I1,r1,q1,q2⟩=>?_)
 subst q1
 subst q2
 obtain rfl:f=Value.ref g:=r1
 obtain⟨cl0,cd0,w1,_,_⟩:=W0
 refine PySem.W.callWith_F (first:=[]) (FnO.at I1.hok w1) (thn (ha pos pins s1 σ H1 _ I1 h) fun us s2 ⟨vs,H2,I2,r,vz,zz,ev,⟨cl,cd,w2,w3,w4⟩,dg,q⟩=>⟨FnO.at I2.hok w2,?_⟩) he hpl
 subst ev
 obtain⟨u,rfl,rv⟩:∃u,us=[u]/\qb2 vz u:=by
  cases r with
  |cons r1 r2=>cases r2;exact⟨_,rfl,r1⟩
 have run:=run_made (CX:=fun _ _ _ _ _ _=>False) (E:=fun _ _ _=>False) (Q:=Q) M hr I2.env0 w2 w3 w4 rv fun hr'=>
  ⟨_,qa5 (qad (qat (qau hr') (pe_var (i:=1) rfl (.inr (.inr M.free)) d1 d2) (pe_var (i:=0) rfl (.inl M.par) d3 d4) (fun _ _=>rfl))),_,rfl,_,rfl,t,zz,rfl,dget_less dg w4,by
   show Q zz (upd (less H2 cl) cl (qeo cl (.ref t)))
   rw [less_back w4];exact q⟩
 refine wpAny_call (codeAny_mono run fun r s' hq=>?_)
 cases r with
 |error e=>exact False.elim hq
 |ok fl=>
  cases fl with
  |ret u=>exact I2.after hq
  |next=>exact False.elim hq
  |brk=>exact False.elim hq
  |cont=>exact False.elim hq
end My
set_option exponentiation.threshold 5000
namespace My
open PySem PySem.Spec PyProof.Rows L2
def Hug (i:Int):Prop:=i.natAbs < 2^4000
theorem Hug.bits {k:Int} (h:Hug k):Builtin.Int.intBits k<=2^20:=Nat.le_trans (PyProof.Rows.intBits_le (k:=4000) h) (by decide)
theorem Hug.small {k:Int} (h:k.natAbs < 2^600):Hug k:=Nat.lt_of_lt_of_le h (Nat.pow_le_pow_right (by decide) (by decide))
theorem Hug.le {k:Int} {n:Nat} (h:k.natAbs<=n) (z:n < 2^4000):Hug k:=Nat.lt_of_le_of_lt h z
def CHug (i j:Int):Prop:=Hug i/\Hug j
theorem qd9 {X:Cx}:OpR X (binaryOp .Mult) (rI CHug fun i j=> .int (i*j)):=opI fun _ _ _ _ _ _ _ hc q=>mul_int q (IntMulOk.of_bits hc.1.bits hc.2.bits)
end My
namespace Our
open PySem L2 My
def top (i:Nat):PySem.Stmt:=PySem.Challenge.pw_quotatree_k53_rounds.main.body.getD i (.Pass ⟨0,0,0,0⟩)
def qcp:PySem.Stmt->Nat->PySem.Stmt
 | .ClassDef _ _ _ body _ _ _ _ _ _ _,j=>body.getD j (.Pass ⟨0,0,0,0⟩)
 |s,_=>s
abbrev s_is_whole:PySem.Stmt:=top 15
abbrev s_is_name:PySem.Stmt:=top 16
abbrev s_is_whole_from:PySem.Stmt:=top 17
abbrev s_is_amount:PySem.Stmt:=top 19
abbrev s_amounts_of:PySem.Stmt:=top 20
abbrev s_above_nought:PySem.Stmt:=top 21
abbrev s_amount_of:PySem.Stmt:=top 22
abbrev s_added:PySem.Stmt:=top 23
abbrev s_beyond:PySem.Stmt:=top 24
abbrev s_total_of:PySem.Stmt:=top 25
abbrev s_divisor:PySem.Stmt:=top 27
abbrev s_fraction:PySem.Stmt:=top 28
abbrev s_minus:PySem.Stmt:=top 29
abbrev s_times:PySem.Stmt:=top 30
abbrev s_divided:PySem.Stmt:=top 31
abbrev s_below:PySem.Stmt:=top 32
abbrev s_weights_of:PySem.Stmt:=top 34
abbrev s_loads_of:PySem.Stmt:=top 35
abbrev s_least_of:PySem.Stmt:=top 36
abbrev s_rounds_by:PySem.Stmt:=top 38
abbrev s_rounds:PySem.Stmt:=top 39
abbrev s_are_wares:PySem.Stmt:=top 46
abbrev s_check_name:PySem.Stmt:=top 47
abbrev s_read_house:PySem.Stmt:=top 48
abbrev s_check_promises:PySem.Stmt:=top 49
abbrev s_cell_at:PySem.Stmt:=top 52
abbrev s_mixed:PySem.Stmt:=top 53
abbrev s_name:PySem.Stmt:=top 54
abbrev s_whole:PySem.Stmt:=top 55
abbrev s_want:PySem.Stmt:=top 56
abbrev s_room:PySem.Stmt:=top 57
abbrev s_sharing:PySem.Stmt:=top 58
abbrev s_tree:PySem.Stmt:=top 59
abbrev s_line:PySem.Stmt:=top 60
abbrev s_inside:PySem.Stmt:=top 61
abbrev s_together:PySem.Stmt:=top 62
abbrev s_less:PySem.Stmt:=top 63
abbrev s_l_divisor:PySem.Stmt:=top 64
abbrev s_is_fraction:PySem.Stmt:=top 65
abbrev s_weigher:PySem.Stmt:=top 66
abbrev s_asked:PySem.Stmt:=top 67
abbrev s_is_round:PySem.Stmt:=top 68
abbrev s_full:PySem.Stmt:=top 69
abbrev s_settled:PySem.Stmt:=top 70
abbrev s_least:PySem.Stmt:=top 71
abbrev s_walked:PySem.Stmt:=top 72
abbrev s_law:PySem.Stmt:=top 73
abbrev s_House_init:PySem.Stmt:=qcp (top 45) 0
abbrev s_Tree_init:PySem.Stmt:=qcp (top 50) 0
abbrev s_Tree_found:PySem.Stmt:=qcp (top 50) 1
abbrev s_Tree_wares:PySem.Stmt:=qcp (top 50) 2
abbrev s_Tree_names:PySem.Stmt:=qcp (top 50) 3
abbrev s_Tree_has:PySem.Stmt:=qcp (top 50) 4
abbrev s_Tree_check_house:PySem.Stmt:=qcp (top 50) 5
abbrev s_Tree_house_of:PySem.Stmt:=qcp (top 50) 6
abbrev s_Tree_elder_of:PySem.Stmt:=qcp (top 50) 7
abbrev s_Tree_weight_of:PySem.Stmt:=qcp (top 50) 10
abbrev s_Tree_kids:PySem.Stmt:=qcp (top 50) 11
abbrev s_Tree_line:PySem.Stmt:=qcp (top 50) 12
abbrev s_Tree_beneath:PySem.Stmt:=qcp (top 50) 13
abbrev s_Tree_promised_beneath:PySem.Stmt:=qcp (top 50) 14
abbrev s_Tree_check_more:PySem.Stmt:=qcp (top 50) 16
abbrev s_Dealing_init:PySem.Stmt:=qcp (top 37) 0
abbrev s_Dealing_fills:PySem.Stmt:=qcp (top 37) 1
abbrev s_Dealing_ready:PySem.Stmt:=qcp (top 37) 2
abbrev s_Dealing_settle:PySem.Stmt:=qcp (top 37) 3
abbrev s_Dealing_next_round:PySem.Stmt:=qcp (top 37) 4
abbrev s_i_NoPromise:PySem.Stmt:=qcp (top 11) 0
set_option genSizeOf false in
set_option genInjectivity false in
structure Ad where
 w6c:Addr
 w59:FuncData
 w7s:Addr
 w6s:FuncData
 w2l:Addr
 w2d:FuncData
 w56:Addr
 w4s:FuncData
 w4k:Addr
 w3l:FuncData
 w33:Addr
 w2m:FuncData
 w5l:Addr
 w4r:FuncData
 wch:Addr
 w94:FuncData
 w9n:Addr
 w8b:FuncData
 w6g:Addr
 w58:FuncData
 w89:Addr
 w6p:FuncData
 w6e:Addr
 w5f:FuncData
 wbl:Addr
 w9t:FuncData
 wbi:Addr
 w96:FuncData
 w87:Addr
 w6d:FuncData
 wc1:Addr
 w9u:FuncData
 w4d:Addr
 w3k:FuncData
 w6f:Addr
 w5e:FuncData
 w6o:Addr
 w57:FuncData
 w5o:Addr
 w4a:FuncData
 w93:Addr
 w5q:FuncData
 wfb:Addr
 w23:Value
 w5p:Addr
 w47:FuncData
 w49:Addr
 w3r:FuncData
 w48:Addr
 w3w:FuncData
 w25:Addr
 w1v:FuncData
 w7x:Addr
 w67:FuncData
 wby:Addr
 w9r:FuncData
 wex:Addr
 wbc:FuncData
 wcb:Addr
 w9m:FuncData
 wed:Addr
 wcf:FuncData
 wds:Addr
 wbh:FuncData
 w7r:Addr
 w6j:FuncData
 we6:Addr
 wb3:FuncData
 wer:Addr
 wb7:FuncData
 w9e:Addr
 w7o:FuncData
 w6m:Addr
 w5b:FuncData
 wez:Addr
 wbr:FuncData
 w5i:Addr
 w4g:FuncData
 w3x:Addr
 w35:FuncData
 w5r:Addr
 w4y:FuncData
 wbj:Addr
 w91:FuncData
 w65:Addr
 w5h:FuncData
 we0:Addr
 wci:FuncData
 w7p:Addr
 w6l:FuncData
 wc6:Addr
 w9s:FuncData
 w9v:Addr
 w7y:FuncData
 wcg:Addr
 wax:FuncData
 w4o:Addr
 w3y:FuncData
 w5n:Addr
 w30:FuncData
 wck:Addr
 w0y:Value
 w4u:Addr
 w2e:FuncData
 wac:Addr
 w0m:Value
 w6x:Addr
 w5u:FuncData
 w74:Addr
 w63:FuncData
 w6a:Addr
 w5m:FuncData
 w1o:Addr
 w1j:FuncData
 w2u:Addr
 w26:FuncData
 w2n:Addr
 w27:FuncData
 w24:Addr
 w1w:FuncData
 w5a:Addr
 w4t:FuncData
 w5d:Addr
 w4m:FuncData
 w16:Addr
 w0r:FuncData
 w11:Addr
 w0t:FuncData
 w1y:Addr
 w1q:FuncData
 w34:Addr
 w2x:FuncData
 w2s:Addr
 w28:FuncData
 w2o:Addr
 w29:FuncData
 w2c:Addr
 w1x:FuncData
 w1b:Addr
 w18:FuncData
 w3s:Addr
 w37:FuncData
 w05:Addr
 w01:Addr
 w00:Addr
 w3m:Addr
 w4z:Addr
 w68:Addr
 w0i:Addr
 w1l:Addr
 w50:Addr
 w2k:Addr
 w2j:Addr
 w3h:Addr
 w3c:Addr
 w3f:Value
 w14:Value
 w1m:Value
 w19:Value
 w15:Value
 w0g:Value
structure Tx (K:Frag) (mg:Str->Option Value) (d:Ad):Prop where
 w8x:Fun K "is_whole" "is_whole" s_is_whole d.w6c d.w59
 wd1:mg "is_whole" =some (.ref d.w6c)
 wd3:qaj K d.w59 ["thing"] []
 w7t:Fun K "is_name" "is_name" s_is_name d.w7s d.w6s
 wae:mg "is_name" =some (.ref d.w7s)
 wao:qaj K d.w6s ["thing"] []
 w2q:Fun K "is_whole_from" "is_whole_from" s_is_whole_from d.w2l d.w2d
 w4c:mg "is_whole_from" =some (.ref d.w2l)
 w4i:qaj K d.w2d ["thing","least","most"] []
 w7n:Fun K "is_amount" "is_amount" s_is_amount d.w56 d.w4s
 wc9:mg "is_amount" =some (.ref d.w56)
 wbk:qaj K d.w4s ["thing"] []
 w4b:Fun K "amounts_of" "amounts_of" s_amounts_of d.w4k d.w3l
 w70:mg "amounts_of" =some (.ref d.w4k)
 w72:qaj K d.w3l ["handed","wares"] []
 w55:Fun K "above_nought" "above_nought" s_above_nought d.w33 d.w2m
 w8s:mg "above_nought" =some (.ref d.w33)
 w8i:qaj K d.w2m ["amounts"] []
 w5k:Fun K "amount_of" "amount_of" s_amount_of d.w5l d.w4r
 w85:mg "amount_of" =some (.ref d.w5l)
 w84:qaj K d.w4r ["amounts","ware"] []
 wc3:Fun K "added" "added" s_added d.wch d.w94
 wea:mg "added" =some (.ref d.wch)
 wey:qaj K d.w94 ["one","other"] []
 wcr:Fun K "beyond" "beyond" s_beyond d.w9n d.w8b
 wfe:mg "beyond" =some (.ref d.w9n)
 wf8:qaj K d.w8b ["one","other"] []
 w8y:Fun K "total_of" "total_of" s_total_of d.w6g d.w58
 wd7:mg "total_of" =some (.ref d.w6g)
 wdl:qaj K d.w58 ["many"] []
 wa3:Fun K "divisor" "divisor" s_divisor d.w89 d.w6p
 wdu:mg "divisor" =some (.ref d.w89)
 we1:qaj K d.w6p ["one","other"] []
 w3a:Fun K "fraction" "fraction" s_fraction d.w6e d.w5f
 w4w:mg "fraction" =some (.ref d.w6e)
 w4x:qaj K d.w5f ["top","bottom"] []
 we2:Fun K "minus" "minus" s_minus d.wbl d.w9t
 wh3:mg "minus" =some (.ref d.wbl)
 wh0:qaj K d.w9t ["one","other"] []
 weg:Fun K "times" "times" s_times d.wbi d.w96
 wgu:mg "times" =some (.ref d.wbi)
 wgz:qaj K d.w96 ["one","other"] []
 wau:Fun K "divided" "divided" s_divided d.w87 d.w6d
 wdw:mg "divided" =some (.ref d.w87)
 wei:qaj K d.w6d ["one","other"] []
 wev:Fun K "below" "below" s_below d.wc1 d.w9u
 wh6:mg "below" =some (.ref d.wc1)
 wgi:qaj K d.w9u ["one","other"] []
 w71:Fun K "weights_of" "weights_of" s_weights_of d.w4d d.w3k
 w9x:mg "weights_of" =some (.ref d.w4d)
 waf:qaj K d.w3k ["tree","wants","weigh"] []
 w8z:Fun K "loads_of" "loads_of" s_loads_of d.w6f d.w5e
 wdh:mg "loads_of" =some (.ref d.w6f)
 wdd:qaj K d.w5e ["tree","weights","waiting"] []
 w8u:Fun K "least_of" "least_of" s_least_of d.w6o d.w57
 wcz:mg "least_of" =some (.ref d.w6o)
 wda:qaj K d.w57 ["many"] []
 w7w:Fun K "rounds_by" "rounds_by" s_rounds_by d.w5o d.w4a
 wbe:mg "rounds_by" =some (.ref d.w5o)
 wb4:qaj K d.w4a ["tree","rooms","wants","weights"] []
 w7m:My.FunD K "rounds" "rounds" s_rounds d.w93 d.w5q d.wfb #[d.w23]
 w9g:mg "rounds" =some (.ref d.w93)
 wcm:qaj K d.w5q ["tree","rooms","wants","weigh"] []
 wdq:qaj K d.w5q ["tree","rooms","wants","weigh"] [d.w23]
 wf1:qbj [.non] [d.w23]
 w8a:Fun K "are_wares" "are_wares" s_are_wares d.w5p d.w47
 wb6:mg "are_wares" =some (.ref d.w5p)
 wba:qaj K d.w47 ["thing"] []
 w4j:Fun K "check_name" "check_name" s_check_name d.w49 d.w3r
 w76:mg "check_name" =some (.ref d.w49)
 w75:qaj K d.w3r ["thing"] []
 w4v:Fun K "read_house" "read_house" s_read_house d.w48 d.w3w
 w6y:mg "read_house" =some (.ref d.w48)
 w6z:qaj K d.w3w ["wares","elder","promise","cap","weight"] []
 w1f:Fun K "check_promises" "check_promises" s_check_promises d.w25 d.w1v
 w2b:mg "check_promises" =some (.ref d.w25)
 w2a:qaj K d.w1v ["name","promises","cap"] []
 w20:Fun K "_law_cell_at" "_law_cell_at" s_cell_at d.w7x d.w67
 w2p:mg "_law_cell_at" =some (.ref d.w7x)
 w2v:qaj K d.w67 ["_law_script","_law_k"] []
 w9a:Fun K "_law_mixed" "_law_mixed" s_mixed d.wby d.w9r
 wbt:mg "_law_mixed" =some (.ref d.wby)
 wbw:qaj K d.w9r ["_law_cell","_law_k"] []
 wek:Fun K "_law_name" "_law_name" s_name d.wex d.wbc
 wg1:mg "_law_name" =some (.ref d.wex)
 wg8:qaj K d.wbc ["_law_cell","_law_k"] []
 wb9:Fun K "_law_whole" "_law_whole" s_whole d.wcb d.w9m
 wdy:mg "_law_whole" =some (.ref d.wcb)
 we5:qaj K d.w9m ["_law_found"] []
 wfy:Fun K "_law_want" "_law_want" s_want d.wed d.wcf
 whf:mg "_law_want" =some (.ref d.wed)
 wha:qaj K d.wcf ["_law_number","_law_scale"] []
 wfz:Fun K "_law_room" "_law_room" s_room d.wds d.wbh
 wh9:mg "_law_room" =some (.ref d.wds)
 whb:qaj K d.wbh ["_law_number","_law_scale"] []
 wa0:Fun K "_law_sharing" "_law_sharing" s_sharing d.w7r d.w6j
 we9:mg "_law_sharing" =some (.ref d.w7r)
 wdx:qaj K d.w6j ["_law_script","_law_count"] []
 wem:Fun K "_law_tree" "_law_tree" s_tree d.we6 d.wb3
 wgb:mg "_law_tree" =some (.ref d.we6)
 wga:qaj K d.wb3 ["_law_script","_law_sharing_here"] []
 wg5:Fun K "_law_line" "_law_line" s_line d.wer d.wb7
 whe:mg "_law_line" =some (.ref d.wer)
 whd:qaj K d.wb7 ["_law_elders","_law_k"] []
 w9q:Fun K "_law_inside" "_law_inside" s_inside d.w9e d.w7o
 wcl:mg "_law_inside" =some (.ref d.w9e)
 wct:qaj K d.w7o ["_law_sharing_here","_law_at"] []
 w8t:Fun K "_law_together" "_law_together" s_together d.w6m d.w5b
 wdn:mg "_law_together" =some (.ref d.w6m)
 wdg:qaj K d.w5b ["_law_shares","_law_some"] []
 wcu:Fun K "_law_less" "_law_less" s_less d.wez d.wbr
 wdr:mg "_law_less" =some (.ref d.wez)
 wf0:qaj K d.wbr ["_law_one","_law_other"] []
 w82:Fun K "_law_divisor" "_law_divisor" s_l_divisor d.w5i d.w4g
 wbv:mg "_law_divisor" =some (.ref d.w5i)
 wb5:qaj K d.w4g ["_law_one","_law_other"] []
 w5x:Fun K "_law_is_fraction" "_law_is_fraction" s_is_fraction d.w3x d.w35
 w9j:mg "_law_is_fraction" =some (.ref d.w3x)
 w9f:qaj K d.w35 ["_law_found"] []
 w9y:Fun K "_law_weigher" "_law_weigher" s_weigher d.w5r d.w4y
 wam:mg "_law_weigher" =some (.ref d.w5r)
 wdz:qaj K d.w4y ["_law_table"] []
 wej:Fun K "_law_asked" "_law_asked" s_asked d.wbj d.w91
 wgf:mg "_law_asked" =some (.ref d.wbj)
 wh4:qaj K d.w91 ["_law_script","_law_sharing_here"] []
 w8v:Fun K "_law_is_round" "_law_is_round" s_is_round d.w65 d.w5h
 wcy:mg "_law_is_round" =some (.ref d.w65)
 wd0:qaj K d.w5h ["_law_row"] []
 wf4:Fun K "_law_full" "_law_full" s_full d.we0 d.wci
 wfx:mg "_law_full" =some (.ref d.we0)
 wg6:qaj K d.wci ["_law_sharing_here","_law_shares","_law_level","_law_at"] []
 waw:Fun K "_law_settled" "_law_settled" s_settled d.w7p d.w6l
 wf2:mg "_law_settled" =some (.ref d.w7p)
 wdv:qaj K d.w6l ["_law_sharing_here","_law_shares","_law_level"] []
 wef:Fun K "_law_least" "_law_least" s_least d.wc6 d.w9s
 wgt:mg "_law_least" =some (.ref d.wc6)
 wgg:qaj K d.w9s ["_law_sharing_here","_law_shares","_law_level"] []
 wcv:Fun K "_law_walked" "_law_walked" s_walked d.w9v d.w7y
 wf7:mg "_law_walked" =some (.ref d.w9v)
 wfd:qaj K d.w7y ["_law_sharing_here","_law_told"] []
 whi:Fun K "law" "law" s_law d.wcg d.wax
 whj:mg "law" =some (.ref d.wcg)
 waq:Fun K "__init__" "House.__init__" s_House_init d.w4o d.w3y
 way:qaj K d.w3y ["self","elder","promise","cap","weight"] []
 wbx:My.FunD K "__init__" "Tree.__init__" s_Tree_init d.w5n d.w30 d.wck #[d.w0y]
 wcj:qaj K d.w30 ["self","wares","name","promise","cap","weight"] []
 wg9:qaj K d.w30 ["self","wares","name","promise","cap","weight"] [d.w0y]
 wg4:qbj [.int 1] [d.w0y]
 wa5:My.FunD K "found" "Tree.found" s_Tree_found d.w4u d.w2e d.wac #[d.w0m]
 wak:qaj K d.w2e ["self","name","elder","promise","cap","weight"] []
 wfu:qaj K d.w2e ["self","name","elder","promise","cap","weight"] [d.w0m]
 wfc:qbj [.int 1] [d.w0m]
 wg7:Fun K "wares" "Tree.wares" s_Tree_wares d.w6x d.w5u
 wg0:qaj K d.w5u ["self"] []
 wgc:Fun K "names" "Tree.names" s_Tree_names d.w74 d.w63
 wge:qaj K d.w63 ["self"] []
 wd6:Fun K "has" "Tree.has" s_Tree_has d.w6a d.w5m
 w90:qaj K d.w5m ["self","thing"] []
 w62:Fun K "check_house" "Tree.check_house" s_Tree_check_house d.w1o d.w1j
 w1p:qaj K d.w1j ["self","thing"] []
 w7v:Fun K "house_of" "Tree.house_of" s_Tree_house_of d.w2u d.w26
 w46:qaj K d.w26 ["self","name"] []
 w86:Fun K "elder_of" "Tree.elder_of" s_Tree_elder_of d.w2n d.w27
 w4p:qaj K d.w27 ["self","name"] []
 w79:Fun K "weight_of" "Tree.weight_of" s_Tree_weight_of d.w24 d.w1w
 w78:qaj K d.w1w ["self","name"] []
 wcc:Fun K "kids" "Tree.kids" s_Tree_kids d.w5a d.w4t
 wbq:qaj K d.w4t ["self","name"] []
 wca:Fun K "line" "Tree.line" s_Tree_line d.w5d d.w4m
 w3t:qaj K d.w4m ["self","name"] []
 w8q:Fun K "beneath" "Tree.beneath" s_Tree_beneath d.w16 d.w0r
 w54:qaj K d.w0r ["self","name"] []
 w3n:Fun K "promised_beneath" "Tree.promised_beneath" s_Tree_promised_beneath d.w11 d.w0t
 w3q:qaj K d.w0t ["self","name"] []
 w6t:Fun K "check_more" "Tree.check_more" s_Tree_check_more d.w1y d.w1q
 w6i:qaj K d.w1q ["self","names","more"] []
 w8n:Fun K "__init__" "Dealing.__init__" s_Dealing_init d.w34 d.w2x
 w8l:qaj K d.w2x ["self","tree","rooms","wants","weights"] []
 w81:Fun K "fills" "Dealing.fills" s_Dealing_fills d.w2s d.w28
 w8d:qaj K d.w28 ["self"] []
 w7q:Fun K "ready" "Dealing.ready" s_Dealing_ready d.w2o d.w29
 w80:qaj K d.w29 ["self","level","fills"] []
 w7i:Fun K "settle" "Dealing.settle" s_Dealing_settle d.w2c d.w1x
 w7d:qaj K d.w1x ["self","level","names"] []
 w52:Fun K "next_round" "Dealing.next_round" s_Dealing_next_round d.w1b d.w18
 w53:qaj K d.w18 ["self"] []
 wfr:Fun K "__init__" "NoPromise.__init__" s_i_NoPromise d.w3s d.w37
 wab:My.XClI K d.w1l d.w3s
 w9c:qaj K d.w37 ["self","house","ware"] []
 wh1:mg "House" =some (.ref d.w05)
 wh8:mg "Tree" =some (.ref d.w01)
 weh:mg "Dealing" =some (.ref d.w00)
 wh5:mg "TreeError" =some (.ref d.w3m)
 wfo:mg "NoName" =some (.ref d.w4z)
 wgy:mg "Taken" =some (.ref d.w68)
 weu:mg "NoHouse" =some (.ref d.w0i)
 wbz:mg "NoPromise" =some (.ref d.w1l)
 wcp:mg "NoWare" =some (.ref d.w50)
 w64:mg "NoAmount" =some (.ref d.w2k)
 wdk:mg "NoNumber" =some (.ref d.w2j)
 wet:mg "TooMany" =some (.ref d.w3h)
 wec:mg "TooDeep" =some (.ref d.w3c)
 wel:mg "LETTERS" =some d.w3f
 w4n:qb2 (.str "abcdefghijklmnopqrstuvwxyz") d.w3f
 w8p:mg "LONGEST_NAME" =some d.w14
 w1d:qb2 (.int 8) d.w14
 was:mg "MOST_WARES" =some d.w1m
 w21:qb2 (.int 6) d.w1m
 w9o:mg "MOST_HOUSES" =some d.w19
 w1n:qb2 (.int 40) d.w19
 w8m:mg "LONGEST_LINE" =some d.w15
 w1c:qb2 (.int 12) d.w15
 w6h:mg "GREATEST_WEIGHT" =some d.w0g
 w0p:qb2 (.int 1000) d.w0g
 wgv:mg "abs" =none
 whc:mg "all" =none
 wg3:mg "bool" =none
 wcw:mg "dict" =none
 wf9:mg "int" =none
 w08:mg "isinstance" =none
 w51:mg "len" =none
 wb2:mg "list" =none
 w4e:mg "range" =none
 whg:mg "set" =none
 w2h:mg "sorted" =none
 wgo:mg "str" =none
 whh:mg "sum" =none
 weo:mg "tuple" =none
 w0e:Cls K d.w00
 w39:Mk K d.w00 d.w34
 w12:Meth K d.w00 "fills" d.w2s
 w13:Meth K d.w00 "ready" d.w2o
 w0w:Meth K d.w00 "settle" d.w2c
 w0c:Meth K d.w00 "next_round" d.w1b
 w0d:findIn K (.ref d.w00) "tree" =some none
 w09:findIn K (.ref d.w00) "weights" =some none
 w04:findIn K (.ref d.w00) "waiting" =some none
 w0h:findIn K (.ref d.w00) "left" =some none
 w0f:findIn K (.ref d.w00) "goals" =some none
 w1e:Cls K d.w05
 w02:Cls K d.w01
 w5t:Mk K d.w05 d.w4o
 w8c:Mk K d.w01 d.w5n
 w1r:Meth K d.w01 "found" d.w4u
 w2g:Meth K d.w01 "wares" d.w6x
 w2f:Meth K d.w01 "names" d.w74
 w1s:Meth K d.w01 "has" d.w6a
 w06:Meth K d.w01 "check_house" d.w1o
 w0j:Meth K d.w01 "house_of" d.w2u
 w0k:Meth K d.w01 "elder_of" d.w2n
 w0q:Meth K d.w01 "weight_of" d.w24
 w22:Meth K d.w01 "kids" d.w5a
 w0z:Meth K d.w01 "line" d.w5d
 w0v:Meth K d.w01 "beneath" d.w16
 w07:Meth K d.w01 "promised_beneath" d.w11
 w0n:Meth K d.w01 "check_more" d.w1y
 w0o:findIn K (.ref d.w05) "elder" =some none
 w0b:findIn K (.ref d.w05) "promise" =some none
 w0x:findIn K (.ref d.w05) "cap" =some none
 w0s:findIn K (.ref d.w05) "weight" =some none
 w0a:findIn K (.ref d.w01) "sorted_wares" =some none
 w03:findIn K (.ref d.w01) "houses" =some none
 wf3:My.XCls K d.w0i
 w69:My.XCls K d.w2k
 wcn:My.XCls K d.w50
 wfw:My.XCls K d.w4z
 wdc:My.XCls K d.w2j
 wh2:My.XCls K d.w68
 wep:My.XCls K d.w3h
 wen:My.XCls K d.w3c
def eV:Option Str->V
 |none=> .non
 |some z=> .str z
structure Ho where
 el:Option Str
 pa:Addr
 kp:List (Key × V)
 fp:Str->Option Int
 ca:Addr
 kc:List (Key × V)
 fc:Str->Option Int
 w:Int
structure He where
 n:Str
 a:Addr
 x:Ho
structure Ts where
 sw:Addr
 ws:List Str
 hs:Addr
 hl:List He
def fsH (x:Ho):List (Str × V):=[("elder",eV x.el),("promise",.ref x.pa),("cap",.ref x.ca),("weight",.int x.w)]
def HoAt (d:Ad) (H:Hp) (a:Addr) (x:Ho):Prop:=(∃dx,H a=some (.ins d.w05 dx (fsH x)))/\H x.pa=some (.dK x.kp)/\AD x.kp x.fp/\H x.ca=some (.dK x.kc)/\AD x.kc x.fc
theorem HoAt.same {d:Ad} {H H':Hp} {a:Addr} {x:Ho} (h:HoAt d H a x) (s:Same H H'):HoAt d H' a x:=⟨let ⟨dx,e⟩:=h.1;⟨dx,s _ _ e⟩,s _ _ h.2.1,h.2.2.1,s _ _ h.2.2.2.1,h.2.2.2.2⟩
def Ts.keys (S:Ts):List (Str × Addr):=S.hl.map fun e=>(e.n,e.a)
def Ts.at (S:Ts) (z:Str):Option He:=S.hl.find? fun e=>decide (e.n=z)
def fsT (S:Ts):List (Str × V):=[("sorted_wares",.ref S.sw),("houses",.ref S.hs)]
def qen (d:Ad) (H:Hp) (t:Addr) (S:Ts):Prop:=(∃dx,H t=some (.ins d.w01 dx (fsT S)))/\H S.sw=some (.lst (S.ws.map V.str))/\H S.hs=some (.dK (oK S.keys))/\(S.hl.map (·.n)).Nodup/\S.hl.length<=60/\∀e∈S.hl,HoAt d H e.a e.x
theorem qen.same {d:Ad} {H H':Hp} {t:Addr} {S:Ts} (h:qen d H t S) (s:Same H H'):qen d H' t S:=
 ⟨let ⟨dx,e⟩:=h.1;⟨dx,s _ _ e⟩,s _ _ h.2.1,s _ _ h.2.2.1,h.2.2.2.1,h.2.2.2.2.1,fun e he=>(h.2.2.2.2.2 e he).same s⟩
theorem qdt (S:Ts) (z:Str):qci S.keys z=(S.at z).map (·.a):=by
 obtain⟨sw,ws,hs,hl⟩:=S
 unfold Ts.keys Ts.at
 dsimp only
 induction hl with
 |nil=>rfl
 |cons e r ih=>
  rw [map_cons,find?_cons]
  unfold qci
  by_cases q:e.n=z
  .rw [if_pos q,decide_eq_true q];rfl
  .rw [if_neg q,decide_eq_false q];exact ih
theorem qcv {S:Ts} {z:Str} {e:He} (h:S.at z=some e):e∈S.hl/\e.n=z:=⟨List.mem_of_find?_eq_some h,by have:=List.find?_some h;simpa using this⟩
def NotS (K:Frag) (H:Hp) (x:V):Prop:=∃t,TyOf K H x t/\kitOne K t (.type "str")=some false
def qei (K:Frag) (H:Hp) (x:V):Prop:=(∃z,x=.str z)\/(NotS K H x/\∀z,x≠ .str z)
def who (S:Ts):V->Option He
 | .str z=>S.at z
 |_=>none
theorem qd4 {S:Ts} {x:V} (h:∀z,x≠ .str z):who S x=none:=by
 cases x <;> first|rfl|(rename_i z;exact absurd rfl (h z))
def wc7 (K:Frag) (d:Ad):Sp:=fun vs H Q _=>∃(t:Addr) (S:Ts) (x:V),vs=[.ref t,x]/\qen d H t S/\qei K H x/\Q (.bl (who S x).isSome) H
def w5j (K:Frag) (d:Ad):Sp:=fun vs H Q E=>∃(t:Addr) (S:Ts) (x:V),vs=[.ref t,x]/\qen d H t S/\qei K H x/\(∀e,who S x=some e->Q .non H)/\(who S x=none->E (.ref d.w0i) none H)
def w7h (K:Frag) (d:Ad):Sp:=fun vs H Q E=>∃(t:Addr) (S:Ts) (x:V),vs=[.ref t,x]/\qen d H t S/\qei K H x/\(∀e,who S x=some e->Q (.ref e.a) H)/\(who S x=none->E (.ref d.w0i) none H)
def w7g (K:Frag) (d:Ad):Sp:=fun vs H Q E=>∃(t:Addr) (S:Ts) (x:V),vs=[.ref t,x]/\qen d H t S/\qei K H x/\(∀e,who S x=some e->Q (eV e.x.el) H)/\(who S x=none->E (.ref d.w0i) none H)
def w66 (K:Frag) (d:Ad):Sp:=fun vs H Q E=>∃(t:Addr) (S:Ts) (x:V),vs=[.ref t,x]/\qen d H t S/\qei K H x/\(∀e,who S x=some e->Q (.int e.x.w) H)/\(who S x=none->E (.ref d.w0i) none H)
theorem r_notNs {H:Hp} {Q:VK} {a:Str} (h:Q (.bl true) H):rNotN (.str a) .non H Q:=⟨rfl,h⟩
theorem TyOf.same {K:Frag} {H H':Hp} {x:V} {t:Value} (h:TyOf K H x t) (s:Same H H'):TyOf K H' x t:=by
 cases h with
 |non=>exact .non
 |bl b=>exact .bl b
 |int i=>exact .int i
 |str z=>exact .str z
 |flt z=>exact .flt z
 |lst e=>exact .lst (s _ _ e)
 |frz e=>exact .frz (s _ _ e)
 |tup e=>exact .tup (s _ _ e)
 |dK e=>exact .dK (s _ _ e)
 |dT e=>exact .dT (s _ _ e)
 |ins e c a n k m=>exact .ins (s _ _ e) c a n k m
theorem qei.same {K:Frag} {H H':Hp} {x:V} (h:qei K H x) (s:Same H H'):qei K H' x:=by
 rcases h with h|⟨⟨t,a,b⟩,n⟩
 .exact .inl h
 .exact .inr ⟨⟨t,TyOf.same a s,b⟩,n⟩
inductive LineOf (S:Ts):Str->List Str->Prop
 |top {z:Str} {e:He} (h:S.at z=some e) (n:e.x.el=none):LineOf S z [z]
 |up {z y:Str} {e:He} {zs:List Str} (h:S.at z=some e) (n:e.x.el=some y) (r:LineOf S y zs):LineOf S z (z :: zs)
def RestOf (S:Ts):Option Str->List Str->Prop
 |none,zs=>zs=[]
 |some y,zs=>LineOf S y zs
theorem LineOf.open {S:Ts} {z:Str} {zs:List Str} (h:LineOf S z zs):∃e r,S.at z=some e/\zs=z :: r/\RestOf S e.x.el r:=by
 cases h with
 |top h n=>exact⟨_, [],h,rfl,by rw [n];rfl⟩
 |up h n r=>exact⟨_,_,h,rfl,by rw [n];exact r⟩
def lenAt (l:Addr) (H:Hp):Nat:=match H l with
 |some (.lst xs)=>xs.length
 |_=>0
theorem qeu {l:Addr} {H:Hp} {xs:List V} (e:H l=some (.lst xs)):lenAt l H=xs.length:=by unfold lenAt;rw [e]
def wag (K:Frag) (d:Ad):Sp:=fun vs H Q E=>∃(t:Addr) (S:Ts) (x:V),vs=[.ref t,x]/\qen d H t S/\
 ((∃z zs,x=.str z/\LineOf S z zs/\zs.length<=1000/\∀l,H l=none->Q (.ref l) (upd H l (.lst (zs.map V.str))))\/(qei K H x/\who S x=none/\∀l,H l=none->E (.ref d.w0i) none (upd H l (.lst [x]))))
def qbc (S:Ts) (z:Str):List Str:=(S.hl.filter fun e=>decide (e.x.el=some z)).map (·.n)
def wav (K:Frag) (d:Ad):Sp:=fun vs H Q E=>∃(t:Addr) (S:Ts) (x:V),vs=[.ref t,x]/\qen d H t S/\qei K H x/\(∀e,who S x=some e->∀l ss H',Same H H'->H l=none->H' l=some (.lst (ss.map V.str))->ss.Perm (qbc S e.n)->PyProof.Rows.sortedS ss=true->Q (.ref l) H')/\(who S x=none->E (.ref d.w0i) none H)
def w73 (K:Frag) (d:Ad):Sp:=fun vs H Q _=>∃(a:Addr) (kvs:List (Key × V)) (f:Str->Option Int) (z:Str),vs=[.ref a,.str z]/\Rd H a (.dK kvs)/\AD kvs f/\Q (.int (gN f z)) H
def w7u (K:Frag) (d:Ad):Sp:=fun vs H Q _=>∃(a:Addr) (kvs:List (Key × V)) (f:Str->Option Int),vs=[.ref a]/\H a=some (.dK kvs)/\AD kvs f/\kvs.length<=1000/\
 ∀l k' H',Same H H'->H l=none->H' l=some (.dK k')->AD k' (qd7 f)->Q (.ref l) H'
def wfi (K:Frag) (d:Ad):Sp:=fun vs H Q _=>∃(a b:Addr) (ka kb:List (Key × V)) (f g:Str->Option Int),vs=[.ref a,.ref b]/\Rd H a (.dK ka)/\H b=some (.dK kb)/\AD ka f/\AD kb g/\ka.length<=1000/\kb.length<=1000/\
 ∀l k' H',Same H H'->H l=none->H' l=some (.dK k')->AD k' (qgk f g)->Q (.ref l) H'
def wdt (K:Frag) (d:Ad):Sp:=fun vs H Q _=>∃(a b:Addr) (ka kb:List (Key × V)) (f g:Str->Option Int),vs=[.ref a,.ref b]/\Rd H a (.dK ka)/\Rd H b (.dK kb)/\AD ka f/\AD kb g/\ka.length < 64/\
 (∀H',Same H H'->(∀y,¬viol f g y)->Q .non H')/\∀z H',Same H H'->viol f g z->(∀y,viol f g y->leS z y)->Q (.str z) H'
structure Pt where
 a:Addr
 k:List (Key × V)
 f:Str->Option Int
def sumF (ts:List Pt):Str->Option Int:=ts.foldl (fun f t=>qgk f t.f) noF
def PtOk (H:Hp) (ws:List Str) (t:Pt):Prop:=H t.a=some (.dK t.k)/\AD t.k t.f/\∀z,t.f z≠none->z∈ws
def wc5 (K:Frag) (d:Ad):Sp:=fun vs H Q _=>∃(L:Addr) (ts:List Pt) (ws:List Str),vs=[.ref L]/\SqL K H L (ts.map fun t=> .ref t.a)/\ws.length<=100/\(∀t∈ts,PtOk H ws t)/\
 ∀l k' H',Same H H'->H l=none->H' l=some (.dK k')->AD k' (sumF ts)->Q (.ref l) H'
section
variable {K: Frag} {d: Ad} {H: Hp} {Q: VK} {E: XK}
theorem u_amount {a:Addr} {kvs:List (Key × V)} {f:Str->Option Int} {z:Str} (hR:Rd H a (.dK kvs)) (hA:AD kvs f) (q:Q (.int (gN f z)) H):w73 K d [.ref a,.str z] H Q E:=⟨a,kvs,f,z,rfl,hR,hA,q⟩
end
local macro_rules | `(tactic| walk_at "kit") => `(tactic| (with_reducible (first
 |assumption|exact kit_int_int|exact kit_int_bool|exact kit_str_str
 |exact kit_lst_lst|exact kit_tup_tup|exact kit_dct_dct)))
local macro_rules | `(tactic| walk_at "ty") => `(tactic| (first
 |(with_reducible assumption) |(with_reducible exact TyOf.int _) |(with_reducible exact TyOf.bl _) |(with_reducible exact TyOf.str _)
 |(with_reducible exact TyOf.non) |((with_reducible refine' TyOf.tup ?h);(case h=>walk_at "heap")) |((with_reducible refine' TyOf.lst ?h);(case h=>walk_at "heap")) |((with_reducible refine' TyOf.dK ?h);(case h=>walk_at "heap"))))
local macro_rules | `(tactic| walk_at "heap") => `(tactic| first
 |with_reducible assumption|with_reducible exact qa1|((with_reducible refine' qaa ?h ?n);(case n=>with_reducible assumption);(case h=>walk_at "heap")))
local macro_rules | `(tactic| walk_at "sqL") => `(tactic| first
 |with_reducible assumption|((with_reducible refine' sqL_new ?h ?n);(case n=>with_reducible assumption);(case h=>walk_at "sqL")) |((with_reducible refine' SqL.of ?h);(case h=>walk_at "heap")))
local macro_rules | `(tactic| walk_at "sqT") => `(tactic| first
 |with_reducible assumption|((with_reducible refine' sqT_new ?h ?n);(case n=>with_reducible assumption);(case h=>walk_at "sqT")) |((with_reducible refine' SqT.of ?h);(case h=>walk_at "heap")))
local macro_rules | `(tactic| walk_at "side") => `(tactic| first
 |assumption|exact rfl|omega|decide
 |(simp only [length_cons,length_nil,length_map];omega) |exact⟨by omega,by omega⟩ |exact⟨by decide,by decide⟩ |exact⟨by omega,by assumption⟩
 |exact⟨by assumption,by assumption⟩ |exact⟨by decide,by assumption⟩ |exact⟨by decide,by decide,by decide⟩)
local macro_rules | `(tactic| walk_at "size") => `(tactic| (first
 |assumption|(simp only [length_cons,length_nil,length_map,length_take];first|decide|(show _<=16777216;omega) |(show _ < 16777216;omega)) |(show _<=16777216;omega) |(show _ < 16777216;omega)))
local macro_rules | `(tactic| walk_at "sp") => `(tactic| fail)
local macro_rules | `(tactic| walk_at "r1") => `(tactic| first
 |(with_reducible refine r_var (by with_unfolding_all exact rfl) ?_) |(with_reducible first|refine r_c ?_|refine r_op ?_|refine r_un ?_|refine r_I0 ?_|refine r_U ?_) |((with_reducible refine r_I ?hc ?_);(case hc=>walk_at "side")) |(with_reducible first|refine r_eqI ?_|refine r_neI ?_|refine r_exb ?_|refine r_test ?_|refine r_tB ?_|refine r_and ?_|refine r_or ?_|refine r_not ?_|refine r_andV ?_|refine r_notV ?_|refine r_ifE ?_|refine r_next ?_|refine r_seq ?_|refine r_drop ?_|refine r_ret ?_|refine r_if ?_|refine r_asg ?_)
 |(with_reducible refine r_name (by with_unfolding_all (simp only [List.set];exact rfl)) ?_) |(with_reducible first|refine r_gnil ?_|refine r_gcons ?_|refine r_for ?_|refine r_iL ?_|refine r_iR ?_) |((with_reducible refine' r_itL ?s ?_);(case s=>walk_at "sqL")) |((with_reducible refine' r_itR ?s ?t ?_);(case s=>walk_at "side");(case t=>walk_at "side"))
 |(with_reducible first|refine r_par ?_|refine r_two ?_|refine r_nx ?_|refine r_rt ?_|refine r_nil ?_|refine r_cons ?_|refine r_tup ?_|refine r_lst ?_) |((with_reducible refine r_new ?n ?_);(case n=>(simp only [length_cons,length_nil];decide))) |((with_reducible refine r_fresh ?_);intro p hp) |(with_reducible first|refine r_call ?_|refine r_callX ?_|refine r_cb ?_|refine r_raise ?_)
 |((with_reducible refine' r_ixT ?s ?e ?_);(case s=>walk_at "sqT");(case e=>exact rfl)) |(with_reducible first|refine r_comp ?_|refine r_true ?_|refine r_iS ?_|refine r_itS ?_|refine r_inS ?_) |((with_reducible refine' r_app ?a ?z ?_);(case a=>walk_at "heap");(case z=>walk_at "size")) |((with_reducible refine' r_catS ?z ?_);(case z=>walk_at "size"))
 |((with_reducible refine' r_lenS ?z ?_);(case z=>walk_at "size")) |(with_reducible refine r_chain ?_) |((with_reducible refine' r_lenT ?s ?_);(case s=>walk_at "sqT")) |((with_reducible refine' r_lenL ?s ?_);(case s=>walk_at "sqL"))
 |(with_reducible first|refine r_abs ?_|refine r_isNn ?_|refine r_isNr ?_|refine r_notNn ?_|refine r_notNi ?_) |((with_reducible refine' r_isi ?t ?k ?_);(case t=>walk_at "ty");(case k=>walk_at "kit")) |(with_reducible first|refine i_nT ?_|refine i_nF ?_|refine iteT ?_|refine iteF ?_) |((with_reducible refine i_t ?c ?_);(case c=>walk_at "side"))
 |((with_reducible refine i_f ?c ?_);(case c=>walk_at "side")) |((with_reducible refine i_nt ?c ?_);(case c=>walk_at "side")) |((with_reducible refine i_nf ?c ?_);(case c=>walk_at "side")) |walk_at "sp")
local macro_rules | `(tactic| walk_at "g") => `(tactic| repeat walk_at "r1")
local macro_rules | `(tactic| walk_at "d") => `(tactic| try dsimp only [L2.cxOf, L2.Cx.nox, L2.Cx.wish, My.xw, pnd, suite])
local macro_rules | `(tactic| walk_at "rd") => `(tactic| first
 |with_reducible assumption|((with_reducible refine' rd_new ?h ?n);(case n=>with_reducible assumption);(case h=>walk_at "rd")) |((with_reducible refine' Rd.of ?h);(case h=>walk_at "heap")))
local macro_rules | `(tactic| walk_at "same") => `(tactic| first
 |with_reducible assumption|exact Same.refl _|((with_reducible refine' same_upd ?h ?n);(case n=>with_reducible assumption);(case h=>walk_at "same")))
local macro_rules | `(tactic| walk_at "sp") => `(tactic| first
 |((with_reducible refine r_disp1 ?_);intro p hp) |((with_reducible refine' r_ds ?e ?_);(case e=>walk_at "heap")) |((with_reducible refine' r_glst ?s ?n ?_);(case s=>walk_at "sqL");(case n=>exact rfl)) |((with_reducible refine' r_clear ?h ?_);(case h=>walk_at "heap"))
 |((with_reducible refine' u_amount ?r ?a ?_);(case r=>walk_at "rd");(case a=>with_reducible assumption)) |(with_reducible refine r_intB ?_) |((with_reducible refine' qcr ?s ?e ?_);(case s=>walk_at "sqL");(case e=>exact rfl)) |(with_reducible refine r_dg2 ?_)
 |((with_reducible refine' r_dg2a ?r ?_);(case r=>walk_at "rd")) |((with_reducible refine' r_dg2b ?r ?a ?_);(case r=>walk_at "rd");(case a=>with_reducible assumption)) |(with_reducible refine r_dg ?_) |((with_reducible refine' r_dgk ?r ?a ?e ?_);(case r=>walk_at "rd");(case a=>with_reducible assumption);(case e=>with_reducible assumption))
 |(with_reducible refine r_dp ?_) |((with_reducible refine' r_dpk ?e ?z ?_);(case e=>walk_at "heap");(case z=>walk_at "size")) |((with_reducible refine r_dnew ?_);intro p hp) |(with_reducible first|refine r_thA ?_|refine r_iD ?_)
 |((with_reducible refine' r_dictCp ?e ?_);(case e=>walk_at "rd");intro p hp) |(with_reducible refine r_mtX ?_) |((with_reducible refine' r_mtkX ?e ?l ?_);(case e=>walk_at "heap");(case l=>exact rfl)) |(with_reducible refine r_mkX ?_)
 |((with_reducible refine' r_mtk ?e ?l ?_);(case e=>walk_at "heap");(case l=>exact rfl)) |(with_reducible first|refine r_notNs ?_|refine r_di ?_) |((with_reducible refine' r_diO ?r ?_);(case r=>walk_at "rd")) |(with_reducible first|refine r_mk ?_|refine r_mt ?_|refine r_fl ?_|refine r_fs ?_)
 |((with_reducible refine' r_flk ?e ?c ?n ?l ?_);(case e=>walk_at "heap");(case c=>with_reducible assumption);(case n=>with_reducible assumption);(case l=>exact rfl)) |((with_reducible refine' qfy ?e ?c ?n ?z ?_);(case e=>walk_at "heap");(case c=>with_reducible assumption);(case n=>with_reducible assumption);(case z=>(show _ < 1000;decide))) |(with_reducible first|refine r_bm ?_|refine r_bm0 ?_) |((with_reducible refine' r_tyL ?s ?_);(case s=>walk_at "sqL"))
 |((with_reducible refine' r_tyD ?s ?_);(case s=>walk_at "heap")) |((with_reducible refine' r_append ?h ?z ?_);(case h=>walk_at "heap");(case z=>walk_at "size")))
theorem wc8:FnScope ["thing"] ["thing"] (qa8 s_is_whole):=⟨rfl,rfl,rfl,by decide+kernel,rfl,by decide+kernel,by decide+kernel⟩
theorem wd2:FnScope ["thing"] ["thing"] (qa8 s_is_name):=⟨rfl,rfl,rfl,by decide+kernel,rfl,by decide+kernel,by decide+kernel⟩
theorem w7e:FnScope ["thing","least","most"] ["thing","least","most"] (qa8 s_is_whole_from):=⟨rfl,rfl,rfl,by decide+kernel,rfl,by decide+kernel,by decide+kernel⟩
theorem wb0:FnScope ["thing"] ["thing"] (qa8 s_is_amount):=⟨rfl,rfl,rfl,by decide+kernel,rfl,by decide+kernel,by decide+kernel⟩
theorem w3u:FnScope ["handed","wares","key","ware"] ["handed","wares"] (qa8 s_amounts_of):=⟨rfl,rfl,rfl,by decide+kernel,rfl,by decide+kernel,by decide+kernel⟩
theorem w2w:FnScope ["amounts","told","ware"] ["amounts"] (qa8 s_above_nought):=⟨rfl,rfl,rfl,by decide+kernel,rfl,by decide+kernel,by decide+kernel⟩
theorem waj:FnScope ["amounts","ware"] ["amounts","ware"] (qa8 s_amount_of):=⟨rfl,rfl,rfl,by decide+kernel,rfl,by decide+kernel,by decide+kernel⟩
theorem w9k:FnScope ["one","other","told","ware"] ["one","other"] (qa8 s_added):=⟨rfl,rfl,rfl,by decide+kernel,rfl,by decide+kernel,by decide+kernel⟩
theorem wb1:FnScope ["one","other","ware"] ["one","other"] (qa8 s_beyond):=⟨rfl,rfl,rfl,by decide+kernel,rfl,by decide+kernel,by decide+kernel⟩
theorem w3p:FnScope ["many","total","amounts"] ["many"] (qa8 s_total_of):=⟨rfl,rfl,rfl,by decide+kernel,rfl,by decide+kernel,by decide+kernel⟩
theorem w2i:FnScope ["one","other","great","small","rest"] ["one","other"] (qa8 s_divisor):=⟨rfl,rfl,rfl,by decide+kernel,rfl,by decide+kernel,by decide+kernel⟩
theorem w5c:FnScope ["top","bottom","shared"] ["top","bottom"] (qa8 s_fraction):=⟨rfl,rfl,rfl,by decide+kernel,rfl,by decide+kernel,by decide+kernel⟩
theorem wfq:FnScope ["one","other"] ["one","other"] (qa8 s_minus):=⟨rfl,rfl,rfl,by decide+kernel,rfl,by decide+kernel,by decide+kernel⟩
theorem wfj:FnScope ["one","other"] ["one","other"] (qa8 s_times):=⟨rfl,rfl,rfl,by decide+kernel,rfl,by decide+kernel,by decide+kernel⟩
theorem wdb:FnScope ["one","other"] ["one","other"] (qa8 s_divided):=⟨rfl,rfl,rfl,by decide+kernel,rfl,by decide+kernel,by decide+kernel⟩
theorem wfa:FnScope ["one","other"] ["one","other"] (qa8 s_below):=⟨rfl,rfl,rfl,by decide+kernel,rfl,by decide+kernel,by decide+kernel⟩
theorem w40:FnScope ["tree","wants","weigh","weights","name"] ["tree","wants","weigh"] (qa8 s_weights_of):=⟨rfl,rfl,rfl,by decide+kernel,rfl,by decide+kernel,by decide+kernel⟩
theorem w3v:FnScope ["tree","weights","waiting","loads","name","house"] ["tree","weights","waiting"] (qa8 s_loads_of):=⟨rfl,rfl,rfl,by decide+kernel,rfl,by decide+kernel,by decide+kernel⟩
theorem w3j:FnScope ["many","least","one"] ["many"] (qa8 s_least_of):=⟨rfl,rfl,rfl,by decide+kernel,rfl,by decide+kernel,by decide+kernel⟩
theorem w4h:FnScope ["tree","rooms","wants","weights","dealing","told"] ["tree","rooms","wants","weights"] (qa8 s_rounds_by):=⟨rfl,rfl,rfl,by decide+kernel,rfl,by decide+kernel,by decide+kernel⟩
theorem we7:FnScope ["tree","rooms","wants","weigh"] ["tree","rooms","wants","weigh"] (qa8 s_rounds):=⟨rfl,rfl,rfl,by decide+kernel,rfl,by decide+kernel,by decide+kernel⟩
theorem wa8:FnScope ["thing"] ["thing"] (qa8 s_are_wares):=⟨rfl,rfl,rfl,by decide+kernel,rfl,by decide+kernel,by decide+kernel⟩
theorem w9p:FnScope ["thing"] ["thing"] (qa8 s_check_name):=⟨rfl,rfl,rfl,by decide+kernel,rfl,by decide+kernel,by decide+kernel⟩
theorem w3o:FnScope ["wares","elder","promise","cap","weight","own_promise","own_cap"] ["wares","elder","promise","cap","weight"] (qa8 s_read_house):=⟨rfl,rfl,rfl,by decide+kernel,rfl,by decide+kernel,by decide+kernel⟩
theorem w3i:FnScope ["name","promises","cap","ware"] ["name","promises","cap"] (qa8 s_check_promises):=⟨rfl,rfl,rfl,by decide+kernel,rfl,by decide+kernel,by decide+kernel⟩
theorem wd5:FnScope ["_law_script","_law_k"] ["_law_script","_law_k"] (qa8 s_cell_at):=⟨rfl,rfl,rfl,by decide+kernel,rfl,by decide+kernel,by decide+kernel⟩
theorem wcs:FnScope ["_law_cell","_law_k","_law_number"] ["_law_cell","_law_k"] (qa8 s_mixed):=⟨rfl,rfl,rfl,by decide+kernel,rfl,by decide+kernel,by decide+kernel⟩
theorem w3z:FnScope ["_law_cell","_law_k","_law_letters","_law_size","_law_at","_law_name_here","_law_j","_law_step","_law_place"] ["_law_cell","_law_k"] (qa8 s_name):=⟨rfl,rfl,rfl,by decide+kernel,rfl,by decide+kernel,by decide+kernel⟩
theorem wfk:FnScope ["_law_found"] ["_law_found"] (qa8 s_whole):=⟨rfl,rfl,rfl,by decide+kernel,rfl,by decide+kernel,by decide+kernel⟩
theorem wgx:FnScope ["_law_number","_law_scale"] ["_law_number","_law_scale"] (qa8 s_want):=⟨rfl,rfl,rfl,by decide+kernel,rfl,by decide+kernel,by decide+kernel⟩
theorem wgr:FnScope ["_law_number","_law_scale"] ["_law_number","_law_scale"] (qa8 s_room):=⟨rfl,rfl,rfl,by decide+kernel,rfl,by decide+kernel,by decide+kernel⟩
theorem w0u:FnScope ["_law_script","_law_count","_law_scale","_law_names","_law_elders","_law_weights","_law_wants","_law_rooms","_law_k","_law_cells","_law_number"] ["_law_script","_law_count"] (qa8 s_sharing):=⟨rfl,rfl,rfl,by decide+kernel,rfl,by decide+kernel,by decide+kernel⟩
theorem w4l:FnScope ["_law_script","_law_sharing_here","_law_names","_law_elders","_law_weights","_law_wants","_law_rooms","_law_tree_here","_law_k"] ["_law_script","_law_sharing_here"] (qa8 s_tree):=⟨rfl,rfl,rfl,by decide+kernel,rfl,by decide+kernel,by decide+kernel⟩
theorem w97:FnScope ["_law_elders","_law_k","_law_some","_law_at"] ["_law_elders","_law_k"] (qa8 s_line):=⟨rfl,rfl,rfl,by decide+kernel,rfl,by decide+kernel,by decide+kernel⟩
theorem w38:FnScope ["_law_sharing_here","_law_at","_law_names","_law_elders","_law_weights","_law_wants","_law_rooms"] ["_law_sharing_here","_law_at"] (qa8 s_inside):=⟨rfl,rfl,rfl,by decide+kernel,rfl,by decide+kernel,by decide+kernel⟩
theorem w1k:FnScope ["_law_shares","_law_some","_law_top","_law_bottom","_law_name_here","_law_share"] ["_law_shares","_law_some"] (qa8 s_together):=⟨rfl,rfl,rfl,by decide+kernel,rfl,by decide+kernel,by decide+kernel⟩
theorem wgn:FnScope ["_law_one","_law_other"] ["_law_one","_law_other"] (qa8 s_less):=⟨rfl,rfl,rfl,by decide+kernel,rfl,by decide+kernel,by decide+kernel⟩
theorem w77:FnScope ["_law_one","_law_other"] ["_law_one","_law_other"] (qa8 s_l_divisor):=⟨rfl,rfl,rfl,by decide+kernel,rfl,by decide+kernel,by decide+kernel⟩
theorem w8j:FnScope ["_law_found"] ["_law_found"] (qa8 s_is_fraction):=⟨rfl,rfl,rfl,by decide+kernel,rfl,by decide+kernel,by decide+kernel⟩
theorem w1z:FnScope ["_law_script","_law_sharing_here","_law_names","_law_elders","_law_weights","_law_wants","_law_rooms","_law_others","_law_name_here","_law_table"] ["_law_script","_law_sharing_here"] (qa8 s_asked):=⟨rfl,rfl,rfl,by decide+kernel,rfl,by decide+kernel,by decide+kernel⟩
theorem wbs:FnScope ["_law_row"] ["_law_row"] (qa8 s_is_round):=⟨rfl,rfl,rfl,by decide+kernel,rfl,by decide+kernel,by decide+kernel⟩
theorem w36:FnScope ["_law_sharing_here","_law_shares","_law_level","_law_at","_law_names","_law_elders","_law_weights","_law_wants","_law_rooms","_law_inside_here","_law_weight","_law_together_here","_law_rest"] ["_law_sharing_here","_law_shares","_law_level","_law_at"] (qa8 s_full):=⟨rfl,rfl,rfl,by decide+kernel,rfl,by decide+kernel,by decide+kernel⟩
theorem w17:FnScope ["_law_sharing_here","_law_shares","_law_level","_law_names","_law_elders","_law_weights","_law_wants","_law_rooms","_law_due","_law_name_here","_law_at"] ["_law_sharing_here","_law_shares","_law_level"] (qa8 s_settled):=⟨rfl,rfl,rfl,by decide+kernel,rfl,by decide+kernel,by decide+kernel⟩
theorem w31:FnScope ["_law_sharing_here","_law_shares","_law_level","_law_names","_law_elders","_law_weights","_law_wants","_law_rooms","_law_name_here","_law_at"] ["_law_sharing_here","_law_shares","_law_level"] (qa8 s_least):=⟨rfl,rfl,rfl,by decide+kernel,rfl,by decide+kernel,by decide+kernel⟩
theorem w3b:FnScope ["_law_sharing_here","_law_told","_law_shares","_law_kept","_law_row","_law_name_here"] ["_law_sharing_here","_law_told"] (qa8 s_walked):=⟨rfl,rfl,rfl,by decide+kernel,rfl,by decide+kernel,by decide+kernel⟩
theorem w61:FnScope ["_law_script","_law_sharing_here","_law_tree_here","_law_weigh","_law_handed","_law_told","_law_kept","_law_row"] ["_law_script"] (qa8 s_law):=⟨rfl,rfl,rfl,by decide+kernel,rfl,by decide+kernel,by decide+kernel⟩
theorem w92:FnScope ["self","elder","promise","cap","weight"] ["self","elder","promise","cap","weight"] (qa8 s_House_init):=⟨rfl,rfl,rfl,by decide+kernel,rfl,by decide+kernel,by decide+kernel⟩
theorem w6w:FnScope ["self","wares","name","promise","cap","weight","house"] ["self","wares","name","promise","cap","weight"] (qa8 s_Tree_init):=⟨rfl,rfl,rfl,by decide+kernel,rfl,by decide+kernel,by decide+kernel⟩
theorem w42:FnScope ["self","name","elder","promise","cap","weight","house","elders"] ["self","name","elder","promise","cap","weight"] (qa8 s_Tree_found):=⟨rfl,rfl,rfl,by decide+kernel,rfl,by decide+kernel,by decide+kernel⟩
theorem wbd:FnScope ["self","thing"] ["self","thing"] (qa8 s_Tree_has):=⟨rfl,rfl,rfl,by decide+kernel,rfl,by decide+kernel,by decide+kernel⟩
theorem w5g:FnScope ["self","thing"] ["self","thing"] (qa8 s_Tree_check_house):=⟨rfl,rfl,rfl,by decide+kernel,rfl,by decide+kernel,by decide+kernel⟩
theorem w7k:FnScope ["self","name"] ["self","name"] (qa8 s_Tree_house_of):=⟨rfl,rfl,rfl,by decide+kernel,rfl,by decide+kernel,by decide+kernel⟩
theorem w7b:FnScope ["self","name"] ["self","name"] (qa8 s_Tree_elder_of):=⟨rfl,rfl,rfl,by decide+kernel,rfl,by decide+kernel,by decide+kernel⟩
theorem w6u:FnScope ["self","name"] ["self","name"] (qa8 s_Tree_weight_of):=⟨rfl,rfl,rfl,by decide+kernel,rfl,by decide+kernel,by decide+kernel⟩
theorem waz:FnScope ["self","name"] ["self","name"] (qa8 s_Tree_kids):=⟨rfl,rfl,rfl,by decide+kernel,rfl,by decide+kernel,by decide+kernel⟩
theorem w32:FnScope ["self","name","told","elder"] ["self","name"] (qa8 s_Tree_line):=⟨rfl,rfl,rfl,by decide+kernel,rfl,by decide+kernel,by decide+kernel⟩
theorem w2t:FnScope ["self","name","told","kid"] ["self","name"] (qa8 s_Tree_beneath):=⟨rfl,rfl,rfl,by decide+kernel,rfl,by decide+kernel,by decide+kernel⟩
theorem w3g:FnScope ["self","name"] ["self","name"] (qa8 s_Tree_promised_beneath):=⟨rfl,rfl,rfl,by decide+kernel,rfl,by decide+kernel,by decide+kernel⟩
theorem w2z:FnScope ["self","names","more","name"] ["self","names","more"] (qa8 s_Tree_check_more):=⟨rfl,rfl,rfl,by decide+kernel,rfl,by decide+kernel,by decide+kernel⟩
theorem w2r:FnScope ["self","tree","rooms","wants","weights","house","name"] ["self","tree","rooms","wants","weights"] (qa8 s_Dealing_init):=⟨rfl,rfl,rfl,by decide+kernel,rfl,by decide+kernel,by decide+kernel⟩
theorem w1h:FnScope ["self","loads","told","house"] ["self"] (qa8 s_Dealing_fills):=⟨rfl,rfl,rfl,by decide+kernel,rfl,by decide+kernel,by decide+kernel⟩
theorem w1g:FnScope ["self","level","fills","told","name","levels"] ["self","level","fills"] (qa8 s_Dealing_ready):=⟨rfl,rfl,rfl,by decide+kernel,rfl,by decide+kernel,by decide+kernel⟩
theorem w1a:FnScope ["self","level","names","name","share","house"] ["self","level","names"] (qa8 s_Dealing_settle):=⟨rfl,rfl,rfl,by decide+kernel,rfl,by decide+kernel,by decide+kernel⟩
theorem w0l:FnScope ["self","fills","level","names"] ["self"] (qa8 s_Dealing_next_round):=⟨rfl,rfl,rfl,by decide+kernel,rfl,by decide+kernel,by decide+kernel⟩
variable {P: Program} {w: World} {K: Frag} {mg: Str -> Option Value} {base: Heap} {d: Ad} (T: Tx K mg d)
include T in
theorem w83:FnOk P w K mg base CX0 1 d.w6a d.w5m ["self","thing"] (wc7 K d):=by
 refine T.wd6.ok wbd (fun vs H Q E h=>?_) (fun cdv A outer s H vs Q E hr h=>?_)
 .obtain⟨t,S,x,rfl,_⟩:=h;rfl
 obtain⟨t,S,x,rfl,hT,hx,q⟩:=h
 refine⟨_,(qa5 (qad (qek (qae qbf rfl T.w08 PyProof.Rows.boot_isinstance (qa0 (pv 1) (qa0 (qc5 (v:=.ty "str") rfl T.wgo PyProof.Rows.boot_str rfl) qa3))) (qfd (pe_cmp (pc_din (qau hr) (pv 1) (qay (pv 0) rfl))))))),?_⟩
 walk_at "d"
 refine qab (σ:=[some (.ref t),some (x)]) rfl ?_
 obtain⟨⟨dx,ht⟩,hw,hh,nd,hz,hE⟩:=hT
 have ct:=T.w02
 have nh:qap K d.w01 "houses":=T.w03
 rcases hx with ⟨z,rfl⟩ |⟨⟨ty,ht1,ht2⟩,nz⟩
 .walk_at "g"
  rw [qdt,Option.isSome_map]
  exact q
 .walk_at "g"
  rw [qd4 nz] at q
  exact q
include T in
theorem w1i:FnOk P w K mg base (My.CX1 P w) 2 d.w1o d.w1j ["self","thing"] (w5j K d):=by
 refine okX T.w62 w5g (fun vs H Q E h=>?_) (fun cdv A outer s H vs Q E hr h=>?_)
 .obtain⟨t,S,x,rfl,_⟩:=h;rfl
 obtain⟨t,S,x,rfl,hT,hx,q1,q2⟩:=h
 refine⟨_,(qa5 (qbb (qbx (qbn (pe_meth (pv 0) T.w02 T.w1s ((w83 T).mono (by decide)) hr T.w90 .nil qaw (qa0 (pv 1) qa3)))) (qa5 (qc2 rfl T.wf3 rfl T.weu qar (qa0 qcm qa3))) qaq)),?_⟩
 walk_at "d"
 refine qab (σ:=[some (.ref t),some (x)]) rfl ?_
 have hT0:=hT
 obtain⟨⟨dx,ht⟩,hw,hh,nd,hz,hE⟩:=hT
 have ct:=T.w02
 have nh:qap K d.w01 "houses":=T.w03
 walk_at "g"
 refine⟨t,S,x,rfl,hT0,hx,?_⟩
 cases hw':who S x with
 |none=>
  walk_at "g"
  show if (!false)=true then _ else _
  walk_at "g"
  exact q2 hw'
 |some e=>
  walk_at "g"
  exact q1 e hw'
include T in
theorem w44:FnOk P w K mg base (My.CX1 P w) 3 d.w2u d.w26 ["self","name"] (w7h K d):=by
 refine okX T.w7v w7k (fun vs H Q E h=>?_) (fun cdv A outer s H vs Q E hr h=>?_)
 .obtain⟨t,S,x,rfl,_⟩:=h;rfl
 obtain⟨t,S,x,rfl,hT,hx,q1,q2⟩:=h
 refine⟨_,(qa2 (qba (qaz (pv 0) T.w02 T.w06 ((w1i T).mono (by decide)) hr T.w1p .nil qar (qa0 (pv 1) qa3)))
  (qa5 (qad (qat (qau hr) (qay (pv 0) rfl) (pv 1) (fun _ _=>rfl))))),?_⟩
 walk_at "d"
 refine qab (σ:=[some (.ref t),some (x)]) rfl ?_
 have hT0:=hT
 obtain⟨⟨dx,ht⟩,hw,hh,nd,hz,hE⟩:=hT
 have ct:=T.w02
 have nh:qap K d.w01 "houses":=T.w03
 walk_at "g"
 refine⟨t,S,x,rfl,hT0,hx,fun e he=>?_,q2⟩
 have hz':∃z,x=.str z:=by
  rcases hx with h|⟨_,nz⟩
  .exact h
  .rw [qd4 nz] at he;cases he
 obtain⟨z,rfl⟩:=hz'
 walk_at "g"
 refine r_dgO (.inl hh) (h:=e.a) (by rw [qdt];show (S.at z).map _=_;rw [show S.at z=some e from he];rfl) ?_
 walk_at "g"
 exact q1 e he
include T in
theorem w43:FnOk P w K mg base (My.CX1 P w) 4 d.w2n d.w27 ["self","name"] (w7g K d):=by
 refine okX T.w86 w7b (fun vs H Q E h=>?_) (fun cdv A outer s H vs Q E hr h=>?_)
 .obtain⟨t,S,x,rfl,_⟩:=h;rfl
 obtain⟨t,S,x,rfl,hT,hx,q1,q2⟩:=h
 refine⟨_,(qa5 (qad (qay (qaz (pv 0) T.w02 T.w0j ((w44 T).mono (by decide)) hr T.w46 .nil qar (qa0 (pv 1) qa3)) rfl))),?_⟩
 walk_at "d"
 refine qab (σ:=[some (.ref t),some (x)]) rfl ?_
 have hT0:=hT
 obtain⟨⟨dx,ht⟩,hw,hh,nd,hz,hE⟩:=hT
 have ct:=T.w02
 have nh:qap K d.w01 "houses":=T.w03
 walk_at "g"
 refine⟨t,S,x,rfl,hT0,hx,fun e he=>?_,q2⟩
 obtain⟨z,rfl⟩:∃z,x=.str z:=by
  rcases hx with h|⟨_,nz⟩
  .exact h
  .rw [qd4 nz] at he;cases he
 obtain⟨⟨dh,ho⟩,hp,hpA,hc,hcA⟩:=hE e (qcv he).1
 have ch:=T.w1e
 have nf:qap K d.w05 "elder":=T.w0o
 have hRp:Rd H e.x.pa (.dK e.x.kp):=.inl hp
 have hRc:Rd H e.x.ca (.dK e.x.kc):=.inl hc
 walk_at "g"
 exact q1 e he
include T in
theorem w6b:FnOk P w K mg base (My.CX1 P w) 4 d.w24 d.w1w ["self","name"] (w66 K d):=by
 refine okX T.w79 w6u (fun vs H Q E h=>?_) (fun cdv A outer s H vs Q E hr h=>?_)
 .obtain⟨t,S,x,rfl,_⟩:=h;rfl
 obtain⟨t,S,x,rfl,hT,hx,q1,q2⟩:=h
 refine⟨_,(qa5 (qad (qay (qaz (pv 0) T.w02 T.w0j ((w44 T).mono (by decide)) hr T.w46 .nil qar (qa0 (pv 1) qa3)) rfl))),?_⟩
 walk_at "d"
 refine qab (σ:=[some (.ref t),some (x)]) rfl ?_
 have hT0:=hT
 obtain⟨⟨dx,ht⟩,hw,hh,nd,hz,hE⟩:=hT
 have ct:=T.w02
 have nh:qap K d.w01 "houses":=T.w03
 walk_at "g"
 refine⟨t,S,x,rfl,hT0,hx,fun e he=>?_,q2⟩
 obtain⟨z,rfl⟩:∃z,x=.str z:=by
  rcases hx with h|⟨_,nz⟩
  .exact h
  .rw [qd4 nz] at he;cases he
 obtain⟨⟨dh,ho⟩,hp,hpA,hc,hcA⟩:=hE e (qcv he).1
 have ch:=T.w1e
 have nf:qap K d.w05 "weight":=T.w0s
 have hRp:Rd H e.x.pa (.dK e.x.kp):=.inl hp
 have hRc:Rd H e.x.ca (.dK e.x.kc):=.inl hc
 walk_at "g"
 exact q1 e he
include T in
theorem w6v:FnOk P w K mg base CX0 1 d.w5l d.w4r ["amounts","ware"] (w73 K d):=by
 refine T.w5k.ok waj (fun vs H Q E h=>?_) (fun cdv A outer s H vs Q E hr h=>?_)
 .obtain⟨a,kvs,f,z,rfl,_⟩:=h;rfl
 obtain⟨a,kvs,f,z,rfl,hR,hA,q⟩:=h
 refine⟨_,(qa5 (qad (pe_dget2 (qau hr) (pv 0) (pv 1) qa4 ⟨rfl,rfl,rfl,rfl⟩))),?_⟩
 walk_at "d"
 refine qab (σ:=[some (.ref a),some (.str z)]) rfl ?_
 walk_at "g"
 exact q
include T in
theorem w88:FnOk P w K mg base CX0 1 d.w33 d.w2m ["amounts"] (w7u K d):=by
 refine T.w55.ok w2w (fun vs H Q E h=>?_) (fun cdv A outer s H vs Q E hr h=>?_)
 .obtain⟨a,kvs,f,rfl,_⟩:=h;rfl
 obtain⟨a,kvs,f,rfl,hH,hA,hz,q⟩:=h
 refine⟨_,(qa2 (qaf (i:=1) w2w.nd rfl (Or.inl rfl) qb8)
  (qa2 (qdn (qb5 PassesOwn.never rfl (qch (pv 0)) (qac (i:=2) w2w.nd rfl (Or.inl rfl)) (qa5 (qd6 (qbb (qal qfz (qat (qau hr) (pv 0) (pv 2) (fun _ _=>rfl)) qa4 (qas _)) (qa5 (qbp (qau hr) (pv 1) (pv 2) (qat (qau hr) (pv 0) (pv 2) (fun _ _=>rfl)) rfl)) qaq)))))
  (qa5 (qad (pv 1))))),?_⟩
 walk_at "d"
 refine qab (σ:=[some (.ref a),none,none]) rfl ?_
 walk_at "g"
 rename_i l hl
 have ea:=qaa (o':=.dK []) hH hl
 have nla:l≠a:=(qa9 hH hl).symm
 refine qf5 ea fun o=>?_
 refine qdp (fun i σ H'=>∃(k':List (Key × V)) (w:Option V),σ=[some (.ref a),some (.ref l),w]/\SameBut a H H'/\H' a=some (.frz o (.dK kvs))/\H' l=some (.dK k')/\k'.length<=i/\AD k' (fun y=>if y∈(qbq kvs).take i then qd7 f y else none))
  ⟨[],none,rfl,SameBut.at (SameBut.of (qa7 hl _)),qa1,by rw [qa6 nla];exact qa1,Nat.le_refl _,AD.nil.cast fun z=>by simp [noF]⟩ ?_ ?_ ?_
 .rintro i σ H' _ ⟨k',w,rfl,sb,fz,hl',_⟩;exact fz
 .rintro i k v σ H' hk ⟨k',w,rfl,sb,fz,hl',hlen,hA'⟩
  obtain⟨z,n,rfl,rfl,hf,hzi⟩:=hA.at hk
  have hi:i < kvs.length:=(List.getElem?_eq_some_iff.mp hk).1
  have hRd:Rd H' a (.dK kvs):=.inr ⟨o,fz⟩
  show qdv _ (.str z) _ _ _
  walk_at "g"
  refine qf6 ?_
  walk_at "g"
  refine i_2 (fun c=>?_) (fun c=>?_)
  .walk_at "g"
   refine⟨_,_,rfl,?_,by rw [qa6 nla.symm];exact fz,qa1,?_,(hA'.put z n).cast fun y=>?_⟩
   .exact sb_put sb hl
   .have:=qax k' (Sum.inr z) (.int n);omega
   .exact step_put hzi (qd7 f) (fun _=>none) (by unfold qd7;rw [hf];exact if_pos c) y
  .walk_at "g"
   refine⟨_,_,rfl,sb,fz,hl',by omega,hA'.cast fun y=>?_⟩
   exact step_no hzi (qd7 f) (fun _=>none) (by unfold qd7;rw [hf];exact if_neg c) y
 .rintro σ H' ⟨k',w,rfl,sb,fz,hl',_,hA'⟩
  refine qdm (qez fz (qc8 hH)) ?_
  walk_at "g"
  refine q l k' _ (qd5 hH sb) hl (by rw [qa6 nla];exact hl') (hA'.cast fun y=>?_)
  exact step_end hA (qd7 f) (fun _=>none) (fun y e=>by unfold qd7;rw [e]) y
include T in
theorem wco:FnOk P w K mg base CX0 2 d.wch d.w94 ["one","other"] (wfi K d):=by
 refine T.wc3.ok w9k (fun vs H Q E h=>?_) (fun cdv A outer s H vs Q E hr h=>?_)
 .obtain⟨a,b,ka,kb,f,g,rfl,_⟩:=h;rfl
 obtain⟨a,b,ka,kb,f,g,rfl,hRa,hb,hA,hB,za,zb,q⟩:=h
 refine⟨_,(qa2 (qaf (i:=2) w9k.nd rfl (Or.inl rfl) (qca qeh rfl T.wcw PyProof.Rows.boot_dict (qa0 (pv 0) qa3)))
  (qa2 (qdn (qb5 PassesOwn.never rfl (qch (pv 1)) (qac (i:=3) w9k.nd rfl (Or.inl rfl)) (qa5 (qbp (qau hr) (pv 2) (pv 3) (qag qby (qah ((w6v T).mono (by decide)) hr rfl T.w85 T.w5k.kp T.w84 .nil qaw (qa0 (pv 0) (qa0 (pv 3) qa3))) (qat (qau hr) (pv 1) (pv 3) (fun _ _=>rfl))) rfl))))
  (qa5 (qad (pv 2))))),?_⟩
 walk_at "d"
 refine qab (σ:=[some (.ref a),some (.ref b),none,none]) rfl ?_
 walk_at "g"
 rename_i l hl
 have eb:=qaa (o':=.dK ka) hb hl
 have nlb:l≠b:=(qa9 hb hl).symm
 refine qf5 eb fun o=>?_
 refine qdp (fun i σ H'=>∃(k':List (Key × V)) (w:Option V),σ=[some (.ref a),some (.ref b),some (.ref l),w]/\SameBut b H H'/\H' b=some (.frz o (.dK kb))/\H' l=some (.dK k')/\k'.length<=1000+i/\AD k' (fun y=>if y∈(qbq kb).take i then qgk f g y else f y))
  ⟨ka,none,rfl,SameBut.at (SameBut.of (qa7 hl _)),qa1,by rw [qa6 nlb];exact qa1,by omega,hA.cast fun z=>by simp⟩ ?_ ?_ ?_
 .rintro i σ H' _ ⟨k',w,rfl,sb,fz,hl',_⟩;exact fz
 .rintro i k v σ H' hk ⟨k',w,rfl,sb,fz,hl',hlen,hA'⟩
  obtain⟨z,n,rfl,rfl,hf,hzi⟩:=hB.at hk
  have hi:i < kb.length:=(List.getElem?_eq_some_iff.mp hk).1
  have hRb:Rd H' b (.dK kb):=.inr ⟨o,fz⟩
  have hRa':Rd H' a (.dK ka):=rd_in hRa hb sb fz
  show qdv _ (.str z) _ _ _
  walk_at "g"
  refine⟨_,_,rfl,sb_put sb hl,by rw [qa6 nlb.symm];exact fz,qa1,?_,(hA'.put z _).cast fun y=>?_⟩
  .have:=qax k' (Sum.inr z) (.int (gN f z+n));omega
  .exact step_put hzi (qgk f g) f (by unfold qgk;rw [hf]) y
 .rintro σ H' ⟨k',w,rfl,sb,fz,hl',_,hA'⟩
  refine qdm (qez fz (qc8 hb)) ?_
  walk_at "g"
  refine q l k' _ (qd5 hb sb) hl (by rw [qa6 nlb];exact hl') (hA'.cast fun y=>?_)
  exact step_end hB (qgk f g) f (fun y e=>by unfold qgk;rw [e]) y
include T in
theorem web:FnOk P w K mg base CX0 2 d.w9n d.w8b ["one","other"] (wdt K d):=by
 refine T.wcr.ok wb1 (fun vs H Q E h=>?_) (fun cdv A outer s H vs Q E hr h=>?_)
 .obtain⟨a,b,ka,kb,f,g,rfl,_⟩:=h;rfl
 obtain⟨a,b,ka,kb,f,g,rfl,hRa,hRb,hA,hB,za,qn,qs⟩:=h
 refine⟨_,(qa2 (qb5 PassesOwn.never rfl (qb0 (qae (qcu rfl) rfl T.w2h PyProof.Rows.boot_sorted (qa0 (pv 0) qa3))) (qac (i:=2) wb1.nd rfl (Or.inl rfl)) (qa5 (qbb (qal qfz (qat (qau hr) (pv 0) (pv 2) (fun _ _=>rfl)) (qah ((w6v T).mono (by decide)) hr rfl T.w85 T.w5k.kp T.w84 .nil qaw (qa0 (pv 1) (qa0 (pv 2) qa3))) (qas _)) (qa5 (qad (pv 2))) qaq)))
  (qa5 (qad qe3))),?_⟩
 walk_at "d"
 refine qab (σ:=[some (.ref a),some (.ref b),none]) rfl ?_
 walk_at "g"
 refine qf4 hRa hA.keys (by rw [hA.klen];exact za) fun l ss hl hp hs=>?_
 have pw:=qdz hs
 have hin:∀y,y∈ss↔f y≠none:=fun y=>(hp.mem_iff).trans (hA.kin y)
 walk_at "g"
 have sm:=qa7 hl (.lst (ss.map V.str))
 have hRa':=rd_new hRa hl (u:=.lst (ss.map V.str))
 have hRb':=rd_new hRb hl (u:=.lst (ss.map V.str))
 refine qcc (xs:=ss.map V.str) (fun i σ H'=>H'=upd H l (.lst (ss.map V.str))/\(∃w,σ=[some (.ref a),some (.ref b),w])/\∀j y,j < i->ss[j]?=some y->¬viol f g y) ⟨rfl,⟨_,rfl⟩,fun j y hj=>absurd hj (Nat.not_lt_zero j)⟩ ?_ ?_ ?_
 .rintro i σ H' _ ⟨rfl,_⟩;exact SqL.of qa1
 .rintro i v σ H' hv ⟨rfl,⟨w,rfl⟩,hno⟩
  rw [getElem?_map] at hv
  obtain⟨z,hz,rfl⟩:=Option.map_eq_some_iff.mp hv
  have hfz:=(hin z).mp (mem_of_getElem? hz)
  obtain⟨n,hn⟩:∃n,f z=some n:=by
   cases e:f z with
   |none=>exact absurd e hfz
   |some n=>exact⟨n,rfl⟩
  have gz:gN f z=n:=by unfold gN;rw [hn];rfl
  walk_at "g"
  refine i_2 (fun c=>?_) (fun c=>?_)
  .walk_at "g"
   refine qs z _ sm ⟨hfz,by rw [gz];exact c⟩ fun y hy=>?_
   obtain⟨j,hj,e⟩:=mem_iff_getElem.mp ((hin y).mpr hy.1)
   have hji:i<=j:=by
    rcases Nat.lt_or_ge j i with h|h
    .exact absurd hy (hno j y h (by rw [getElem?_eq_getElem hj,e]))
    .exact h
   obtain⟨hi,ez⟩:=List.getElem?_eq_some_iff.mp hz
   rcases Nat.eq_or_lt_of_le hji with h|h
   .subst h;rw [ez] at e;subst e;exact leS_refl _
   .have:=List.pairwise_iff_getElem.mp pw i j hi hj h
    rw [ez,e] at this;exact this
  .walk_at "g"
   refine⟨rfl,⟨_,rfl⟩,fun j y hj hy=>?_⟩
   rcases Nat.lt_or_ge j i with h|h
   .exact hno j y h hy
   .have e:j=i:=by omega
    subst e
    rw [hz] at hy
    cases hy
    exact fun hv=>c (by have:=hv.2;rw [gz] at this;exact this)
 .rintro σ H' ⟨rfl,⟨w,rfl⟩,hno⟩
  walk_at "g"
  refine qn _ sm fun y hy=>?_
  obtain⟨j,hj,e⟩:=mem_iff_getElem.mp ((hin y).mpr hy.1)
  exact hno j y (by rw [length_map];exact hj) (by rw [getElem?_eq_getElem hj,e]) hy
theorem sum_sup {ts:List Pt} {ws:List Str} (h:∀t∈ts,∀z,t.f z≠none->z∈ws):∀f0:Str->Option Int,(∀z,f0 z≠none->z∈ws)->∀z,ts.foldl (fun f t=>qgk f t.f) f0 z≠none->z∈ws:=by
 induction ts with
 |nil=>intro f0 h0 z hz;exact h0 z hz
 |cons t ts ih=>intro f0 h0 z hz;exact ih (fun t' ht=>h t' (mem_cons_of_mem _ ht)) (qgk f0 t.f) (addF_sup h0 (h t (mem_cons_self ..))) z hz
include T in
theorem wbg:FnOk P w K mg base CX0 3 d.w6g d.w58 ["many"] (wc5 K d):=by
 refine T.w8y.ok w3p (fun vs H Q E h=>?_) (fun cdv A outer s H vs Q E hr h=>?_)
 .obtain⟨L,ts,ws,rfl,_⟩:=h;rfl
 obtain⟨L,ts,ws,rfl,hS,hw,hts,q⟩:=h
 refine⟨_,(qa2 (qaf (i:=1) w3p.nd rfl (Or.inl rfl) qb8)
  (qa2 (qb5 PassesOwn.never rfl (qb0 (pv 0)) (qac (i:=2) w3p.nd rfl (Or.inl rfl)) (qa5 (qaf (i:=1) w3p.nd rfl (Or.inl rfl) (qah ((wco T).mono (by decide)) hr rfl T.wea T.wc3.kp T.wey .nil qaw (qa0 (pv 1) (qa0 (pv 2) qa3))))))
  (qa5 (qad (pv 1))))),?_⟩
 walk_at "d"
 refine qab (σ:=[some (.ref L),none,none]) rfl ?_
 walk_at "g"
 rename_i l0 hl0
 refine qcc (xs:=ts.map fun t=> .ref t.a) (fun i σ H'=>∃(l:Addr) (k':List (Key × V)) (w:Option V),σ=[some (.ref L),some (.ref l),w]/\Same H H'/\H l=none/\H' l=some (.dK k')/\AD k' (sumF (ts.take i))) ⟨l0, [],none,rfl,qa7 hl0 _,hl0,qa1,AD.nil⟩ ?_ ?_ ?_
 .rintro i σ H' _ ⟨l,k',w,rfl,sm,_⟩;exact sm.seq hS
 .rintro i v σ H' hv ⟨l,k',w,rfl,sm,hl,hl',hA'⟩
  rw [getElem?_map] at hv
  obtain⟨t,ht,rfl⟩:=Option.map_eq_some_iff.mp hv
  have hm:=mem_of_getElem? ht
  obtain⟨h1,h2,h3⟩:=hts t hm
  have sup:∀z,sumF (ts.take i) z≠none->z∈ws:=sum_sup (fun t' ht'=>(hts t' (List.mem_of_mem_take ht')).2.2) noF (fun z h=>absurd rfl h)
  have c1:=hA'.le sup
  have c2:=h2.le h3
  walk_at "g"
  refine⟨l,t.a,k',t.k,sumF (ts.take i),t.f,rfl,.inl hl',sm _ _ h1,hA',h2,by omega,by omega,fun l2 k2 H2 sm2 hl2 e2 hA2=>?_⟩
  walk_at "g"
  refine⟨l2,k2,_,rfl,sm.trans sm2,sm.free hl2,e2,?_⟩
  have e:ts.take (i+1)=ts.take i++ [t]:=by rw [take_add_one,ht];rfl
  rw [e]
  unfold sumF
  rw [List.foldl_append]
  exact hA2
 .rintro σ H' ⟨l,k',w,rfl,sm,hl,hl',hA'⟩
  rw [length_map,take_length] at hA'
  walk_at "g"
  exact q l k' H' sm hl hl' hA'
include T in
theorem w2y:FnOk P w K mg base (My.CX1 P w) 5 d.w5d d.w4m ["self","name"] (wag K d):=by
 refine okX T.wca w32 (fun vs H Q E h=>?_) (fun cdv A outer s H vs Q E hr h=>?_)
 .obtain⟨t,S,x,rfl,_⟩:=h;rfl
 obtain⟨t,S,x,rfl,hT,q⟩:=h
 refine⟨_,(qa2 (qaf (i:=2) w32.nd rfl (Or.inl rfl) (qbr (qa0 (pv 1) qa3)))
  (qa2 (qaf (i:=3) w32.nd rfl (Or.inl rfl) (qaz (pv 0) T.w02 T.w0k ((w43 T).mono (by decide)) hr T.w4p .nil qar (qa0 (pv 1) qa3)))
  (qa2 (qe2 (qbv rfl rfl) (qal qgc (pv 3) qe3 (qas _)) (qa2 (qba (qgb PySem.F.plainAttrs_list PySem.F.slot_list_append PySem.F.type_list_append qbs (pv 2) (qa0 (pv 3) qa3)))
  (qa5 (qaf (i:=3) w32.nd rfl (Or.inl rfl) (qaz (pv 0) T.w02 T.w0k ((w43 T).mono (by decide)) hr T.w4p .nil qar (qa0 (pv 3) qa3))))))
  (qa5 (qad (pv 2)))))),?_⟩
 walk_at "d"
 refine qab (σ:=[some (.ref t),some (x),none,none]) rfl ?_
 have ct:=T.w02
 obtain⟨dx,ht⟩:=hT.1
 walk_at "g"
 rename_i l hl
 have sl:=qa7 hl (.lst [x])
 rcases q with ⟨z,zs,rfl,hL,hz,q⟩ |⟨hx,hn,q⟩
 .obtain⟨e0,r0,h0,rfl,hr0⟩:=hL.open
  refine⟨t,S,.str z,rfl,hT.same sl,.inl ⟨z,rfl⟩,fun e he=>?_,fun he=>?_⟩
  .have ee:e0=e:=Option.some.inj (h0.symm.trans he)
   subst ee
   walk_at "g"
   refine qdy (fun σ H'=>∃(ys rs:List Str) (o:Option Str),σ=[some (.ref t),some (.str z),some (.ref l),some (eV o)]/\H'=upd H l (.lst (ys.map V.str))/\ys++rs=z :: r0/\RestOf S o rs) (fun _ H'=>(r0.length+1) - lenAt l H') ⟨[z],r0,_,rfl,rfl,rfl,hr0⟩ ?_ ?_
   .rintro σ H' ⟨ys,rs,o,rfl,rfl,hyr,hR⟩
    have hlen:=congrArg List.length hyr
    rw [length_append,length_cons] at hlen
    have hz2:(z :: r0).length<=1000:=hz
    rw [length_cons] at hz2
    cases o with
    |none=>
     have:rs=[]:=hR
     subst this
     rw [append_nil] at hyr
     subst hyr
     rw [show eV none=V.non from rfl]
     walk_at "g"
     exact q l hl
    |some y=>
     obtain⟨e1,r1,h1,rfl,hr1⟩:=LineOf.open hR
     have sy:=qa7 hl (.lst (ys.map V.str))
     have eL:upd H l (.lst (ys.map V.str)) l=some (.lst (ys.map V.str)):=qa1
     have hzz:(ys.map V.str).length < sizeLine:=by rw [length_map];show _ < 16777216;omega
     rw [show eV (some y)=V.str y from rfl]
     walk_at "g"
     rw [qcw]
     have s2:=qa7 hl (.lst (ys.map V.str++ [.str y]))
     have ht2:=s2 _ _ ht
     walk_at "g"
     refine⟨t,S,.str y,rfl,hT.same s2,.inl ⟨y,rfl⟩,fun e he=>?_,fun he=>?_⟩
     .have ee:e1=e:=Option.some.inj (h1.symm.trans he)
      subst ee
      walk_at "g"
      rw [length_cons] at hlen
      refine⟨⟨ys++ [y],r1,_,rfl,by rw [map_append];rfl,by rw [List.append_assoc];exact hyr,hr1⟩,?_⟩
      have g1:=qeu eL
      have g2:lenAt l (upd H l (.lst (ys.map V.str++ [V.str y])))=(ys.map V.str++ [V.str y]).length:=qeu qa1
      rw [length_append,length_map] at g2
      rw [length_map] at g1
      rw [g1,g2]
      simp only [length_cons,length_nil]
      omega
     .rw [show who S (.str y)=some e1 from h1] at he;cases he
   .rintro σ H' Q1 Q2 hm ⟨v,hv,w,k,hk,hq⟩
    exact⟨v,hv,w,k,hk,hm _ _ hq⟩
  .rw [show who S (.str z)=some e0 from h0] at he;cases he
 .refine⟨t,S,x,rfl,hT.same sl,hx.same sl,fun e he=>?_,fun _=>q l hl⟩
  rw [hn] at he;cases he
theorem at_of {S:Ts} {e:He} (nd:(S.hl.map (·.n)).Nodup) (h:e∈S.hl):S.at e.n=some e:=by
 have q:qci S.keys e.n=some e.a:=qgf (by unfold Ts.keys;rw [List.map_map];exact nd) (mem_map.mpr ⟨e,h,rfl⟩)
 unfold Ts.at
 revert nd h
 obtain⟨sw,ws,hs,hl⟩:=S
 dsimp only
 clear q
 intro nd h
 induction hl with
 |nil=>simp at h
 |cons y r ih=>
  rw [map_cons,nodup_cons] at nd
  rw [find?_cons]
  rcases mem_cons.mp h with h|h
  .subst h;rw [decide_eq_true rfl]
  .have ne:y.n≠e.n:=fun z=>nd.1 (by rw [z];exact mem_map.mpr ⟨e,h,rfl⟩)
   rw [decide_eq_false ne]
   exact ih nd.2 h
theorem keys_at {S:Ts} {i:Nat} {k:Key} {v:V} (h:(oK S.keys)[i]?=some (k,v)):∃e,S.hl[i]?=some e/\k=Sum.inr e.n/\v=.ref e.a:=by
 unfold oK Ts.keys at h
 rw [getElem?_map,getElem?_map] at h
 cases q:S.hl[i]? with
 |none=>rw [q] at h;cases h
 |some e=>rw [q] at h;cases h;exact⟨e,rfl,rfl,rfl⟩
theorem qev (S:Ts):(oK S.keys).length=S.hl.length:=by unfold oK Ts.keys;rw [length_map,length_map]
theorem dec_el {o:Option Str} {z:Str}:decide (eV o=V.str z)=decide (o=some z):=by
 cases o with
 |none=>rfl
 |some y=>
  by_cases h:y=z
  .subst h;show decide (V.str y=V.str y)=_;rw [decide_eq_true rfl,decide_eq_true rfl]
  .rw [decide_eq_false (fun q=>h (by cases q;rfl)),decide_eq_false (fun q=>h (Option.some.inj q))]
theorem scal_el {o:Option Str} {z:Str}:scal (eV o) (V.str z)=true:=by cases o <;> rfl
include T in
theorem wai:FnOk P w K mg base (My.CX1 P w) 3 d.w5a d.w4t ["self","name"] (wav K d):=by
 refine okX T.wcc waz (fun vs H Q E h=>?_) (fun cdv A outer s H vs Q E hr h=>?_)
 .obtain⟨t,S,x,rfl,_⟩:=h;rfl
 obtain⟨t,S,x,rfl,hT,hx,q1,q2⟩:=h
 refine⟨_,(qa2 (qba (qaz (pv 0) T.w02 T.w06 ((w1i T).mono (by decide)) hr T.w1p .nil qar (qa0 (pv 1) qa3)))
  (qa5 (qad (qae qdl rfl T.w2h PyProof.Rows.boot_sorted (qa0 (pe_thV (qco (caps:=[0,1]) (cn:=["self","name"]) (qc6 rfl rfl (by rfl) (by rfl) rfl ⟨rfl,⟨rfl,trivial⟩⟩ (by rfl) rfl ⟨⟨rfl,rfl,rfl,rfl,_,rfl⟩,⟨⟨rfl,rfl,rfl,rfl,_,rfl⟩,trivial⟩⟩ (by decide)) rfl (qch (qay (pv 0) rfl)) (fun _ _ _ _=>(pf_one (qal qe5 (qay (qat (qau hr) (qay (pv 1) rfl) (pv 0) (fun _ _=>rfl)) rfl) (pv 2) (qas _)))) (fun _ _ _ _=>(pv 0)))) qa3))))),?_⟩
 walk_at "d"
 dsimp only [cxC]
 refine qab (σ:=[some (.ref t),some (x)]) rfl ?_
 have hT0:=hT
 obtain⟨⟨dx,ht⟩,hw,hh,nd,hz,hE⟩:=hT
 have ct:=T.w02
 have ch:=T.w1e
 have nh:qap K d.w01 "houses":=T.w03
 have nf:qap K d.w05 "elder":=T.w0o
 walk_at "g"
 refine⟨t,S,x,rfl,hT0,hx,fun e he=>?_,q2⟩
 obtain⟨z,rfl⟩:∃z,x=.str z:=by
  rcases hx with h|⟨_,nz⟩
  .exact h
  .rw [qd4 nz] at he;cases he
 obtain⟨hme,rfl⟩:=qcv he
 walk_at "g"
 refine r_thV ?_
 walk_at "g"
 refine qf5 hh fun o=>?_
 intro C s0 H0 fp na hna
 have hF:upd H S.hs (.frz o (.dK (oK S.keys))) S.hs=some (.frz o (.dK (oK S.keys))):=qa1
 have sb:SameBut S.hs H (upd H S.hs (.frz o (.dK (oK S.keys)))):=sb_frz hh
 have ht2:=sb _ _ (ne_of ht hh (by intro z;cases z)) ht
 have hna0:H na=none:=by
  by_cases z:na=S.hs
  .subst z;rw [hF] at hna;cases hna
  .rw [qa6 z] at hna;exact hna
 have hE2:∀e∈S.hl,∃dx,upd H S.hs (.frz o (.dK (oK S.keys))) e.a=some (.ins d.w05 dx (fsH e.x)):=fun e he=>by
  obtain⟨⟨dx,q⟩,_⟩:=hE e he
  exact⟨dx,sb _ _ (ne_of q hh (by intro z;cases z)) q⟩
 generalize upd H S.hs (.frz o (.dK (oK S.keys)))=HF at*
 refine c_by S.hl.length (fun i H'=>H'=upd HF na (.lst ((((S.hl.take i).filter fun y=>decide (y.x.el=some e.n)).map (·.n)).map V.str))) rfl ?_ ?_ ?_ ?_
 .rintro i H' hi rfl
  exact⟨qaa hF hna,by rw [qev];exact hi⟩
 .rintro H' rfl
  exact⟨qaa hF hna,by rw [qev];exact Nat.le_refl _⟩
 .rintro i H' v H'' hi rfl ⟨rfl,k,v',hk,rfl⟩
  obtain⟨y,hy,rfl,rfl⟩:=keys_at hk
  have hym:=mem_of_getElem? hy
  obtain⟨dy,hya⟩:=hE2 y hym
  have nx:(S.hl.take (i+1)).filter (fun y=>decide (y.x.el=some e.n))=(S.hl.take i).filter (fun y=>decide (y.x.el=some e.n))++(if decide (y.x.el=some e.n)=true then [y] else []):=by
   rw [take_add_one,hy,filter_append]
   congr 1
   simp only [Option.toList_some,filter_cons,List.filter_nil]
  have hlen:((S.hl.take i).filter (fun y=>decide (y.x.el=some e.n))).length<=S.hl.length:=Nat.le_trans (length_filter_le ..) (by rw [length_take];omega)
  walk_at "g"
  refine r_dgO (h:=y.a) (rd_new (.inr ⟨o,hF⟩) hna) (by rw [qdt,at_of nd hym];rfl) ?_
  walk_at "g"
  refine⟨scal_el,?_⟩
  rw [dec_el]
  refine⟨_,rfl,?_⟩
  refine i_2 (fun c=>?_) (fun c=>?_)
  .walk_at "g"
   rw [qcw,nx,if_pos (decide_eq_true c),map_append,map_append];rfl
  .rw [nx,if_neg (by rw [decide_eq_false c];decide),append_nil]
 rintro H' rfl
 rw [take_length]
 have nns:na≠S.hs:=fun z=>by subst z;rw [hF] at hna;cases hna
 have eN:upd (upd HF na (.lst ((qbc S e.n).map V.str))) S.hs (.dK (oK S.keys)) na=some (.lst ((qbc S e.n).map V.str)):=by rw [qa6 nns];exact qa1
 have sm:Same H (upd (upd HF na (.lst ((qbc S e.n).map V.str))) S.hs (.dK (oK S.keys))):=qd5 hh (sb_put sb hna0)
 have hkl:(qbc S e.n).length<=60:=by unfold qbc;rw [length_map];exact Nat.le_trans (length_filter_le ..) hz
 refine⟨_,qez (qaa hF hna) (qc8 hh),?_⟩
 show tNil _ (upd (upd HF na (.lst ((qbc S e.n).map V.str))) S.hs (.dK (oK S.keys))) _
 generalize upd (upd HF na (.lst ((qbc S e.n).map V.str))) S.hs (.dK (oK S.keys))=H3 at*
 walk_at "g"
 refine qg9 (SqL.of eN) (by omega) fun l ss hl hp hs=>?_
 walk_at "g"
 exact q1 e he l ss _ (same_upd sm hl) (sm.free hl) qa1 hp hs
theorem r_extend {H:Hp} {Q:VK} {l b:Addr} {xs zs:List V} (h:H l=some (.lst xs)) (hb:H b=some (.lst zs)) (hz:xs.length+zs.length<=sizeLine) (q:Q .non (upd H l (.lst (xs++zs)))):rExtend (.ref l) [.ref b] H Q:=⟨l,b,xs,zs,rfl,rfl,h,hb,hz,q⟩
def flat (parts:List (Str × List Str)):List Str:=(parts.map (·.2)).flatten
def Ben (S:Ts):Nat->Str->List Str->Prop
 |0,z,zs=>∃parts:List (Str × List Str),(parts.map (·.1)).Perm (qbc S z)/\zs=z :: flat parts/\∀p∈parts,False
 |n+1,z,zs=>∃parts:List (Str × List Str),(parts.map (·.1)).Perm (qbc S z)/\zs=z :: flat parts/\∀p∈parts,Ben S n p.1 p.2
def BenP (S:Ts):Nat->Str->List Str->Prop
 |0,z,zs=>∃(parts:List (Str × List Str)) (rest:List Str),(parts.map (·.1)++rest).Perm (qbc S z)/\zs=z :: flat parts/\∀p∈parts,False
 |n+1,z,zs=>∃(parts:List (Str × List Str)) (rest:List Str),(parts.map (·.1)++rest).Perm (qbc S z)/\zs=z :: flat parts/\∀p∈parts,BenP S n p.1 p.2
theorem Ben.part {S:Ts}:∀{n:Nat} {z:Str} {zs:List Str},Ben S n z zs->BenP S n z zs
 |0,_,_,⟨parts,a,b,c⟩=>⟨parts, [],by rw [append_nil];exact a,b,c⟩
 |n+1,_,_,⟨parts,a,b,c⟩=>⟨parts, [],by rw [append_nil];exact a,b,fun p hp=>Ben.part (c p hp)⟩
def BenK (S:Ts):Nat->Str->List Str->Prop
 |0,_,_=>False
 |n+1,z,zs=>Ben S n z zs
theorem ben_of {S:Ts} {n:Nat} {z:Str} {parts:List (Str × List Str)} (h:(parts.map (·.1)).Perm (qbc S z)) (hp:∀p∈parts,BenK S n p.1 p.2):Ben S n z (z :: flat parts):=by
 cases n with
 |zero=>exact⟨parts,h,rfl,hp⟩
 |succ n=>exact⟨parts,h,rfl,hp⟩
theorem benP_of {S:Ts} {n:Nat} {z:Str} {parts:List (Str × List Str)} {rest:List Str} (h:(parts.map (·.1)++rest).Perm (qbc S z)) (hp:∀p∈parts,BenK S n p.1 p.2):BenP S n z (z :: flat parts):=by
 cases n with
 |zero=>exact⟨parts,rest,h,rfl,hp⟩
 |succ n=>exact⟨parts,rest,h,rfl,fun p q=>Ben.part (hp p q)⟩
def Slim (S:Ts):Prop:=∀n z zs,BenP S n z zs->zs.length<=1000
def Dep (S:Ts):Nat->Str->Prop
 |0,z=>qbc S z=[]
 |n+1,z=>∀y∈qbc S z,Dep S n y
def wcx (n:Nat) (K:Frag) (d:Ad):Sp:=fun vs H Q E=>∃(t:Addr) (S:Ts) (x:V),vs=[.ref t,x]/\qen d H t S/\Slim S/\qei K H x/\(∀e,who S x=some e->Dep S n e.n/\∀l zs H',Same H H'->H l=none->H' l=some (.lst (zs.map V.str))->Ben S n e.n zs->Q (.ref l) H')/\(who S x=none->∀l,H l=none->E (.ref d.w0i) none (upd H l (.lst [x])))
theorem kid_at {S:Ts} {y z:Str} (nd:(S.hl.map (·.n)).Nodup) (h:y∈qbc S z):∃e,S.at y=some e/\e.n=y:=by
 obtain⟨e,he,rfl⟩:=mem_map.mp h
 exact⟨e,at_of nd (mem_filter.mp he).1,rfl⟩
theorem flat_app (a b:List (Str × List Str)):flat (a++b)=flat a++flat b:=by unfold flat;rw [map_append,List.flatten_append]
theorem ben_step {P:Program} {w:World} {K:Frag} {mg:Str->Option Value} {base:Heap} {d:Ad} (T:Tx K mg d) (n:Nat) (spi:Sp) (IH:FnOk P w K mg base (My.CX1 P w) (3+n) d.w16 d.w0r ["self","name"] spi)
  (use:∀(t:Addr) (S:Ts) (z y:Str) (e:He) (H:Hp) (Q:VK) (E:XK),qen d H t S->Slim S->Dep S n z->y∈qbc S z->S.at y=some e->e.n=y->(∀l zs H',Same H H'->H l=none->H' l=some (.lst (zs.map V.str))->BenK S n y zs->Q (.ref l) H')->spi [.ref t,.str y] H Q E):
  FnOk P w K mg base (My.CX1 P w) (3+n+1) d.w16 d.w0r ["self","name"] (wcx n K d):=by
 refine okX T.w8q w2t (fun vs H Q E h=>?_) (fun cdv A outer s H vs Q E hr h=>?_)
 .obtain⟨t,S,x,rfl,_⟩:=h;rfl
 obtain⟨t,S,x,rfl,hT,hS,hx,q1,q2⟩:=h
 refine⟨_,(qa2 (qaf (i:=2) w2t.nd rfl (Or.inl rfl) (qbr (qa0 (pv 1) qa3)))
  (qa2 (qb5 (qbv rfl rfl) rfl (qb0 (qaz (pv 0) T.w02 T.w22 ((wai T).mono (by omega)) hr T.wbq .nil qar (qa0 (pv 1) qa3))) (qac (i:=3) w2t.nd rfl (Or.inl rfl)) (qa5 (qba (qgb PySem.F.plainAttrs_list PySem.F.slot_list_extend PySem.F.type_list_extend mt_extend (pv 2) (qa0 (qaz (pv 0) T.w02 T.w0v IH hr T.w54 .nil qar (qa0 (pv 3) qa3)) qa3)))))
  (qa5 (qad (pv 2))))),?_⟩
 walk_at "d"
 refine qab (σ:=[some (.ref t),some (x),none,none]) rfl ?_
 have ct:=T.w02
 obtain⟨dx,ht⟩:=hT.1
 have nd:=hT.2.2.2.1
 walk_at "g"
 rename_i lt hlt
 have sl:=qa7 hlt (.lst [x])
 refine⟨t,S,x,rfl,hT.same sl,hx.same sl,fun e he=>?_,fun he=>q2 he lt hlt⟩
 obtain⟨hD,q⟩:=q1 e he
 obtain⟨z,rfl⟩:∃z,x=.str z:=by
  rcases hx with h|⟨_,nz⟩
  .exact h
  .rw [qd4 nz] at he;cases he
 obtain⟨hme,rfl⟩:=qcv he
 intro lk ss H1 s1 hlk ek hp hs
 have eT:=s1 _ _ (qa1 (H:=H) (a:=lt) (o:=.lst [V.str e.n]))
 walk_at "g"
 have ntk:lk≠lt:=fun z=>by subst z;rw [qa1] at hlk;cases hlk
 refine qcc (xs:=ss.map V.str) (fun i σ H'=>∃(parts:List (Str × List Str)) (w:Option V),σ=[some (.ref t),some (.str e.n),some (.ref lt),w]/\parts.map (·.1)=ss.take i/\(∀p∈parts,BenK S n p.1 p.2)/\Same H H'/\H' lk=some (.lst (ss.map V.str))/\H' lt=some (.lst ((e.n :: flat parts).map V.str)))
  ⟨[],_,rfl,rfl,fun p hp=>absurd hp (by simp),sl.trans s1,ek,eT⟩ ?_ ?_ ?_
 .rintro i σ H' _ ⟨parts,w,_,_,_,_,ek',_⟩;exact SqL.of ek'
 .rintro i v σ H' hv ⟨parts,w,rfl,hps,hB,sm,ek',eT'⟩
  rw [getElem?_map] at hv
  obtain⟨y,hy,rfl⟩:=Option.map_eq_some_iff.mp hv
  have hyk:y∈qbc S e.n:=hp.mem_iff.mp (mem_of_getElem? hy)
  obtain⟨ey,h1,h2⟩:=kid_at nd hyk
  have ht':=sm _ _ ht
  walk_at "g"
  refine use t S e.n y ey H' _ _ (hT.same sm) hS hD hyk h1 h2 fun l zs H2 s2 hl el hBy=>?_
  have eT2:=s2 _ _ eT'
  have hps2:(parts++ [(y,zs)]).map (·.1)=ss.take (i+1):=by rw [map_append,hps,take_add_one,hy];rfl
  have hB2:∀p∈parts++ [(y,zs)],BenK S n p.1 p.2:=fun p hp=>by
   rcases mem_append.mp hp with h|h
   .exact hB p h
   .have:=mem_singleton.mp h
    subst this;exact hBy
  have ef:flat (parts++ [(y,zs)])=flat parts++zs:=by rw [flat_app];congr 1;simp [flat]
  have hlen:=hS _ _ _ (benP_of (n:=n) (z:=e.n) (parts:=parts++ [(y,zs)]) (rest:=ss.drop (i+1)) (by rw [hps2,List.take_append_drop];exact hp) hB2)
  rw [ef,length_cons,length_append] at hlen
  walk_at "g"
  refine r_extend eT2 el (by rw [length_map,length_map,length_cons];show _<=16777216;omega) ?_
  walk_at "g"
  refine⟨parts++ [(y,zs)],_,rfl,hps2,hB2,qb4 (sm.trans s2) hlt,by rw [qa6 ntk];exact s2 _ _ ek',?_⟩
  rw [ef,<-map_append];exact qa1
 .rintro σ H' ⟨parts,w,rfl,hps,hB,sm,ek',eT'⟩
  rw [length_map,take_length] at hps
  walk_at "g"
  exact q lt _ H' sm hlt eT' (ben_of (by rw [hps];exact hp) hB)
theorem we3 {P:Program} {w:World} {K:Frag} {mg:Str->Option Value} {base:Heap} {CX:CXT} {k:Nat} {f:Addr} {fd:FuncData} {ps:List Str}:FnOk P w K mg base CX k f fd ps (fun _ _ _ _=>False):=
 ⟨fun _ _ _ _ h=>h.elim,fun _ _ _ _ _ _ _ _ _ _ _ _ _ h=>h.elim⟩
theorem wgd {P:Program} {w:World} {K:Frag} {mg:Str->Option Value} {base:Heap} {d:Ad} (T:Tx K mg d):∀n:Nat,FnOk P w K mg base (My.CX1 P w) (3+n+1) d.w16 d.w0r ["self","name"] (wcx n K d)
 |0=>ben_step T 0 (fun _ _ _ _=>False) we3 fun t S z y e H Q E _ _ hD hy _ _ _=>by
  have:qbc S z=[]:=hD
  rw [this] at hy;simp at hy
 |n+1=>ben_step T (n+1) (wcx n K d) (wgd T n) fun t S z y e H Q E hT hS hD hy h1 h2 q=>by
  refine⟨t,S,.str y,rfl,hT,hS,.inl ⟨y,rfl⟩,fun e' he'=>?_,fun he'=>?_⟩
  .have ee:e=e':=Option.some.inj (h1.symm.trans he')
   subst ee
   rw [h2]
   exact⟨hD y hy,fun l zs H' sm hl el hB=>q l zs H' sm hl el hB⟩
  .rw [show who S (.str y)=some e from h1] at he';cases he'
def w8g (K:Frag) (d:Ad):Sp:=wcx 12 K d
include T in
theorem w8e:FnOk P w K mg base (My.CX1 P w) 16 d.w16 d.w0r ["self","name"] (w8g K d):=wgd T 12
def upS (S:Ts) (y:Str):Option Str:=(S.at y).bind fun e=>e.x.el
def anc (S:Ts):Nat->Str->Option Str
 |0,y=>some y
 |k+1,y=>(upS S y).bind (anc S k)
theorem qdw {S:Ts}:∀(i j:Nat) (y:Str),anc S (i+j) y=(anc S i y).bind (anc S j)
 |0,j,y=>by rw [Nat.zero_add];rfl
 |i+1,j,y=>by
  rw [show i+1+j=(i+j)+1 by omega]
  show (upS S y).bind (anc S (i+j))=((upS S y).bind (anc S i)).bind (anc S j)
  cases upS S y with
  |none=>rfl
  |some u=>exact qdw i j u
def WF (S:Ts):Prop:=(S.hl.map (·.n)).Nodup/\∀e∈S.hl,∃zs,LineOf S e.n zs
theorem up_of {S:Ts} {z:Str} {e:He} (h:S.at z=some e):upS S z=e.x.el:=by unfold upS;rw [h];rfl
theorem line_end {S:Ts} {z:Str} {zs:List Str} (h:LineOf S z zs):anc S zs.length z=none:=by
 induction h with
 |top h n=>show (upS S _).bind _=none;rw [up_of h,n];rfl
 |up h n r ih=>show (upS S _).bind _=none;rw [up_of h,n];exact ih
theorem no_cycle {S:Ts} (w:WF S) {k:Nat} {z:Str}:anc S (k+1) z≠some z:=by
 intro c
 cases hz:S.at z with
 |none=>
  have:anc S (k+1) z=none:=by show (upS S z).bind _=none;unfold upS;rw [hz];rfl
  rw [this] at c;cases c
 |some e=>
  obtain⟨zs,hl⟩:=w.2 e (qcv hz).1
  rw [(qcv hz).2] at hl
  have he:=line_end hl
  have rep:∀m,anc S (m*(k+1)) z=some z:=by
   intro m
   induction m with
   |zero=>rw [Nat.zero_mul];rfl
   |succ m ih=>rw [Nat.succ_mul,qdw,ih];exact c
  have h1:=rep zs.length
  have h2:zs.length*(k+1)=zs.length+zs.length*k:=by rw [Nat.mul_add,Nat.mul_one];omega
  rw [h2,qdw,he] at h1
  cases h1
theorem kid_up {S:Ts} (w:WF S) {y z:Str} (h:y∈qbc S z):upS S y=some z:=by
 obtain⟨e,he,rfl⟩:=mem_map.mp h
 obtain⟨hm,hd⟩:=mem_filter.mp he
 unfold upS
 rw [at_of w.1 hm]
 exact of_decide_eq_true hd
theorem kids_nodup {S:Ts} (w:WF S) (z:Str):(qbc S z).Nodup:=by
 unfold qbc
 exact List.Nodup.sublist (List.Sublist.map _ List.filter_sublist) w.1
theorem ben_anc {S:Ts} (w:WF S):∀{n:Nat} {z:Str} {zs:List Str},BenP S n z zs->∀y∈zs,∃k,anc S k y=some z
 |0,z,_,⟨parts,rest,hp,rfl,hb⟩,y,hy=>by
  rcases mem_cons.mp hy with rfl|hy
  .exact⟨0,rfl⟩
  .obtain⟨l,hl,_⟩:=List.mem_flatten.mp hy
   obtain⟨p,hpp,_⟩:=mem_map.mp hl
   exact(hb p hpp).elim
 |n+1,z,_,⟨parts,rest,hp,rfl,hb⟩,y,hy=>by
  rcases mem_cons.mp hy with rfl|hy
  .exact⟨0,rfl⟩
  .obtain⟨l,hl,hyl⟩:=List.mem_flatten.mp hy
   obtain⟨p,hpp,rfl⟩:=mem_map.mp hl
   obtain⟨k,hk⟩:=ben_anc w (hb p hpp) y hyl
   have hu:=kid_up w (hp.mem_iff.mp (mem_append_left _ (mem_map.mpr ⟨p,hpp,rfl⟩)))
   exact⟨k+1,by rw [qdw,hk];show (upS S p.1).bind _=_;rw [hu];rfl⟩
theorem apart {S:Ts} (w:WF S) {p q z y:Str} {i j:Nat} (hp:upS S p=some z) (hq:upS S q=some z) (ne:p≠q) (hi:anc S i y=some p) (hj:anc S j y=some q) (le:i<=j):False:=by
 obtain⟨c,rfl⟩:=Nat.exists_eq_add_of_le le
 rw [qdw,hi] at hj
 have hj':anc S c p=some q:=hj
 cases c with
 |zero=>exact ne (Option.some.inj hj')
 |succ c=>
  have h1:(upS S p).bind (anc S c)=some q:=hj'
  rw [hp] at h1
  have h2:anc S c z=some q:=h1
  refine no_cycle w (k:=c) (z:=z) ?_
  rw [qdw,h2]
  show (upS S q).bind _=_
  rw [hq];rfl
theorem qff {S:Ts} (w:WF S) {z:Str}:∀{parts:List (Str × List Str)},(parts.map (·.1)).Nodup->(∀p∈parts,upS S p.1=some z)->(∀p∈parts,p.2.Nodup/\∀y∈p.2,∃k,anc S k y=some p.1)->(flat parts).Nodup
 | [],_,_,_=>nodup_nil
 |p :: r,nd,hu,hb=>by
  rw [map_cons,nodup_cons] at nd
  have ih:=qff w (z:=z) nd.2 (fun q hq=>hu q (mem_cons_of_mem _ hq)) fun q hq=>hb q (mem_cons_of_mem _ hq)
  show (p.2++flat r).Nodup
  rw [nodup_append]
  refine⟨(hb p (mem_cons_self ..)).1,ih,fun a ha b hbm e=>?_⟩
  subst e
  obtain⟨l,hl,hal⟩:=List.mem_flatten.mp hbm
  obtain⟨q,hq,rfl⟩:=mem_map.mp hl
  obtain⟨i,hi⟩:=(hb p (mem_cons_self ..)).2 a ha
  obtain⟨j,hj⟩:=(hb q (mem_cons_of_mem _ hq)).2 a hal
  have ne:p.1≠q.1:=fun z=>nd.1 (by rw [z];exact mem_map.mpr ⟨q,hq,rfl⟩)
  have up:=hu p (mem_cons_self ..)
  have uq:=hu q (mem_cons_of_mem _ hq)
  rcases Nat.le_total i j with h|h
  .exact apart w up uq ne hi hj h
  .exact apart w uq up ne.symm hj hi h
theorem qdc {S:Ts} (w:WF S):∀{n:Nat} {z:Str} {zs:List Str},BenP S n z zs->zs.Nodup/\∀y∈zs,y=z\/y∈S.hl.map (·.n)
 |0,z,_,⟨parts,rest,hp,rfl,hb⟩=>by
  have:parts=[]:=by
   cases parts with
   |nil=>rfl
   |cons p r=>exact(hb p (mem_cons_self ..)).elim
  subst this
  exact⟨by simp [flat],fun y hy=> .inl (by simpa [flat] using hy)⟩
 |n+1,z,_,⟨parts,rest,hp,rfl,hb⟩=>by
  have kd:=kids_nodup w z
  have hk:∀p∈parts,p.1∈qbc S z:=fun p h=>hp.mem_iff.mp (mem_append_left _ (mem_map.mpr ⟨p,h,rfl⟩))
  have hu:∀p∈parts,upS S p.1=some z:=fun p h=>kid_up w (hk p h)
  have hn:(parts.map (·.1)).Nodup:=(nodup_append.mp (hp.nodup_iff.mpr kd)).1
  have fl:=qff w (z:=z) hn hu fun p h=>⟨(qdc w (hb p h)).1,ben_anc w (hb p h)⟩
  refine⟨nodup_cons.mpr ⟨fun hm=>?_,fl⟩,fun y hy=>?_⟩
  .obtain⟨l,hl,hal⟩:=List.mem_flatten.mp hm
   obtain⟨q,hq,rfl⟩:=mem_map.mp hl
   obtain⟨k,hk'⟩:=ben_anc w (hb q hq) z hal
   refine no_cycle w (k:=k) (z:=z) ?_
   rw [qdw,hk']
   show (upS S q.1).bind _=_
   rw [hu q hq];rfl
  .rcases mem_cons.mp hy with rfl|hy
   .exact .inl rfl
   .obtain⟨l,hl,hal⟩:=List.mem_flatten.mp hy
    obtain⟨q,hq,rfl⟩:=mem_map.mp hl
    have hq1:q.1∈S.hl.map (·.n):=by
     obtain⟨e,he,e1⟩:=mem_map.mp (hk q hq)
     rw [<-e1];exact mem_map.mpr ⟨e,(mem_filter.mp he).1,rfl⟩
    rcases(qdc w (hb q hq)).2 y hal with rfl|h
    .exact .inr hq1
    .exact .inr h
theorem slim_of {S:Ts} (w:WF S) (hz:S.hl.length<=60):Slim S:=fun n z zs h=>by
 obtain⟨nd,hm⟩:=qdc w h
 have:=nd_le (m:=z :: S.hl.map (·.n)) nd fun y hy=>by
  rcases hm y hy with rfl|h
  .exact mem_cons_self ..
  .exact mem_cons_of_mem _ h
 rw [length_cons,length_map] at this
 omega
def ptOf (S:Ts) (y:Str):Pt:=match S.at y with
 |some e=>⟨e.x.pa,e.x.kp,e.x.fp⟩
 |none=>⟨0, [],noF⟩
theorem qga {S:Ts} {y:Str} {e:He} (h:S.at y=some e):ptOf S y=⟨e.x.pa,e.x.kp,e.x.fp⟩:=by unfold ptOf;rw [h]
def qgm (S:Ts):Prop:=S.ws.length<=100/\∀e∈S.hl,∀z,e.x.fp z≠none->z∈S.ws
def w3e (K:Frag) (d:Ad):Sp:=fun vs H Q E=>∃(t:Addr) (S:Ts) (x:V),vs=[.ref t,x]/\qen d H t S/\WF S/\qgm S/\qei K H x/\
 (∀e,who S x=some e->Dep S 12 e.n/\∀l zs k' H',Same H H'->H l=none->H' l=some (.dK k')->Ben S 12 e.n zs->AD k' (sumF (zs.map (ptOf S)))->Q (.ref l) H')/\(who S x=none->∀l,H l=none->E (.ref d.w0i) none (upd H l (.lst [x])))
include T in
theorem w3d:FnOk P w K mg base (My.CX1 P w) 17 d.w11 d.w0t ["self","name"] (w3e K d):=by
 refine okX T.w3n w3g (fun vs H Q E h=>?_) (fun cdv A outer s H vs Q E hr h=>?_)
 .obtain⟨t,S,x,rfl,_⟩:=h;rfl
 obtain⟨t,S,x,rfl,hT,hW,hO,hx,q1,q2⟩:=h
 refine⟨_,(qa5 (qad (qah ((wbg T).mono (by decide)) hr rfl T.wd7 T.w8y.kp T.wdl .nil qaw (qa0 (qco (caps:=[0]) (cn:=["self"]) (qc6 rfl rfl (by rfl) (by rfl) rfl ⟨rfl,trivial⟩ (by rfl) rfl ⟨⟨rfl,rfl,rfl,rfl,_,rfl⟩,trivial⟩ (by decide)) rfl (qb0 (qaz (pv 0) T.w02 T.w0v ((w8e T).mono (by decide)) hr T.w54 .nil qar (qa0 (pv 1) qa3))) (fun _ _ _ _=>qej) (fun _ _ _ _=>(qay (qat (qau hr) (qay (pv 1) rfl) (pv 0) (fun _ _=>rfl)) rfl))) qa3)))),?_⟩
 walk_at "d"
 dsimp only [cxC]
 refine qab (σ:=[some (.ref t),some (x)]) rfl ?_
 have ct:=T.w02
 have ch:=T.w1e
 have nh:qap K d.w01 "houses":=T.w03
 have nf:qap K d.w05 "promise":=T.w0b
 obtain⟨dx,ht⟩:=hT.1
 have nd:=hT.2.2.2.1
 walk_at "g"
 refine⟨t,S,x,rfl,hT,slim_of hW hT.2.2.2.2.1,hx,fun e he=>⟨(q1 e he).1,?_⟩,q2⟩
 obtain⟨hD,q⟩:=q1 e he
 intro lb zs H1 s1 hlb eb hB
 walk_at "g"
 have hT1:=hT.same s1
 obtain⟨⟨_,ht1⟩,hw,hh,_,hz,hE⟩:=hT1
 have hbn:=qdc hW (Ben.part hB)
 have hzs:=slim_of hW hz 12 _ _ (Ben.part hB)
 have hin:∀y∈zs,∃ey,S.at y=some ey/\ey∈S.hl:=fun y hy=>by
  have hy':y∈S.hl.map (·.n):=by
   rcases hbn.2 y hy with rfl|h
   .obtain⟨z,rfl⟩:∃z,x=.str z:=by
     rcases hx with h|⟨_,nz⟩
     .exact h
     .rw [qd4 nz] at he;cases he
    exact mem_map.mpr ⟨e,(qcv he).1,rfl⟩
   .exact h
  obtain⟨ey,hm,rfl⟩:=mem_map.mp hy'
  exact⟨ey,at_of nd hm,hm⟩
 intro C s0 H0 fp na hna
 refine c_by zs.length (fun i H'=>H'=upd H1 na (.lst (((zs.take i).map (ptOf S)).map fun u=> .ref u.a))) rfl ?_ ?_ ?_ ?_
 .rintro i H' hi rfl
  exact⟨_,.str zs[i],SqL.of (qaa eb hna),by rw [getElem?_map,getElem?_eq_getElem hi];rfl⟩
 .rintro H' rfl
  exact⟨_,SqL.of (qaa eb hna),by rw [length_map];exact Nat.le_refl _⟩
 .rintro i H' v H'' hi rfl ⟨rfl,hy⟩
  have hv:=hy _ (SqL.of (qaa eb hna))
  rw [getElem?_map,getElem?_eq_getElem hi] at hv
  cases hv
  obtain⟨ey,h1,hm⟩:=hin _ (getElem_mem hi)
  obtain⟨⟨dy,hya⟩,_⟩:=hE ey hm
  walk_at "g"
  refine r_dgO (h:=ey.a) (rd_new (.inl hh) hna) (by rw [qdt,h1];rfl) ?_
  walk_at "g"
  rw [qcw,take_add_one,getElem?_eq_getElem hi]
  congr 2
  simp only [Option.toList_some,map_append,map_cons,List.map_nil,qga h1]
 rintro H' rfl
 rw [take_length]
 have s2:=qa7 hna (.lst ((zs.map (ptOf S)).map fun u=>V.ref u.a))
 have eN:upd H1 na (.lst ((zs.map (ptOf S)).map fun u=>V.ref u.a)) na=some (.lst ((zs.map (ptOf S)).map fun u=>V.ref u.a)):=qa1
 walk_at "g"
 refine⟨na,zs.map (ptOf S),S.ws,rfl,SqL.of eN,hO.1,fun u hu=>?_,fun l k' H2 s3 hl el hA=>q l zs k' H2 ((s1.trans s2).trans s3) ((s1.trans s2).free hl) el hB hA⟩
 obtain⟨y,hy,rfl⟩:=mem_map.mp hu
 obtain⟨ey,h1,hm⟩:=hin y hy
 obtain⟨_,hp,hA,_⟩:=hE ey hm
 rw [qga h1]
 exact⟨s2 _ _ hp,hA,hO.2 ey hm⟩
include T in
theorem w8r:FnOk P w K mg base CX0 1 d.w3s d.w37 ["self","house","ware"] (fun _ _ _ _=>False):=we3
def w6n (K:Frag) (d:Ad):Sp:=fun vs H Q _=>∃(x:V) (a b:Addr) (ka kb:List (Key × V)) (f g:Str->Option Int),vs=[x,.ref a,.ref b]/\Rd H a (.dK ka)/\Rd H b (.dK kb)/\AD ka f/\AD kb g/\ka.length < 64/\(∀z n,f z=some n->n<=gN g z)/\∀H',Same H H'->Q .non H'
include T in
theorem w1t:FnOk P w K mg base (My.CX1 P w) 3 d.w25 d.w1v ["name","promises","cap"] (w6n K d):=by
 refine okX T.w1f w3i (fun vs H Q E h=>?_) (fun cdv A outer s H vs Q E hr h=>?_)
 .obtain⟨x,a,b,ka,kb,f,g,rfl,_⟩:=h;rfl
 obtain⟨x,a,b,ka,kb,f,g,rfl,ha,hb,hf,hg,hz,hw,q⟩:=h
 refine⟨_,(qa2 (qaf (i:=3) w3i.nd rfl (Or.inl rfl) (qah ((web T).mono (by decide)) hr rfl T.wfe T.wcr.kp T.wf8 .nil qaw (qa0 (pv 1) (qa0 (pv 2) qa3))))
  (qa5 (qbb (qal qgc (pv 3) qe3 (qas _)) (qa5 (ps_raiseI rfl T.wab ((w8r T).mono (by decide)) hr T.w9c rfl T.wbz qar (qa0 (pv 0) (qa0 (pv 3) qa3)))) qaq))),?_⟩
 walk_at "d"
 refine qab (σ:=[some (x),some (.ref a),some (.ref b),none]) rfl ?_
 walk_at "g"
 refine⟨a,b,ka,kb,f,g,rfl,ha,hb,hf,hg,hz,fun H' sm _=>?_,fun z H' sm hv _=>?_⟩
 .walk_at "g"
  exact q _ sm
 .obtain⟨h1,h2⟩:=hv
  cases e:f z with
  |none=>exact absurd e h1
  |some n=>
   have h3:=hw z n e
   have h4:gN f z=n:=by unfold gN;rw [e];rfl
   omega
def w5w (K:Frag) (d:Ad):Sp:=fun vs H Q _=>∃(t lb m:Addr) (S:Ts) (zs:List Str) (km:List (Key × V)) (fm:Str->Option Int),vs=[.ref t,.ref lb,.ref m]/\qen d H t S/\WF S/\qgm S/\SqL K H lb (zs.map V.str)/\H m=some (.dK km)/\AD km fm/\S.ws.length<=50/\(∀z,fm z≠none->z∈S.ws)/\
 (∀y∈zs,∃e,S.at y=some e/\Dep S 12 y/\∀bs,Ben S 12 y bs->∀z n,qgk (sumF (bs.map (ptOf S))) fm z=some n->n<=gN e.x.fc z)/\∀H',Same H H'->Q .non H'
include T in
theorem w5y:FnOk P w K mg base (My.CX1 P w) 18 d.w1y d.w1q ["self","names","more"] (w5w K d):=by
 refine okX T.w6t w2z (fun vs H Q E h=>?_) (fun cdv A outer s H vs Q E hr h=>?_)
 .obtain⟨t,lb,m,S,zs,km,fm,rfl,_⟩:=h;rfl
 obtain⟨t,lb,m,S,zs,km,fm,rfl,hT,hW,hO,hL,hm,hA,hws,hfm,hy,q⟩:=h
 refine⟨_,(qa5 (qb5 (qbv rfl rfl) rfl (qb0 (pv 1)) (qac (i:=3) w2z.nd rfl (Or.inl rfl)) (qa5 (qba (qav ((w1t T).mono (by decide)) hr rfl T.w2b T.w1f.kp T.w2a .nil qar (qa0 (pv 3) (qa0 (qah ((wco T).mono (by decide)) hr rfl T.wea T.wc3.kp T.wey .nil qaw (qa0 (qaz (pv 0) T.w02 T.w07 ((w3d T).mono (by decide)) hr T.w3q .nil qar (qa0 (pv 3) qa3)) (qa0 (pv 2) qa3))) (qa0 (qay (qat (qau hr) (qay (pv 0) rfl) (pv 3) (fun _ _=>rfl)) rfl) qa3)))))))),?_⟩
 walk_at "d"
 refine qab (σ:=[some (.ref t),some (.ref lb),some (.ref m),none]) rfl ?_
 have ct:=T.w02
 have ch:=T.w1e
 have nh:qap K d.w01 "houses":=T.w03
 have nf:qap K d.w05 "cap":=T.w0x
 walk_at "g"
 refine qcc (xs:=zs.map V.str) (fun i σ H'=>Same H H'/\∃w,σ=[some (.ref t),some (.ref lb),some (.ref m),w]) ⟨Same.refl _,_,rfl⟩ ?_ ?_ ?_
 .rintro i σ H' _ ⟨sm,_⟩;exact sm.seq hL
 .rintro i v σ H' hv ⟨sm,w,rfl⟩
  rw [getElem?_map] at hv
  obtain⟨y,hyi,rfl⟩:=Option.map_eq_some_iff.mp hv
  obtain⟨e,h1,hD,hb⟩:=hy y (mem_of_getElem? hyi)
  obtain⟨dx,ht⟩:=(hT.same sm).1
  walk_at "g"
  have sup:∀bs:List Str,(∀b∈bs,∃eb,S.at b=some eb/\eb∈S.hl)->∀z,sumF (bs.map (ptOf S)) z≠none->z∈S.ws:=fun bs hbs=>by
   refine sum_sup (fun u hu z hz=>?_) noF (fun z hz=>absurd rfl hz)
   obtain⟨b,hb1,rfl⟩:=mem_map.mp hu
   obtain⟨eb,h3,h4⟩:=hbs b hb1
   rw [qga h3] at hz
   exact hO.2 eb h4 z hz
  refine⟨t,S,.str y,rfl,hT.same sm,hW,hO,.inl ⟨y,rfl⟩,fun e' he'=>?_,fun hn=>?_⟩
  .have ee:e=e':=Option.some.inj (h1.symm.trans he')
   subst ee
   have hme:=qcv h1
   rw [hme.2]
   refine⟨hD,fun l bs k' H2 s2 hl el hB hA2=>?_⟩
   have hbs:∀b∈bs,∃eb,S.at b=some eb/\eb∈S.hl:=fun b hb1=>by
    have hb2:b∈S.hl.map (·.n):=by
     rcases(qdc hW (Ben.part hB)).2 b hb1 with rfl|h
     .exact mem_map.mpr ⟨e,hme.1,hme.2⟩
     .exact h
    obtain⟨eb,h3,rfl⟩:=mem_map.mp hb2
    exact⟨eb,at_of hW.1 h3,h3⟩
   have l1:=hA2.le (sup bs hbs)
   have l2:=hA.le hfm
   walk_at "g"
   refine⟨l,m,k',km,_,fm,rfl,.inl el,(sm.trans s2) _ _ hm,hA2,hA,by omega,by omega,fun lx kx H3 s3 hlx elx hA3=>?_⟩
   have sx:=(sm.trans s2).trans s3
   obtain⟨⟨dx3,ht3⟩,_,hh3,_,_,hE3⟩:=hT.same sx
   obtain⟨⟨dh,ho⟩,_,_,hc,hcA⟩:=hE3 e hme.1
   walk_at "g"
   refine r_dgO (h:=e.a) (.inl hh3) (by rw [qdt,h1];rfl) ?_
   walk_at "g"
   refine⟨.str y,lx,e.x.ca,kx,e.x.kc,_,e.x.fc,rfl,.inl elx,.inl hc,hA3,hcA,?_,hb bs hB,fun H4 s4=>⟨sx.trans s4,_,rfl⟩⟩
   have l3:=hA3.le (ws:=S.ws) (addF_sup (sup bs hbs) hfm)
   omega
  .rw [show who S (.str y)=some e from h1] at hn;cases hn
 .rintro σ H' ⟨sm,w,rfl⟩
  walk_at "g"
  exact q _ sm
def wbo (K:Frag) (d:Ad):Sp:=fun vs H Q _=>∃i:Int,vs=[.int i]/\Q (.bl true) H
def w7f (K:Frag) (d:Ad):Sp:=fun vs H Q _=>∃i a b:Int,vs=[.int i,.int a,.int b]/\a<=i/\i<=b/\Q (.bl true) H
def wal (K:Frag) (d:Ad):Sp:=fun vs H Q _=>∃i:Int,vs=[.int i]/\0<=i/\i<=10^30/\Q (.bl true) H
include T in
theorem wbp:FnOk P w K mg base CX0 1 d.w6c d.w59 ["thing"] (wbo K d):=by
 refine T.w8x.ok wc8 (fun vs H Q E h=>?_) (fun cdv A outer s H vs Q E hr h=>?_)
 .obtain⟨i,rfl,_⟩:=h;rfl
 obtain⟨i,rfl,q⟩:=h
 refine⟨_,(qa5 (qad (qek (qae qbf rfl T.w08 PyProof.Rows.boot_isinstance (qa0 (pv 0) (qa0 (qc5 (v:=.ty "int") rfl T.wf9 PyProof.Rows.boot_int rfl) qa3))) (qfd (pe_not (qae qbf rfl T.w08 PyProof.Rows.boot_isinstance (qa0 (pv 0) (qa0 (qc5 (v:=.ty "bool") rfl T.wg3 PyProof.Rows.boot_bool rfl) qa3)))))))),?_⟩
 walk_at "d"
 refine qab (σ:=[some (.int i)]) rfl ?_
 walk_at "g"
 exact q
include T in
theorem w45:FnOk P w K mg base CX0 2 d.w2l d.w2d ["thing","least","most"] (w7f K d):=by
 refine T.w2q.ok w7e (fun vs H Q E h=>?_) (fun cdv A outer s H vs Q E hr h=>?_)
 .obtain⟨i,a,b,rfl,_⟩:=h;rfl
 obtain⟨i,a,b,rfl,h1,h2,q⟩:=h
 refine⟨_,(qa5 (qad (qek (qah ((wbp T).mono (by decide)) hr rfl T.wd1 T.w8x.kp T.wd3 .nil qaw (qa0 (pv 0) qa3)) (qfd (pe_chain op_le op_le (pv 1) (pv 0) (pv 2)))))),?_⟩
 walk_at "d"
 refine qab (σ:=[some (.int i),some (.int a),some (.int b)]) rfl ?_
 walk_at "g"
 refine⟨i,rfl,?_⟩
 walk_at "g"
 rw [decide_eq_true h2]
 exact q
include T in
theorem w9z:FnOk P w K mg base CX0 3 d.w56 d.w4s ["thing"] (wal K d):=by
 refine T.w7n.ok wb0 (fun vs H Q E h=>?_) (fun cdv A outer s H vs Q E hr h=>?_)
 .obtain⟨i,rfl,_⟩:=h;rfl
 obtain⟨i,rfl,h1,h2,q⟩:=h
 refine⟨_,(qa5 (qad (qah ((w45 T).mono (by decide)) hr rfl T.w4c T.w2q.kp T.w4i .nil qaw (qa0 (pv 0) (qa0 qa4 (qa0 (qag op_pow qa4 qa4) qa3)))))),?_⟩
 walk_at "d"
 refine qab (σ:=[some (.int i)]) rfl ?_
 walk_at "g"
 refine⟨i,0,_,rfl,h1,?_,?_⟩
 .exact h2
 walk_at "g"
 exact q
theorem qgi {z:Str} {ws:List Str} (h:z∈ws):inV (.str z) (ws.map V.str)=true:=by
 unfold inV
 rw [any_eq_true]
 exact⟨.str z,mem_map.mpr ⟨z,h,rfl⟩,by simp [eqV]⟩
theorem r_notInT {K:Frag} {H:Hp} {Q:VK} {p:Addr} {z:Str} {ws:List Str} (hS:SqL K H p (ws.map V.str)) (h:z∈ws) (q:Q (.bl false) H):rIn K true (.str z) (.ref p) H Q:=by
 refine⟨p,_,rfl,.inl hS,rfl,?_,?_⟩
 .rw [all_eq_true]
  intro x hx
  obtain⟨y,_,rfl⟩:=mem_map.mp hx
  rfl
 .rw [qgi h];exact q
def w9b (K:Frag) (d:Ad):Sp:=fun vs H Q _=>∃(a w:Addr) (k:List (Key × V)) (f:Str->Option Int) (ws:List Str),vs=[.ref a,.ref w]/\H a=some (.dK k)/\AD k f/\k.length<=1000/\H w=some (.lst (ws.map V.str))/\(∀z n,f z=some n->z∈ws/\0<=n/\n<=10^30)/\
 ∀l k' H',Same H H'->H l=none->H' l=some (.dK k')->AD k' (qd7 f)->Q (.ref l) H'
include T in
theorem w60:FnOk P w K mg base (My.CX1 P w) 4 d.w4k d.w3l ["handed","wares"] (w9b K d):=by
 refine okX T.w4b w3u (fun vs H Q E h=>?_) (fun cdv A outer s H vs Q E hr h=>?_)
 .obtain⟨a,w,k,f,ws,rfl,_⟩:=h;rfl
 obtain⟨a,w,kvs,f,ws,rfl,ha,hA,hz,hw,hf,q⟩:=h
 refine⟨_,(qa2 (qbb (qbx (qbn (qae qbf rfl T.w08 PyProof.Rows.boot_isinstance (qa0 (pv 0) (qa0 (qc5 (v:=.ty "dict") rfl T.wcw PyProof.Rows.boot_dict rfl) qa3))))) (qa5 (qc2 rfl T.w69 rfl T.w64 qar (qa0 qcm qa3))) qaq)
  (qa2 (qdn (qb5 (qbv rfl rfl) rfl (qch (pv 0)) (qac (i:=2) w3u.nd rfl (Or.inl rfl)) (qa5 (qbb (PW.pt (qe0 (qbx (qbn (qae qbf rfl T.w08 PyProof.Rows.boot_isinstance (qa0 (pv 2) (qa0 (qc5 (v:=.ty "str") rfl T.wgo PyProof.Rows.boot_str rfl) qa3))))) (qf8 (qal qd8 (pv 2) (pv 1) (by rfl))))) (qa5 (qc2 rfl T.wcn rfl T.wcp qar (qa0 qcm qa3))) qaq))))
  (qa2 (qdn (qb5 (qbv rfl rfl) rfl (qch (pv 0)) (qac (i:=3) w3u.nd rfl (Or.inl rfl)) (qa5 (qbb (qbx (qbn (qah ((w9z T).mono (by decide)) hr rfl T.wc9 T.w7n.kp T.wbk .nil qaw (qa0 (qat (qau hr) (pv 0) (pv 3) (fun _ _=>rfl)) qa3)))) (qa5 (qc2 rfl T.w69 rfl T.w64 qar (qa0 qcm qa3))) qaq))))
  (qa5 (qad (qah ((w88 T).mono (by decide)) hr rfl T.w8s T.w55.kp T.w8i .nil qaw (qa0 (pv 0) qa3))))))),?_⟩
 walk_at "d"
 refine qab (σ:=[some (.ref a),some (.ref w),none,none]) rfl ?_
 walk_at "g"
 refine qf5 ha fun o=>?_
 have hwa:w≠a:=ne_of hw ha (by intro z;cases z)
 refine qdp (fun i σ H'=>H'=upd H a (.frz o (.dK kvs))/\∃w2 w3,σ=[some (.ref a),some (.ref w),w2,w3]) ⟨rfl,_,_,rfl⟩ ?_ ?_ ?_
 .rintro i σ H' _ ⟨rfl,_⟩;exact qa1
 .rintro i k v σ H' hk ⟨rfl,w2,w3,rfl⟩
  obtain⟨z,n,rfl,rfl,hfz,hzi⟩:=hA.at hk
  have hw':upd H a (.frz o (.dK kvs)) w=some (.lst (ws.map V.str)):=by rw [qa6 hwa];exact hw
  show qdv _ (.str z) _ _ _
  walk_at "g"
  refine r_notInT (SqL.of hw') (hf z n hfz).1 ?_
  walk_at "g"
  exact⟨rfl,_,_,rfl⟩
 .rintro σ H' ⟨rfl,w2,w3,rfl⟩
  refine qdm (qez qa1 (qc8 ha)) ?_
  have s2:=qd5 ha (sb_frz (o:=o) ha)
  have ha2:upd (upd H a (.frz o (.dK kvs))) a (.dK kvs) a=some (.dK kvs):=qa1
  generalize upd (upd H a (.frz o (.dK kvs))) a (.dK kvs)=H2 at*
  walk_at "g"
  refine qf5 ha2 fun o2=>?_
  refine qdp (fun i σ H'=>H'=upd H2 a (.frz o2 (.dK kvs))/\∃w3,σ=[some (.ref a),some (.ref w),w2,w3]) ⟨rfl,_,rfl⟩ ?_ ?_ ?_
  .rintro i σ H' _ ⟨rfl,_⟩;exact qa1
  .rintro i k v σ H' hk ⟨rfl,w3,rfl⟩
   obtain⟨z,n,rfl,rfl,hfz,hzi⟩:=hA.at hk
   have hRd:Rd (upd H2 a (.frz o2 (.dK kvs))) a (.dK kvs):=.inr ⟨o2,qa1⟩
   show qdv _ (.str z) _ _ _
   walk_at "g"
   refine⟨n,rfl,(hf z n hfz).2.1,(hf z n hfz).2.2,?_⟩
   walk_at "g"
   exact⟨rfl,_,rfl⟩
  .rintro σ H' ⟨rfl,w3,rfl⟩
   refine qdm (qez qa1 ?_) ?_
   .exact qc8 ha
   have s3:=qd5 ha2 (sb_frz (o:=o2) ha2)
   have ha3:upd (upd H2 a (.frz o2 (.dK kvs))) a (.dK kvs) a=some (.dK kvs):=qa1
   generalize upd (upd H2 a (.frz o2 (.dK kvs))) a (.dK kvs)=H3 at*
   walk_at "g"
   refine⟨a,kvs,f,rfl,ha3,hA,hz,fun l k' H4 s4 hl el hA4=>?_⟩
   walk_at "g"
   exact q l k' H4 ((s2.trans s3).trans s4) ((s2.trans s3).free hl) el hA4
def w9h (K:Frag) (d:Ad):Sp:=fun vs H Q _=>∃(x dx:Addr) (o:Ho),vs=[.ref x,eV o.el,.ref o.pa,.ref o.ca,.int o.w]/\H x=some (.ins d.w05 dx [])/\∀H',H' x=some (.ins d.w05 dx (fsH o))->SameBut x H H'->Q .non H'
include T in
theorem w99:FnOk P w K mg base CX0 1 d.w4o d.w3y ["self","elder","promise","cap","weight"] (w9h K d):=by
 refine T.waq.ok w92 (fun vs H Q E h=>?_) (fun cdv A outer s H vs Q E hr h=>?_)
 .obtain⟨x,dx,o,rfl,_⟩:=h;rfl
 obtain⟨x,dx,o,rfl,hx,q⟩:=h
 refine⟨_,(qa2 (qd2 (pv 0) (pv 1) rfl)
  (qa2 (qd2 (pv 0) (pv 2) rfl)
  (qa2 (qd2 (pv 0) (pv 3) rfl)
  (qa5 (qd2 (pv 0) (pv 4) rfl))))),?_⟩
 walk_at "d"
 refine qab (σ:=[some (.ref x),some (eV o.el),some (.ref o.pa),some (.ref o.ca),some (.int o.w)]) rfl ?_
 have cl:=T.w1e
 have n1:qap K d.w05 "elder":=T.w0o
 have n2:qap K d.w05 "promise":=T.w0b
 have n3:qap K d.w05 "cap":=T.w0x
 have n4:qap K d.w05 "weight":=T.w0s
 walk_at "g"
 refine qfy qa1 cl n2 (by show 1 < 1000;decide) ?_
 walk_at "g"
 refine qfy qa1 cl n3 (by show 2 < 1000;decide) ?_
 walk_at "g"
 refine qfy qa1 cl n4 (by show 3 < 1000;decide) ?_
 walk_at "g"
 refine q _ (by rw [qa1];rfl) fun b u hb e=>?_
 rw [qa6 hb,qa6 hb,qa6 hb,qa6 hb]
 exact e
def w9l (K:Frag) (d:Ad):Sp:=fun vs H Q _=>∃(w a b:Addr) (el:Option Str) (ws:List Str) (ka kb:List (Key × V)) (f g:Str->Option Int) (wt:Int),vs=[.ref w,eV el,.ref a,.ref b,.int wt]/\H w=some (.lst (ws.map V.str))/\
 H a=some (.dK ka)/\AD ka f/\ka.length<=1000/\H b=some (.dK kb)/\AD kb g/\kb.length<=1000/\(∀z n,f z=some n->z∈ws/\0<=n/\n<=10^30)/\(∀z n,g z=some n->z∈ws/\0<=n/\n<=10^30)/\1<=wt/\wt<=1000/\
 ∀h o H',Same H H'->H h=none->H o.pa=none->H o.ca=none->HoAt d H' h o->o.el=el->o.w=wt->(∀z,o.fp z=qd7 f z)->(∀z,o.fc z=qd7 g z)->Q (.ref h) H'
include T in
theorem w5s:FnOk P w K mg base (My.CX1 P w) 5 d.w48 d.w3w ["wares","elder","promise","cap","weight"] (w9l K d):=by
 refine okX T.w4v w3o (fun vs H Q E h=>?_) (fun cdv A outer s H vs Q E hr h=>?_)
 .obtain⟨w,a,b,el,ws,ka,kb,f,g,wt,rfl,_⟩:=h;rfl
 obtain⟨w,a,b,el,ws,ka,kb,f,g,wt,rfl,hw,ha,hA,hz,hb,hB,hz2,hf,hg,w0,w1,q⟩:=h
 refine⟨_,(qa2 (qaf (i:=5) w3o.nd rfl (Or.inl rfl) (qav ((w60 T).mono (by decide)) hr rfl T.w70 T.w4b.kp T.w72 .nil qar (qa0 (pv 2) (qa0 (pv 0) qa3))))
  (qa2 (qaf (i:=6) w3o.nd rfl (Or.inl rfl) (qav ((w60 T).mono (by decide)) hr rfl T.w70 T.w4b.kp T.w72 .nil qar (qa0 (pv 3) (qa0 (pv 0) qa3))))
  (qa2 (qbb (qbx (qbn (qah ((w45 T).mono (by decide)) hr rfl T.w4c T.w2q.kp T.w4i .nil qaw (qa0 (pv 4) (qa0 qa4 (qa0 (qed rfl T.w6h T.w0p) qa3)))))) (qa5 (qc2 rfl T.wdc rfl T.wdk qar (qa0 qcm qa3))) qaq)
  (qa5 (qad (pe_make T.w5t ((w99 T).mono (by decide)) hr rfl T.wh1 T.way .nil qaw (qa0 (pv 1) (qa0 (pv 5) (qa0 (pv 6) (qa0 (pv 4) qa3)))))))))),?_⟩
 walk_at "d"
 refine qab (σ:=[some (.ref w),some (eV el),some (.ref a),some (.ref b),some (.int wt),none,none]) rfl ?_
 walk_at "g"
 refine⟨a,w,ka,f,ws,rfl,ha,hA,hz,hw,hf,fun lp kp H1 s1 hlp ep hAp=>?_⟩
 walk_at "g"
 refine⟨b,w,kb,g,ws,rfl,s1 _ _ hb,hB,hz2,s1 _ _ hw,hg,fun lc kc H2 s2 hlc ec hAc=>?_⟩
 walk_at "g"
 refine⟨wt,1,1000,rfl,w0,w1,?_⟩
 walk_at "g"
 intro x dx hx hdx ne
 have ep2:=s2 _ _ ep
 refine⟨x,dx,⟨el,lp,kp,qd7 f,lc,kc,qd7 g,wt⟩,rfl,qa1,fun H3 ex sb=>⟨rfl,?_⟩⟩
 have s3:Same H2 H3:=fun c o hc=>sb c o (qa9 hc hx) (by rw [qa6 (qa9 hc hx),qa6 (qa9 hc hdx)];exact hc)
 walk_at "g"
 exact q x ⟨el,lp,kp,qd7 f,lc,kc,qd7 g,wt⟩ H3 ((s1.trans s2).trans s3) ((s1.trans s2).free hx) hlp (s1.free hlc) ⟨⟨dx,ex⟩,s3 _ _ ep2,hAp,s3 _ _ ec,hAc⟩ rfl rfl (fun _=>rfl) fun _=>rfl
theorem qb4 {H H':Hp} {a:Addr} {o:HO} (s:Same H H') (n:H a=none):Same H (upd H' a o):=fun b u e=>by rw [qa6 (qa9 e n)];exact s b u e
def isL (c:Nat):Bool:=decide (97<=c) && decide (c<=122)
theorem inL:∀c:Nat,c < 128->(!(Builtin.Str.occurrences (Str.ofString "abcdefghijklmnopqrstuvwxyz") ⟨#[c]⟩ 0 (Str.ofString "abcdefghijklmnopqrstuvwxyz").length 1).isEmpty)=isL c:=by decide+kernel
def qeg (x:Str):List Nat:=x.cps.toList
def qef (x:Str):Bool:=decide (1<=x.length) && decide (x.length<=8) && (qeg x).all isL
theorem len_codes (x:Str):(qeg x).length=x.length:=by simp [qeg,Str.length]
theorem goodS_of {z:Str} (h:qef z=true):1<=z.length/\z.length<=8/\∀c∈qeg z,isL c=true:=by
 unfold qef at h
 rw [Bool.and_eq_true,Bool.and_eq_true,all_eq_true] at h
 exact⟨of_decide_eq_true h.1.1,of_decide_eq_true h.1.2,h.2⟩
theorem isL_lt {c:Nat} (h:isL c=true):c < 128:=by
 unfold isL at h
 rw [Bool.and_eq_true] at h
 have:=of_decide_eq_true h.2
 omega
def wdj (K:Frag) (d:Ad):Sp:=fun vs H Q _=>∃z,vs=[.str z]/\qef z=true/\∀H',Same H H'->Q (.bl true) H'
include T in
theorem w8w:FnOk P w K mg base CX0 1 d.w7s d.w6s ["thing"] (wdj K d):=by
 refine T.w7t.ok wd2 (fun vs H Q E h=>?_) (fun cdv A outer s H vs Q E hr h=>?_)
 .obtain⟨z,rfl,_⟩:=h;rfl
 obtain⟨z,rfl,hg,q⟩:=h
 obtain⟨h1,h8,hL⟩:=goodS_of hg
 have lz:=len_codes z
 refine⟨_,(qa2 (qbb (qbx (qbn (qae qbf rfl T.w08 PyProof.Rows.boot_isinstance (qa0 (pv 0) (qa0 (qc5 (v:=.ty "str") rfl T.wgo PyProof.Rows.boot_str rfl) qa3))))) (qa5 (qad qfe)) qaq)
  (qa2 (qbb (PW.pt (qe0 (qal op_lt (qae call_lenS rfl T.w51 PySem.boot_len (qa0 (pv 0) qa3)) qa4 (qas _)) (qf8 (qal qfz (qae call_lenS rfl T.w51 PySem.boot_len (qa0 (pv 0) qa3)) (qed rfl T.w8p T.w1d) (qas _))))) (qa5 (qad qfe)) qaq)
  (qa5 (qad (qae (call_allB rfl) rfl T.whc PyProof.Rows.boot_all (qa0 (qco (caps:=[]) (cn:=[]) (qc6 rfl rfl (by rfl) (by rfl) rfl trivial (by rfl) rfl trivial (by decide)) rfl (pi_str (pv 0)) (fun _ _ _ _=>qej) (fun _ _ _ _=>(qcd op_inS (pv 0) (qed rfl T.wel T.w4n) (by rfl)))) qa3)))))),?_⟩
 walk_at "d"
 try dsimp only [cxC]
 refine qab (σ:=[some (.str z)]) rfl ?_
 walk_at "g"
 intro C s0 H0 fp acc hacc
 refine c_by z.length (fun i H'=>H'=upd H acc (.lst (((qeg z).take i).map fun c=>V.bl (isL c)))) (by simp) (fun i H' hi _=>hi) (fun H' _=>rfl) ?_ ?_
 .rintro i H' v H'' hi rfl ⟨rfl,c,hc,rfl⟩
  have hc':(qeg z)[i]?=some c:=by unfold qeg;rw [Array.getElem?_toList];exact hc
  have c128:=isL_lt (hL c (mem_of_getElem? hc'))
  walk_at "g"
  rw [inL c c128,qcw]
  congr 2
  rw [take_add_one,hc',map_append]
  rfl
 .rintro H' rfl
  walk_at "g"
  have e1:((qeg z).take z.length).map (fun c=>V.bl (isL c))=((qeg z).map isL).map V.bl:=by
   rw [<-lz,take_length,List.map_map];rfl
  rw [e1]
  refine r_all (bs:=(qeg z).map isL) (SqL.of qa1) ?_
  have e2:((qeg z).map isL).all id=true:=by
   rw [List.all_map,all_eq_true]
   exact hL
  rw [e2]
  walk_at "g"
  exact q _ (qa7 hacc _)
def w95 (K:Frag) (d:Ad):Sp:=fun vs H Q _=>∃z,vs=[.str z]/\qef z=true/\∀H',Same H H'->Q .non H'
include T in
theorem w5z:FnOk P w K mg base (My.CX1 P w) 2 d.w49 d.w3r ["thing"] (w95 K d):=by
 refine okX T.w4j w9p (fun vs H Q E h=>?_) (fun cdv A outer s H vs Q E hr h=>?_)
 .obtain⟨z,rfl,_⟩:=h;rfl
 obtain⟨z,rfl,hg,q⟩:=h
 refine⟨_,(qa5 (qbb (qbx (qbn (qah ((w8w T).mono (by decide)) hr rfl T.wae T.w7t.kp T.wao .nil qaw (qa0 (pv 0) qa3)))) (qa5 (qc2 rfl T.wfw rfl T.wfo qar (qa0 qcm qa3))) qaq)),?_⟩
 walk_at "d"
 refine qab (σ:=[some (.str z)]) rfl ?_
 walk_at "g"
 refine⟨z,rfl,hg,fun H' sm=>?_⟩
 walk_at "g"
 exact q _ sm
structure GoodT (ws:List Str):Prop where
 lo:1<=ws.length
 hi:ws.length<=6
 ok:∀z∈ws,qef z=true
 nd:ws.Nodup
def wat (K:Frag) (d:Ad):Sp:=fun vs H Q _=>∃(a:Addr) (ws:List Str),vs=[.ref a]/\H a=some (.lst (ws.map V.str))/\GoodT ws/\∀H',Same H H'->Q (.bl true) H'
include T in
theorem war:FnOk P w K mg base CX0 2 d.w5p d.w47 ["thing"] (wat K d):=by
 refine T.w8a.ok wa8 (fun vs H Q E h=>?_) (fun cdv A outer s H vs Q E hr h=>?_)
 .obtain⟨a,ws,rfl,_⟩:=h;rfl
 obtain⟨a,ws,rfl,ha,g,q⟩:=h
 have g1:=g.lo
 have g2:=g.hi
 have hl:(ws.map V.str).length=ws.length:=length_map _
 refine⟨_,(qa2 (qbb (PW.pt (qe0 (qbx (qbn (qae qbf rfl T.w08 PyProof.Rows.boot_isinstance (qa0 (pv 0) (qa0 (qc5 (v:=.ty "list") rfl T.wb2 PyProof.Rows.boot_list rfl) qa3))))) (qe0 (qal op_lt (qae qbh rfl T.w51 PySem.boot_len (qa0 (pv 0) qa3)) qa4 (qas _)) (qf8 (qal qfz (qae qbh rfl T.w51 PySem.boot_len (qa0 (pv 0) qa3)) (qed rfl T.was T.w21) (qas _)))))) (qa5 (qad qfe)) qaq)
  (qa5 (qad (qek (qae (call_allB rfl) rfl T.whc PyProof.Rows.boot_all (qa0 (qco (caps:=[]) (cn:=[]) (qc6 rfl rfl (by rfl) (by rfl) rfl trivial (by rfl) rfl trivial (by decide)) rfl (qb0 (pv 0)) (fun _ _ _ _=>qej) (fun _ _ _ _=>(qah ((w8w T).mono (by decide)) hr rfl T.wae T.w7t.kp T.wao .nil qaw (qa0 (pv 0) qa3)))) qa3)) (qfd (qcd qe5 (qae call_lenT rfl T.w51 PySem.boot_len (qa0 (qca call_setT rfl T.whg PyProof.Rows.boot_set (qa0 (pv 0) qa3)) qa3)) (qae qbh rfl T.w51 PySem.boot_len (qa0 (pv 0) qa3)) (qas _))))))),?_⟩
 walk_at "d"
 try dsimp only [cxC]
 refine qab (σ:=[some (.ref a)]) rfl ?_
 walk_at "g"
 intro C s0 H0 fp acc hacc
 refine c_by ws.length (fun i H'=>Same H H'/\H' acc=some (.lst ((List.replicate i true).map V.bl))) ⟨qa7 hacc _,qa1⟩ ?_ ?_ ?_ ?_
 .rintro i H' hi ⟨sm,_⟩
  exact⟨_,.str ws[i],SqL.of (sm _ _ ha),by rw [getElem?_map,getElem?_eq_getElem hi];rfl⟩
 .rintro H' ⟨sm,_⟩
  exact⟨_,SqL.of (sm _ _ ha),by rw [hl];exact Nat.le_refl _⟩
 .rintro i H' v H'' hi ⟨sm,ea⟩ ⟨rfl,hy⟩
  have hv:=hy _ (SqL.of (sm _ _ ha))
  rw [getElem?_map,getElem?_eq_getElem hi] at hv
  cases hv
  walk_at "g"
  refine⟨ws[i],rfl,g.ok _ (getElem_mem hi),fun H2 s2=>?_⟩
  refine⟨_,s2 _ _ ea,by rw [length_map,List.length_replicate];show _ < 16777216;omega,qb4 (sm.trans s2) hacc,?_⟩
  rw [qa1,List.replicate_succ',map_append];rfl
 rintro H' ⟨sm,ea⟩
 walk_at "g"
 refine r_all (bs:=List.replicate ws.length true) (SqL.of ea) ?_
 have e2:(List.replicate ws.length true).all id=true:=by simp
 rw [e2]
 walk_at "g"
 refine r_setT (zs:=ws) (SqL.of (sm _ _ ha)) g.nd (by omega) fun c hc=>?_
 walk_at "g"
 refine r_lenT2 qa1 ?_
 walk_at "g"
 refine r_lenL (SqL.of (qaa (sm _ _ ha) hc)) ?_
 walk_at "g"
 rw [hl,decide_eq_true rfl]
 exact q _ (sm.trans (qa7 hc _))
def Fin (ws:List Str) (f:Str->Option Int):Prop:=∀z n,f z=some n->z∈ws/\0<=n/\n<=10^30
theorem posF_some {f:Str->Option Int} {y:Str} {n:Int} (h:qd7 f y=some n):f y=some n/\0 < n:=by
 unfold qd7 at h
 cases e:f y with
 |none=>rw [e] at h;cases h
 |some m=>
  rw [e] at h
  by_cases c:0 < m
  .have h':some m=some n:=by simpa [c] using h
   cases h'
   exact⟨rfl,c⟩
  .exact absurd h (by simp [c])
theorem gN_posF {ws:List Str} {f:Str->Option Int} (hf:Fin ws f) (y:Str):gN (qd7 f) y=gN f y:=by
 unfold gN qd7
 cases e:f y with
 |none=>rfl
 |some m=>
  have:=(hf y m e).2.1
  by_cases c:0 < m
  .simp [c]
  .have z:m=0:=by omega
   subst z
   rfl
theorem pos_le {ws:List Str} {f g:Str->Option Int} (hg:Fin ws g) (h:∀y,gN f y<=gN g y):∀z n,qd7 f z=some n->n<=gN (qd7 g) z:=fun z n e=>by
 have e1:=(posF_some e).1
 have:=h z
 rw [gN_posF hg]
 unfold gN at this ⊢
 rw [e1] at this
 exact this
theorem pos_in {ws:List Str} {f:Str->Option Int} (hf:Fin ws f):∀z,qd7 f z≠none->z∈ws:=fun z h=>by
 cases e:qd7 f z with
 |none=>exact absurd e h
 |some n=>exact(hf z n (posF_some e).1).1
def wad (K:Frag) (d:Ad):Sp:=fun vs H Q _=>∃(x dx w a b:Addr) (z:Str) (ws:List Str) (ka kb:List (Key × V)) (f g:Str->Option Int) (wt:Int),vs=[.ref x,.ref w,.str z,.ref a,.ref b,.int wt]/\H x=some (.ins d.w01 dx [])/\
 H w=some (.lst (ws.map V.str))/\GoodT ws/\qef z=true/\H a=some (.dK ka)/\AD ka f/\ka.length<=1000/\H b=some (.dK kb)/\AD kb g/\kb.length<=1000/\Fin ws f/\Fin ws g/\1<=wt/\wt<=1000/\(∀y,gN f y<=gN g y)/\
 ∀(S:Ts) (e:He) H',SameBut x H H'->qen d H' x S->H S.hs=none->H S.sw=none->H e.a=none->H e.x.pa=none->H e.x.ca=none->S.hl=[e]->e.n=z->e.x.el=none->e.x.w=wt->(∀y,e.x.fp y=qd7 f y)->(∀y,e.x.fc y=qd7 g y)->S.ws.Perm ws->PyProof.Rows.sortedS S.ws=true->Q .non H'
include T in
theorem wah:FnOk P w K mg base (My.CX1 P w) 6 d.w5n d.w30 ["self","wares","name","promise","cap","weight"] (wad K d):=by
 refine okDX T.wbx w6w (fun vs H Q E h=>?_) (fun cdv A outer s H vs Q E hr h=>?_)
 .obtain⟨x,dx,w,a,b,z,ws,ka,kb,f,g,wt,rfl,_⟩:=h;rfl
 obtain⟨x,dx,w,a,b,z,ws,ka,kb,f,g,wt,rfl,hx,hw,gt,gz,ha,hA,za,hb,hB,zb,ff,fg,w0,w1,le,q⟩:=h
 have g2:=gt.hi
 refine⟨_,(qa2 (qbb (qbx (qbn (qah ((war T).mono (by decide)) hr rfl T.wb6 T.w8a.kp T.wba .nil qaw (qa0 (pv 1) qa3)))) (qa5 (qc2 rfl T.wcn rfl T.wcp qar (qa0 qcm qa3))) qaq)
  (qa2 (qba (qav ((w5z T).mono (by decide)) hr rfl T.w76 T.w4j.kp T.w75 .nil qar (qa0 (pv 2) qa3)))
  (qa2 (qaf (i:=6) w6w.nd rfl (Or.inl rfl) (qav ((w5s T).mono (by decide)) hr rfl T.w6y T.w4v.kp T.w6z .nil qar (qa0 (pv 1) (qa0 qe3 (qa0 (pv 3) (qa0 (pv 4) (qa0 (pv 5) qa3)))))))
  (qa2 (qba (qav ((w1t T).mono (by decide)) hr rfl T.w2b T.w1f.kp T.w2a .nil qar (qa0 (pv 2) (qa0 (qay (pv 6) rfl) (qa0 (qay (pv 6) rfl) qa3)))))
  (qa2 (qd2 (pv 0) (qae qdl rfl T.w2h PyProof.Rows.boot_sorted (qa0 (pv 1) qa3)) rfl)
  (qa5 (qd2 (pv 0) (pe_disp (pps_cons (pv 2) (pv 6) pps_nil) rfl rfl (by simp) (by decide)) rfl))))))),?_⟩
 walk_at "d"
 refine qab (σ:=[some (.ref x),some (.ref w),some (.str z),some (.ref a),some (.ref b),some (.int wt),none]) rfl ?_
 have ct:=T.w02
 have ch:=T.w1e
 have n1:qap K d.w01 "sorted_wares":=T.w0a
 have n2:qap K d.w01 "houses":=T.w03
 have n3:qap K d.w05 "promise":=T.w0b
 have n4:qap K d.w05 "cap":=T.w0x
 walk_at "g"
 refine⟨w,ws,rfl,hw,gt,fun H1 s1=>?_⟩
 walk_at "g"
 refine⟨z,rfl,gz,fun H2 s2=>?_⟩
 have t2:=s1.trans s2
 walk_at "g"
 refine⟨w,a,b,none,ws,ka,kb,f,g,wt,rfl,t2 _ _ hw,t2 _ _ ha,hA,za,t2 _ _ hb,hB,zb,ff,fg,w0,w1,fun h o H3 s3 nh np nc hO eel ew efp efc=>?_⟩
 obtain⟨⟨dh,ho⟩,hp,hpA,hc,hcA⟩:=id hO
 have efp':o.fp=qd7 f:=funext efp
 have efc':o.fc=qd7 g:=funext efc
 have lk:o.kp.length<=ws.length:=hpA.le (by rw [efp'];exact pos_in ff)
 walk_at "g"
 refine⟨.str z,o.pa,o.ca,o.kp,o.kc,o.fp,o.fc,rfl,.inl hp,.inl hc,hpA,hcA,by omega,by rw [efp',efc'];exact pos_le fg le,fun H4 s4=>?_⟩
 have t4:=(t2.trans s3).trans s4
 have hx4:=t4 _ _ hx
 have hO4:=hO.same s4
 walk_at "g"
 refine qg9 (SqL.of (t4 _ _ hw)) (by omega) fun l ss hl hpm hs=>?_
 walk_at "g"
 rename_i p hpp
 rw [qcw]
 refine qfy (qaa qa1 hpp) ct n2 (by show 1 < 1000;decide) ?_
 walk_at "g"
 have npx:p≠x:=fun e=>by subst e;rw [qa1] at hpp;cases hpp
 have np4':upd H4 l (.lst (ss.map V.str)) p=none:=by rw [qa6 npx] at hpp;exact hpp
 have nlx:x≠l:=qa9 hx4 hl
 have npl:p≠l:=fun e=>by subst e;rw [qa1] at np4';cases np4'
 have np4:H4 p=none:=by rw [qa6 npl] at np4';exact np4'
 have sF:∀b u,b≠x->H4 b=some u->upd (upd (upd (upd H4 l (.lst (ss.map V.str))) x (.ins d.w01 dx (qec "sorted_wares" (V.ref l) []))) p (.dK [(Sum.inr z,V.ref h)])) x (.ins d.w01 dx (qec "houses" (V.ref p) (qec "sorted_wares" (V.ref l) []))) b=some u:=fun b u hb e=>by
  rw [qa6 hb,qa6 (qa9 e np4),qa6 hb,qa6 (qa9 e hl)];exact e
 obtain⟨⟨dh4,ho4⟩,hp4,hpA4,hc4,hcA4⟩:=hO4
 refine q ⟨l,ss,p, [⟨z,h,o⟩]⟩ ⟨z,h,o⟩ _ (fun b u hb e=>sF b u hb (t4 _ _ e)) ⟨⟨dx,by rw [qa1];rfl⟩,?_,?_,nodup_cons.mpr ⟨by simp,nodup_nil⟩,by show 1<=60;decide,fun e he=>?_⟩ (t4.free np4) (t4.free hl) (t2.free nh) (t2.free np) (t2.free nc) rfl rfl eel ew efp efc hpm hs
 .show upd _ _ _ l=_
  rw [qa6 nlx.symm,qa6 npl.symm,qa6 nlx.symm,qa1]
 .show upd _ _ _ p=_
  rw [qa6 npx,qa1]
  rfl
 .have e':e=⟨z,h,o⟩:=by simpa using he
  subst e'
  have n1:∀{b:Addr} {u:HO},H4 b=some u->u≠ .ins d.w01 dx []->b≠x:=fun e1 e2 e3=>by
   subst e3;rw [hx4] at e1;exact e2 (Option.some.inj e1).symm
  refine⟨⟨dh4,sF _ _ (n1 ho4 fun e=>?_) ho4⟩,sF _ _ (n1 hp4 fun e=>by cases e) hp4,hpA4,sF _ _ (n1 hc4 fun e=>by cases e) hc4,hcA4⟩
  have:=congrArg (fun u:HO=>match u with| .ins _ _ fs=>fs.length|_=>0) e
  simp [fsH] at this
def upL (el:Nat->Nat):Nat->Nat->List Nat
 |0,k=> [k]
 |f+1,k=>k ::(if k=0 then [] else upL el f (el k))
def qcb (el:Nat->Nat) (k:Nat):List Nat:=upL el k k
def Low (el:Nat->Nat) (n:Nat):Prop:=∀k,0 < k->k < n->el k < k
theorem upL_eq {el:Nat->Nat} {n:Nat} (lo:Low el n):∀(f k:Nat),k < n->k<=f->upL el f k=qcb el k:=by
 intro f
 induction f using Nat.strongRecOn with
 |ind f ih=>
  intro k kn kf
  cases f with
  |zero=>have:k=0:=(by omega);subst this;rfl
  |succ f=>
   cases k with
   |zero=>rfl
   |succ k=>
    have l:=lo (k+1) (by omega) kn
    show (k+1) ::(if k+1=0 then [] else upL el f (el (k+1)))=(k+1) ::(if k+1=0 then [] else upL el k (el (k+1)))
    rw [if_neg (by omega),if_neg (by omega),ih f (by omega) (el (k+1)) (by omega) (by omega)]
    rcases Nat.lt_or_ge k f with h|h
    .rw [ih k (by omega) (el (k+1)) (by omega) (by omega)]
    .have:f=k:=by omega
     subst this
     rw [ih f (by omega) (el (f+1)) (by omega) (by omega)]
theorem qg4 (el:Nat->Nat):qcb el 0=[0]:=rfl
theorem qdh {el:Nat->Nat} {n k:Nat} (lo:Low el n) (k0:0 < k) (kn:k < n):qcb el k=k :: qcb el (el k):=by
 cases k with
 |zero=>omega
 |succ k=>
  have l:=lo (k+1) k0 kn
  show (k+1) ::(if k+1=0 then [] else upL el k (el (k+1)))=_
  rw [if_neg (by omega),upL_eq lo k _ (by omega) (by omega)]
theorem qfi {el:Nat->Nat} {n:Nat} (lo:Low el n):∀k,k < n->(qcb el k).length<=k+1:=by
 intro k
 induction k using Nat.strongRecOn with
 |ind k ih=>
  intro kn
  cases k with
  |zero=>exact Nat.le_refl _
  |succ k=>
   have l:=lo (k+1) (by omega) kn
   rw [qdh lo (by omega) kn,length_cons]
   have:=ih (el (k+1)) l (by omega)
   omega
theorem lineN_self {el:Nat->Nat} {n k:Nat} (lo:Low el n) (kn:k < n):k∈qcb el k:=by
 cases k with
 |zero=>exact mem_cons_self ..
 |succ k=>rw [qdh lo (by omega) kn];exact mem_cons_self ..
theorem qcy {el:Nat->Nat} {n:Nat} (lo:Low el n):∀k,k < n->∀j∈qcb el k,j<=k:=by
 intro k
 induction k using Nat.strongRecOn with
 |ind k ih=>
  intro kn j hj
  cases k with
  |zero=>rw [qg4] at hj;simp at hj;omega
  |succ k=>
   have l:=lo (k+1) (by omega) kn
   rw [qdh lo (by omega) kn] at hj
   rcases mem_cons.mp hj with h|h
   .omega
   .have:=ih (el (k+1)) l (by omega) j h
    omega
structure Pl (S:Ts) (nm:Nat->Str) (el:Nat->Nat) (n:Nat):Prop where
 len:S.hl.length=n
 nam:∀k e,S.hl[k]?=some e->e.n=nm k/\e.x.el=if k=0 then none else some (nm (el k))
 inj:∀i j,i < n->j < n->nm i=nm j->i=j
 low:Low el n
section
variable {S: Ts} {nm: Nat -> Str} {el: Nat -> Nat} {n: Nat}
theorem Pl.get (p:Pl S nm el n) {k:Nat} (kn:k < n):∃e,S.hl[k]?=some e/\e.n=nm k/\e.x.el=if k=0 then none else some (nm (el k)):=by
 have h:k < S.hl.length:=by rw [p.len];exact kn
 have e:=getElem?_eq_getElem h
 exact⟨_,e,p.nam k _ e⟩
theorem Pl.ix (p:Pl S nm el n) {e:He} (h:e∈S.hl):∃k,k < n/\S.hl[k]?=some e/\e.n=nm k/\e.x.el=if k=0 then none else some (nm (el k)):=by
 obtain⟨k,hk,q⟩:=mem_iff_getElem.mp h
 have e1:S.hl[k]?=some e:=by rw [getElem?_eq_getElem hk,q]
 exact⟨k,by rw [<-p.len];exact hk,e1,p.nam k e e1⟩
theorem Pl.nodup (p:Pl S nm el n):(S.hl.map (·.n)).Nodup:=by
 show List.Pairwise _ _
 rw [List.pairwise_map,List.pairwise_iff_getElem]
 intro i j hi hj lt q
 have h1:=(p.nam i _ (getElem?_eq_getElem hi)).1
 have h2:=(p.nam j _ (getElem?_eq_getElem hj)).1
 have:=p.inj i j (by rw [<-p.len];exact hi) (by rw [<-p.len];exact hj) (by rw [<-h1,<-h2];exact q)
 omega
theorem Pl.at (p:Pl S nm el n) {k:Nat} (kn:k < n):∃e,S.at (nm k)=some e/\S.hl[k]?=some e/\e.x.el=if k=0 then none else some (nm (el k)):=by
 obtain⟨e,h1,h2,h3⟩:=p.get kn
 have:=at_of p.nodup (mem_of_getElem? h1)
 rw [h2] at this
 exact⟨e,this,h1,h3⟩
theorem Pl.line (p:Pl S nm el n):∀k,k < n->LineOf S (nm k) ((qcb el k).map nm):=by
 intro k
 induction k using Nat.strongRecOn with
 |ind k ih=>
  intro kn
  obtain⟨e,h1,_,h3⟩:=p.at kn
  cases k with
  |zero=>exact .top h1 h3
  |succ k=>
   have l:=p.low (k+1) (by omega) kn
   rw [if_neg (by omega)] at h3
   rw [qdh p.low (by omega) kn,map_cons]
   exact .up h1 h3 (ih _ l (by omega))
theorem Pl.wf (p:Pl S nm el n):WF S:=⟨p.nodup,fun e he=>by
 obtain⟨k,kn,_,h,_⟩:=p.ix he
 rw [h]
 exact⟨_,p.line k kn⟩⟩
theorem Pl.kid (p:Pl S nm el n) {j:Nat} {y:Str} (jn:j < n) (h:y∈qbc S (nm j)):∃k,0 < k/\k < n/\el k=j/\y=nm k:=by
 obtain⟨e,he,rfl⟩:=mem_map.mp h
 obtain⟨hm,hd⟩:=mem_filter.mp he
 obtain⟨k,kn,_,h1,h2⟩:=p.ix hm
 have hd':e.x.el=some (nm j):=of_decide_eq_true hd
 rw [h2] at hd'
 by_cases z:k=0
 .rw [if_pos z] at hd';cases hd'
 .rw [if_neg z] at hd'
  have l:=p.low k (by omega) kn
  exact⟨k,by omega,kn,p.inj _ _ (by omega) jn (Option.some.inj hd'),h1⟩
theorem Pl.dep (p:Pl S nm el n):∀m j,j < n->n<=j+m+1->Dep S m (nm j):=by
 intro m
 induction m with
 |zero=>
  intro j jn hn
  show qbc S (nm j)=[]
  cases e:qbc S (nm j) with
  |nil=>rfl
  |cons y r=>
   obtain⟨k,k0,kn,ke,_⟩:=p.kid jn (y:=y) (by rw [e];exact mem_cons_self ..)
   have:=p.low k k0 kn
   omega
 |succ m ih=>
  intro j jn hn y hy
  obtain⟨k,k0,kn,ke,rfl⟩:=p.kid jn hy
  have:=p.low k k0 kn
  exact ih k kn (by omega)
end
theorem ad_oK {k:List (Key × V)} {f:Str->Option Int} (hk:AD k f) {ks:List (Str × Addr)} {z:Str} {h:Addr} (hl:qci ks z=some h):HO.dK k≠ .dK (oK ks):=fun e=>by
 have e2:k=oK ks:=by injection e
 subst e2
 have g1:=hk.get z
 rw [qey,hl] at g1
 cases hf:f z with
 |none=>rw [hf] at g1;cases g1
 |some n=>rw [hf] at g1;cases g1
def w5v (K:Frag) (d:Ad):Sp:=fun vs H Q E=>∃(t a b:Addr) (S:Ts) (z:Str) (xe:V) (ka kb:List (Key × V)) (f g:Str->Option Int) (wt:Int),vs=[.ref t,.str z,xe,.ref a,.ref b,.int wt]/\qen d H t S/\qef z=true/\S.at z=none/\qei K H xe/\
 (who S xe=none->∀H',Same H H'->E (.ref d.w0i) none H')/\
 ∀e,who S xe=some e->WF S/\qgm S/\S.ws.length<=50/\H a=some (.dK ka)/\AD ka f/\ka.length<=1000/\H b=some (.dK kb)/\AD kb g/\kb.length<=1000/\Fin S.ws f/\Fin S.ws g/\1<=wt/\wt<=1000/\S.hl.length < 40/\
  (∃zs,LineOf S e.n zs/\zs.length < 12/\∀y∈zs,∃e',S.at y=some e'/\Dep S 12 y/\∀bs,Ben S 12 y bs->∀v n,qgk (sumF (bs.map (ptOf S))) (qd7 f) v=some n->n<=gN e'.x.fc v)/\(∀y,gN f y<=gN g y)/\
  ∀(e2:He) H',SameBut S.hs H H'->H e2.a=none->H e2.x.pa=none->H e2.x.ca=none->qen d H' t {S with hl:=S.hl++ [e2]}->e2.n=z->e2.x.el=some e.n->e2.x.w=wt->(∀y,e2.x.fp y=qd7 f y)->(∀y,e2.x.fc y=qd7 g y)->Q .non H'
include T in
theorem w9w:FnOk P w K mg base (My.CX1 P w) 19 d.w4u d.w2e ["self","name","elder","promise","cap","weight"] (w5v K d):=by
 refine okDX T.wa5 w42 (fun vs H Q E h=>?_) (fun cdv A outer s H vs Q E hr h=>?_)
 .obtain⟨t,a,b,S,z,xe,ka,kb,f,g,wt,rfl,_⟩:=h;rfl
 obtain⟨t,a,b,S,z,xe,ka,kb,f,g,wt,rfl,hT,gz,nz,hx,q2,q1⟩:=h
 refine⟨_,(qa2 (qba (qav ((w5z T).mono (by decide)) hr rfl T.w76 T.w4j.kp T.w75 .nil qar (qa0 (pv 1) qa3)))
  (qa2 (qbb (qbn (pe_meth (pv 0) T.w02 T.w1s ((w83 T).mono (by decide)) hr T.w90 .nil qaw (qa0 (pv 1) qa3))) (qa5 (qc2 rfl T.wh2 rfl T.wgy qar (qa0 qcm qa3))) qaq)
  (qa2 (qba (qaz (pv 0) T.w02 T.w06 ((w1i T).mono (by decide)) hr T.w1p .nil qar (qa0 (pv 2) qa3)))
  (qa2 (qaf (i:=6) w42.nd rfl (Or.inl rfl) (qav ((w5s T).mono (by decide)) hr rfl T.w6y T.w4v.kp T.w6z .nil qar (qa0 (qay (pv 0) rfl) (qa0 (pv 2) (qa0 (pv 3) (qa0 (pv 4) (qa0 (pv 5) qa3)))))))
  (qa2 (qbb (qal op_ge (qae call_lenDD rfl T.w51 PySem.boot_len (qa0 (qay (pv 0) rfl) qa3)) (qed rfl T.w9o T.w1n) (qas _)) (qa5 (qc2 rfl T.wep rfl T.wet qar (qa0 qcm qa3))) qaq)
  (qa2 (qaf (i:=7) w42.nd rfl (Or.inl rfl) (qaz (pv 0) T.w02 T.w0z ((w2y T).mono (by decide)) hr T.w3t .nil qar (qa0 (pv 2) qa3)))
  (qa2 (qbb (qal op_ge (qae qbh rfl T.w51 PySem.boot_len (qa0 (pv 7) qa3)) (qed rfl T.w8m T.w1c) (qas _)) (qa5 (qc2 rfl T.wen rfl T.wec qar (qa0 qcm qa3))) qaq)
  (qa2 (qba (qav ((w1t T).mono (by decide)) hr rfl T.w2b T.w1f.kp T.w2a .nil qar (qa0 (pv 1) (qa0 (qay (pv 6) rfl) (qa0 (qay (pv 6) rfl) qa3)))))
  (qa2 (qba (qaz (pv 0) T.w02 T.w0n ((w5y T).mono (by decide)) hr T.w6i .nil qar (qa0 (pv 7) (qa0 (qay (pv 6) rfl) qa3))))
  (qa5 (qbp (qau hr) (qay (pv 0) rfl) (pv 1) (pv 6) rfl))))))))))),?_⟩
 walk_at "d"
 refine qab (σ:=[some (.ref t),some (.str z),some (xe),some (.ref a),some (.ref b),some (.int wt),none,none]) rfl ?_
 have ct:=T.w02
 have ch:=T.w1e
 have n1:qap K d.w01 "sorted_wares":=T.w0a
 have n2:qap K d.w01 "houses":=T.w03
 have n3:qap K d.w05 "promise":=T.w0b
 have n4:qap K d.w05 "cap":=T.w0x
 walk_at "g"
 refine⟨z,rfl,gz,fun H1 s1=>?_⟩
 have hT1:=hT.same s1
 obtain⟨dx,ht⟩:=id hT1.1
 walk_at "g"
 refine⟨t,S,.str z,rfl,hT1,.inl ⟨z,rfl⟩,?_⟩
 rw [show who S (.str z)=none from nz]
 walk_at "g"
 show if false=true then _ else _
 walk_at "g"
 refine⟨t,S,xe,rfl,hT1,hx.same s1,fun e he=>?_,fun he=>q2 he H1 s1⟩
 obtain⟨hW,hO,hws,ha,hA,za,hb,hB,zb,ff,fg,w0,w1,h40,⟨zs,hL,hz12,hy⟩,le,q⟩:=q1 e he
 obtain⟨y,rfl⟩:∃y,xe=.str y:=by
  rcases hx with h|⟨_,nz'⟩
  .exact h
  .rw [qd4 nz'] at he;cases he
 have ey:e.n=y:=(qcv he).2
 have hsw:=hT1.2.1
 walk_at "g"
 refine⟨S.sw,a,b,some y,S.ws,ka,kb,f,g,wt,rfl,hsw,s1 _ _ ha,hA,za,s1 _ _ hb,hB,zb,ff,fg,w0,w1,fun h o H3 s3 nh np nc hOo eel ew efp efc=>?_⟩
 obtain⟨⟨dh,ho⟩,hp,hpA,hc,hcA⟩:=id hOo
 have efp':o.fp=qd7 f:=funext efp
 have efc':o.fc=qd7 g:=funext efc
 have lk:o.kp.length<=S.ws.length:=hpA.le (by rw [efp'];exact pos_in ff)
 have hT3:=hT1.same s3
 obtain⟨⟨dx3,ht3⟩,hw3,hh3,nd3,hz3,hE3⟩:=id hT3
 walk_at "g"
 refine r_lenD hh3 ?_
 rw [qev]
 walk_at "g"
 refine⟨t,S,.str y,rfl,hT3,.inl ⟨y,zs,rfl,by rw [<-ey];exact hL,by omega,fun l hl=>?_⟩⟩
 have s4:=qa7 hl (.lst (zs.map V.str))
 have eL:upd H3 l (.lst (zs.map V.str)) l=some (.lst (zs.map V.str)):=qa1
 have hzl:(zs.map V.str).length=zs.length:=length_map _
 generalize upd H3 l (.lst (zs.map V.str))=H4 at*
 have ho4:=s4 _ _ ho
 have hp4:=s4 _ _ hp
 have hc4:=s4 _ _ hc
 walk_at "g"
 refine⟨.str z,o.pa,o.ca,o.kp,o.kc,o.fp,o.fc,rfl,.inl hp4,.inl hc4,hpA,hcA,by omega,by rw [efp',efc'];exact pos_le fg le,fun H5 s5=>?_⟩
 have s35:=s4.trans s5
 have ho5:=s35 _ _ ho
 have hT5:=hT3.same s35
 obtain⟨dx5,ht5⟩:=id hT5.1
 walk_at "g"
 refine⟨t,l,o.pa,S,zs,o.kp,o.fp,rfl,hT5,hW,hO,SqL.of (s5 _ _ eL),s35 _ _ hp,hpA,hws,by rw [efp'];exact pos_in ff,by rw [efp'];exact hy,fun H6 s6=>?_⟩
 have s36:=s35.trans s6
 have s16:=s3.trans s36
 have s06:=s1.trans s16
 obtain⟨⟨dx6,ht6⟩,hw6,hh6,nd6,hz6,hE6⟩:=hT3.same s36
 walk_at "g"
 have lkn:qci S.keys z=none:=by rw [qdt,nz];rfl
 have hksz:(oK S.keys).length < sizeLine:=by rw [qev];show _ < 16777216;omega
 refine r_dpk hh6 hksz ?_
 rw [putK_oK lkn]
 walk_at "g"
 have sF:∀b u,b≠S.hs->H6 b=some u->upd H6 S.hs (.dK (oK (S.keys++ [(z,h)]))) b=some u:=fun b u hb e=>by rw [qa6 hb];exact e
 have nH:∀{b:Addr} {u:HO},H6 b=some u->u≠ .dK (oK S.keys)->b≠S.hs:=fun e1 e2 e3=>by
  subst e3;rw [hh6] at e1;exact e2 (Option.some.inj e1).symm
 have hT1':=hT1
 have fresh:∀{b:Addr} {u:HO},H1 b=none->H6 b=some u->b≠S.hs:=fun e1 _ e3=>by
  subst e3;rw [hT1'.2.2.1] at e1;cases e1
 refine q ⟨z,h,o⟩ _ (fun b u hb e=>sF b u hb (s06 _ _ e)) (s1.free nh) (s1.free np) (s1.free nc) ⟨⟨dx6,sF _ _ (nH ht6 (by intro e;cases e)) ht6⟩,sF _ _ (nH hw6 (by intro e;cases e)) hw6,?_,?_,?_,fun e1 he1=>?_⟩ rfl (by rw [ey];exact eel) ew efp efc
 .show upd _ _ _ S.hs=some (.dK (oK (Ts.keys _)))
  rw [qa1]
  unfold Ts.keys
  rw [map_append];rfl
 .show (List.map _ (S.hl++ [_])).Nodup
  rw [map_append,nodup_append]
  refine⟨nd6,nodup_cons.mpr ⟨by simp,nodup_nil⟩,fun x hx1 y' hy1 e=>?_⟩
  have:y'=z:=by simpa using hy1
  subst this
  subst e
  obtain⟨e2,m2,rfl⟩:=mem_map.mp hx1
  rw [at_of nd6 m2] at nz
  cases nz
 .show (S.hl++ [_]).length<=60
  rw [length_append]
  show _+1<=60
  omega
 .rcases mem_append.mp he1 with m|m
  .obtain⟨⟨dy,hy1⟩,hy2,hy3,hy4,hy5⟩:=hE6 e1 m
   have no:∀{k:List (Key × V)} {f:Str->Option Int},AD k f->HO.dK k≠ .dK (oK S.keys):=fun hk=>ad_oK hk (z:=e1.n) (h:=e1.a) (by rw [qdt,at_of nd6 m];rfl)
   exact⟨⟨dy,sF _ _ (nH hy1 (by intro e;cases e)) hy1⟩,sF _ _ (nH hy2 (no hy3)) hy2,hy3,sF _ _ (nH hy4 (no hy5)) hy4,hy5⟩
  .have:e1=⟨z,h,o⟩:=by simpa using m
   subst this
   have h6:=s36 _ _ ho
   refine⟨⟨dh,sF _ _ (fresh nh h6) h6⟩,sF _ _ (fresh np (s36 _ _ hp)) (s36 _ _ hp),hpA,sF _ _ (fresh nc (s36 _ _ hc)) (s36 _ _ hc),hcA⟩
abbrev ABC:Str:=Str.ofString "abcdefghijklmnopqrstuvwxyz"
def letc (i:Int):Nat:=97+(i%26).toNat
theorem letAt (g:Int):atI ABC.cps.toList (g%26)=some (letc g):=by
 have e0:=Int.emod_nonneg g (show (26:Int)≠0 by decide)
 have e1:=Int.emod_lt_of_pos g (show (0:Int) < 26 by decide)
 have h:∀k:Nat,k < 26->ABC.cps.toList[k]?=some (97+k):=by decide+kernel
 have e:g%26=(((g%26).toNat:Nat):Int):=by omega
 rw [e]
 rw [qc7 (h (g%26).toNat (by omega))]
 rfl
theorem letc_isL (g:Int):isL (letc g)=true:=by
 have e0:=Int.emod_nonneg g (show (26:Int)≠0 by decide)
 have e1:=Int.emod_lt_of_pos g (show (0:Int) < 26 by decide)
 unfold isL letc
 rw [Bool.and_eq_true,decide_eq_true_iff,decide_eq_true_iff]
 omega
theorem letc_inj {g g':Int} (h:letc g=letc g'):g%26=g'%26:=by
 have e0:=Int.emod_nonneg g (show (26:Int)≠0 by decide)
 have f0:=Int.emod_nonneg g' (show (26:Int)≠0 by decide)
 unfold letc at h
 omega
def nmJ (c k:Int) (j:Nat):Nat:=letc (c.fdiv 192+(0+(j:Int))*(c.fdiv 7%11)+k*if decide (0+(j:Int)=c.fdiv 24%(1+c.fdiv 3%8))=true then 1 else 0)
def nmL (c k:Int):List Nat:=if c%3=0 then List.replicate (1+(k+c.fdiv 78)%8).toNat (letc (c.fdiv 3+k.fdiv 8)) else (List.range (1+c.fdiv 3%8).toNat).map (nmJ c k)
def ofL (l:List Nat):Str:=⟨l.toArray⟩
def nmS (c k:Int):Str:=ofL (nmL c k)
theorem qfr (l:List Nat):qeg (ofL l)=l:=by simp [qeg,ofL]
theorem ofL_inj {l m:List Nat} (h:ofL l=ofL m):l=m:=by rw [<-qfr l,<-qfr m,h]
theorem ofL_snoc (l:List Nat) (c:Nat):ofL l++(⟨#[c]⟩:Str)=ofL (l++ [c]):=by
 have e:(ofL l++(⟨#[c]⟩:Str)).cps=(ofL (l++ [c])).cps:=by
  rw [Str.cps_append]
  simp [ofL]
 exact congrArg Str.mk e
theorem ofL_len (l:List Nat):(ofL l).length=l.length:=by simp [ofL,Str.length]
theorem nmS_good (c k:Int):qef (nmS c k)=true:=by
 have a0:=Int.emod_nonneg (k+c.fdiv 78) (show (8:Int)≠0 by decide)
 have a1:=Int.emod_lt_of_pos (k+c.fdiv 78) (show (0:Int) < 8 by decide)
 have b0:=Int.emod_nonneg (c.fdiv 3) (show (8:Int)≠0 by decide)
 have b1:=Int.emod_lt_of_pos (c.fdiv 3) (show (0:Int) < 8 by decide)
 unfold qef nmS
 rw [ofL_len,qfr,Bool.and_eq_true,Bool.and_eq_true,decide_eq_true_iff,decide_eq_true_iff,all_eq_true]
 unfold nmL
 by_cases z:c%3=0
 .rw [if_pos z,List.length_replicate]
  refine⟨by omega,fun x hx=>?_⟩
  rw [(List.mem_replicate.mp hx).2]
  exact letc_isL _
 .rw [if_neg z,length_map,List.length_range]
  refine⟨by omega,fun x hx=>?_⟩
  obtain⟨j,_,rfl⟩:=mem_map.mp hx
  exact letc_isL _
theorem nmS_inj {c k k':Int} (h0:0<=k) (h1:k<=20) (g0:0<=k') (g1:k'<=20) (h:nmS c k=nmS c k'):k=k':=by
 have hl:=ofL_inj h
 unfold nmL at hl
 by_cases z:c%3=0
 .rw [if_pos z,if_pos z] at hl
  have hn:=congrArg List.length hl
  rw [List.length_replicate,List.length_replicate] at hn
  have a0:=Int.emod_nonneg (k+c.fdiv 78) (show (8:Int)≠0 by decide)
  have b0:=Int.emod_nonneg (k'+c.fdiv 78) (show (8:Int)≠0 by decide)
  have hc:letc (c.fdiv 3+k.fdiv 8)=letc (c.fdiv 3+k'.fdiv 8):=by
   have m:letc (c.fdiv 3+k.fdiv 8)∈List.replicate (1+(k+c.fdiv 78)%8).toNat (letc (c.fdiv 3+k.fdiv 8)):=List.mem_replicate.mpr ⟨by omega,rfl⟩
   rw [hl] at m
   exact(List.mem_replicate.mp m).2
  have hc':=letc_inj hc
  rw [Int.fdiv_eq_ediv_of_nonneg k (by decide),Int.fdiv_eq_ediv_of_nonneg k' (by decide)] at hc'
  generalize c.fdiv 78=x at*
  generalize c.fdiv 3=y at*
  omega
 .rw [if_neg z,if_neg z] at hl
  have b0:=Int.emod_nonneg (c.fdiv 3) (show (8:Int)≠0 by decide)
  have at0:=Int.emod_nonneg (c.fdiv 24) (show (1+c.fdiv 3%8:Int)≠0 by omega)
  have at1:=Int.emod_lt_of_pos (c.fdiv 24) (show (0:Int) < 1+c.fdiv 3%8 by omega)
  have hj:=congrArg (fun l:List Nat=>l[(c.fdiv 24%(1+c.fdiv 3%8)).toNat]?) hl
  simp only [getElem?_map] at hj
  rw [List.getElem?_range (by omega)] at hj
  have hj':nmJ c k (c.fdiv 24%(1+c.fdiv 3%8)).toNat=nmJ c k' (c.fdiv 24%(1+c.fdiv 3%8)).toNat:=by simpa using hj
  unfold nmJ at hj'
  have e:(0:Int)+(((c.fdiv 24%(1+c.fdiv 3%8)).toNat:Nat):Int)=c.fdiv 24%(1+c.fdiv 3%8):=by omega
  rw [e,decide_eq_true rfl,if_pos rfl] at hj'
  have:=letc_inj hj'
  generalize c.fdiv 192+c.fdiv 24%(1+c.fdiv 3%8)*(c.fdiv 7%11)=x at*
  omega
def wdo (K:Frag) (d:Ad):Sp:=fun vs H Q _=>∃(a:Addr) (ns:List Int) (k:Int),vs=[.ref a,.int k]/\SqL K H a (ns.map V.int)/\0<=k/\Q (.int (cell ns k)) H
include T in
theorem w1u:FnOk P w K mg base CX0 1 d.w7x d.w67 ["_law_script","_law_k"] (wdo K d):=by
 refine T.w20.ok wd5 (fun vs H Q E h=>?_) (fun cdv A outer s H vs Q E hr h=>?_)
 .obtain⟨a,ns,k,rfl,_⟩:=h;rfl
 obtain⟨a,ns,k,rfl,hS,h0,q⟩:=h
 refine⟨_,(qa2 (qbb (qal op_lt (pv 1) (qae qbh rfl T.w51 PySem.boot_len (qa0 (pv 0) qa3)) (qas _)) (qa5 (qad (qai qan (pv 0) (pv 1) (fun _ _=>rfl)))) qaq)
  (qa5 (qad qa4))),?_⟩
 walk_at "d"
 refine qab (σ:=[some (.ref a),some (.int k)]) rfl ?_
 walk_at "g"
 have hl:(ns.map V.int).length=ns.length:=length_map _
 refine i_2 (fun c=>?_) (fun c=>?_)
 .rw [hl] at c
  walk_at "g"
  refine qcr hS (cell_at h0 c) ?_
  exact q
 .rw [hl] at c
  walk_at "g"
  rw [cell_out c h0] at q;exact q
def wfv (K:Frag) (d:Ad):Sp:=fun vs H Q _=>∃c k:Int,vs=[.int c,.int k]/\0<=k/\k<=10000/\∀r:Int,0<=r->Q (.int r) H
include T in
theorem w98:FnOk P w K mg base CX0 1 d.wby d.w9r ["_law_cell","_law_k"] (wfv K d):=by
 refine T.w9a.ok wcs (fun vs H Q E h=>?_) (fun cdv A outer s H vs Q E hr h=>?_)
 .obtain⟨c,k,rfl,_⟩:=h;rfl
 obtain⟨c,k,rfl,k0,k1,q⟩:=h
 refine⟨_,(qa2 (qaf (i:=2) wcs.nd rfl (Or.inl rfl) (qag qb9 (qag qby (qag qby (pv 0) (qag qb1 qa4 (pv 1))) qa4) qa4))
  (qa5 (qad (qag qb9 (qag qb1 (qag qb9 (qag qb1 (pv 2) (pv 2)) qa4) qa4) qa4)))),?_⟩
 walk_at "d"
 refine qab (σ:=[some (.int c),some (.int k),none]) rfl ?_
 walk_at "g"
 have m0:=Int.emod_nonneg (c+7919*k+12345) (show (2147483629:Int)≠0 by decide)
 have m1:=Int.emod_lt_of_pos (c+7919*k+12345) (show (0:Int) < 2147483629 by decide)
 generalize (c+7919*k+12345)%2147483629=u at*
 walk_at "g"
 have n0:=Int.emod_nonneg (u*u) (show (2147483629:Int)≠0 by decide)
 have n1:=Int.emod_lt_of_pos (u*u) (show (0:Int) < 2147483629 by decide)
 generalize u*u%2147483629=y at*
 walk_at "g"
 exact q _ (Int.emod_nonneg _ (by decide))
def wgl (K:Frag) (d:Ad):Sp:=fun vs H Q _=>∃c k:Int,vs=[.int c,.int k]/\0<=k/\k<=1000/\Q (.str (nmS c k)) H
include T in
theorem we4:FnOk P w K mg base CX0 1 d.wex d.wbc ["_law_cell","_law_k"] (wgl K d):=by
 refine T.wek.ok w3z (fun vs H Q E h=>?_) (fun cdv A outer s H vs Q E hr h=>?_)
 .obtain⟨c,k,rfl,_⟩:=h;rfl
 obtain⟨c,k,rfl,k0,k1,q⟩:=h
 refine⟨_,(qa2 (qaf (i:=2) w3z.nd rfl (Or.inl rfl) qcm)
  (qa2 (qbb (qal qe5 (qag qb9 (pv 0) qa4) qa4 (qas _)) (qa5 (qad (qag op_repC (qai ix_str (pv 2) (qag qb9 (qag qby (qag qbg (pv 0) qa4) (qag qbg (pv 1) qa4)) qa4) (fun _ _=>rfl)) (qag qby qa4 (qag qb9 (qag qby (pv 1) (qag qbg (pv 0) qa4)) qa4))))) qaq)
  (qa2 (qaf (i:=3) w3z.nd rfl (Or.inl rfl) (qag qby qa4 (qag qb9 (qag qbg (pv 0) qa4) qa4)))
  (qa2 (qaf (i:=4) w3z.nd rfl (Or.inl rfl) (qag qb9 (qag qbg (pv 0) qa4) (pv 3)))
  (qa2 (qaf (i:=5) w3z.nd rfl (Or.inl rfl) qcm)
  (qa2 (qb5 PassesOwn.never rfl (qcg rfl T.w4e (qa0 (pv 3) qa3)) (qac (i:=6) w3z.nd rfl (Or.inl rfl)) (qa2 (qaf (i:=7) w3z.nd rfl (Or.inl rfl) (qag qb1 (pv 1) (qca call_intB rfl T.wf9 PyProof.Rows.boot_int (qa0 (qcd qe5 (pv 6) (pv 4) (qas _)) qa3))))
  (qa2 (qaf (i:=8) w3z.nd rfl (Or.inl rfl) (qag qby (qag qby (qag qbg (pv 0) qa4) (qag qb1 (pv 6) (qag qb9 (qag qbg (pv 0) qa4) qa4))) (pv 7)))
  (qa5 (qaf (i:=5) w3z.nd rfl (Or.inl rfl) (qag op_catS (pv 5) (qai ix_str (pv 2) (qag qb9 (pv 8) qa4) (fun _ _=>rfl))))))))
  (qa5 (qad (pv 5))))))))),?_⟩
 walk_at "d"
 refine qab (σ:=[some (.int c),some (.int k),none,none,none,none,none,none,none]) rfl ?_
 walk_at "g"
 refine i_2 (fun z=>?_) (fun z=>?_)
 .walk_at "g"
  refine r_ixS (by decide) (letAt _) ?_
  walk_at "g"
  have a0:=Int.emod_nonneg (k+c.fdiv 78) (show (8:Int)≠0 by decide)
  have a1:=Int.emod_lt_of_pos (k+c.fdiv 78) (show (0:Int) < 8 by decide)
  refine r_repC (by omega) (by omega) ?_
  unfold nmS nmL at q
  rw [if_pos z] at q
  exact q
 .walk_at "g"
  have b0:=Int.emod_nonneg (c.fdiv 3) (show (8:Int)≠0 by decide)
  have b1:=Int.emod_lt_of_pos (c.fdiv 3) (show (0:Int) < 8 by decide)
  have d0:=Int.emod_nonneg (c.fdiv 7) (show (11:Int)≠0 by decide)
  have d1:=Int.emod_lt_of_pos (c.fdiv 7) (show (0:Int) < 11 by decide)
  have ks:k.natAbs < 2^600:=Nat.lt_of_le_of_lt (show k.natAbs<=1000 by omega) (by decide)
  have ds:(c.fdiv 7%11).natAbs < 2^600:=Nat.lt_of_le_of_lt (show (c.fdiv 7%11).natAbs<=11 by omega) (by decide)
  refine qfp (fun i σ H'=>H'=H/\∃w1 w2 w3,σ=[some (V.int c),some (V.int k),some (V.str ABC),some (V.int (1+c.fdiv 3%8)),some (V.int (c.fdiv 24%(1+c.fdiv 3%8))),some (V.str (ofL ((List.range i).map (nmJ c k)))),w1,w2,w3]) ⟨rfl,none,none,none,rfl⟩ ?_ ?_
  .rintro i σ H' hi ⟨rfl,w1,w2,w3,rfl⟩
   have is:((0:Int)+(i:Int)).natAbs < 2^600:=Nat.lt_of_le_of_lt (show ((0:Int)+(i:Int)).natAbs<=8 by omega) (by decide)
   walk_at "g"
   refine r_ixS (by decide) (letAt _) ?_
   have lz:(ofL ((List.range i).map (nmJ c k))).length=i:=by rw [ofL_len,length_map,List.length_range]
   refine r_catS ?_ ?_
   .rw [lz];show _+1<=16777216;omega
   walk_at "g"
   have ee:(List.range (i+1)).map (nmJ c k)=(List.range i).map (nmJ c k)++ [nmJ c k i]:=by rw [List.range_succ,map_append];rfl
   rw [ofL_snoc,ee]
   exact⟨rfl,_,_,_,rfl⟩
  .rintro σ H' ⟨rfl,w1,w2,w3,rfl⟩
   walk_at "g"
   unfold nmS nmL at q
   rw [if_neg z] at q
   exact q
def in_w:PySem.Stmt:=match qbo s_weigher with
 |a :: _=>a
 | []=>s_weigher
abbrev qw:Str:="_law_weigher.<locals>._law_weigh_by"
abbrev bdw:List PySem.Stmt:=wgBody "_law_table" "_law_name_here" ⟨373,15,373,25⟩ ⟨373,26,373,40⟩ ⟨373,15,373,41⟩ ⟨373,8,373,41⟩
theorem mo_w:MadeOk "_law_weigh_by" qw (qbd in_w) bdw (qa8 in_w) "_law_name_here" "_law_table" where
 kind:=rfl
 co:=rfl
 gen:=rfl
 nocell:=by decide+kernel
 par:=rfl
 free:=rfl
 only:=fun y h=>by
  have e:(qa8 in_w).names=[(("_law_name_here" :Str),NameKind.local),(("_law_table" :Str),NameKind.free)]:=rfl
  rw [e,lookup_cons] at h
  cases c:y==("_law_name_here" :Str) with
  |true=>rw [c] at h;cases h
  |false=>
   rw [c] at h
   rw [lookup_cons] at h
   cases c2:y==("_law_table" :Str) with
   |true=>exact eq_of_beq c2
   |false=>rw [c2] at h;cases h
 bind:=fun cl cd ct doc pm s u=> .of_eq rfl
abbrev WgH (H:Hp) (g t:Addr):Prop:=Wg "_law_weigh_by" qw (qbd in_w) bdw (qa8 in_w) "_law_table" H g t
def w6r (p:Addr):Sp:=spMaker p "_law_weigh_by" qw (qbd in_w) bdw (qa8 in_w) "_law_table"
theorem wcd {CX:CXT} {P:Program} {w:World} {K:Frag} {mg:Str->Option Value} {base:Heap} {k:Nat} {c p f:Addr} {fd:FuncData} (F:Fun K "_law_weigher" "_law_weigher" s_weigher f fd) (hm:mg "_law_weigher" =some (.ref f)) (kin:K.In base) (hns:base.Ns mainGlobals mg)
  (ht:tabIn K "_law_weigher" =some (c,p)) (C:PySem.W.CodeHd base c p) (bm:BmAt mg base):FnOk P w K mg base CX (k+1) f fd ["_law_table"] (w6r p):=
 Fun.maker F hm kin hns ht C bm (pos:=⟨372,4,373,41⟩) (p1:=⟨374,11,374,24⟩) (p2:=⟨374,4,374,24⟩) rfl rfl rfl rfl rfl rfl (fun n=>rfl) (by decide) (fun L cd=>rfl) rfl rfl (fun L cd=>rfl) (fun L cd=>rfl)
@[irreducible] def gcdI (a b:Int):Int:=((Int.gcd a b:Nat):Int)
theorem gcd_step (g s:Int) (hs:0 < s):Int.gcd s (g%s)=Int.gcd g s:=by
 have e:g=s*(g / s)+g%s:=(Int.mul_ediv_add_emod g s).symm
 apply Nat.dvd_antisymm
 .have h1:((Int.gcd s (g%s):Nat):Int) ∣ s:=Int.gcd_dvd_left _ _
  have h2:((Int.gcd s (g%s):Nat):Int) ∣ g%s:=Int.gcd_dvd_right _ _
  have h3:((Int.gcd s (g%s):Nat):Int) ∣ g:=by
   have:=Int.dvd_add (Int.dvd_trans h1 (Int.dvd_mul_right s (g / s))) h2
   rw [<-e] at this
   exact this
  exact Int.ofNat_dvd.mp (Int.dvd_coe_gcd h3 h1)
 .have h1:((Int.gcd g s:Nat):Int) ∣ g:=Int.gcd_dvd_left _ _
  have h2:((Int.gcd g s:Nat):Int) ∣ s:=Int.gcd_dvd_right _ _
  have h3:((Int.gcd g s:Nat):Int) ∣ g%s:=by
   have:=Int.dvd_sub h1 (Int.dvd_trans h2 (Int.dvd_mul_right s (g / s)))
   have e2:g - s*(g / s)=g%s:=by omega
   rw [e2] at this
   exact this
  exact Int.ofNat_dvd.mp (Int.dvd_coe_gcd h2 h3)
theorem gcd_abs (a b:Int):Int.gcd (if a < 0 then -a else a) (if b < 0 then -b else b)=Int.gcd a b:=by
 have ea:(if a < 0 then -a else a).natAbs=a.natAbs:=by split <;> omega
 have eb:(if b < 0 then -b else b).natAbs=b.natAbs:=by split <;> omega
 unfold Int.gcd
 rw [ea,eb]
theorem nonneg (a b:Int):0<=gcdI a b:=by unfold gcdI;exact Int.natCast_nonneg _
theorem zero {a b:Int} (h:gcdI a b=0):a=0/\b=0:=by
 unfold gcdI at h
 exact Int.gcd_eq_zero_iff.mp (by omega)
theorem gcdI_pos {t b:Int} (h:b≠0):0 < gcdI t b:=by
 have h1:=nonneg t b
 have h2:gcdI t b≠0:=fun z=>h (zero z).2
 omega
theorem gcdI_le {t b:Int} (h:b≠0):(gcdI t b).natAbs<=b.natAbs:=by
 have hd:gcdI t b ∣ b:=by unfold gcdI;exact Int.gcd_dvd_right _ _
 exact Nat.le_of_dvd (by omega) (Int.natAbs_dvd_natAbs.mpr hd)
def sg' (t b:Int):Int:=if b < 0 then - gcdI t b else gcdI t b
theorem low_facts {t b:Int} (hb:b≠0):∃x y:Int,t.fdiv (sg' t b)=x/\b.fdiv (sg' t b)=y/\1<=y/\x*b=y*t/\Int.gcd x y=1/\x.natAbs<=t.natAbs/\y.natAbs<=b.natAbs:=by
 have gp:=gcdI_pos (t:=t) hb
 have d1:gcdI t b ∣ t:=by unfold gcdI;exact Int.gcd_dvd_left _ _
 have d2:gcdI t b ∣ b:=by unfold gcdI;exact Int.gcd_dvd_right _ _
 have e1:sg' t b ∣ t:=by unfold sg';split <;> first|exact Int.neg_dvd.mpr d1|exact d1
 have e2:sg' t b ∣ b:=by unfold sg';split <;> first|exact Int.neg_dvd.mpr d2|exact d2
 have s0:sg' t b≠0:=by unfold sg';split <;> omega
 have na:(sg' t b).natAbs=Int.gcd t b:=by
  have:(gcdI t b).natAbs=Int.gcd t b:=by unfold gcdI;exact Int.natAbs_natCast _
  unfold sg';split <;> omega
 have sgn:0 < b / sg' t b:=by
  unfold sg'
  split
  .rename_i n
   rw [Int.ediv_neg]
   have:b / gcdI t b < 0:=Int.ediv_neg_of_neg_of_pos n gp
   omega
  .exact Int.ediv_pos_of_pos_of_dvd (by omega) (by omega) d2
 rw [Int.fdiv_eq_ediv_of_dvd e1,Int.fdiv_eq_ediv_of_dvd e2]
 generalize hs:sg' t b=s at*
 obtain⟨x,hx⟩:=e1
 obtain⟨y,hy⟩:=e2
 have ex:t / s=x:=by rw [hx];exact Int.mul_ediv_cancel_left _ s0
 have ey:b / s=y:=by rw [hy];exact Int.mul_ediv_cancel_left _ s0
 refine⟨x,y,ex,ey,by omega,by rw [hy,hx,<-Int.mul_assoc,<-Int.mul_assoc,Int.mul_comm x s,Int.mul_comm y s,Int.mul_assoc,Int.mul_assoc,Int.mul_comm x y],?_,?_,?_⟩
 .have hp:0 < Int.gcd t b:=Int.gcd_pos_of_ne_zero_right _ hb
  have h:=Int.gcd_mul_left s x y
  rw [<-hx,<-hy,na] at h
  have:Int.gcd t b*Int.gcd x y=Int.gcd t b*1:=by omega
  exact Nat.eq_of_mul_eq_mul_left hp this
 .rw [hx,Int.natAbs_mul];exact Nat.le_mul_of_pos_left _ (by omega)
 .rw [hy,Int.natAbs_mul];exact Nat.le_mul_of_pos_left _ (by omega)
theorem fr_rat {t b:Int} (hb:b≠0):t.fdiv (sg' t b)=((t:Rat) /(b:Rat)).num/\b.fdiv (sg' t b)=(((t:Rat) /(b:Rat)).den:Int):=by
 obtain⟨x,y,e1,e2,y1,cr,cop,_,_⟩:=low_facts (t:=t) hb
 have hy:((y.toNat:Nat):Int)=y:=by omega
 have hc:x.natAbs.Coprime y.toNat:=by
  have e:y.natAbs=y.toNat:=by omega
  have h:Nat.gcd x.natAbs y.natAbs=1:=cop
  rw [e] at h
  exact h
 have eq:(⟨x,y.toNat,by omega,hc⟩:Rat)=(t:Rat) /(b:Rat):=by
  have h1:(⟨x,y.toNat,by omega,hc⟩:Rat)=Rat.divInt x ((y.toNat:Nat):Int):=Rat.mk_eq_divInt ..
  rw [h1,hy,Rat.divInt_eq_div]
  have hb':(b:Rat)≠0:=by
   intro h
   exact hb (by exact_mod_cast h)
  have hy':(y:Rat)≠0:=by
   intro h
   have:y=0:=by exact_mod_cast h
   omega
  have cr':(x:Rat)*(b:Rat)=(y:Rat)*(t:Rat):=by exact_mod_cast cr
  grind
 rw [e1,e2,<-eq]
 exact⟨rfl,hy.symm⟩
theorem qf2 (q:Rat):(q.num:Rat) /((q.den:Nat):Rat)=q:=by
 rw [<-Rat.intCast_natCast,<-Rat.divInt_eq_div]
 exact Rat.num_divInt_den q
theorem qel (q:Rat):((q.den:Nat):Rat)≠0:=by
 intro h
 have:=q.den_nz
 exact this (by exact_mod_cast h)
theorem rat_sub (a b:Rat):((a.num*(b.den:Int) - b.num*(a.den:Int):Int):Rat) /(((a.den:Int)*(b.den:Int):Int):Rat)=a - b:=by
 have h1:=qf2 a
 have h2:=qf2 b
 have n1:=qel a
 have n2:=qel b
 rw [Rat.intCast_sub,Rat.intCast_mul,Rat.intCast_mul,Rat.intCast_mul,Rat.intCast_natCast,Rat.intCast_natCast]
 conv=>rhs;rw [<-h1,<-h2]
 grind
theorem rat_mul (a b:Rat):((a.num*b.num:Int):Rat) /(((a.den:Int)*(b.den:Int):Int):Rat)=a*b:=by
 have h1:=qf2 a
 have h2:=qf2 b
 have n1:=qel a
 have n2:=qel b
 rw [Rat.intCast_mul,Rat.intCast_mul,Rat.intCast_natCast,Rat.intCast_natCast]
 conv=>rhs;rw [<-h1,<-h2]
 grind
theorem rat_div (a b:Rat) (hb:b≠0):((a.num*(b.den:Int):Int):Rat) /(((a.den:Int)*b.num:Int):Rat)=a / b:=by
 have h1:=qf2 a
 have h2:=qf2 b
 have n1:=qel a
 have n2:=qel b
 have n3:(b.num:Rat)≠0:=by
  intro h
  rw [h] at h2
  apply hb
  rw [<-h2]
  grind
 rw [Rat.intCast_mul,Rat.intCast_mul,Rat.intCast_natCast,Rat.intCast_natCast]
 conv=>rhs;rw [<-h1,<-h2]
 grind
theorem rat_lt (a b:Rat):a.num*(b.den:Int) < b.num*(a.den:Int)↔a < b:=(Rat.lt_iff a b).symm
structure RB (q:Rat):Prop where
 n:q.num.natAbs < 2^290
 d:q.den < 2^290
def qbm (H:Hp) (a:Addr) (q:Rat):Prop:=H a=some (.tup [.int q.num,.int (q.den:Int)])
theorem qbm.same {H H':Hp} {a:Addr} {q:Rat} (h:qbm H a q) (s:Same H H'):qbm H' a q:=s _ _ h
theorem qbm.uniq {H:Hp} {a:Addr} {q r:Rat} (h:qbm H a q) (h':qbm H a r):q=r:=by
 have h1:H a=_:=h
 have h2:H a=_:=h'
 rw [h1] at h2
 have h3:=HO.tup.inj (Option.some.inj h2)
 have e1:q.num=r.num:=by injection h3 with a1 a2;injection a1
 have e2:q.den=r.den:=by
  injection h3 with a1 a2
  injection a2 with a3 a4
  injection a3 with a5
  exact_mod_cast a5
 exact Rat.ext e1 e2
def meas (i:Nat) (σ:L2.St):Nat:=match σ[i]? with
 |some (some (.int s))=>s.toNat
 |_=>0
def frO (q:Rat):HO:=.tup [.int q.num,.int (q.den:Int)]
def wd8 (K:Frag) (d:Ad):Sp:=fun vs H Q _=>∃i j:Int,vs=[.int i,.int j]/\Q (.int (gcdI i j)) H
include T in
theorem wd9:FnOk P w K mg base CX0 1 d.w89 d.w6p ["one","other"] (wd8 K d):=by
 refine T.wa3.ok w2i (fun vs H Q E h=>?_) (fun cdv A outer s H vs Q E hr h=>?_)
 .obtain⟨i,j,rfl,_⟩:=h;rfl
 obtain⟨i,j,rfl,q⟩:=h
 refine⟨_,(qa2 (qaf (i:=2) w2i.nd rfl (Or.inl rfl) (qae qfs rfl T.wgv PyProof.Rows.boot_abs (qa0 (pv 0) qa3)))
  (qa2 (qaf (i:=3) w2i.nd rfl (Or.inl rfl) (qae qfs rfl T.wgv PyProof.Rows.boot_abs (qa0 (pv 1) qa3)))
  (qa2 (qe2 PassesOwn.never (qal qfz (pv 3) qa4 (qas _)) (qa2 (qaf (i:=4) w2i.nd rfl (Or.inl rfl) (qag qb9 (pv 2) (pv 3)))
  (qa2 (qaf (i:=2) w2i.nd rfl (Or.inl rfl) (pv 3))
  (qa5 (qaf (i:=3) w2i.nd rfl (Or.inl rfl) (pv 4))))))
  (qa5 (qad (pv 2)))))),?_⟩
 walk_at "d"
 refine qab (σ:=[some (.int i),some (.int j),none,none,none]) rfl ?_
 walk_at "g"
 refine qdy (fun σ H'=>H'=H/\∃(g t:Int) (r:Option V),σ=[some (.int i),some (.int j),some (.int g),some (.int t),r]/\0<=g/\0<=t/\Int.gcd g t=Int.gcd i j) (fun σ _=>meas 3 σ) ?_ ?_ ?_
 .refine⟨rfl,_,_,_,rfl,?_,?_,gcd_abs i j⟩ <;> split <;> omega
 .rintro σ H1 ⟨rfl,g,t,r,rfl,hg,ht,e⟩
  walk_at "g"
  refine i_2 (fun c=>?_) (fun c=>?_)
  .walk_at "g"
   refine⟨⟨rfl,_,_,_,rfl,by omega,Int.emod_nonneg _ (by omega),?_⟩,?_⟩
   .rw [gcd_step g t c];exact e
   .show (g%t).toNat < t.toNat
    have:=Int.emod_lt_of_pos g c
    have:=Int.emod_nonneg g (show t≠0 by omega)
    omega
  .walk_at "g"
   have z:t=0:=by omega
   subst z
   have e2:g=gcdI i j:=by
    rw [Int.gcd_zero_right] at e
    unfold gcdI
    rw [<-e];omega
   rw [e2];exact q
 .rintro σ H1 Q1 Q2 h ⟨v,e,a,b,e1,e2,d,e3,q⟩
  exact⟨v,e,a,b,e1,e2,d,e3,h _ _ q⟩
def wb8 (K:Frag) (d:Ad):Sp:=fun vs H Q _=>∃t b:Int,vs=[.int t,.int b]/\b.natAbs < 2^600/\b≠0/\∀p,H p=none->Q (.ref p) (upd H p (frO ((t:Rat) /(b:Rat))))
include T in
theorem w41:FnOk P w K mg base (My.CX1 P w) 3 d.w6e d.w5f ["top","bottom"] (wb8 K d):=by
 refine okX T.w3a w5c (fun vs H Q E h=>?_) (fun cdv A outer s H vs Q E hr h=>?_)
 .obtain⟨t,b,rfl,_⟩:=h;rfl
 obtain⟨t,b,rfl,hb,b0,hq⟩:=h
 refine⟨_,(qa2 (qbb (qal qe5 (pv 1) qa4 (qas _)) (qa5 (qc2 rfl T.w69 rfl T.w64 qar (qa0 qcm qa3))) qaq)
  (qa2 (qaf (i:=2) w5c.nd rfl (Or.inl rfl) (qah ((wd9 T).mono (by decide)) hr rfl T.wdu T.wa3.kp T.we1 .nil qaw (qa0 (pv 0) (qa0 (pv 1) qa3))))
  (qa2 (qd6 (qbb (qal op_lt (pv 1) qa4 (qas _)) (qa5 (qaf (i:=2) w5c.nd rfl (Or.inl rfl) (pe_un un_neg (pv 2)))) qaq))
  (qa5 (qad (qdo (qa0 (qag qbg (pv 0) (pv 2)) (qa0 (qag qbg (pv 1) (pv 2)) qa3)))))))),?_⟩
 walk_at "d"
 refine qab (σ:=[some (.int t),some (.int b),none]) rfl ?_
 walk_at "g"
 have gb:(gcdI t b).natAbs < 2^600:=Nat.lt_of_le_of_lt (gcdI_le b0) hb
 have gp:=gcdI_pos (t:=t) b0
 obtain⟨f1,f2⟩:=fr_rat (t:=t) b0
 unfold frO at hq
 rw [<-f1,<-f2] at hq
 clear f1 f2
 refine⟨t,b,rfl,?_⟩
 walk_at "g"
 refine qf6 ?_
 walk_at "g"
 refine i_2 (fun n=>?_) (fun n=>?_)
 .have es:sg' t b= - gcdI t b:=by unfold sg';rw [if_pos n]
  rw [es] at hq
  walk_at "g"
  exact hq _ (by assumption)
 .have es:sg' t b=gcdI t b:=by unfold sg';rw [if_neg n]
  rw [es] at hq
  walk_at "g"
  exact hq _ (by assumption)
def wg2 (f:Rat->Rat->Rat):Sp:=fun vs H Q _=>∃(o p:Addr) (a b:Rat),vs=[.ref o,.ref p]/\qbm H o a/\qbm H p b/\RB a/\RB b/\∀r,H r=none->Q (.ref r) (upd H r (frO (f a b)))
def wfg (K:Frag) (d:Ad):Sp:=wg2 fun a b=>a - b
def wft (K:Frag) (d:Ad):Sp:=wg2 fun a b=>a*b
def wdm (K:Frag) (d:Ad):Sp:=fun vs H Q _=>∃(o p:Addr) (a b:Rat),vs=[.ref o,.ref p]/\qbm H o a/\qbm H p b/\RB a/\RB b/\b≠0/\∀r,H r=none->Q (.ref r) (upd H r (frO (a / b)))
def wf6 (K:Frag) (d:Ad):Sp:=fun vs H Q _=>∃(o p:Addr) (a b:Rat),vs=[.ref o,.ref p]/\qbm H o a/\qbm H p b/\RB a/\RB b/\Q (.bl (decide (a < b))) H
theorem RB.n6 {q:Rat} (h:RB q):q.num.natAbs < 2^600:=Nat.lt_trans h.n (by decide)
theorem RB.d6 {q:Rat} (h:RB q):((q.den:Int)).natAbs < 2^600:=by
 rw [Int.natAbs_natCast];exact Nat.lt_trans h.d (by decide)
theorem RB.dd {a b:Rat} (h:RB a) (h':RB b):(((a.den:Int))*(b.den:Int)).natAbs < 2^600:=by
 rw [Int.natAbs_mul,Int.natAbs_natCast,Int.natAbs_natCast]
 exact Nat.lt_trans (Nat.mul_lt_mul'' h.d h'.d) (by decide)
theorem RB.dn {a b:Rat} (h:RB a) (h':RB b):(((a.den:Int))*b.num).natAbs < 2^600:=by
 rw [Int.natAbs_mul,Int.natAbs_natCast]
 exact Nat.lt_trans (Nat.mul_lt_mul'' h.d h'.n) (by decide)
theorem den_pos (q:Rat):(0:Int) <(q.den:Int):=by have:=q.den_pos;omega
include T in
theorem wfs:FnOk P w K mg base (My.CX1 P w) 4 d.wbl d.w9t ["one","other"] (wfg K d):=by
 refine okX T.we2 wfq (fun vs H Q E h=>?_) (fun cdv A outer s H vs Q E hr h=>?_)
 .obtain⟨o,p,a,b,rfl,_⟩:=h;rfl
 obtain⟨o,p,a,b,rfl,ho,hp,f1,f2,q⟩:=h
 refine⟨_,(qa5 (qad (qav ((w41 T).mono (by decide)) hr rfl T.w4w T.w3a.kp T.w4x .nil qar (qa0 (qag op_sub (qag qb1 (qai qak (pv 0) qa4 (fun _ _=>rfl)) (qai qak (pv 1) qa4 (fun _ _=>rfl))) (qag qb1 (qai qak (pv 1) qa4 (fun _ _=>rfl)) (qai qak (pv 0) qa4 (fun _ _=>rfl)))) (qa0 (qag qb1 (qai qak (pv 0) qa4 (fun _ _=>rfl)) (qai qak (pv 1) qa4 (fun _ _=>rfl))) qa3))))),?_⟩
 walk_at "d"
 refine qab (σ:=[some (.ref o),some (.ref p)]) rfl ?_
 have x1:=f1.n6
 have x2:=f1.d6
 have x3:=f2.n6
 have x4:=f2.d6
 unfold qbm at ho hp
 have e:=rat_sub a b
 have bp:=f1.dd f2
 have ne:(a.den:Int)*(b.den:Int)≠0:=Int.ne_of_gt (Int.mul_pos (den_pos a) (den_pos b))
 clear f1 f2
 walk_at "g"
 refine⟨_,_,rfl,bp,ne,fun r hr=>?_⟩
 rw [e]
 exact q r hr
include T in
theorem wfm:FnOk P w K mg base (My.CX1 P w) 4 d.wbi d.w96 ["one","other"] (wft K d):=by
 refine okX T.weg wfj (fun vs H Q E h=>?_) (fun cdv A outer s H vs Q E hr h=>?_)
 .obtain⟨o,p,a,b,rfl,_⟩:=h;rfl
 obtain⟨o,p,a,b,rfl,ho,hp,f1,f2,q⟩:=h
 refine⟨_,(qa5 (qad (qav ((w41 T).mono (by decide)) hr rfl T.w4w T.w3a.kp T.w4x .nil qar (qa0 (qag qb1 (qai qak (pv 0) qa4 (fun _ _=>rfl)) (qai qak (pv 1) qa4 (fun _ _=>rfl))) (qa0 (qag qb1 (qai qak (pv 0) qa4 (fun _ _=>rfl)) (qai qak (pv 1) qa4 (fun _ _=>rfl))) qa3))))),?_⟩
 walk_at "d"
 refine qab (σ:=[some (.ref o),some (.ref p)]) rfl ?_
 have x1:=f1.n6
 have x2:=f1.d6
 have x3:=f2.n6
 have x4:=f2.d6
 unfold qbm at ho hp
 have e:=rat_mul a b
 have bp:=f1.dd f2
 have ne:(a.den:Int)*(b.den:Int)≠0:=Int.ne_of_gt (Int.mul_pos (den_pos a) (den_pos b))
 clear f1 f2
 walk_at "g"
 refine⟨_,_,rfl,bp,ne,fun r hr=>?_⟩
 rw [e]
 exact q r hr
include T in
theorem wde:FnOk P w K mg base (My.CX1 P w) 4 d.w87 d.w6d ["one","other"] (wdm K d):=by
 refine okX T.wau wdb (fun vs H Q E h=>?_) (fun cdv A outer s H vs Q E hr h=>?_)
 .obtain⟨o,p,a,b,rfl,_⟩:=h;rfl
 obtain⟨o,p,a,b,rfl,ho,hp,f1,f2,b0,q⟩:=h
 refine⟨_,(qa5 (qad (qav ((w41 T).mono (by decide)) hr rfl T.w4w T.w3a.kp T.w4x .nil qar (qa0 (qag qb1 (qai qak (pv 0) qa4 (fun _ _=>rfl)) (qai qak (pv 1) qa4 (fun _ _=>rfl))) (qa0 (qag qb1 (qai qak (pv 0) qa4 (fun _ _=>rfl)) (qai qak (pv 1) qa4 (fun _ _=>rfl))) qa3))))),?_⟩
 walk_at "d"
 refine qab (σ:=[some (.ref o),some (.ref p)]) rfl ?_
 have x1:=f1.n6
 have x2:=f1.d6
 have x3:=f2.n6
 have x4:=f2.d6
 unfold qbm at ho hp
 have e:=rat_div a b b0
 have bp:=f1.dn f2
 have n0:b.num≠0:=fun h=>b0 (Rat.num_eq_zero.mp h)
 have ne:(a.den:Int)*b.num≠0:=Int.mul_ne_zero (Int.ne_of_gt (den_pos a)) n0
 clear f1 f2
 walk_at "g"
 refine⟨_,_,rfl,bp,ne,fun r hr=>?_⟩
 rw [e]
 exact q r hr
include T in
theorem wf5:FnOk P w K mg base CX0 1 d.wc1 d.w9u ["one","other"] (wf6 K d):=by
 refine T.wev.ok wfa (fun vs H Q E h=>?_) (fun cdv A outer s H vs Q E hr h=>?_)
 .obtain⟨o,p,a,b,rfl,_⟩:=h;rfl
 obtain⟨o,p,a,b,rfl,ho,hp,f1,f2,q⟩:=h
 refine⟨_,(qa5 (qad (qcd op_lt (qag qb1 (qai qak (pv 0) qa4 (fun _ _=>rfl)) (qai qak (pv 1) qa4 (fun _ _=>rfl))) (qag qb1 (qai qak (pv 1) qa4 (fun _ _=>rfl)) (qai qak (pv 0) qa4 (fun _ _=>rfl))) (qas _)))),?_⟩
 walk_at "d"
 refine qab (σ:=[some (.ref o),some (.ref p)]) rfl ?_
 have x1:=f1.n6
 have x2:=f1.d6
 have x3:=f2.n6
 have x4:=f2.d6
 unfold qbm at ho hp
 clear f1 f2
 walk_at "g"
 rw [decide_eq_decide.mpr (rat_lt a b)]
 exact q
def qbz:List Str->(Str->Rat)->Rat
 | [],_=>0
 |n :: l,f=>f n+qbz l f
theorem qc4 {f g:Str->Rat}:∀{l:List Str},(∀n∈l,f n=g n)->qbz l f=qbz l g
 | [],_=>rfl
 |n :: l,h=>by
  show f n+qbz l f=g n+qbz l g
  rw [h n (mem_cons_self ..),qc4 fun m hm=>h m (mem_cons_of_mem _ hm)]
theorem qer {f g:Str->Rat}:∀{l:List Str},qbz l (fun n=>f n+g n)=qbz l f+qbz l g
 | []=>by show (0:Rat)=0+0;grind
 |n :: l=>by
  show f n+g n+qbz l _=f n+qbz l f+(g n+qbz l g)
  rw [qer];grind
theorem qeq {c:Rat} {f:Str->Rat}:∀{l:List Str},qbz l (fun n=>c*f n)=c*qbz l f
 | []=>by show (0:Rat)=c*0;grind
 |n :: l=>by
  show c*f n+qbz l _=c*(f n+qbz l f)
  rw [qeq];grind
theorem sumQ_le {f g:Str->Rat}:∀{l:List Str},(∀n∈l,f n<=g n)->qbz l f<=qbz l g
 | [],_=>by show (0:Rat)<=0;grind
 |n :: l,h=>by
  have h1:=h n (mem_cons_self ..)
  have h2:=sumQ_le (l:=l) fun m hm=>h m (mem_cons_of_mem _ hm)
  show f n+qbz l f<=g n+qbz l g
  grind
theorem qg8 {f:Str->Rat} {l:List Str} (h:∀n∈l,0<=f n):0<=qbz l f:=by
 have h1:=sumQ_le (f:=fun _=>0) h
 have h2:qbz l (fun _=>(0:Rat))=0:=by
  have:=qeq (c:=0) (f:=fun _=>(0:Rat)) (l:=l)
  have e:(fun n:Str=>(0:Rat)*0)=fun _=>0:=funext fun _=>by grind
  rw [e] at this
  grind
 grind
theorem qf0 {l:List Str} {f:Str->Rat} (h:∀n∈l,f n=0):qbz l f=0:=by
 rw [qc4 (g:=fun _=>0) h]
 have:=qeq (c:=0) (f:=fun _=>(0:Rat)) (l:=l)
 have e:(fun n:Str=>(0:Rat)*0)=fun _=>0:=funext fun _=>by grind
 rw [e] at this
 grind
theorem sumQ_one {f:Str->Rat}:∀{l:List Str} {n:Str},n∈l->(∀m∈l,0<=f m)->f n<=qbz l f
 | [],_,h,_=>by simp at h
 |m :: l,n,h,hp=>by
  have h2:=qg8 (l:=l) fun k hk=>hp k (mem_cons_of_mem _ hk)
  have h0:=hp m (mem_cons_self ..)
  show f n<=f m+qbz l f
  rcases mem_cons.mp h with e|e
  .subst e;grind
  .have:=sumQ_one e fun k hk=>hp k (mem_cons_of_mem _ hk)
   grind
structure Dl where
 W0:List Str
 ln:Str->List Str
 wt:Str->Int
 wa:Str->Int
 rm:Str->Int
structure DlOk (D:Dl):Prop where
 nd:D.W0.Nodup
 w1:∀n∈D.W0,1<=D.wt n
 w2:∀n∈D.W0,D.wt n<=1000
 a0:∀n∈D.W0,0<=D.wa n
 a1:∀n∈D.W0,D.wa n<=10^31
 r0:∀n∈D.W0,∀h∈D.ln n,0<=D.rm h
 r1:∀n∈D.W0,∀h∈D.ln n,D.rm h<=10^31
 l0:∀n∈D.W0,n∈D.ln n
 ld:∀n∈D.W0,(D.ln n).Nodup
 lz:∀n∈D.W0,(D.ln n).length<=20
 l8:D.W0.length<=7
section
variable (D: Dl)
open Classical in
noncomputable def ldQ (W:List Str) (h:Str):Rat:=qbz D.W0 fun n=>if n∈W/\h∈D.ln n then (D.wt n:Rat) else 0
noncomputable def goQ (n:Str):Rat:=(D.wa n:Rat) /(D.wt n:Rat)
open Classical in
noncomputable def rdy (W:List Str) (lf:Str->Rat) (L:Rat):List Str:=W.filter fun n=>decide ((∃h∈D.ln n,lf h / ldQ D W h=L)\/goQ D n=L)
open Classical in
noncomputable def wls (W R:List Str):List Str:=W.filter fun n=>!decide (n∈R)
noncomputable def lfN (lf:Str->Rat) (L:Rat) (R:List Str) (h:Str):Rat:=lf h - L*ldQ D R h
structure IsL (W:List Str) (lf:Str->Rat) (L:Rat):Prop where
 ge:∀n∈W,(∀h∈D.ln n,L<=lf h / ldQ D W h)/\L<=goQ D n
 at_:∃n∈W,(∃h∈D.ln n,lf h / ldQ D W h=L)\/goQ D n=L
def Dv (N:Nat) (q:Rat):Prop:=∃z:Int,q*(N:Rat)=(z:Rat)
open Classical in
structure RdI (W:List Str) (lf lv:Str->Rat) (M:Rat) (N:Nat):Prop where
 sub:∀n∈W,n∈D.W0
 nd:W.Nodup
 sum:∀h,lf h=(D.rm h:Rat) - qbz D.W0 fun n=>if n∉W/\h∈D.ln n then lv n*(D.wt n:Rat) else 0
 lo:∀n∈W,∀h∈D.ln n,M*ldQ D W h<=lf h
 nn:∀n∈D.W0,∀h∈D.ln n,0<=lf h
 go:∀n∈W,M<=goQ D n
 m0:0<=M
 st:∀n∈D.W0,n∉W->0<=lv n/\lv n<=M/\lv n<=goQ D n/\(lv n=goQ D n\/∃h∈D.ln n,lf h=0/\(∀m∈W,h∉D.ln m)/\∀m∈D.W0,h∈D.ln m->lv m<=lv n)
 n0:0 < N
 dl:∀h,Dv N (lf h)
 nb:N<=10000^(7 - W.length)
end
section
variable {D: Dl}
theorem wtQ {n:Str} (ok:DlOk D) (h:n∈D.W0):(1:Rat)<=(D.wt n:Rat)/\(D.wt n:Rat)<=1000:=by
 have h1:=ok.w1 n h
 have h2:=ok.w2 n h
 exact⟨by exact_mod_cast h1,by exact_mod_cast h2⟩
theorem ldQ_nn (ok:DlOk D) (W:List Str) (h:Str):0<=ldQ D W h:=qg8 fun n hn=>by
 have:=(wtQ ok hn).1
 try dsimp only
 split <;> grind
theorem qee (ok:DlOk D) {W:List Str} {h n:Str} (hn:n∈W) (h0:n∈D.W0) (hl:h∈D.ln n):1<=ldQ D W h:=by
 have h1:=(wtQ ok h0).1
 have h2:=sumQ_one (l:=D.W0) (f:=fun n=>if n∈W/\h∈D.ln n then (D.wt n:Rat) else 0) h0 fun m hm=>by
  have:=(wtQ ok hm).1
  try dsimp only
  split <;> grind
 rw [if_pos ⟨hn,hl⟩] at h2
 show (1:Rat)<=qbz D.W0 _
 grind
theorem ldQ_split (W R:List Str) (hR:∀n∈R,n∈W) (h:Str):ldQ D W h=ldQ D R h+ldQ D (wls W R) h:=by
 unfold ldQ
 rw [<-qer]
 refine qc4 fun n hn=>?_
 try dsimp only
 have hw:n∈wls W R↔n∈W/\n∉R:=by unfold wls;rw [mem_filter];simp
 by_cases c1:h∈D.ln n
 .by_cases c2:n∈R
  .rw [if_pos ⟨hR n c2,c1⟩,if_pos ⟨c2,c1⟩,if_neg (fun z=>(hw.mp z.1).2 c2)];grind
  .by_cases c3:n∈W
   .rw [if_pos ⟨c3,c1⟩,if_neg (fun z=>c2 z.1),if_pos ⟨hw.mpr ⟨c3,c2⟩,c1⟩];grind
   .rw [if_neg (fun z=>c3 z.1),if_neg (fun z=>c2 z.1),if_neg (fun z=>c3 (hw.mp z.1).1)];grind
 .rw [if_neg (fun z=>c1 z.2),if_neg (fun z=>c1 z.2),if_neg (fun z=>c1 z.2)];grind
theorem qd0 {W:List Str} {h:Str} (hn:∀m∈W,h∉D.ln m):ldQ D W h=0:=qf0 fun n _=>by
 try dsimp only
 rw [if_neg fun z=>hn n z.1 z.2]
theorem le_div {a b c:Rat} (hc:0 < c):a<=b / c↔a*c<=b:=by
 have e:b / c*c=b:=Rat.div_mul_cancel (by grind)
 constructor
 .intro h
  have:=Rat.mul_le_mul_of_nonneg_right h (Rat.le_of_lt hc)
  grind
 .intro h
  refine Decidable.byContradiction fun n=>?_
  have n':b / c < a:=by grind
  have:=Rat.mul_lt_mul_of_pos_right n' hc
  grind
theorem div_eq {a b c:Rat} (hc:0 < c):b / c=a↔b=a*c:=by
 have e:b / c*c=b:=Rat.div_mul_cancel (by grind)
 constructor
 .intro h;grind
 .intro h
  have e2:c≠0:=by grind
  grind
end
theorem qf3 {a b:Int} (h:(a:Rat)=(b:Rat)):a=b:=by exact_mod_cast h
theorem qgd (q:Rat):(q.num:Rat)=q*((q.den:Nat):Rat):=by
 have h1:=qf2 q
 have h2:=qel q
 grind
theorem rb_of {N B:Nat} {q:Rat} (n0:0 < N) (nb:N<=10000^8) (hB:B<=10^40) (h:Dv N q) (lo: -(B:Rat)<=q) (hi:q<=(B:Rat)):RB q:=by
 obtain⟨z,hz⟩:=h
 have e:q.num*(N:Int)=z*(q.den:Int):=by
  apply qf3
  rw [Rat.intCast_mul,Rat.intCast_mul,Rat.intCast_natCast,Rat.intCast_natCast,qgd q,<-hz]
  grind
 have dd:q.den ∣ N:=by
  have h1:(q.den:Int) ∣ q.num*(N:Int):=⟨z,by rw [e,Int.mul_comm]⟩
  have h2:q.den ∣ q.num.natAbs*N:=by
   have:=Int.natAbs_dvd_natAbs.mpr h1
   rw [Int.natAbs_natCast,Int.natAbs_mul,Int.natAbs_natCast] at this
   exact this
  exact Nat.Coprime.dvd_of_dvd_mul_left q.reduced.symm h2
 have dn:q.den<=N:=Nat.le_of_dvd n0 dd
 have nz:q.num.natAbs<=z.natAbs:=by
  have h1:q.num.natAbs*N=z.natAbs*q.den:=by
   have:=congrArg Int.natAbs e
   rw [Int.natAbs_mul,Int.natAbs_mul,Int.natAbs_natCast,Int.natAbs_natCast] at this
   exact this
  have h2:q.num.natAbs*N<=z.natAbs*N:=by rw [h1];exact Nat.mul_le_mul_left _ dn
  exact Nat.le_of_mul_le_mul_right h2 n0
 have zb:z.natAbs<=B*N:=by
  have N0:(0:Rat)<=(N:Rat):=by exact_mod_cast Nat.zero_le N
  have h1:(z:Rat)<=(B:Rat)*(N:Rat):=by rw [<-hz];exact Rat.mul_le_mul_of_nonneg_right hi N0
  have h2: -(B:Rat)*(N:Rat)<=(z:Rat):=by rw [<-hz];exact Rat.mul_le_mul_of_nonneg_right lo N0
  have c:(((B*N:Nat):Int):Rat)=(B:Rat)*(N:Rat):=by rw [Rat.intCast_natCast,Rat.natCast_mul]
  have h1':z<=((B*N:Nat):Int):=by
   have:(z:Rat)<=(((B*N:Nat):Int):Rat):=by rw [c];exact h1
   exact_mod_cast this
  have h2': -((B*N:Nat):Int)<=z:=by
   have:((-((B*N:Nat):Int):Int):Rat)<=(z:Rat):=by rw [Rat.intCast_neg,c];grind
   exact_mod_cast this
  omega
 have b1:B*N<=10^40*10000^8:=Nat.mul_le_mul hB nb
 exact⟨Nat.lt_of_le_of_lt (Nat.le_trans nz (Nat.le_trans zb b1)) (by decide),Nat.lt_of_le_of_lt (Nat.le_trans dn nb) (by decide)⟩
theorem Dv.mul {N:Nat} {q:Rat} (h:Dv N q) (k:Nat):Dv (N*k) q:=by
 obtain⟨z,hz⟩:=h
 refine⟨z*(k:Int),?_⟩
 rw [Rat.intCast_mul,Rat.intCast_natCast,Rat.natCast_mul,<-hz]
 grind
theorem Dv.sub {N:Nat} {a b:Rat} (h:Dv N a) (h':Dv N b):Dv N (a - b):=by
 obtain⟨z,hz⟩:=h
 obtain⟨y,hy⟩:=h'
 exact⟨z - y,by rw [Rat.intCast_sub,<-hz,<-hy];grind⟩
theorem Dv.ints {N:Nat} {a:Rat} (h:Dv N a) (k:Int):Dv N (a*(k:Rat)):=by
 obtain⟨z,hz⟩:=h
 exact⟨z*k,by rw [Rat.intCast_mul,<-hz];grind⟩
section
variable {D: Dl}
theorem sumQ_int {f:Str->Rat}:∀{l:List Str},(∀n∈l,∃z:Int,f n=(z:Rat))->∃z:Int,qbz l f=(z:Rat)
 | [],_=>⟨0,rfl⟩
 |n :: l,h=>by
  obtain⟨a,ha⟩:=h n (mem_cons_self ..)
  obtain⟨b,hb⟩:=sumQ_int (l:=l) fun m hm=>h m (mem_cons_of_mem _ hm)
  exact⟨a+b,by show f n+qbz l f=_;rw [ha,hb,Rat.intCast_add]⟩
theorem sumQ_bd {f:Str->Rat} {B:Rat}:∀{l:List Str},(∀n∈l,f n<=B)->qbz l f<=(l.length:Rat)*B
 | [],_=>by show (0:Rat)<=((0:Nat):Rat)*B;grind
 |n :: l,h=>by
  have h1:=h n (mem_cons_self ..)
  have h2:=sumQ_bd (l:=l) fun m hm=>h m (mem_cons_of_mem _ hm)
  show f n+qbz l f<=_
  rw [length_cons,Rat.natCast_add]
  grind
theorem qfk (W:List Str) (h:Str):∃z:Int,ldQ D W h=(z:Rat):=sumQ_int fun n _=>by
 try dsimp only
 split
 .exact⟨_,rfl⟩
 .exact⟨0,rfl⟩
theorem ldQ_bd (ok:DlOk D) (W:List Str) (h:Str):ldQ D W h<=7000:=by
 have h1:=sumQ_bd (B:=1000) (l:=D.W0) (f:=fun n=>if n∈W/\h∈D.ln n then (D.wt n:Rat) else 0) fun n hn=>by
  have:=(wtQ ok hn).2
  try dsimp only
  split <;> grind
 have h2:((D.W0.length:Nat):Rat)<=7:=by exact_mod_cast ok.l8
 show qbz D.W0 _<=7000
 grind
theorem qfn (ok:DlOk D) {n:Str} (hn:n∈D.W0):goQ D n*(D.wt n:Rat)=(D.wa n:Rat):=by
 have:=(wtQ ok hn).1
 unfold goQ
 exact Rat.div_mul_cancel (by grind)
def B31:Nat:=10^31
theorem goQ_b (ok:DlOk D) {n:Str} (hn:n∈D.W0):0<=goQ D n/\goQ D n<=(B31:Rat):=by
 have h1:=(wtQ ok hn).1
 have h2:=qfn ok hn
 have a0:(0:Rat)<=(D.wa n:Rat):=by exact_mod_cast ok.a0 n hn
 have a1:(D.wa n:Rat)<=(B31:Rat):=by
  have h:D.wa n<=((B31:Nat):Int):=ok.a1 n hn
  rw [<-Rat.intCast_natCast]
  exact_mod_cast h
 have p:(0:Rat) <(D.wt n:Rat):=by grind
 have g0:0<=goQ D n:=by
  unfold goQ
  exact(le_div p).mpr (by grind)
 refine⟨g0,?_⟩
 have:=Rat.mul_le_mul_of_nonneg_left h1 g0
 grind
theorem qbk {W R:List Str} {n:Str}:n∈wls W R↔n∈W/\n∉R:=by unfold wls;rw [mem_filter];simp
theorem qbw {W:List Str} {lf:Str->Rat} {L:Rat} {n:Str}:n∈rdy D W lf L↔n∈W/\((∃h∈D.ln n,lf h / ldQ D W h=L)\/goQ D n=L):=by unfold rdy;rw [mem_filter];simp
theorem RdI.next (ok:DlOk D) {W:List Str} {lf lv:Str->Rat} {M L:Rat} {N:Nat} (I:RdI D W lf lv M N) (il:IsL D W lf L):M<=L/\L<=(B31:Rat)/\(wls W (rdy D W lf L)).length < W.length/\
  ∃N',(∃k:Nat,N'=N*k)/\Dv N' L/\RdI D (wls W (rdy D W lf L)) (lfN D lf L (rdy D W lf L)) (fun n=>if n∈rdy D W lf L then L else lv n) L N':=by
 have hsub:∀n∈rdy D W lf L,n∈W:=fun n h=>(qbw.mp h).1
 have hRW:∀n∈rdy D W lf L,n∈D.W0:=fun n h=>I.sub n (hsub n h)
 have spl:=ldQ_split (D:=D) W (rdy D W lf L) hsub
 have pos:∀n∈W,∀h∈D.ln n,(0:Rat) < ldQ D W h:=fun n hn h hl=>by
  have:=qee ok hn (I.sub n hn) hl
  grind
 have lw:∀n∈W,∀h∈D.ln n,L*ldQ D W h<=lf h:=fun n hn h hl=>(le_div (pos n hn h hl)).mp ((il.ge n hn).1 h hl)
 obtain⟨n1,hn1,c1⟩:=il.at_
 have ML:M<=L:=by
  rcases c1 with ⟨h,hl,e⟩ |e
  .have p:=pos n1 hn1 h hl
   have h1:=I.lo n1 hn1 h hl
   have h2:=(le_div p).mpr h1
   grind
  .have:=I.go n1 hn1
   grind
 have L0:0<=L:=by have:=I.m0;grind
 have Lb:L<=(B31:Rat):=by
  have h1:=(il.ge n1 hn1).2
  have h2:=(goQ_b ok (I.sub n1 hn1)).2
  grind
 have r1:n1∈rdy D W lf L:=qbw.mpr ⟨hn1,c1⟩
 have len:(wls W (rdy D W lf L)).length < W.length:=by
  unfold wls
  refine List.length_filter_lt_length_iff_exists.mpr ⟨n1,hn1,?_⟩
  simp [r1]
 have full:∀h,(∃n∈W,h∈D.ln n)->lf h / ldQ D W h=L->(∀m∈W,h∈D.ln m->m∈rdy D W lf L)/\lfN D lf L (rdy D W lf L) h=0:=fun h ⟨n,hn,hl⟩ e=>by
  have a1:∀m∈W,h∈D.ln m->m∈rdy D W lf L:=fun m hm hml=>qbw.mpr ⟨hm,.inl ⟨h,hml,e⟩⟩
  refine⟨a1,?_⟩
  have z:ldQ D (wls W (rdy D W lf L)) h=0:=qd0 fun m hm hml=>(qbk.mp hm).2 (a1 m (qbk.mp hm).1 hml)
  have s:=spl h
  have e2:=(div_eq (pos n hn h hl)).mp e
  unfold lfN
  grind
 have keep:∀h,(∀m∈W,h∉D.ln m)->lfN D lf L (rdy D W lf L) h=lf h:=fun h hm=>by
  have z:ldQ D (rdy D W lf L) h=0:=qd0 fun m hmr=>hm m (hsub m hmr)
  unfold lfN
  grind
 refine⟨ML,Lb,len,?_⟩
 obtain⟨k,k1,k2,kv⟩:∃k:Nat,1<=k/\k<=7000/\Dv (N*k) L:=by
  rcases c1 with ⟨h,hl,e⟩ |e
  .obtain⟨z,hz⟩:=qfk (D:=D) W h
   have b1:=qee ok hn1 (I.sub n1 hn1) hl
   have b2:=ldQ_bd ok W h
   rw [hz] at b1 b2
   have b1':(1:Int)<=z:=by exact_mod_cast b1
   have b2':z<=7000:=by exact_mod_cast b2
   obtain⟨y,hy⟩:=I.dl h
   have e2:=(div_eq (pos n1 hn1 h hl)).mp e
   have ez:((z.toNat:Nat):Rat)=(z:Rat):=by
    have:((z.toNat:Nat):Int)=z:=by omega
    rw [<-Rat.intCast_natCast,this]
   refine⟨z.toNat,by omega,by omega,y,?_⟩
   rw [Rat.natCast_mul,ez,<-hy,e2,hz]
   grind
  .have hw:=ok.w1 n1 (I.sub n1 hn1)
   have hw2:=ok.w2 n1 (I.sub n1 hn1)
   have gm:=qfn ok (I.sub n1 hn1)
   have ez:(((D.wt n1).toNat:Nat):Rat)=(D.wt n1:Rat):=by
    have:(((D.wt n1).toNat:Nat):Int)=D.wt n1:=by omega
    rw [<-Rat.intCast_natCast,this]
   refine⟨(D.wt n1).toNat,by omega,by omega,D.wa n1*(N:Int),?_⟩
   rw [Rat.natCast_mul,ez,Rat.intCast_mul,Rat.intCast_natCast,<-gm,<-e]
   grind
 refine⟨N*k,⟨k,rfl⟩,kv,?_⟩
 have wl7:W.length<=7:=Nat.le_trans (List.Nodup.length_le_of_subset I.nd I.sub) ok.l8
 refine⟨fun n hn=>I.sub n (qbk.mp hn).1,I.nd.filter _,fun h=>?_,fun n hn h hl=>?_,fun n hn h hl=>?_,fun n hn=>(il.ge n (qbk.mp hn).1).2,L0,fun n hn hnw=>?_,Nat.mul_pos I.n0 k1,fun h=>?_,?_⟩
 .
  unfold lfN
  rw [I.sum h]
  have:L*ldQ D (rdy D W lf L) h=qbz D.W0 fun n=>if n∈rdy D W lf L/\h∈D.ln n then L*(D.wt n:Rat) else 0:=by
   unfold ldQ
   rw [<-qeq]
   refine qc4 fun n _=>?_
   try dsimp only
   split <;> grind
  rw [this]
  have e:(qbz D.W0 fun n=>if n∉wls W (rdy D W lf L)/\h∈D.ln n then (if n∈rdy D W lf L then L else lv n)*(D.wt n:Rat) else 0)=(qbz D.W0 fun n=>if n∉W/\h∈D.ln n then lv n*(D.wt n:Rat) else 0)+qbz D.W0 fun n=>if n∈rdy D W lf L/\h∈D.ln n then L*(D.wt n:Rat) else 0:=by
   rw [<-qer]
   refine qc4 fun n _=>?_
   try dsimp only
   by_cases c:h∈D.ln n
   .by_cases c2:n∈rdy D W lf L
    .rw [if_pos ⟨fun z=>(qbk.mp z).2 c2,c⟩,if_pos c2,if_neg (fun z=>z.1 (hsub n c2)),if_pos ⟨c2,c⟩];grind
    .by_cases c3:n∈W
     .rw [if_neg (fun z=>z.1 (qbk.mpr ⟨c3,c2⟩)),if_neg (fun z=>z.1 c3),if_neg (fun z=>c2 z.1)];grind
     .rw [if_pos ⟨fun z=>c3 (qbk.mp z).1,c⟩,if_neg c2,if_pos ⟨c3,c⟩,if_neg (fun z=>c2 z.1)];grind
   .rw [if_neg (fun z=>c z.2),if_neg (fun z=>c z.2),if_neg (fun z=>c z.2)];grind
  rw [e]
  grind
 .have h1:=lw n (qbk.mp hn).1 h hl
  have s:=spl h
  unfold lfN
  rw [s] at h1
  grind
 .unfold lfN
  by_cases c:∃m∈W,h∈D.ln m
  .obtain⟨m,hm,hml⟩:=c
   have h1:=lw m hm h hml
   have h2:=ldQ_nn ok (wls W (rdy D W lf L)) h
   have s:=spl h
   have h3:=Rat.mul_nonneg L0 h2
   rw [s] at h1
   grind
  .have z:ldQ D (rdy D W lf L) h=0:=qd0 fun m hm hml=>c ⟨m,hsub m hm,hml⟩
   have e:=I.nn n hn h hl
   have e2:lf h - L*0=lf h:=by clear full keep pos lw spl;grind
   rw [z,e2]
   exact e
 .by_cases c:n∈rdy D W lf L
  .rw [if_pos c]
   obtain⟨nW,c2⟩:=qbw.mp c
   refine⟨L0,by grind,(il.ge n nW).2,?_⟩
   rcases c2 with ⟨h,hl,e⟩ |e
   .obtain⟨a1,a2⟩:=full h ⟨n,nW,hl⟩ e
    refine .inr ⟨h,hl,a2,fun m hm hml=>(qbk.mp hm).2 (a1 m (qbk.mp hm).1 hml),fun m hm hml=>?_⟩
    by_cases c3:m∈rdy D W lf L
    .rw [if_pos c3];grind
    .rw [if_neg c3]
     have hmW:m∉W:=fun z=>c3 (a1 m z hml)
     have:=(I.st m hm hmW).2.1
     grind
   .exact .inl e.symm
  .rw [if_neg c]
   have nW:n∉W:=fun z=>hnw (qbk.mpr ⟨z,c⟩)
   obtain⟨a1,a2,a3,a4⟩:=I.st n hn nW
   refine⟨a1,by grind,a3,?_⟩
   rcases a4 with e|⟨h,hl,b1,b2,b3⟩
   .exact .inl e
   .refine .inr ⟨h,hl,by rw [keep h b2];exact b1,fun m hm=>b2 m (qbk.mp hm).1,fun m hm hml=>?_⟩
    have hmW:m∉W:=fun z=>b2 m z hml
    rw [if_neg (fun z=>hmW (hsub m z))]
    exact b3 m hm hml
 .obtain⟨z,hz⟩:=qfk (D:=D) (rdy D W lf L) h
  unfold lfN
  rw [hz]
  exact((I.dl h).mul k).sub (kv.ints z)
 .have h1:=I.nb
  have:N*k<=10000^(7 - W.length)*10000:=Nat.mul_le_mul h1 (by omega)
  refine Nat.le_trans this ?_
  rw [<-Nat.pow_succ]
  exact Nat.pow_le_pow_right (by decide) (by omega)
end
structure TrD (d:Ad) (H:Hp) (t:Addr) (S:Ts) (D:Dl):Prop where
 tr:qen d H t S
 ln:∀n∈D.W0,∃e,S.at n=some e/\True/\LineOf S n (D.ln n)
theorem TrD.same {d:Ad} {H H':Hp} {t:Addr} {S:Ts} {D:Dl} (h:TrD d H t S D) (s:Same H H'):TrD d H' t S D:=⟨h.tr.same s,h.ln⟩
def qc0 (W:List Str) (g:Str->Int):Str->Option Int:=fun z=>if z∈W then some (g z) else none
theorem qbl {W:List Str} {g:Str->Int} {z:Str} (h:z∈W):qc0 W g z=some (g z):=if_pos h
theorem qc9 {W:List Str} {g:Str->Int} {z:Str}:qc0 W g z≠none↔z∈W:=by
 unfold qc0
 by_cases c:z∈W
 .rw [if_pos c];simp [c]
 .rw [if_neg c];simp [c]
theorem qdx {kvs:List (Key × V)} {W:List Str} {g:Str->Int} (h:AD kvs (qc0 W g)) (nd:W.Nodup):(qbq kvs).Perm W:=
 (List.perm_ext_iff_of_nodup h.knd nd).mpr fun z=>by rw [h.kin,qc9]
theorem qea {ss ss':List Str} (h:ss.Perm ss') (a:PyProof.Rows.sortedS ss=true) (b:PyProof.Rows.sortedS ss'=true):ss=ss':=
 List.Perm.eq_of_pairwise (le:=leS) (fun x y _ _ h1 h2=>leS_anti h1 h2) (qdz a) (qdz b) h
def Wgh (H:Hp) (S:Ts) (D:Dl) (wv:V):Prop:=(wv=.non/\∀n∈D.W0,∀e,S.at n=some e->e.x.w=D.wt n)\/∃(g tb:Addr) (kt:List (Key × V)),wv=.ref g/\WgH H g tb/\H tb=some (.dK kt)/\AD kt (qc0 D.W0 D.wt)
theorem Wgh.same {H H':Hp} {S:Ts} {D:Dl} {wv:V} (h:Wgh H S D wv) (s:Same H H'):Wgh H' S D wv:=by
 rcases h with h|⟨g,tb,kt,e,⟨cl,cd,w1,w2,w3⟩,ht,ha⟩
 .exact .inl h
 .exact .inr ⟨g,tb,kt,e,⟨cl,cd,s _ _ w1,s _ _ w2,s _ _ w3⟩,s _ _ ht,ha⟩
def w9i (K:Frag) (d:Ad):Sp:=fun vs H Q _=>∃(t dw:Addr) (wv:V) (S:Ts) (D:Dl) (kw:List (Key × V)),vs=[.ref t,.ref dw,wv]/\DlOk D/\PyProof.Rows.sortedS D.W0=true/\TrD d H t S D/\Wgh H S D wv/\H dw=some (.dK kw)/\AD kw (qc0 D.W0 D.wa)/\
 ∀l k' H',Same H H'->H l=none->H' l=some (.dK k')->AD k' (qc0 D.W0 D.wt)->Q (.ref l) H'
theorem qeb {f:Str->Option Int} {z:Str} {i:Int} (y:Str):putF' f z i y=if y=z then some i else f y:=rfl
include T in
theorem w9d:FnOk P w K mg base (My.CX1 P w) 5 d.w4d d.w3k ["tree","wants","weigh"] (w9i K d):=by
 refine okX T.w71 w40 (fun vs H Q E h=>?_) (fun cdv A outer s H vs Q E hr h=>?_)
 .obtain⟨t,dw,wv,S,D,kw,rfl,_⟩:=h;rfl
 obtain⟨t,dw,wv,S,D,kw,rfl,ok,so,hT,hg,hw,hA,q⟩:=h
 refine⟨_,(qa2 (qaf (i:=3) w40.nd rfl (Or.inl rfl) qb8)
  (qa2 (qb5 (qbv rfl rfl) rfl (qb0 (qae (qcu rfl) rfl T.w2h PyProof.Rows.boot_sorted (qa0 (pv 1) qa3))) (qac (i:=4) w40.nd rfl (Or.inl rfl)) (qa5 (qbp (qau hr) (pv 3) (pv 4) (pe_ifExp (qal op_isNN (pv 2) qe3 (qas _)) (qaz (pv 0) T.w02 T.w0q ((w6b T).mono (by decide)) hr T.w78 .nil qar (qa0 (pv 4) qa3)) (pe_wg mo_w hr (i:=2) rfl (Or.inl rfl) (qa0 (pv 4) qa3))) rfl)))
  (qa5 (qad (pv 3))))),?_⟩
 walk_at "d"
 refine qab (σ:=[some (.ref t),some (.ref dw),some (wv),none,none]) rfl ?_
 have ct:=T.w02
 have l8:=ok.l8
 have kp:=qdx hA ok.nd
 walk_at "g"
 rename_i l hl
 have s1:=qa7 hl (.dK [])
 have el:upd H l (.dK []) l=some (.dK []):=qa1
 generalize upd H l (.dK [])=H1 at*
 refine qf4 (ss:=qbq kw) (.inl (s1 _ _ hw)) hA.keys (by have:=kp.length_eq;omega) fun ls ss hls hp hs=>?_
 have ess:ss=D.W0:=qea (hp.trans kp) hs so
 subst ess
 have s2:=s1.trans (qa7 hls (.lst (D.W0.map V.str)))
 have els:upd H1 ls (.lst (D.W0.map V.str)) ls=some (.lst (D.W0.map V.str)):=qa1
 have el2:=qaa (o':=.lst (D.W0.map V.str)) el hls
 have hls0:H ls=none:=s1.free hls
 generalize upd H1 ls (.lst (D.W0.map V.str))=H2 at*
 have nls:l≠ls:=fun e=>by subst e;rw [el] at hls;cases hls
 clear el hls s1
 walk_at "g"
 refine qcc (xs:=D.W0.map V.str) (fun i σ H'=>∃(k':List (Key × V)) (w:Option V),σ=[some (.ref t),some (.ref dw),some wv,some (.ref l),w]/\Same H H'/\H' ls=some (.lst (D.W0.map V.str))/\H' l=some (.dK k')/\AD k' (qc0 (D.W0.take i) D.wt)/\k'.length<=i) ⟨[],none,rfl,s2,els,el2,AD.nil.cast fun z=>rfl,Nat.le_refl _⟩ ?_ ?_ ?_
 .rintro i σ H' _ ⟨k',w,rfl,_,e,_⟩;exact SqL.of e
 .rintro i v σ H' hv ⟨k',w,rfl,sm,es,ed,hK,hk⟩
  rw [getElem?_map] at hv
  obtain⟨n,hn,rfl⟩:=Option.map_eq_some_iff.mp hv
  have hi:=(List.getElem?_eq_some_iff.mp hn).1
  have hn0:=mem_of_getElem? hn
  obtain⟨e,ae,ew,_⟩:=hT.ln n hn0
  obtain⟨dx,ht⟩:=id (hT.tr.same sm).1
  have zk:k'.length < sizeLine:=by show _ < 16777216;omega
  clear hv
  rcases hg.same sm with ⟨rfl,hg2⟩ |⟨g,tb,kt,rfl,hW,htb,hKt⟩
  .walk_at "g"
   refine⟨t,S,.str n,rfl,hT.tr.same sm,.inl ⟨_,rfl⟩,fun e1 he1=>?_,fun hx=>?_⟩
   rotate_left
   .rw [show who S (.str n)=some e from ae] at hx;cases hx
   have ee:e=e1:=Option.some.inj (ae.symm.trans he1)
   subst ee
   rw [hg2 n hn0 e ae]
   walk_at "g"
   have lput:=qax k' (Sum.inr n) (.int (D.wt n))
   refine⟨_,_,rfl,qb4 sm hl,by rw [qa6 nls.symm];exact es,qa1,(hK.put n (D.wt n)).cast fun z=>?_,by omega⟩
   rw [qeb]
   unfold qc0
   have tk:z∈D.W0.take (i+1)↔z∈D.W0.take i\/z=n:=qam hn z
   by_cases c:z=n
   .rw [if_pos c,if_pos (tk.mpr (.inr c)),c]
   .rw [if_neg c]
    by_cases c2:z∈D.W0.take i
    .rw [if_pos c2,if_pos (tk.mpr (.inl c2))]
    .rw [if_neg c2,if_neg fun h=>(tk.mp h).elim c2 c]
  .have hWR:=hW
   have hRt:Rd H' tb (.dK kt):=.inl htb
   walk_at "g"
   refine⟨g,tb,rfl,hW,?_⟩
   walk_at "g"
   refine⟨_,.int (D.wt n),rfl,hW,.inl ⟨kt,.inr n,hRt,rfl,?_⟩,?_⟩
   .rw [hKt.get,qbl hn0];rfl
   walk_at "g"
   have lput:=qax k' (Sum.inr n) (.int (D.wt n))
   refine⟨_,_,rfl,qb4 sm hl,by rw [qa6 nls.symm];exact es,qa1,(hK.put n (D.wt n)).cast fun z=>?_,by omega⟩
   rw [qeb]
   unfold qc0
   have tk:z∈D.W0.take (i+1)↔z∈D.W0.take i\/z=n:=qam hn z
   by_cases c:z=n
   .rw [if_pos c,if_pos (tk.mpr (.inr c)),c]
   .rw [if_neg c]
    by_cases c2:z∈D.W0.take i
    .rw [if_pos c2,if_pos (tk.mpr (.inl c2))]
    .rw [if_neg c2,if_neg fun h=>(tk.mp h).elim c2 c]
 rintro σ H' ⟨k',w,rfl,sm,es,ed,hK,hk⟩
 rw [length_map,take_length] at hK
 walk_at "g"
 exact q l k' H' sm hl ed hK
def ldI (D:Dl) (W:List Str) (h:Str):Int:=(W.map fun n=>if h∈D.ln n then D.wt n else 0).sum
open Classical in
noncomputable def ldF (D:Dl) (W:List Str):Str->Option Int:=fun h=>if ∃n∈W,h∈D.ln n then some (ldI D W h) else none
theorem ldI_none {D:Dl} {W:List Str} {h:Str} (hn:¬∃n∈W,h∈D.ln n):ldI D W h=0:=by
 unfold ldI
 induction W with
 |nil=>rfl
 |cons n W ih=>
  rw [map_cons,sum_cons,if_neg fun z=>hn ⟨n,mem_cons_self ..,z⟩,ih fun⟨m,hm,hl⟩=>hn ⟨m,mem_cons_of_mem _ hm,hl⟩]
  rfl
theorem gN_ldF (D:Dl) (W:List Str) (h:Str):gN (ldF D W) h=ldI D W h:=by
 unfold gN ldF
 by_cases c:∃n∈W,h∈D.ln n
 .rw [if_pos c];rfl
 .rw [if_neg c,ldI_none c];rfl
theorem ldI_app (D:Dl) (W:List Str) (n h:Str):ldI D (W++ [n]) h=ldI D W h+if h∈D.ln n then D.wt n else 0:=by
 unfold ldI
 rw [map_append,List.sum_append]
 simp
def wc4 (K:Frag) (d:Ad):Sp:=fun vs H Q _=>∃(t dg lw:Addr) (S:Ts) (D:Dl) (kg:List (Key × V)) (W:List Str),vs=[.ref t,.ref dg,.ref lw]/\DlOk D/\TrD d H t S D/\H dg=some (.dK kg)/\AD kg (qc0 D.W0 D.wt)/\H lw=some (.lst (W.map V.str))/\(∀n∈W,n∈D.W0)/\W.length<=7/\
 ∀l k' H',Same H H'->H l=none->H' l=some (.dK k')->AD k' (ldF D W)->k'.length<=200->Q (.ref l) H'
include T in
theorem wbn:FnOk P w K mg base (My.CX1 P w) 6 d.w6f d.w5e ["tree","weights","waiting"] (wc4 K d):=by
 refine okX T.w8z w3v (fun vs H Q E h=>?_) (fun cdv A outer s H vs Q E hr h=>?_)
 .obtain⟨t,dg,lw,S,D,kg,W,rfl,_⟩:=h;rfl
 obtain⟨t,dg,lw,S,D,kg,W,rfl,ok,hT,hg,hA,hW,sub,w7,q⟩:=h
 refine⟨_,(qa2 (qaf (i:=3) w3v.nd rfl (Or.inl rfl) qb8)
  (qa2 (qb5 (qbv rfl rfl) rfl (qb0 (pv 2)) (qac (i:=4) w3v.nd rfl (Or.inl rfl)) (qa5 (qb5 (qbv rfl rfl) rfl (qb0 (qaz (pv 0) T.w02 T.w0z ((w2y T).mono (by decide)) hr T.w3t .nil qar (qa0 (pv 4) qa3))) (qac (i:=5) w3v.nd rfl (Or.inl rfl)) (qa5 (qbp (qau hr) (pv 3) (pv 5) (qag qby (pe_dget2 (qau hr) (pv 3) (pv 5) qa4 ⟨rfl,rfl,rfl,rfl⟩) (qat (qau hr) (pv 1) (pv 4) (fun _ _=>rfl))) rfl)))))
  (qa5 (qad (pv 3))))),?_⟩
 walk_at "d"
 refine qab (σ:=[some (.ref t),some (.ref dg),some (.ref lw),none,none,none]) rfl ?_
 have ct:=T.w02
 walk_at "g"
 rename_i l hl
 have s1:=qa7 hl (.dK [])
 have el:upd H l (.dK []) l=some (.dK []):=qa1
 generalize upd H l (.dK [])=H1 at*
 have nlw:lw≠l:=qa9 hW hl
 have ndg:dg≠l:=qa9 hg hl
 refine qcc (xs:=W.map V.str) (fun i σ H'=>∃(k':List (Key × V)) (w1 w2:Option V),σ=[some (.ref t),some (.ref dg),some (.ref lw),some (.ref l),w1,w2]/\Same H H'/\H' l=some (.dK k')/\AD k' (ldF D (W.take i))/\k'.length<=20*i) ⟨[],none,none,rfl,s1,el,AD.nil.cast fun z=>?_,Nat.le_refl _⟩ ?_ ?_ ?_
 .unfold ldF
  rw [if_neg fun⟨n,hn,_⟩=>by simp at hn];rfl
 .rintro i σ H' _ ⟨k',w1,w2,rfl,sm,_⟩;exact SqL.of (sm _ _ hW)
 .rintro i v σ H' hv ⟨k',w1,w2,rfl,sm,ed,hK,hk⟩
  rw [getElem?_map] at hv
  obtain⟨n,hn,rfl⟩:=Option.map_eq_some_iff.mp hv
  have hi:=(List.getElem?_eq_some_iff.mp hn).1
  have hn0:=sub n (mem_of_getElem? hn)
  obtain⟨e,ae,ew,hln⟩:=hT.ln n hn0
  obtain⟨dx,ht⟩:=id (hT.tr.same sm).1
  have lz:=ok.lz n hn0
  have lnd:=ok.ld n hn0
  have etk:W.take (i+1)=W.take i++ [n]:=by rw [take_add_one,hn];rfl
  clear hv
  walk_at "g"
  refine⟨t,S,.str n,rfl,hT.tr.same sm,.inl ⟨n,_,rfl,hln,by omega,fun ll hll=>?_⟩⟩
  have s2:=sm.trans (qa7 hll (.lst ((D.ln n).map V.str)))
  have ell:upd H' ll (.lst ((D.ln n).map V.str)) ll=some (.lst ((D.ln n).map V.str)):=qa1
  have ed2:=qaa (o':=.lst ((D.ln n).map V.str)) ed hll
  have nll:ll≠l:=fun z=>by subst z;rw [ed] at hll;cases hll
  generalize upd H' ll (.lst ((D.ln n).map V.str))=H2 at*
  clear hll ed
  walk_at "g"
  refine qcc (xs:=(D.ln n).map V.str) (fun j σ H'=>∃(k2:List (Key × V)) (w2:Option V),σ=[some (.ref t),some (.ref dg),some (.ref lw),some (.ref l),some (.str n),w2]/\Same H H'/\H' ll=some (.lst ((D.ln n).map V.str))/\H' l=some (.dK k2)/\AD k2 (fun h=>if h∈(D.ln n).take j then some (ldI D (W.take i) h+D.wt n) else ldF D (W.take i) h)/\k2.length<=20*i+j) ⟨k',w2,rfl,s2,ell,ed2,hK.cast fun z=>by simp,by omega⟩ ?_ ?_ ?_
  .rintro j σ H' _ ⟨k2,w2,rfl,_,e,_⟩;exact SqL.of e
  .rintro j v σ H3 hv ⟨k2,w2,rfl,s3,el3,ed3,hK3,hk3⟩
   rw [getElem?_map] at hv
   obtain⟨h,hh,rfl⟩:=Option.map_eq_some_iff.mp hv
   have hj:=(List.getElem?_eq_some_iff.mp hh).1
   have hnt:h∉(D.ln n).take j:=qet lnd hh
   have hRd:Rd H3 l (.dK k2):=.inl ed3
   have hRg:Rd H3 dg (.dK kg):=.inl (s3 _ _ hg)
   have gl:gN (fun h=>if h∈(D.ln n).take j then some (ldI D (W.take i) h+D.wt n) else ldF D (W.take i) h) h=ldI D (W.take i) h:=by
    unfold gN
    dsimp only
    rw [if_neg hnt]
    exact gN_ldF D (W.take i) h
   have gw:qc0 D.W0 D.wt n=some (D.wt n):=qbl hn0
   have zk:k2.length < sizeLine:=by show _ < 16777216;omega
   clear hv
   walk_at "g"
   rw [gl]
   have lput:=qax k2 (Sum.inr h) (.int (ldI D (W.take i) h+D.wt n))
   refine⟨_,_,rfl,qb4 s3 hl,by rw [qa6 nll];exact el3,qa1,(hK3.put h _).cast fun z=>?_,by omega⟩
   rw [qeb]
   have tk:z∈(D.ln n).take (j+1)↔z∈(D.ln n).take j\/z=h:=qam hh z
   by_cases c:z=h
   .rw [if_pos c,if_pos (tk.mpr (.inr c)),c]
   .rw [if_neg c]
    by_cases c2:z∈(D.ln n).take j
    .rw [if_pos c2,if_pos (tk.mpr (.inl c2))]
    .rw [if_neg c2,if_neg fun h'=>(tk.mp h').elim c2 c]
  .rintro σ H3 ⟨k2,w2',rfl,s3,el3,ed3,hK3,hk3⟩
   rw [length_map,take_length] at hK3
   refine⟨k2,_,_,rfl,s3,ed3,hK3.cast fun z=>?_,by rw [length_map] at hk3;omega⟩
   rw [etk]
   unfold ldF
   rw [ldI_app]
   by_cases c:z∈D.ln n
   .rw [if_pos c,if_pos ⟨n,mem_append_right _ (mem_singleton.mpr rfl),c⟩,if_pos c]
   .rw [if_neg c,if_neg c,Int.add_zero]
    by_cases c2:∃m∈W.take i,z∈D.ln m
    .obtain⟨m,hm,hml⟩:=c2
     rw [if_pos ⟨m,hm,hml⟩,if_pos ⟨m,mem_append_left _ hm,hml⟩]
    .rw [if_neg c2,if_neg ?_]
     rintro⟨m,hm,hml⟩
     rcases mem_append.mp hm with h|h
     .exact c2 ⟨m,h,hml⟩
     .have:m=n:=by simpa using h
      exact c (this ▸ hml)
 .rintro σ H' ⟨k',w1,w2,rfl,sm,ed,hK,hk⟩
  rw [length_map,take_length] at hK
  walk_at "g"
  exact q l k' H' sm hl ed hK (by rw [length_map] at hk;omega)
def FrL (H:Hp) (ps:List (Addr × Rat)):Prop:=∀p∈ps,qbm H p.1 p.2/\RB p.2
def wbm (K:Frag) (d:Ad):Sp:=fun vs H Q _=>∃(lm:Addr) (ps:List (Addr × Rat)),vs=[.ref lm]/\H lm=some (.lst (ps.map fun p=>V.ref p.1))/\FrL H ps/\ps≠ []/\∀p∈ps,(∀p'∈ps,p.2<=p'.2)->Q (.ref p.1) H
include T in
theorem wbu:FnOk P w K mg base CX0 2 d.w6o d.w57 ["many"] (wbm K d):=by
 refine T.w8u.ok w3j (fun vs H Q E h=>?_) (fun cdv A outer s H vs Q E hr h=>?_)
 .obtain⟨lm,ps,rfl,_⟩:=h;rfl
 obtain⟨lm,ps,rfl,hl,hf,ne,q⟩:=h
 refine⟨_,(qa2 (qaf (i:=1) w3j.nd rfl (Or.inl rfl) (qai qan (pv 0) qa4 (fun _ _=>rfl)))
  (qa2 (qb5 PassesOwn.never rfl (qb0 (pv 0)) (qac (i:=2) w3j.nd rfl (Or.inl rfl)) (qa5 (qd6 (qbb (qbn (qah ((wf5 T).mono (by decide)) hr rfl T.wh6 T.wev.kp T.wgi .nil qaw (qa0 (pv 2) (qa0 (pv 1) qa3)))) (qa5 (qaf (i:=1) w3j.nd rfl (Or.inl rfl) (pv 2))) qaq))))
  (qa5 (qad (pv 1))))),?_⟩
 walk_at "d"
 refine qab (σ:=[some (.ref lm),none,none]) rfl ?_
 have l0:0 < ps.length:=List.length_pos_iff.mpr ne
 have x0:atI (ps.map fun p=>V.ref p.1) 0=some (.ref ps[0].1):=qc7 (j:=0) (by rw [getElem?_map,getElem?_eq_getElem l0];rfl)
 walk_at "g"
 refine qcr (SqL.of hl) x0 ?_
 walk_at "g"
 refine qcc (xs:=ps.map fun p=>V.ref p.1) (fun i σ H'=>∃(p:Addr × Rat) (w:Option V),σ=[some (.ref lm),some (.ref p.1),w]/\H'=H/\p∈ps/\∀p'∈ps.take i,p.2<=p'.2) ⟨ps[0],none,rfl,rfl,getElem_mem l0,fun p' h=>by simp at h⟩ ?_ ?_ ?_
 .rintro i σ H' _ ⟨p,w,rfl,rfl,_⟩;exact SqL.of hl
 .rintro i v σ H' hv ⟨p,w,rfl,rfl,hp,hle⟩
  rw [getElem?_map] at hv
  obtain⟨p',hp',rfl⟩:=Option.map_eq_some_iff.mp hv
  have hm':=mem_of_getElem? hp'
  have tk:∀x∈ps.take (i+1),x∈ps.take i\/x=p':=fun x hx=>by
   rw [take_add_one,hp'] at hx
   rcases mem_append.mp hx with h|h
   .exact .inl h
   .exact .inr (by simpa using h)
  clear hv
  walk_at "g"
  refine qf6 ?_
  walk_at "g"
  refine⟨p'.1,p.1,p'.2,p.2,rfl,(hf p' hm').1,(hf p hp).1,(hf p' hm').2,(hf p hp).2,?_⟩
  by_cases c:p'.2 < p.2
  .rw [decide_eq_true c]
   walk_at "g"
   refine⟨p',_,rfl,rfl,hm',fun x hx=>?_⟩
   rcases tk x hx with h|rfl
   .have:=hle x h
    grind
   .grind
  .rw [decide_eq_false c]
   walk_at "g"
   refine⟨p,_,rfl,rfl,hp,fun x hx=>?_⟩
   rcases tk x hx with h|rfl
   .exact hle x h
   .grind
 .rintro σ H' ⟨p,w,rfl,rfl,hp,hle⟩
  rw [length_map,take_length] at hle
  walk_at "g"
  exact q p hp hle
structure FD (H:Hp) (kvs:List (Key × V)) (φ:Str->Option Rat):Prop where
 nd:(kvs.map (·.1)).Nodup
 sh:∀p∈kvs,∃z a q,p=(Sum.inr z,V.ref a)/\qbm H a q/\φ z=some q
 no:∀z,φ z=none->qce kvs (Sum.inr z)=none
 get:∀z q,φ z=some q->∃a,qce kvs (Sum.inr z)=some (.ref a)/\qbm H a q
def qc1 (H H':Hp):Prop:=∀a xs,H a=some (.tup xs)->H' a=some (.tup xs)
theorem qc1.of {H H':Hp} (s:Same H H'):qc1 H H':=fun a xs h=>s _ _ h
theorem qc1.upd {H:Hp} {a:Addr} {o u:HO} (h:H a=some u) (n:∀xs,u≠ .tup xs):qc1 H (L2.upd H a o):=fun b xs hb=>by
 rw [qa6 (fun e=>by subst e;rw [h] at hb;exact n xs (Option.some.inj hb))]
 exact hb
theorem qc1.trans {H H' H'':Hp} (h:qc1 H H') (h':qc1 H' H''):qc1 H H'':=fun a xs e=>h' _ _ (h _ _ e)
theorem FD.nil {H:Hp}:FD H [] (fun _=>none):=⟨nodup_nil,fun p hp=>absurd hp (by simp),fun z _=>rfl,fun z q h=>by cases h⟩
theorem FD.t {H H':Hp} {kvs:List (Key × V)} {φ:Str->Option Rat} (h:FD H kvs φ) (t:qc1 H H'):FD H' kvs φ:=⟨h.nd,fun p hp=>by
 obtain⟨z,a,q,e1,e2,e3⟩:=h.sh p hp
 exact⟨z,a,q,e1,t _ _ e2,e3⟩,h.no,fun z q e=>by
 obtain⟨a,e1,e2⟩:=h.get z q e
 exact⟨a,e1,t _ _ e2⟩⟩
theorem FD.cast {H:Hp} {kvs:List (Key × V)} {φ ψ:Str->Option Rat} (h:FD H kvs φ) (e:∀z,φ z=ψ z):FD H kvs ψ:=by
 rw [show ψ=φ from funext fun z=>(e z).symm];exact h
theorem FD.put {H:Hp} {kvs:List (Key × V)} {φ:Str->Option Rat} (h:FD H kvs φ) (z:Str) {a:Addr} {q:Rat} (ha:qbm H a q):FD H (qc3 kvs (Sum.inr z) (.ref a)) (fun y=>if y=z then some q else φ y):=by
 refine⟨?_,fun p hp=>?_,fun y hy=>?_,fun y r hy=>?_⟩
 .cases c:qce kvs (Sum.inr z) with
  |none=>exact nd_putK _ h.nd c
  |some v=>rw [qe1 (by rw [c];simp)];exact h.nd
 .have hd:((qc3 kvs (Sum.inr z) (.ref a)).map (·.1)).Nodup:=by
   cases c:qce kvs (Sum.inr z) with
   |none=>exact nd_putK _ h.nd c
   |some v=>rw [qe1 (by rw [c];simp)];exact h.nd
  rcases putK_mem hp with rfl|hp'
  .exact⟨z,a,q,rfl,ha,if_pos rfl⟩
  .obtain⟨y,b,r,e1,e2,e3⟩:=h.sh p hp'
   by_cases c:y=z
   .subst c
    have hv:qce (qc3 kvs (Sum.inr y) (.ref a)) (Sum.inr y)=some (.ref a):=by rw [qep,if_pos rfl]
    have hv2:=qex hd (k:=Sum.inr y) (v:=.ref b) (by rw [<-e1];exact hp)
    rw [hv] at hv2
    have:a=b:=by injection hv2 with h1;injection h1
    subst this
    exact⟨y,a,q,e1,ha,if_pos rfl⟩
   .exact⟨y,b,r,e1,e2,by rw [if_neg c];exact e3⟩
 .by_cases c:y=z
  .rw [if_pos c] at hy;cases hy
  .rw [if_neg c] at hy
   rw [qep,if_neg (fun e=>c (Sum.inr.inj e))]
   exact h.no y hy
 .rw [qep]
  by_cases c:y=z
  .rw [if_pos c] at hy
   cases hy
   exact⟨a,by rw [if_pos (by rw [c])],ha⟩
  .rw [if_neg c] at hy
   rw [if_neg (fun e=>c (Sum.inr.inj e))]
   exact h.get y r hy
theorem r_dgF {H:Hp} {Q:VK} {a:Addr} {kvs:List (Key × V)} {φ:Str->Option Rat} {z:Str} {q:Rat} (d:Rd H a (.dK kvs)) (A:FD H kvs φ) (e:φ z=some q) (h:∀b,qbm H b q->Q (.ref b) H):rDGk (.ref a) (.str z) H Q:=by
 obtain⟨b,e1,e2⟩:=A.get z q e
 exact⟨a,.ref b,rfl,.inl ⟨kvs,Sum.inr z,d,rfl,e1.symm⟩,h b e2⟩
theorem fr_int {H:Hp} {a:Addr} {z:Int} (h:H a=some (.tup [.int z,.int 1])):qbm H a (z:Rat):=h
theorem rb_int {z:Int} (h:z.natAbs < 2^290):RB (z:Rat):=⟨h,by show 1 < 2^290;decide⟩
def domQ (W:List Str) (g:Str->Rat):Str->Option Rat:=fun z=>if z∈W then some (g z) else none
def fsD (t dg lw dl dgo:Addr):List (Str × V):=[("tree",.ref t),("weights",.ref dg),("waiting",.ref lw),("left",.ref dl),("goals",.ref dgo)]
def fs2 (t dg:Addr):List (Str × V):=[("tree",.ref t),("weights",.ref dg)]
def fs3 (t dg lw:Addr):List (Str × V):=[("tree",.ref t),("weights",.ref dg),("waiting",.ref lw)]
def fs4 (t dg lw dl:Addr):List (Str × V):=[("tree",.ref t),("weights",.ref dg),("waiting",.ref lw),("left",.ref dl)]
def Sb2 (x y:Addr) (H H':Hp):Prop:=∀b u,b≠x->b≠y->H b=some u->H' b=some u
theorem Sb2.same {x y:Addr} {H H' H'':Hp} (s:Sb2 x y H H') (s':Same H' H''):Sb2 x y H H'':=fun b u n1 n2 e=>s' _ _ (s b u n1 n2 e)
def w8f (K:Frag) (d:Ad):Sp:=fun vs H Q _=>∃(x dx t dr dw dg:Addr) (D:Dl) (HS:List Str) (kr kw kg:List (Key × V)),vs=[.ref x,.ref t,.ref dr,.ref dw,.ref dg]/\H x=some (.ins d.w00 dx [])/\DlOk D/\PyProof.Rows.sortedS D.W0=true/\
 H dr=some (.dK kr)/\AD kr (qc0 HS D.rm)/\HS.Nodup/\HS.length<=60/\H dw=some (.dK kw)/\AD kw (qc0 D.W0 D.wa)/\H dg=some (.dK kg)/\AD kg (qc0 D.W0 D.wt)/\dg≠dw/\
 ∀(lw dl dgo:Addr) (kl kgo:List (Key × V)) H',SameBut x H H'->H lw=none->H dl=none->H dgo=none->dl≠dgo->H' x=some (.ins d.w00 dx (fsD t dg lw dl dgo))->H' lw=some (.lst (D.W0.map V.str))->H' dl=some (.dK kl)->FD H' kl (domQ HS fun h=>(D.rm h:Rat))->kl.length<=60->H' dgo=some (.dK kgo)->FD H' kgo (domQ D.W0 (goQ D))->Q .non H'
include T in
theorem w7z:FnOk P w K mg base (My.CX1 P w) 4 d.w34 d.w2x ["self","tree","rooms","wants","weights"] (w8f K d):=by
 refine okX T.w8n w2r (fun vs H Q E h=>?_) (fun cdv A outer s H vs Q E hr h=>?_)
 .obtain⟨x,dx,t,dr,dw,dg,D,HS,kr,kw,kg,rfl,_⟩:=h;rfl
 obtain⟨x,dx,t,dr,dw,dg,D,HS,kr,kw,kg,rfl,hx,ok,so,hr0,hrA,hnd,h60,hw,hwA,hg,hgA,ngd,q⟩:=h
 refine⟨_,(qa2 (qd2 (pv 0) (pv 1) rfl)
  (qa2 (qd2 (pv 0) (pv 4) rfl)
  (qa2 (qd2 (pv 0) (qae (qcu rfl) rfl T.w2h PyProof.Rows.boot_sorted (qa0 (pv 3) qa3)) rfl)
  (qa2 (qd2 (pv 0) qb8 rfl)
  (qa2 (qd2 (pv 0) qb8 rfl)
  (qa2 (qdn (qb5 (qbv rfl rfl) rfl (qch (pv 2)) (qac (i:=5) w2r.nd rfl (Or.inl rfl)) (qa5 (qbp (qau hr) (qay (pv 0) rfl) (pv 5) (qdo (qa0 (qat (qau hr) (pv 2) (pv 5) (fun _ _=>rfl)) (qa0 qa4 qa3))) rfl))))
  (qa5 (qdn (qb5 (qbv rfl rfl) rfl (qch (pv 3)) (qac (i:=6) w2r.nd rfl (Or.inl rfl)) (qa5 (qbp (qau hr) (qay (pv 0) rfl) (pv 6) (qav ((w41 T).mono (by decide)) hr rfl T.w4w T.w3a.kp T.w4x .nil qar (qa0 (qat (qau hr) (pv 3) (pv 6) (fun _ _=>rfl)) (qa0 (qat (qau hr) (pv 4) (pv 6) (fun _ _=>rfl)) qa3))) rfl))))))))))),?_⟩
 walk_at "d"
 refine qab (σ:=[some (.ref x),some (.ref t),some (.ref dr),some (.ref dw),some (.ref dg),none,none]) rfl ?_
 have cl:=T.w0e
 have n1:qap K d.w00 "tree":=T.w0d
 have n2:qap K d.w00 "weights":=T.w09
 have n3:qap K d.w00 "waiting":=T.w04
 have n4:qap K d.w00 "left":=T.w0h
 have n5:qap K d.w00 "goals":=T.w0f
 have l8:=ok.l8
 have kp:=qdx hwA ok.nd
 have kpr:=qdx hrA hnd
 have nxw:dw≠x:=fun e=>by subst e;rw [hx] at hw;cases hw
 have nxr:dr≠x:=fun e=>by subst e;rw [hx] at hr0;cases hr0
 have nxg:dg≠x:=fun e=>by subst e;rw [hx] at hg;cases hg
 walk_at "g"
 refine qfy qa1 cl n2 (by show 1 < 1000;decide) ?_
 have ef:qec "weights" (.ref dg) (qec "tree" (.ref t) [])=(fs2 t dg):=rfl
 rw [ef,qcw]
 have sb1:SameBut x H (upd H x (.ins d.w00 dx (fs2 t dg))):=fun b u hb e=>by rw [qa6 hb];exact e
 have ex1:upd H x (.ins d.w00 dx (fs2 t dg)) x=some (.ins d.w00 dx (fs2 t dg)):=qa1
 have fr1:∀b,upd H x (.ins d.w00 dx (fs2 t dg)) b=none->H b=none:=fun b hb=>by
  by_cases c:b=x
  .subst c;rw [qa1] at hb;cases hb
  .rw [qa6 c] at hb;exact hb
 generalize upd H x (.ins d.w00 dx (fs2 t dg))=H1 at*
 have hw1:=sb1 _ _ nxw hw
 walk_at "g"
 refine qf4 (ss:=qbq kw) (.inl hw1) hwA.keys (by have:=kp.length_eq;omega) fun lw ss hlw hp hs=>?_
 have ess:ss=D.W0:=qea (hp.trans kp) hs so
 subst ess
 have s2:=qa7 hlw (.lst (D.W0.map V.str))
 have ew2:upd H1 lw (.lst (D.W0.map V.str)) lw=some (.lst (D.W0.map V.str)):=qa1
 have flw:=fr1 lw hlw
 generalize upd H1 lw (.lst (D.W0.map V.str))=H2 at*
 have ex2:=s2 _ _ ex1
 have nlx:lw≠x:=fun e=>by subst e;rw [ex1] at hlw;cases hlw
 walk_at "g"
 refine qfy ex2 cl n3 (by show 2 < 1000;decide) ?_
 rw [show qec "waiting" (.ref lw) (fs2 t dg)=(fs3 t dg lw) from rfl]
 have sb3:SameBut x H (upd H2 x (.ins d.w00 dx (fs3 t dg lw))):=fun b u hb e=>by rw [qa6 hb];exact s2 _ _ (sb1 _ _ hb e)
 have ex3:upd H2 x (.ins d.w00 dx (fs3 t dg lw)) x=some (.ins d.w00 dx (fs3 t dg lw)):=qa1
 have ew3:upd H2 x (.ins d.w00 dx (fs3 t dg lw)) lw=some (.lst (D.W0.map V.str)):=by rw [qa6 nlx];exact ew2
 have fr3:∀b,upd H2 x (.ins d.w00 dx (fs3 t dg lw)) b=none->H b=none:=fun b hb=>by
  by_cases c:b=x
  .subst c;rw [qa1] at hb;cases hb
  .rw [qa6 c] at hb
   exact fr1 b (s2.free hb)
 generalize upd H2 x (.ins d.w00 dx (fs3 t dg lw))=H3 at*
 clear ex1 ex2 s2 sb1 fr1 hlw ew2 hw1
 walk_at "g"
 rename_i dl hdl
 have s4:=qa7 hdl (.dK [])
 have el4:upd H3 dl (.dK []) dl=some (.dK []):=qa1
 have fdl:=fr3 dl hdl
 generalize upd H3 dl (.dK [])=H4 at*
 have ex4:=s4 _ _ ex3
 have ndx:dl≠x:=fun e=>by subst e;rw [ex3] at hdl;cases hdl
 refine qfy ex4 cl n4 (by show 3 < 1000;decide) ?_
 rw [show qec "left" (.ref dl) (fs3 t dg lw)=(fs4 t dg lw dl) from rfl]
 have sb5:SameBut x H (upd H4 x (.ins d.w00 dx (fs4 t dg lw dl))):=fun b u hb e=>by rw [qa6 hb];exact s4 _ _ (sb3 _ _ hb e)
 have ex5:upd H4 x (.ins d.w00 dx (fs4 t dg lw dl)) x=some (.ins d.w00 dx (fs4 t dg lw dl)):=qa1
 have ew5:upd H4 x (.ins d.w00 dx (fs4 t dg lw dl)) lw=some (.lst (D.W0.map V.str)):=by rw [qa6 nlx];exact s4 _ _ ew3
 have el5:upd H4 x (.ins d.w00 dx (fs4 t dg lw dl)) dl=some (.dK []):=by rw [qa6 ndx];exact el4
 have fr5:∀b,upd H4 x (.ins d.w00 dx (fs4 t dg lw dl)) b=none->H b=none:=fun b hb=>by
  by_cases c:b=x
  .subst c;rw [qa1] at hb;cases hb
  .rw [qa6 c] at hb
   exact fr3 b (s4.free hb)
 generalize upd H4 x (.ins d.w00 dx (fs4 t dg lw dl))=H5 at*
 clear ex3 ex4 s4 sb3 fr3 hdl ew3 el4
 walk_at "g"
 rename_i dgo hdgo
 have s6:=qa7 hdgo (.dK [])
 have eg6:upd H5 dgo (.dK []) dgo=some (.dK []):=qa1
 have fdgo:=fr5 dgo hdgo
 generalize upd H5 dgo (.dK [])=H6 at*
 have ex6:=s6 _ _ ex5
 have ngx:dgo≠x:=fun e=>by subst e;rw [ex5] at hdgo;cases hdgo
 have ngl:dl≠dgo:=fun e=>by subst e;rw [el5] at hdgo;cases hdgo
 refine qfy ex6 cl n5 (by show 4 < 1000;decide) ?_
 rw [show qec "goals" (.ref dgo) (fs4 t dg lw dl)=fsD t dg lw dl dgo from rfl]
 have sb7:SameBut x H (upd H6 x (.ins d.w00 dx (fsD t dg lw dl dgo))):=fun b u hb e=>by rw [qa6 hb];exact s6 _ _ (sb5 _ _ hb e)
 have ex7:upd H6 x (.ins d.w00 dx (fsD t dg lw dl dgo)) x=some (.ins d.w00 dx (fsD t dg lw dl dgo)):=qa1
 have ew7:upd H6 x (.ins d.w00 dx (fsD t dg lw dl dgo)) lw=some (.lst (D.W0.map V.str)):=by rw [qa6 nlx];exact s6 _ _ ew5
 have el7:upd H6 x (.ins d.w00 dx (fsD t dg lw dl dgo)) dl=some (.dK []):=by rw [qa6 ndx];exact s6 _ _ el5
 have eg7:upd H6 x (.ins d.w00 dx (fsD t dg lw dl dgo)) dgo=some (.dK []):=by rw [qa6 ngx];exact eg6
 have fr7:∀b,upd H6 x (.ins d.w00 dx (fsD t dg lw dl dgo)) b=none->H b=none:=fun b hb=>by
  by_cases c:b=x
  .subst c;rw [qa1] at hb;cases hb
  .rw [qa6 c] at hb
   exact fr5 b (s6.free hb)
 generalize upd H6 x (.ins d.w00 dx (fsD t dg lw dl dgo))=H7 at*
 clear ex5 ex6 s6 sb5 fr5 hdgo ew5 el5 eg6
 have hr7:=sb7 _ _ nxr hr0
 have nlr:dl≠dr:=fun e=>by subst e;rw [fdl] at hr0;cases hr0
 have ngr:dgo≠dr:=fun e=>by subst e;rw [fdgo] at hr0;cases hr0
 have nwr:lw≠dr:=fun e=>by subst e;rw [flw] at hr0;cases hr0
 walk_at "g"
 refine qf5 hr7 fun o=>?_
 refine qdp (fun i σ H'=>∃(kl:List (Key × V)) (w1 w2:Option V),σ=[some (.ref x),some (.ref t),some (.ref dr),some (.ref dw),some (.ref dg),w1,w2]/\Sb2 dr dl H7 H'/\H' dr=some (.frz o (.dK kr))/\H' dl=some (.dK kl)/\FD H' kl (domQ ((qbq kr).take i) fun h=>(D.rm h:Rat))/\kl.length<=i)
  ⟨[],none,none,rfl,fun b u n1 _ e=>by rw [qa6 n1];exact e,qa1,by rw [qa6 nlr];exact el7,FD.nil.cast fun z=>rfl,Nat.le_refl _⟩ ?_ ?_ ?_
 .rintro i σ H' _ ⟨kl,w1,w2,rfl,sb,fz,_⟩;exact fz
 .rintro i k v σ H' hk ⟨kl,w1,w2,rfl,sb,fz,el,hF,hlen⟩
  obtain⟨z,n,rfl,rfl,hf,hzi⟩:=hrA.at hk
  have hi:i < kr.length:=(List.getElem?_eq_some_iff.mp hk).1
  have hRd:Rd H' dr (.dK kr):=.inr ⟨o,fz⟩
  have ex':=sb _ _ nxr.symm ndx.symm ex7
  have hz:z∈HS:=qc9.mp (by rw [hf];simp)
  have en:n=D.rm z:=by rw [qbl hz] at hf;exact(Option.some.inj hf).symm
  have kl60:kr.length<=60:=by have:=kpr.length_eq;rw [hrA.klen] at this;omega
  have zl:kl.length < sizeLine:=by show _ < 16777216;omega
  show qdv _ (.str z) _ _ _
  walk_at "g"
  rename_i tp htp
  have ntl:tp≠dl:=fun e=>by subst e;rw [el] at htp;cases htp
  have lput:=qax kl (Sum.inr z) (.ref tp)
  have t1:qc1 H' (upd H' tp (.tup [V.int n,V.int 1])):=qc1.of (qa7 htp _)
  have t2:qc1 (upd H' tp (.tup [V.int n,V.int 1])) (upd (upd H' tp (.tup [V.int n,V.int 1])) dl (.dK (qc3 kl (Sum.inr z) (.ref tp)))):=qc1.upd (u:=.dK kl) (by rw [qa6 ntl.symm];exact el) fun xs e=>by cases e
  have hfr:qbm (upd H' tp (.tup [V.int n,V.int 1])) tp ((n:Int):Rat):=fr_int qa1
  refine⟨_,_,_,rfl,fun b u n1 n2 e=>by rw [qa6 n2];exact qaa (sb b u n1 n2 e) htp,by rw [qa6 nlr.symm];exact qaa fz htp,qa1,(((hF.t t1).put z hfr).t t2).cast fun y=>?_,by omega⟩
  unfold domQ
  have tk:y∈(qbq kr).take (i+1)↔y∈(qbq kr).take i\/y=z:=qam hzi y
  by_cases c:y=z
  .rw [if_pos c,if_pos (tk.mpr (.inr c)),c,en]
  .rw [if_neg c]
   by_cases c2:y∈(qbq kr).take i
   .rw [if_pos c2,if_pos (tk.mpr (.inl c2))]
   .rw [if_neg c2,if_neg fun h'=>(tk.mp h').elim c2 c]
 rintro σ H' ⟨kl,w1,w2,rfl,sb,fz,el,hF,hlen⟩
 refine qdm (qez fz (qc8 hr0)) ?_
 have kl60:kr.length<=60:=by have:=kpr.length_eq;rw [hrA.klen] at this;omega
 rw [<-hrA.klen,take_length] at hF
 have e8:upd H' dr (.dK kr) dr=some (.dK kr):=qa1
 have sb8:∀b u,b≠dl->H7 b=some u->upd H' dr (.dK kr) b=some u:=fun b u n2 e=>by
  by_cases c:b=dr
  .subst c;rw [qa1,<-hr7];exact e
  .rw [qa6 c];exact sb b u c n2 e
 have el8:upd H' dr (.dK kr) dl=some (.dK kl):=by rw [qa6 nlr];exact el
 have hF8:FD (upd H' dr (.dK kr)) kl (domQ HS fun h=>(D.rm h:Rat)):=(hF.t (qc1.upd fz fun xs e=>by cases e)).cast fun z=>by
  unfold domQ
  by_cases c:z∈HS
  .rw [if_pos c,if_pos (kpr.mem_iff.mpr c)]
  .rw [if_neg c,if_neg fun h=>c (kpr.mem_iff.mp h)]
 have fr8:∀b,upd H' dr (.dK kr) b=none->H7 b=none\/b=dl:=fun b hb=>by
  by_cases c:b=dl
  .exact .inr c
  .refine .inl ?_
   cases e:H7 b with
   |none=>rfl
   |some u=>rw [sb8 b u c e] at hb;cases hb
 generalize upd H' dr (.dK kr)=H8 at*
 clear sb fz el hF e8 hr7
 have hw8:=sb8 _ _ (fun e=>by subst e;rw [fdl] at hw;cases hw) (sb7 _ _ nxw hw)
 have hg8:=sb8 _ _ (fun e=>by subst e;rw [fdl] at hg;cases hg) (sb7 _ _ nxg hg)
 have ex8:=sb8 _ _ ndx.symm ex7
 have ew8:=sb8 _ _ (fun e=>by subst e;rw [ew7] at el7;cases el7) ew7
 have eg8:=sb8 _ _ ngl.symm eg7
 clear ex7 ew7 eg7 el7
 have ngw:dgo≠dw:=fun e=>by subst e;rw [fdgo] at hw;cases hw
 have ngg:dgo≠dg:=fun e=>by subst e;rw [fdgo] at hg;cases hg
 walk_at "g"
 refine qf5 hw8 fun o=>?_
 refine qdp (fun i σ H'=>∃(kgo:List (Key × V)) (w1 w2:Option V),σ=[some (.ref x),some (.ref t),some (.ref dr),some (.ref dw),some (.ref dg),w1,w2]/\Sb2 dw dgo H8 H'/\H' dw=some (.frz o (.dK kw))/\H' dgo=some (.dK kgo)/\FD H' kgo (domQ ((qbq kw).take i) (goQ D))/\kgo.length<=i)
  ⟨[],_,_,rfl,fun b u n1 _ e=>by rw [qa6 n1];exact e,qa1,by rw [qa6 ngw];exact eg8,FD.nil.cast fun z=>rfl,Nat.le_refl _⟩ ?_ ?_ ?_
 .rintro i σ H' _ ⟨kgo,w1,w2,rfl,sb,fz,_⟩;exact fz
 .rintro i k v σ H' hk ⟨kgo,w1,w2,rfl,sb,fz,eg,hF,hlen⟩
  obtain⟨z,n,rfl,rfl,hf,hzi⟩:=hwA.at hk
  have hi:i < kw.length:=(List.getElem?_eq_some_iff.mp hk).1
  have hRd:Rd H' dw (.dK kw):=.inr ⟨o,fz⟩
  have hz:z∈D.W0:=qc9.mp (by rw [hf];simp)
  have en:n=D.wa z:=by rw [qbl hz] at hf;exact(Option.some.inj hf).symm
  have gw:qc0 D.W0 D.wt z=some (D.wt z):=qbl hz
  have hRg:Rd H' dg (.dK kg):=.inl (sb _ _ ngd ngg.symm hg8)
  have ex':=sb _ _ nxw.symm ngx.symm ex8
  have kw7:kw.length<=7:=by have:=kp.length_eq;rw [hwA.klen] at this;omega
  have zl:kgo.length < sizeLine:=by show _ < 16777216;omega
  have wa1:=ok.w1 z hz
  have wa2:=ok.w2 z hz
  have wn:D.wt z≠0:=by omega
  have wb:(D.wt z).natAbs < 2^600:=Nat.lt_of_le_of_lt (show (D.wt z).natAbs<=1000 by omega) (by decide)
  subst en
  show qdv _ (.str z) _ _ _
  walk_at "g"
  refine⟨_,_,rfl,wb,wn,fun tp htp=>?_⟩
  have s1:=qa7 htp (frO ((D.wa z:Rat) /(D.wt z:Rat)))
  have hfr:qbm (upd H' tp (frO ((D.wa z:Rat) /(D.wt z:Rat)))) tp (goQ D z):=qa1
  have eg1:=s1 _ _ eg
  have ex1:=s1 _ _ ex'
  have fz1:=s1 _ _ fz
  have t1:qc1 H' (upd H' tp (frO ((D.wa z:Rat) /(D.wt z:Rat)))):=qc1.of s1
  have sb1:=sb.same s1
  generalize upd H' tp (frO ((D.wa z:Rat) /(D.wt z:Rat)))=H9 at*
  walk_at "g"
  have lput:=qax kgo (Sum.inr z) (.ref tp)
  have t2:qc1 H9 (upd H9 dgo (.dK (qc3 kgo (Sum.inr z) (.ref tp)))):=qc1.upd eg1 fun xs e=>by cases e
  refine⟨_,_,_,rfl,fun b u n1 n2 e=>by rw [qa6 n2];exact sb1 b u n1 n2 e,by rw [qa6 ngw.symm];exact fz1,qa1,(((hF.t t1).put z hfr).t t2).cast fun y=>?_,by omega⟩
  unfold domQ
  have tk:y∈(qbq kw).take (i+1)↔y∈(qbq kw).take i\/y=z:=qam hzi y
  by_cases c:y=z
  .rw [if_pos c,if_pos (tk.mpr (.inr c)),c]
  .rw [if_neg c]
   by_cases c2:y∈(qbq kw).take i
   .rw [if_pos c2,if_pos (tk.mpr (.inl c2))]
   .rw [if_neg c2,if_neg fun h'=>(tk.mp h').elim c2 c]
 rintro σ H' ⟨kgo,w1,w2,rfl,sb,fz,eg,hF,hlen⟩
 refine qdm (qez fz (qc8 hw)) ?_
 rw [<-hwA.klen,take_length] at hF
 have sb9:∀b u,b≠dgo->H8 b=some u->upd H' dw (.dK kw) b=some u:=fun b u n2 e=>by
  by_cases c:b=dw
  .subst c;rw [qa1,<-hw8];exact e
  .rw [qa6 c];exact sb b u c n2 e
 have nlw:dl≠dw:=fun e=>by subst e;rw [fdl] at hw;cases hw
 have t3:qc1 H8 (upd H' dw (.dK kw)):=fun a xs e=>sb9 a _ (fun z=>by subst z;rw [eg8] at e;cases e) e
 have nlg:lw≠dgo:=fun e=>by subst e;rw [ew8] at eg8;cases eg8
 refine q lw dl dgo kl kgo _ (fun b u hb e=>?_) flw fdl fdgo ngl (sb9 _ _ ngx.symm ex8) (sb9 _ _ nlg ew8) (sb9 _ _ ngl el8) (hF8.t t3) (by omega) (by rw [qa6 ngw];exact eg) ((hF.t (qc1.upd fz fun xs e=>by cases e)).cast fun z=>?_)
 .refine sb9 b u (fun z=>by subst z;rw [fdgo] at e;cases e) (sb8 b u (fun z=>by subst z;rw [fdl] at e;cases e) (sb7 b u hb e))
 .unfold domQ
  by_cases c:z∈D.W0
  .rw [if_pos c,if_pos (kp.mem_iff.mpr c)]
  .rw [if_neg c,if_neg fun h=>c (kp.mem_iff.mp h)]
structure DeAt (d:Ad) (H:Hp) (de t dg lw dl dgo:Addr) (S:Ts) (D:Dl) (HS:List Str) (kg kl kgo:List (Key × V)) (W:List Str) (lf:Str->Rat):Prop where
 ob:∃dx,H de=some (.ins d.w00 dx (fsD t dg lw dl dgo))
 tz:∃H0,Same H0 H/\H0 de=none/\H0 dl=none/\TrD d H0 t S D
 g:H dg=some (.dK kg)
 gA:AD kg (qc0 D.W0 D.wt)
 w:H lw=some (.lst (W.map V.str))
 l:H dl=some (.dK kl)
 lA:FD H kl (domQ HS lf)
 lz:kl.length<=60
 go:H dgo=some (.dK kgo)
 goA:FD H kgo (domQ D.W0 (goQ D))
 nlg:dl≠dgo
 nld:dl≠dg
 hs:∀n∈D.W0,∀h∈D.ln n,h∈HS
theorem DeAt.tr {d:Ad} {H:Hp} {de t dg lw dl dgo:Addr} {S:Ts} {D:Dl} {HS:List Str} {kg kl kgo:List (Key × V)} {W:List Str} {lf:Str->Rat} (h:DeAt d H de t dg lw dl dgo S D HS kg kl kgo W lf):TrD d H t S D:=h.tz.elim fun _ z=>z.2.2.2.same z.1
theorem DeAt.same {d:Ad} {H H':Hp} {de t dg lw dl dgo:Addr} {S:Ts} {D:Dl} {HS:List Str} {kg kl kgo:List (Key × V)} {W:List Str} {lf:Str->Rat} (h:DeAt d H de t dg lw dl dgo S D HS kg kl kgo W lf) (s:Same H H'):DeAt d H' de t dg lw dl dgo S D HS kg kl kgo W lf:=
 ⟨h.ob.elim fun dx e=>⟨dx,s _ _ e⟩,h.tz.elim fun H0 z=>⟨H0,z.1.trans s,z.2⟩,s _ _ h.g,h.gA,s _ _ h.w,s _ _ h.l,h.lA.t (qc1.of s),h.lz,s _ _ h.go,h.goA.t (qc1.of s),h.nlg,h.nld,h.hs⟩
open Classical in
noncomputable def flF (D:Dl) (W:List Str) (lf:Str->Rat):Str->Option Rat:=fun h=>if ∃n∈W,h∈D.ln n then some (lf h /(ldI D W h:Rat)) else none
theorem qfq {W:List Str} {g:Str->Rat} {z:Str} (h:z∈W):domQ W g z=some (g z):=if_pos h
theorem ldI_pos {D:Dl} (ok:DlOk D) {W:List Str} (sub:∀n∈W,n∈D.W0) {h:Str} (hn:∃n∈W,h∈D.ln n):1<=ldI D W h:=by
 have nn:∀V:List Str,(∀n∈V,n∈D.W0)->0<=ldI D V h:=fun V=>by
  unfold ldI
  induction V with
  |nil=>intro _;exact Int.le_refl _
  |cons m V ih=>
   intro hs
   rw [map_cons,sum_cons]
   have:=ih fun n hn=>hs n (mem_cons_of_mem _ hn)
   have:=ok.w1 m (hs m (mem_cons_self ..))
   split <;> omega
 induction W with
 |nil=>obtain⟨n,hn,_⟩:=hn;simp at hn
 |cons m W ih=>
  have h0:=nn W fun n hn=>sub n (mem_cons_of_mem _ hn)
  have hw:=ok.w1 m (sub m (mem_cons_self ..))
  unfold ldI at h0 ih ⊢
  rw [map_cons,sum_cons]
  by_cases c:h∈D.ln m
  .rw [if_pos c];omega
  .rw [if_neg c]
   have:=ih (fun n hn=>sub n (mem_cons_of_mem _ hn)) (by
    obtain⟨n,hn,hl⟩:=hn
    rcases mem_cons.mp hn with rfl|hn
    .exact absurd hl c
    .exact⟨n,hn,hl⟩)
   omega
theorem ldI_bd {D:Dl} (ok:DlOk D) {W:List Str} (sub:∀n∈W,n∈D.W0) (w7:W.length<=7) (h:Str):ldI D W h<=7000:=by
 have:ldI D W h<=1000*(W.length:Int):=by
  unfold ldI
  clear w7
  induction W with
  |nil=>simp
  |cons m W ih=>
   rw [map_cons,sum_cons,length_cons]
   have:=ih fun n hn=>sub n (mem_cons_of_mem _ hn)
   have:=ok.w2 m (sub m (mem_cons_self ..))
   split <;> omega
 omega
def w7l (K:Frag) (d:Ad):Sp:=fun vs H Q _=>∃(de t dg lw dl dgo:Addr) (S:Ts) (D:Dl) (HS:List Str) (kg kl kgo:List (Key × V)) (W:List Str) (lf:Str->Rat),vs=[.ref de]/\DlOk D/\DeAt d H de t dg lw dl dgo S D HS kg kl kgo W lf/\(∀n∈W,n∈D.W0)/\W.length<=7/\(∀n∈W,∀h∈D.ln n,RB (lf h))/\
 ∀l kf H',Same H H'->H l=none->H' l=some (.dK kf)->FD H' kf (flF D W lf)->kf.length<=200->Q (.ref l) H'
include T in
theorem w7a:FnOk P w K mg base (My.CX1 P w) 7 d.w2s d.w28 ["self"] (w7l K d):=by
 refine okX T.w81 w1h (fun vs H Q E h=>?_) (fun cdv A outer s H vs Q E hr h=>?_)
 .obtain⟨de,t,dg,lw,dl,dgo,S,D,HS,kg,kl,kgo,W,lf,rfl,_⟩:=h;rfl
 obtain⟨de,t,dg,lw,dl,dgo,S,D,HS,kg,kl,kgo,W,lf,rfl,ok,hD,sub,w7,rb,q⟩:=h
 refine⟨_,(qa2 (qaf (i:=1) w1h.nd rfl (Or.inl rfl) (qav ((wbn T).mono (by decide)) hr rfl T.wdh T.w8z.kp T.wdd .nil qar (qa0 (qay (pv 0) rfl) (qa0 (qay (pv 0) rfl) (qa0 (qay (pv 0) rfl) qa3)))))
  (qa2 (qaf (i:=2) w1h.nd rfl (Or.inl rfl) qb8)
  (qa2 (qdn (qb5 (qbv rfl rfl) rfl (qch (pv 1)) (qac (i:=3) w1h.nd rfl (Or.inl rfl)) (qa5 (qbp (qau hr) (pv 2) (pv 3) (qav ((wde T).mono (by decide)) hr rfl T.wdw T.wau.kp T.wei .nil qar (qa0 (qat (qau hr) (qay (pv 0) rfl) (pv 3) (fun _ _=>rfl)) (qa0 (qdo (qa0 (qat (qau hr) (pv 1) (pv 3) (fun _ _=>rfl)) (qa0 qa4 qa3))) qa3))) rfl))))
  (qa5 (qad (pv 2)))))),?_⟩
 walk_at "d"
 refine qab (σ:=[some (.ref de),none,none,none]) rfl ?_
 have cl:=T.w0e
 have n1:qap K d.w00 "tree":=T.w0d
 have n2:qap K d.w00 "weights":=T.w09
 have n3:qap K d.w00 "waiting":=T.w04
 have n4:qap K d.w00 "left":=T.w0h
 obtain⟨dx,ho⟩:=hD.ob
 walk_at "g"
 refine⟨t,dg,lw,S,D,kg,W,rfl,ok,hD.tr,hD.g,hD.gA,hD.w,sub,w7,fun ll k1 H1 s1 hll el1 hA1 hk1=>?_⟩
 walk_at "g"
 rename_i l hl
 have s2:=s1.trans (qa7 hl (.dK []))
 have el2:=qaa (o':=.dK []) el1 hl
 have e2:upd H1 l (.dK []) l=some (.dK []):=qa1
 have hl0:H l=none:=s1.free hl
 have nll:l≠ll:=fun e=>by subst e;rw [el1] at hl;cases hl
 generalize upd H1 l (.dK [])=H2 at*
 have nlo:l≠dl:=fun e=>by subst e;rw [hD.l] at hl0;cases hl0
 have nod:dl≠ll:=fun e=>by subst e;rw [hD.l] at hll;cases hll
 have noe:de≠ll:=fun e=>by subst e;rw [ho] at hll;cases hll
 have nle:l≠de:=fun e=>by subst e;rw [ho] at hl0;cases hl0
 have ho2:=s2 _ _ ho
 have hd2:=s2 _ _ hD.l
 have hF2:=hD.lA.t (qc1.of s2)
 have nf2:NoFrz H ll:=fun o u e=>by rw [hll] at e;cases e
 clear hl el1
 refine qf5 el2 fun o=>?_
 refine qdp (fun i σ H'=>∃(kf:List (Key × V)) (w:Option V),σ=[some (.ref de),some (.ref ll),some (.ref l),w]/\Sb2 ll l H2 H'/\H' ll=some (.frz o (.dK k1))/\H' l=some (.dK kf)/\FD H' kf (fun h=>if h∈(qbq k1).take i then flF D W lf h else none)/\kf.length<=i)
  ⟨[],none,rfl,fun b u n1 _ e=>by rw [qa6 n1];exact e,qa1,by rw [qa6 nll];exact e2,FD.nil.cast fun z=>by simp,Nat.le_refl _⟩ ?_ ?_ ?_
 .rintro i σ H' _ ⟨kf,w,rfl,sb,fz,_⟩;exact fz
 .rintro i k v σ H' hk ⟨kf,w,rfl,sb,fz,ef,hF,hlen⟩
  obtain⟨z,n,rfl,rfl,hf,hzi⟩:=hA1.at hk
  have hi:i < k1.length:=(List.getElem?_eq_some_iff.mp hk).1
  have hRd:Rd H' ll (.dK k1):=.inr ⟨o,fz⟩
  have ho':=sb _ _ noe nle.symm ho2
  have hd':=sb _ _ nod nlo.symm hd2
  have hRl:Rd H' dl (.dK kl):=.inl hd'
  have tS:qc1 H2 H':=fun a xs e=>sb a _ (fun z=>by subst z;rw [el2] at e;cases e) (fun z=>by subst z;rw [e2] at e;cases e) e
  have hFl:=hF2.t tS
  have hex:∃m∈W,z∈D.ln m:=by
   refine Classical.byContradiction fun c=>?_
   unfold ldF at hf
   rw [if_neg c] at hf
   cases hf
  have en:n=ldI D W z:=by
   unfold ldF at hf
   rw [if_pos hex] at hf
   exact(Option.some.inj hf).symm
  obtain⟨m,hm,hml⟩:=id hex
  have hzH:z∈HS:=hD.hs m (sub m hm) z hml
  have b1:=ldI_pos ok sub hex
  have b2:=ldI_bd ok sub w7 z
  have zl:kf.length < sizeLine:=by show _ < 16777216;omega
  show qdv _ (.str z) _ _ _
  walk_at "g"
  refine r_dgF hRl hFl (qfq hzH) fun bq hbq=>?_
  walk_at "g"
  rename_i tp htp
  have s3:=qa7 htp (.tup [V.int n,V.int 1])
  have hfr:qbm (upd H' tp (.tup [V.int n,V.int 1])) tp ((n:Int):Rat):=fr_int qa1
  generalize upd H' tp (.tup [V.int n,V.int 1])=H3 at*
  have nq:((n:Int):Rat)≠0:=fun e=>by
   have:n=0:=by exact_mod_cast e
   omega
  refine⟨bq,tp,_,_,rfl,s3 _ _ hbq,hfr,rb m hm z hml,rb_int (Nat.lt_of_le_of_lt (show n.natAbs<=7000 by omega) (by decide)),nq,fun r hr=>?_⟩
  have s4:=s3.trans (qa7 hr (frO (lf z /(n:Rat))))
  have hfq:qbm (upd H3 r (frO (lf z /(n:Rat)))) r (lf z /(n:Rat)):=qa1
  generalize upd H3 r (frO (lf z /(n:Rat)))=H4 at*
  have ef4:=s4 _ _ ef
  have fz4:=s4 _ _ fz
  walk_at "g"
  have lput:=qax kf (Sum.inr z) (.ref r)
  have t2:qc1 H4 (upd H4 l (.dK (qc3 kf (Sum.inr z) (.ref r)))):=qc1.upd ef4 fun xs e=>by cases e
  refine⟨_,_,rfl,fun b u n1 n2 e=>by rw [qa6 n2];exact s4 _ _ (sb b u n1 n2 e),by rw [qa6 nll.symm];exact fz4,qa1,(((hF.t (qc1.of s4)).put z hfq).t t2).cast fun y=>?_,by omega⟩
  have tk:y∈(qbq k1).take (i+1)↔y∈(qbq k1).take i\/y=z:=qam hzi y
  by_cases c:y=z
  .rw [if_pos c,if_pos (tk.mpr (.inr c)),c,en]
   unfold flF
   rw [if_pos hex]
  .rw [if_neg c]
   by_cases c2:y∈(qbq k1).take i
   .rw [if_pos c2,if_pos (tk.mpr (.inl c2))]
   .rw [if_neg c2,if_neg fun h'=>(tk.mp h').elim c2 c]
 rintro σ H' ⟨kf,w,rfl,sb,fz,ef,hF,hlen⟩
 refine qdm (qez fz nf2) ?_
 rw [<-hA1.klen,take_length] at hF
 have sb9:∀b u,b≠l->H2 b=some u->upd H' ll (.dK k1) b=some u:=fun b u n2 e=>by
  by_cases c:b=ll
  .subst c;rw [qa1,<-el2];exact e
  .rw [qa6 c];exact sb b u c n2 e
 walk_at "g"
 refine q l kf _ (fun b u e=>sb9 b u (fun z=>by subst z;rw [hl0] at e;cases e) (s2 b u e)) hl0 (by rw [qa6 nll];exact ef) ((hF.t (qc1.upd fz fun xs e=>by cases e)).cast fun z=>?_) (by omega)
 by_cases c:z∈qbq k1
 .rw [if_pos c]
 .rw [if_neg c]
  unfold flF
  rw [if_neg fun hex=>c ((hA1.kin z).mpr (by unfold ldF;rw [if_pos hex];simp))]
theorem sumQ_pick {f:Str->Rat}:∀{l:List Str} {m:Str},l.Nodup->m∈l->qbz l (fun n=>if n=m then f n else 0)=f m
 | [],_,_,h=>by simp at h
 |k :: l,m,nd,h=>by
  rw [nodup_cons] at nd
  show (if k=m then f k else 0)+qbz l _=f m
  by_cases c:k=m
  .subst c
   rw [if_pos rfl,qf0 fun n hn=>if_neg fun e=>nd.1 (by rw [<-e];exact hn)]
   grind
  .rw [if_neg c,sumQ_pick nd.2 ((mem_cons.mp h).resolve_left fun e=>c e.symm)]
   grind
theorem qgg {D:Dl} (ok:DlOk D) (h:Str):∀{W:List Str},W.Nodup->(∀n∈W,n∈D.W0)->ldQ D W h=(ldI D W h:Rat)
 | [],_,_=>by rw [qd0 fun m hm=>by simp at hm];rfl
 |m :: W,nd,sub=>by
  rw [nodup_cons] at nd
  have ih:=qgg ok h nd.2 fun n hn=>sub n (mem_cons_of_mem _ hn)
  have e1:ldI D (m :: W) h=(if h∈D.ln m then D.wt m else 0)+ldI D W h:=by unfold ldI;rw [map_cons,sum_cons]
  rw [e1,Rat.intCast_add,<-ih]
  have e2:=sumQ_pick (f:=fun n=>if h∈D.ln n then (D.wt n:Rat) else 0) ok.nd (sub m (mem_cons_self ..))
  have e3:(((if h∈D.ln m then D.wt m else 0:Int)):Rat)=if h∈D.ln m then (D.wt m:Rat) else 0:=by split <;> rfl
  rw [e3,<-e2]
  unfold ldQ
  rw [<-qer]
  refine qc4 fun n _=>?_
  try dsimp only
  by_cases c:n=m
  .subst c
   by_cases c2:h∈D.ln n
   .rw [if_pos ⟨mem_cons_self ..,c2⟩,if_pos rfl,if_pos c2,if_neg fun z=>nd.1 z.1];grind
   .rw [if_neg fun z=>c2 z.2,if_pos rfl,if_neg c2,if_neg fun z=>c2 z.2];grind
  .rw [if_neg c]
   by_cases c2:n∈W/\h∈D.ln n
   .rw [if_pos ⟨mem_cons_of_mem _ c2.1,c2.2⟩,if_pos c2];grind
   .rw [if_neg fun z=>c2 ⟨(mem_cons.mp z.1).resolve_left c,z.2⟩,if_neg c2];grind
theorem flF_in {D:Dl} (ok:DlOk D) {W:List Str} (nd:W.Nodup) (sub:∀n∈W,n∈D.W0) (lf:Str->Rat) {h n:Str} (hn:n∈W) (hl:h∈D.ln n):flF D W lf h=some (lf h / ldQ D W h):=by
 unfold flF
 rw [if_pos ⟨n,hn,hl⟩,qgg ok h nd sub]
theorem peq_fr {K:Frag} {H:Hp} {a b:Addr} {q r:Rat} (ha:qbm H a q) (hb:qbm H b r):PEq K H 1 (.ref a) (.ref b) (decide (q=r)):=by
 by_cases c:a=b
 .subst c
  rw [decide_eq_true (ha.uniq hb)]
  exact .same
 .have key:((List.range (min [V.int q.num,V.int (q.den:Int)].length [V.int r.num,V.int (r.den:Int)].length)).all (fun j=>if j=0 then eqV (V.int q.num) (V.int r.num) else eqV (V.int (q.den:Int)) (V.int (r.den:Int))) && [V.int q.num,V.int (q.den:Int)].length==[V.int r.num,V.int (r.den:Int)].length)=decide (q=r):=by
   show ((eqV (V.int q.num) (V.int r.num) && (eqV (V.int (q.den:Int)) (V.int (r.den:Int)) && true)) && true)=_
   show ((decide (q.num=r.num) && (decide ((q.den:Int)=(r.den:Int)) && true)) && true)=_
   by_cases e1:q.num=r.num
   .by_cases e2:q.den=r.den
    .rw [decide_eq_true e1,decide_eq_true (by rw [e2]),decide_eq_true (Rat.ext e1 e2)];rfl
    .rw [decide_eq_true e1,decide_eq_false (by omega),decide_eq_false (p:=q=r) (fun z=>e2 (by rw [z]))];rfl
   .rw [decide_eq_false e1,decide_eq_false (p:=q=r) (fun z=>e1 (by rw [z]))];rfl
  rw [<-key]
  refine .ts (SqT.of ha) (SqT.of hb) c fun j h1 h2=>?_
  have:j < 2:=h1
  obtain rfl|rfl:j=0\/j=1:=by omega
  .exact .flat rfl rfl
  .exact .flat rfl rfl
def w7c (K:Frag) (d:Ad):Sp:=fun vs H Q _=>∃(de t dg lw dl dgo lv ff:Addr) (S:Ts) (D:Dl) (HS:List Str) (kg kl kgo kf:List (Key × V)) (W:List Str) (lf:Str->Rat) (L:Rat),vs=[.ref de,.ref lv,.ref ff]/\DlOk D/\DeAt d H de t dg lw dl dgo S D HS kg kl kgo W lf/\(∀n∈W,n∈D.W0)/\W.Nodup/\qbm H lv L/\H ff=some (.dK kf)/\FD H kf (flF D W lf)/\
 ∀l H',Same H H'->H l=none->H' l=some (.lst ((rdy D W lf L).map V.str))->Q (.ref l) H'
open Classical in
include T in
theorem w7j:FnOk P w K mg base (My.CX1 P w) 6 d.w2o d.w29 ["self","level","fills"] (w7c K d):=by
 refine okX T.w7q w1g (fun vs H Q E h=>?_) (fun cdv A outer s H vs Q E hr h=>?_)
 .obtain⟨de,t,dg,lw,dl,dgo,lv,ff,S,D,HS,kg,kl,kgo,kf,W,lf,L,rfl,_⟩:=h;rfl
 obtain⟨de,t,dg,lw,dl,dgo,lv,ff,S,D,HS,kg,kl,kgo,kf,W,lf,L,rfl,ok,hD,sub,nd,hL,hff,hF,q⟩:=h
 refine⟨_,(qa2 (qaf (i:=3) w1g.nd rfl (Or.inl rfl) (qbr qa3))
  (qa2 (qb5 (qbv rfl rfl) rfl (qb0 (qay (pv 0) rfl)) (qac (i:=4) w1g.nd rfl (Or.inl rfl)) (qa2 (qaf (i:=5) w1g.nd rfl (Or.inl rfl) (qag op_cat (qco (caps:=[2]) (cn:=["fills"]) (qc6 rfl rfl (by rfl) (by rfl) rfl ⟨rfl,trivial⟩ (by rfl) rfl ⟨⟨rfl,rfl,rfl,rfl,_,rfl⟩,trivial⟩ (by decide)) rfl (qb0 (qaz (qay (pv 0) rfl) T.w02 T.w0z ((w2y T).mono (by decide)) hr T.w3t .nil qar (qa0 (pv 4) qa3))) (fun _ _ _ _=>qej) (fun _ _ _ _=>(qat (qau hr) (pv 1) (pv 0) (fun _ _=>rfl)))) (qbr (qa0 (qat (qau hr) (qay (pv 0) rfl) (pv 4) (fun _ _=>rfl)) qa3))))
  (qa5 (qd6 (qbb (qal (op_inX (hu8 hr)) (pv 1) (pv 5) (by rfl)) (qa5 (qba (qgb PySem.F.plainAttrs_list PySem.F.slot_list_append PySem.F.type_list_append qbs (pv 3) (qa0 (pv 4) qa3)))) qaq)))))
  (qa5 (qad (pv 3))))),?_⟩
 walk_at "d"
 refine qab (σ:=[some (.ref de),some (.ref lv),some (.ref ff),none,none,none]) rfl ?_
 have cl:=T.w0e
 have ct:=T.w02
 have n1:qap K d.w00 "tree":=T.w0d
 have n3:qap K d.w00 "waiting":=T.w04
 have n5:qap K d.w00 "goals":=T.w0f
 obtain⟨dx,ho⟩:=hD.ob
 have w7:W.length<=7:=Nat.le_trans (List.Nodup.length_le_of_subset nd sub) ok.l8
 walk_at "g"
 rename_i l hl
 have s1:=qa7 hl (.lst [])
 have el:upd H l (.lst []) l=some (.lst []):=qa1
 have ho1:=s1 _ _ ho
 have hw1:=s1 _ _ hD.w
 generalize upd H l (.lst [])=H1 at*
 walk_at "g"
 refine qcc (xs:=W.map V.str) (fun i σ H'=>∃(w1 w2:Option V),σ=[some (.ref de),some (.ref lv),some (.ref ff),some (.ref l),w1,w2]/\Same H H'/\H' l=some (.lst (((W.take i).filter fun n=>decide (n∈rdy D W lf L)).map V.str))) ⟨none,none,rfl,s1,el⟩ ?_ ?_ ?_
 .rintro i σ H' _ ⟨w1,w2,rfl,sm,_⟩;exact SqL.of (sm _ _ hD.w)
 .rintro i v σ H' hv ⟨w1,w2,rfl,sm,el2⟩
  rw [getElem?_map] at hv
  obtain⟨n,hn,rfl⟩:=Option.map_eq_some_iff.mp hv
  have hnW:=mem_of_getElem? hn
  have hn0:=sub n hnW
  obtain⟨e,ae,ew,hln⟩:=hD.tr.ln n hn0
  obtain⟨tx,ht⟩:=id (hD.tr.tr.same sm).1
  have lz:=ok.lz n hn0
  have etk:W.take (i+1)=W.take i++ [n]:=by rw [take_add_one,hn];rfl
  have ho2:=sm _ _ ho
  clear hv
  walk_at "g"
  refine⟨t,S,.str n,rfl,hD.tr.tr.same sm,.inl ⟨n,_,rfl,hln,by omega,fun ll hll=>?_⟩⟩
  have s2:=sm.trans (qa7 hll (.lst ((D.ln n).map V.str)))
  have ell:upd H' ll (.lst ((D.ln n).map V.str)) ll=some (.lst ((D.ln n).map V.str)):=qa1
  have el3:=qaa (o':=.lst ((D.ln n).map V.str)) el2 hll
  generalize upd H' ll (.lst ((D.ln n).map V.str))=H2 at*
  clear hll el2 ho2 ht
  walk_at "g"
  intro C s0 H0 fp acc hacc
  refine c_by (D.ln n).length (fun j H'=>∃ps:List (Addr × Rat),Same H2 H'/\H' acc=some (.lst (ps.map fun p=>V.ref p.1))/\(∀p∈ps,qbm H' p.1 p.2)/\ps.map (·.2)=((D.ln n).take j).map fun h=>lf h / ldQ D W h) ⟨[],qa7 hacc _,qa1,fun p hp=>by simp at hp,rfl⟩ ?_ ?_ ?_ ?_
  .rintro j H' hj ⟨ps,sx,_⟩
   exact⟨_,.str (D.ln n)[j],SqL.of (sx _ _ ell),by rw [getElem?_map,getElem?_eq_getElem hj];rfl⟩
  .rintro H' ⟨ps,sx,_⟩
   exact⟨_,SqL.of (sx _ _ ell),by rw [length_map];exact Nat.le_refl _⟩
  .rintro j H' v H'' hj ⟨ps,sx,ea,hps,hms⟩ ⟨rfl,hv⟩
   have hv:=hv _ (SqL.of (sx _ _ ell))
   rw [getElem?_map,getElem?_eq_getElem hj] at hv
   cases hv
   have hm:=getElem_mem hj
   have etj:(D.ln n).take (j+1)=(D.ln n).take j++ [(D.ln n)[j]]:=by rw [take_add_one,getElem?_eq_getElem hj];rfl
   have hlen:ps.length=j:=by have:=congrArg List.length hms;rw [length_map,length_map,length_take] at this;omega
   generalize (D.ln n)[j]=h at*
   have hRf:Rd H'' ff (.dK kf):=.inl (sx _ _ (s2 _ _ hff))
   have hFf:=hF.t (qc1.of (s2.trans sx))
   have zl:(ps.map fun p=>V.ref p.1).length < sizeLine:=by rw [length_map];show _ < 16777216;omega
   clear hv
   walk_at "g"
   refine r_dgF hRf hFf (flF_in ok nd sub lf hnW hm) fun b hb=>?_
   walk_at "g"
   have t5:qc1 H'' (upd H'' acc (.lst ((ps.map fun p=>V.ref p.1)++ [V.ref b]))):=qc1.upd ea fun xs e=>by cases e
   refine⟨ps++ [(b,lf h / ldQ D W h)],qb4 sx hacc,by rw [qa1,map_append];rfl,fun p hp=>?_,by rw [map_append,hms,etj,map_append];rfl⟩
   rcases mem_append.mp hp with h1|h1
   .exact t5 _ _ (hps p h1)
   .rw [mem_singleton.mp h1]
    exact t5 _ _ hb
  rintro H3 ⟨ps,s3,ea,hps,hms⟩
  rw [take_length] at hms
  have s4:=s2.trans s3
  have ho3:=s4 _ _ ho
  have hRg:Rd H3 dgo (.dK kgo):=.inl (s4 _ _ hD.go)
  have hFg:=hD.goA.t (qc1.of s4)
  walk_at "g"
  refine r_dgF hRg hFg (qfq hn0) fun b hb=>?_
  walk_at "g"
  rename_i p1 hp1
  have nal:acc≠p1:=fun e=>by subst e;rw [ea] at hp1;cases hp1
  have plen:ps.length=(D.ln n).length:=by have:=congrArg List.length hms;rw [length_map,length_map] at this;exact this
  refine r_cat (xs:=ps.map fun p=>V.ref p.1) (by rw [qa6 nal];exact ea) qa1 (by rw [length_map];show _+1<=16777216;omega) fun p2 hp2=>?_
  have s5:Same H3 (upd (upd H3 p1 (.lst [V.ref b])) p2 (.lst ((ps.map fun p=>V.ref p.1)++ [V.ref b]))):=(qa7 hp1 _).trans (qa7 hp2 _)
  have e5:upd (upd H3 p1 (.lst [V.ref b])) p2 (.lst ((ps.map fun p=>V.ref p.1)++ [V.ref b])) p2=some (.lst ((ps.map fun p=>V.ref p.1)++ [V.ref b])):=qa1
  generalize upd (upd H3 p1 (.lst [V.ref b])) p2 (.lst ((ps.map fun p=>V.ref p.1)++ [V.ref b]))=H5 at*
  have s6:=s4.trans s5
  have el5:=s5 _ _ (s3 _ _ el3)
  have hL5:qbm H5 lv L:=s6 _ _ hL
  have hb5:qbm H5 b (goQ D n):=s5 _ _ hb
  have hps5:∀p∈ps,qbm H5 p.1 p.2:=fun p hp=>s5 _ _ (hps p hp)
  clear hp1 hp2 s5 hRg hFg ho3 hb hps ea s3 s4
  walk_at "g"
  refine qf6 ?_
  walk_at "g"
  refine⟨p2,_,fun v=>decide (∃a,v=.ref a/\qbm H5 a L),rfl,SqL.of e5,fun v hv=>⟨1,by decide,?_⟩,?_⟩
  .have:∃a q,v=.ref a/\qbm H5 a q:=by
    rcases mem_append.mp hv with h1|h1
    .obtain⟨p,hp,rfl⟩:=mem_map.mp h1
     exact⟨_,_,rfl,hps5 p hp⟩
    .exact⟨b,_,mem_singleton.mp h1,hb5⟩
   obtain⟨a,r,rfl,ha⟩:=this
   have e6:decide (∃a',V.ref a=.ref a'/\qbm H5 a' L)=decide (r=L):=by
    refine decide_eq_decide.mpr ⟨?_,fun e=>⟨a,rfl,e ▸ ha⟩⟩
    rintro⟨a',e,h'⟩
    cases e
    exact ha.uniq h'
   show PEq K H5 1 (V.ref a) (V.ref lv) (decide (∃a',V.ref a=.ref a'/\qbm H5 a' L))
   rw [e6]
   exact peq_fr ha hL5
  have e7:(((ps.map fun p=>V.ref p.1)++ [V.ref b]).any fun v=>decide (∃a,v=.ref a/\qbm H5 a L))=decide (n∈rdy D W lf L):=by
   rw [Bool.eq_iff_iff,any_eq_true,decide_eq_true_iff,qbw]
   constructor
   .rintro⟨v,hv,he⟩
    obtain⟨a,rfl,ha⟩:=of_decide_eq_true he
    refine⟨hnW,?_⟩
    rcases mem_append.mp hv with h1|h1
    .obtain⟨p,hp,e⟩:=mem_map.mp h1
     cases e
     have h2:=(hps5 p hp).uniq ha
     have h3:p.2∈ps.map (·.2):=mem_map.mpr ⟨p,hp,rfl⟩
     rw [hms] at h3
     obtain⟨h,hh,e⟩:=mem_map.mp h3
     exact .inl ⟨h,hh,by rw [e,h2]⟩
    .have e:=mem_singleton.mp h1
     cases e
     exact .inr (hb5.uniq ha)
   .rintro⟨_,⟨h,hh,e⟩ |e⟩
    .have h3:L∈ps.map (·.2):=by rw [hms];exact mem_map.mpr ⟨h,hh,e⟩
     obtain⟨p,hp,e2⟩:=mem_map.mp h3
     exact⟨.ref p.1,mem_append_left _ (mem_map.mpr ⟨p,hp,rfl⟩),decide_eq_true ⟨p.1,rfl,e2 ▸ hps5 p hp⟩⟩
    .exact⟨.ref b,mem_append_right _ (mem_singleton.mpr rfl),decide_eq_true ⟨b,rfl,e ▸ hb5⟩⟩
  rw [e7]
  have zl:(((W.take i).filter fun n=>decide (n∈rdy D W lf L)).map V.str).length < sizeLine:=by
   rw [length_map]
   have h1:=length_filter_le (fun n=>decide (n∈rdy D W lf L)) (W.take i)
   rw [length_take] at h1
   show _ < 16777216
   omega
  by_cases c:n∈rdy D W lf L
  .rw [decide_eq_true c]
   walk_at "g"
   refine⟨_,_,rfl,qb4 s6 hl,?_⟩
   rw [qa1,etk,filter_append,map_append,List.filter_cons_of_pos (p:=fun n=>decide (n∈rdy D W lf L)) (decide_eq_true c)];rfl
  .rw [decide_eq_false c]
   walk_at "g"
   refine⟨_,_,rfl,s6,?_⟩
   rw [el5,etk,filter_append,map_append,List.filter_cons_of_neg (by rw [decide_eq_false c];simp)]
   simp
 rintro σ H' ⟨w1,w2,rfl,sm,el2⟩
 walk_at "g"
 refine q l H' sm hl ?_
 rw [el2,length_map,take_length]
 congr 3
 refine(List.filter_congr fun n hn=>?_)
 exact decide_eq_decide.mpr ((qbw).trans ⟨fun z=>z.2,fun z=>⟨hn,z⟩⟩)
theorem qfo (L:List Str):((L.map V.str).all fun v=>qct v)=true:=by
 rw [List.all_map]
 exact all_eq_true.mpr fun _ _=>rfl
theorem inV_st (x:Str):∀L:List Str,inV (.str x) (L.map V.str)=decide (x∈L)
 | []=>rfl
 |y :: L=>by
  have ih:=inV_st x L
  unfold inV at ih ⊢
  rw [map_cons,any_cons,ih]
  by_cases c:y=x
  .subst c
   rw [show eqV (V.str y) (V.str y)=true from beq_self_eq_true _,decide_eq_true (mem_cons_self ..)]
   rfl
  .rw [show eqV (V.str y) (V.str x)=false from beq_false_of_ne c,Bool.false_or]
   by_cases m:x∈L
   .rw [decide_eq_true m,decide_eq_true (mem_cons_of_mem _ m)]
   .rw [decide_eq_false m,decide_eq_false fun z=>(mem_cons.mp z).elim (fun e=>c e.symm) m]
theorem r_notInSt {K:Frag} {H:Hp} {Q:VK} {p:Addr} {x:Str} {L:List Str} (h:SqL K H p (L.map V.str)) (q:Q (.bl (!decide (x∈L))) H):rIn K true (.str x) (.ref p) H Q:=⟨p,_,rfl,.inl h,rfl,qfo L,by rw [inV_st];exact q⟩
theorem ldQ_app {D:Dl} (ok:DlOk D) {V:List Str} {n:Str} (nd:(V++ [n]).Nodup) (sub:∀m∈V++ [n],m∈D.W0) (h:Str):ldQ D (V++ [n]) h=ldQ D V h+if h∈D.ln n then (D.wt n:Rat) else 0:=by
 rw [qgg ok h nd sub,qgg ok h (nodup_append.mp nd).1 fun m hm=>sub m (mem_append_left _ hm),ldI_app,Rat.intCast_add]
 split <;> rfl
theorem putK_len {kvs:List (Key × V)} {k:Key} {v w:V} (h:qce kvs k=some w):(qc3 kvs k v).length=kvs.length:=by
 have:=congrArg List.length (qe1 (kvs:=kvs) (k:=k) (v:=v) (by rw [h];simp))
 rw [length_map,length_map] at this
 exact this
theorem wls_len (W R:List Str):(wls W R).length<=W.length:=length_filter_le _ _
def w6q (K:Frag) (d:Ad):Sp:=fun vs H Q _=>∃(de t dg lw dl dgo lv ln:Addr) (S:Ts) (D:Dl) (HS:List Str) (kg kl kgo:List (Key × V)) (W R:List Str) (lf:Str->Rat) (L:Rat),vs=[.ref de,.ref lv,.ref ln]/\DlOk D/\DeAt d H de t dg lw dl dgo S D HS kg kl kgo W lf/\(∀n∈W,n∈D.W0)/\W.Nodup/\qbm H lv L/\RB L/\H ln=some (.lst (R.map V.str))/\(∀n∈R,n∈W)/\R.Nodup/\(∀n∈R,RB (L*(D.wt n:Rat)))/\(∀i,∀n∈D.W0,∀h∈D.ln n,RB (lf h - L*ldQ D (R.take i) h))/\
 ∀lw' kl' H',Sb2 de dl H H'->H lw'=none->DeAt d H' de t dg lw' dl dgo S D HS kg kl' kgo (wls W R) (lfN D lf L R)->Q .non H'
include T in
theorem w6k:FnOk P w K mg base (My.CX1 P w) 6 d.w2c d.w1x ["self","level","names"] (w6q K d):=by
 refine okX T.w7i w1a (fun vs H Q E h=>?_) (fun cdv A outer s H vs Q E hr h=>?_)
 .obtain⟨de,t,dg,lw,dl,dgo,lv,ln,S,D,HS,kg,kl,kgo,W,R,lf,L,rfl,_⟩:=h;rfl
 obtain⟨de,t,dg,lw,dl,dgo,lv,ln,S,D,HS,kg,kl,kgo,W,R,lf,L,rfl,ok,hD,sub,nd,hL,rL,hln,hRW,ndR,rLw,rLf,q⟩:=h
 refine⟨_,(qa2 (qb5 (qbv rfl rfl) rfl (qb0 (pv 2)) (qac (i:=3) w1a.nd rfl (Or.inl rfl)) (qa2 (qaf (i:=4) w1a.nd rfl (Or.inl rfl) (qav ((wfm T).mono (by decide)) hr rfl T.wgu T.weg.kp T.wgz .nil qar (qa0 (pv 1) (qa0 (qdo (qa0 (qat (qau hr) (qay (pv 0) rfl) (pv 3) (fun _ _=>rfl)) (qa0 qa4 qa3))) qa3))))
  (qa5 (qb5 (qbv rfl rfl) rfl (qb0 (qaz (qay (pv 0) rfl) T.w02 T.w0z ((w2y T).mono (by decide)) hr T.w3t .nil qar (qa0 (pv 3) qa3))) (qac (i:=5) w1a.nd rfl (Or.inl rfl)) (qa5 (qbp (qau hr) (qay (pv 0) rfl) (pv 5) (qav ((wfs T).mono (by decide)) hr rfl T.wh3 T.we2.kp T.wh0 .nil qar (qa0 (qat (qau hr) (qay (pv 0) rfl) (pv 5) (fun _ _=>rfl)) (qa0 (pv 4) qa3))) rfl))))))
  (qa5 (qd2 (pv 0) (qco (caps:=[2]) (cn:=["names"]) (qc6 rfl rfl (by rfl) (by rfl) rfl ⟨rfl,trivial⟩ (by rfl) rfl ⟨⟨rfl,rfl,rfl,rfl,_,rfl⟩,trivial⟩ (by decide)) rfl (qb0 (qay (pv 0) rfl)) (fun _ _ _ _=>(pf_one (qal qd8 (pv 0) (pv 1) (by rfl)))) (fun _ _ _ _=>(pv 0))) rfl))),?_⟩
 walk_at "d"
 try dsimp only [cxC]
 refine qab (σ:=[some (.ref de),some (.ref lv),some (.ref ln),none,none,none]) rfl ?_
 have cl:=T.w0e
 have ct:=T.w02
 have n1:qap K d.w00 "tree":=T.w0d
 have n2:qap K d.w00 "weights":=T.w09
 have n3:qap K d.w00 "waiting":=T.w04
 have n4:qap K d.w00 "left":=T.w0h
 obtain⟨dx,ho⟩:=hD.ob
 obtain⟨H0,s0,f0e,f0l,hT0⟩:=hD.tz
 have w7:W.length<=7:=Nat.le_trans (List.Nodup.length_le_of_subset nd sub) ok.l8
 have nel:de≠dl:=fun e=>by subst e;rw [hD.l] at ho;cases ho
 have nll:ln≠dl:=fun e=>by subst e;rw [hD.l] at hln;cases hln
 have nvl:lv≠dl:=fun e=>by subst e;unfold qbm at hL;rw [hD.l] at hL;cases hL
 have nwl:lw≠dl:=fun e=>by subst e;have:=hD.w;rw [hD.l] at this;cases this
 walk_at "g"
 refine qcc (xs:=R.map V.str) (fun i σ H'=>∃(kl':List (Key × V)) (w1 w2 w3:Option V),σ=[some (.ref de),some (.ref lv),some (.ref ln),w1,w2,w3]/\SameBut dl H H'/\H' dl=some (.dK kl')/\FD H' kl' (domQ HS fun h=>lf h - L*ldQ D (R.take i) h)/\kl'.length=kl.length) ⟨kl,none,none,none,rfl,fun b u _ e=>e,hD.l,hD.lA.cast fun z=>?_,rfl⟩ ?_ ?_ ?_
 .congr 1
  funext h
  rw [List.take_zero,qd0 fun m hm=>by simp at hm]
  grind
 .rintro i σ H' _ ⟨kl',w1,w2,w3,rfl,sm,_⟩;exact SqL.of (sm _ _ nll hln)
 .rintro i v σ H' hv ⟨kl',w1,w2,w3,rfl,sm,el,hF,hkl⟩
  rw [getElem?_map] at hv
  obtain⟨n,hn,rfl⟩:=Option.map_eq_some_iff.mp hv
  have hnR:=mem_of_getElem? hn
  have hn0:=sub n (hRW n hnR)
  obtain⟨e,ae,ew,hlN⟩:=hD.tr.ln n hn0
  have sT:Same H0 H':=fun b u e=>sm b u (fun z=>by subst z;rw [f0l] at e;cases e) (s0 b u e)
  obtain⟨tx,ht⟩:=id (hT0.tr.same sT).1
  have lz:=ok.lz n hn0
  have lnd:=ok.ld n hn0
  have etk:R.take (i+1)=R.take i++ [n]:=by rw [take_add_one,hn];rfl
  have ho2:=sm _ _ nel ho
  have hRg:Rd H' dg (.dK kg):=.inl (sm _ _ hD.nld.symm hD.g)
  have gw:qc0 D.W0 D.wt n=some (D.wt n):=qbl hn0
  have hgA:=hD.gA
  clear hv
  walk_at "g"
  rename_i tp htp
  have s3:=qa7 htp (.tup [V.int (D.wt n),V.int 1])
  have hfr:qbm (upd H' tp (.tup [V.int (D.wt n),V.int 1])) tp ((D.wt n:Int):Rat):=fr_int qa1
  generalize upd H' tp (.tup [V.int (D.wt n),V.int 1])=H3 at*
  have wa1:=ok.w1 n hn0
  have wa2:=ok.w2 n hn0
  refine⟨lv,tp,_,_,rfl,s3 _ _ (sm _ _ nvl hL),hfr,rL,rb_int (Nat.lt_of_le_of_lt (show (D.wt n).natAbs<=1000 by omega) (by decide)),fun r hr=>?_⟩
  have s4:=s3.trans (qa7 hr (frO (L*(D.wt n:Rat))))
  have hsh:qbm (upd H3 r (frO (L*(D.wt n:Rat)))) r (L*(D.wt n:Rat)):=qa1
  generalize upd H3 r (frO (L*(D.wt n:Rat)))=H4 at*
  have ho4:=s4 _ _ ho2
  have ht4:=s4 _ _ ht
  have el4:=s4 _ _ el
  clear ho2 ht hRg hr htp s3 hfr
  walk_at "g"
  refine⟨t,S,.str n,rfl,hT0.tr.same (sT.trans s4),.inl ⟨n,_,rfl,hlN,by omega,fun ll hll=>?_⟩⟩
  have s5:=s4.trans (qa7 hll (.lst ((D.ln n).map V.str)))
  have ell:upd H4 ll (.lst ((D.ln n).map V.str)) ll=some (.lst ((D.ln n).map V.str)):=qa1
  have el5:=qaa (o':=.lst ((D.ln n).map V.str)) el4 hll
  have hsh5:qbm (upd H4 ll (.lst ((D.ln n).map V.str))) r (L*(D.wt n:Rat)):=qaa hsh hll
  have nl5:ll≠dl:=fun z=>by subst z;rw [el4] at hll;cases hll
  generalize upd H4 ll (.lst ((D.ln n).map V.str))=H5 at*
  have ho5:=s5 _ _ (sm _ _ nel ho)
  have nrl:r≠dl:=fun z=>by subst z;unfold qbm at hsh5;rw [el5] at hsh5;cases hsh5
  clear hll el4 ht4 ho4 hsh s4
  walk_at "g"
  refine qcc (xs:=(D.ln n).map V.str) (fun j σ H'=>∃(k2:List (Key × V)) (w3:Option V),σ=[some (.ref de),some (.ref lv),some (.ref ln),some (.str n),some (.ref r),w3]/\SameBut dl H5 H'/\H' dl=some (.dK k2)/\FD H' k2 (domQ HS fun h=>if h∈(D.ln n).take j then lf h - L*ldQ D (R.take i) h - L*(D.wt n:Rat) else lf h - L*ldQ D (R.take i) h)/\k2.length=kl.length) ⟨kl',_,rfl,fun b u _ e=>e,el5,(hF.t (qc1.of s5)).cast fun z=>by simp,hkl⟩ ?_ ?_ ?_
  .rintro j σ H' _ ⟨k2,w3,rfl,s6,_⟩;exact SqL.of (s6 _ _ nl5 ell)
  .rintro j v σ H6 hv ⟨k2,w3,rfl,s6,el6,hF6,hk6⟩
   rw [getElem?_map] at hv
   obtain⟨h,hh,rfl⟩:=Option.map_eq_some_iff.mp hv
   have hhl:=mem_of_getElem? hh
   have hnt:h∉(D.ln n).take j:=qet lnd hh
   have hRl:Rd H6 dl (.dK k2):=.inl el6
   have ho6:=s6 _ _ nel ho5
   have hhH:h∈HS:=hD.hs n hn0 h hhl
   clear hv
   walk_at "g"
   refine r_dgF hRl hF6 (qfq hhH) fun bq hbq=>?_
   rw [if_neg hnt] at hbq
   obtain⟨w0,hw0,_⟩:=hF6.get h _ (qfq hhH)
   walk_at "g"
   refine⟨bq,r,_,_,rfl,hbq,s6 _ _ nrl hsh5,rLf i n hn0 h hhl,rLw n hnR,fun r2 hr2=>?_⟩
   have s7:=qa7 hr2 (frO (lf h - L*ldQ D (R.take i) h - L*(D.wt n:Rat)))
   have hfq:qbm (upd H6 r2 (frO (lf h - L*ldQ D (R.take i) h - L*(D.wt n:Rat)))) r2 (lf h - L*ldQ D (R.take i) h - L*(D.wt n:Rat)):=qa1
   generalize upd H6 r2 (frO (lf h - L*ldQ D (R.take i) h - L*(D.wt n:Rat)))=H7 at*
   have el7:=s7 _ _ el6
   have ho7:=s7 _ _ ho6
   have hlz:=hD.lz
   have zl:k2.length < sizeLine:=by show _ < 16777216;omega
   clear hr2 el6 ho6
   walk_at "g"
   have t2:qc1 H7 (upd H7 dl (.dK (qc3 k2 (Sum.inr h) (.ref r2)))):=qc1.upd el7 fun xs e=>by cases e
   refine⟨_,_,rfl,fun b u n2 e=>by rw [qa6 n2];exact s7 _ _ (s6 b u n2 e),qa1,(((hF6.t (qc1.of s7)).put h hfq).t t2).cast fun y=>?_,by rw [putK_len hw0];exact hk6⟩
   have tk:y∈(D.ln n).take (j+1)↔y∈(D.ln n).take j\/y=h:=qam hh y
   unfold domQ
   dsimp only
   by_cases c:y=h
   .rw [if_pos c,if_pos (by rw [c];exact hhH),if_pos (tk.mpr (.inr c)),c]
   .rw [if_neg c]
    by_cases c2:y∈(D.ln n).take j
    .rw [if_pos c2,if_pos (tk.mpr (.inl c2))]
    .rw [if_neg c2,if_neg fun h'=>(tk.mp h').elim c2 c]
  .rintro σ H6 ⟨k2,w3',rfl,s6,el6,hF6,hk6⟩
   rw [length_map,take_length] at hF6
   refine⟨k2,_,_,_,rfl,fun b u n2 e=>s6 _ _ n2 (s5 _ _ (sm b u n2 e)),el6,hF6.cast fun z=>?_,hk6⟩
   congr 1
   funext h
   have e8:=ldQ_app ok (V:=R.take i) (n:=n) (by rw [<-etk];exact ndR.sublist (List.take_sublist _ _)) (fun m hm=>sub m (hRW m (List.mem_of_mem_take (by rw [<-etk] at hm;exact hm)))) h
   rw [etk,e8]
   by_cases c:h∈D.ln n
   .rw [if_pos c,if_pos c];grind
   .rw [if_neg c,if_neg c];grind
 rintro σ H' ⟨kl',w1,w2,w3,rfl,sm,el,hF,hkl⟩
 have ho2:=sm _ _ nel ho
 have hw2:=sm _ _ nwl hD.w
 have hln2:=sm _ _ nll hln
 walk_at "g"
 intro C s9 H9 fp acc hacc
 refine c_by W.length (fun j Hx=>Same H' Hx/\Hx acc=some (.lst ((wls (W.take j) R).map V.str))) ⟨qa7 hacc _,qa1⟩ ?_ ?_ ?_ ?_
 .rintro j Hx hj ⟨sx,_⟩
  exact⟨_,.str W[j],SqL.of (sx _ _ hw2),by rw [getElem?_map,getElem?_eq_getElem hj];rfl⟩
 .rintro Hx ⟨sx,_⟩
  exact⟨_,SqL.of (sx _ _ hw2),by rw [length_map];exact Nat.le_refl _⟩
 .rintro j Hx v H'' hj ⟨sx,ea⟩ ⟨rfl,hv⟩
  have hv:=hv _ (SqL.of (sx _ _ hw2))
  rw [getElem?_map,getElem?_eq_getElem hj] at hv
  cases hv
  have etj:W.take (j+1)=W.take j++ [W[j]]:=by rw [take_add_one,getElem?_eq_getElem hj];rfl
  generalize W[j]=n at*
  have hln3:=sx _ _ hln2
  have zl:((wls (W.take j) R).map V.str).length < sizeLine:=by
   rw [length_map]
   have h1:=wls_len (W.take j) R
   rw [length_take] at h1
   show _ < 16777216
   omega
  clear hv
  walk_at "g"
  refine r_notInSt (SqL.of hln3) ?_
  by_cases c:n∈R
  .rw [decide_eq_true c]
   walk_at "g"
   refine⟨sx,?_⟩
   rw [ea,etj]
   unfold wls
   rw [filter_append,filter_cons,if_neg (by simp [c]),List.filter_nil,append_nil]
  .rw [decide_eq_false c]
   walk_at "g"
   refine⟨qb4 sx hacc,?_⟩
   rw [qa1,etj]
   unfold wls
   rw [filter_append,filter_cons,if_pos (by simp [c]),map_append];rfl
 rintro H3 ⟨s3,ea⟩
 rw [take_length] at ea
 have ho3:=s3 _ _ ho2
 have hF3:=hF.t (qc1.of s3)
 have el3:=s3 _ _ el
 have ne3:acc≠de:=fun e=>by subst e;rw [ho2] at hacc;cases hacc
 walk_at "g"
 refine qfy ho3 cl n3 (by show 5 < 1000;decide) ?_
 rw [show qec "waiting" (.ref acc) (fsD t dg lw dl dgo)=fsD t dg acc dl dgo from rfl]
 have hacc0:H acc=none:=by
  cases e:H acc with
  |none=>rfl
  |some u=>
   by_cases c:acc=dl
   .subst c;rw [el] at hacc;cases hacc
   .rw [sm _ _ c e] at hacc;cases hacc
 have sb:Sb2 de dl H (upd H3 de (.ins d.w00 dx (fsD t dg acc dl dgo))):=fun b u h1 h2 e=>by rw [qa6 h1];exact s3 _ _ (sm _ _ h2 e)
 have t4:qc1 H3 (upd H3 de (.ins d.w00 dx (fsD t dg acc dl dgo))):=qc1.upd ho3 fun xs e=>by cases e
 have sH0:Same H0 (upd H3 de (.ins d.w00 dx (fsD t dg acc dl dgo))):=fun b u e=>sb b u (fun z=>by subst z;rw [f0e] at e;cases e) (fun z=>by subst z;rw [f0l] at e;cases e) (s0 b u e)
 have tS:qc1 H (upd H3 de (.ins d.w00 dx (fsD t dg acc dl dgo))):=fun a xs e=>sb a _ (fun z=>by subst z;rw [ho] at e;cases e) (fun z=>by subst z;rw [hD.l] at e;cases e) e
 have ngd:dg≠de:=fun z=>by subst z;have:=hD.g;rw [ho] at this;cases this
 have ngo:dgo≠de:=fun z=>by subst z;have:=hD.go;rw [ho] at this;cases this
 have hlz:=hD.lz
 refine q acc kl' _ sb hacc0 ⟨⟨dx,qa1⟩,⟨H0,sH0,f0e,f0l,hT0⟩,sb _ _ ngd hD.nld.symm hD.g,hD.gA,by rw [qa6 ne3];exact ea,by rw [qa6 nel.symm];exact el3,(hF3.t t4).cast fun z=>?_,by omega,sb _ _ ngo hD.nlg.symm hD.go,hD.goA.t tS,hD.nlg,hD.nld,hD.hs⟩
 rw [length_map,take_length]
 rfl
section
variable {D: Dl}
theorem RdI.hi (ok:DlOk D) {W:List Str} {lf lv:Str->Rat} {M:Rat} {N:Nat} (I:RdI D W lf lv M N) {n h:Str} (hn:n∈D.W0) (hl:h∈D.ln n):lf h<=(B31:Rat):=by
 have h1:=I.sum h
 have h2:0<=qbz D.W0 fun n=>if n∉W/\h∈D.ln n then lv n*(D.wt n:Rat) else 0:=qg8 fun m hm=>by
  try dsimp only
  split
  .next c=>exact Rat.mul_nonneg (I.st m hm c.1).1 (by have:=(wtQ ok hm).1;grind)
  .grind
 have h3:(D.rm h:Rat)<=(B31:Rat):=by
  have h:D.rm h<=((B31:Nat):Int):=ok.r1 n hn h hl
  rw [<-Rat.intCast_natCast]
  exact_mod_cast h
 grind
theorem nb7 {N k:Nat} (h:N<=10000^(7 - k)):N<=10000^7:=Nat.le_trans h (Nat.pow_le_pow_right (by decide) (by omega))
theorem nb8 {N:Nat} (h:N<=10000^7):N<=10000^8:=Nat.le_trans h (Nat.pow_le_pow_right (by decide) (by decide))
theorem b31_le:B31<=10^40:=by show 10^31<=10^40;exact Nat.pow_le_pow_right (by decide) (by decide)
theorem b31_0:(0:Rat)<=(B31:Rat):=by exact_mod_cast Nat.zero_le B31
theorem RdI.rb (ok:DlOk D) {W:List Str} {lf lv:Str->Rat} {M:Rat} {N:Nat} (I:RdI D W lf lv M N) {n h:Str} (hn:n∈D.W0) (hl:h∈D.ln n):RB (lf h):=
 rb_of I.n0 (nb8 (nb7 I.nb)) b31_le (I.dl h) (by have:=I.nn n hn h hl;have:=b31_0;grind) (I.hi ok hn hl)
theorem nat_int {z:Int} (h:0<=z):((z.toNat:Nat):Rat)=(z:Rat):=by
 have:((z.toNat:Nat):Int)=z:=by omega
 rw [<-Rat.intCast_natCast,this]
theorem RdI.rbF (ok:DlOk D) {W:List Str} {lf lv:Str->Rat} {M:Rat} {N:Nat} (I:RdI D W lf lv M N) {n h:Str} (hn:n∈W) (hl:h∈D.ln n):RB (lf h / ldQ D W h):=by
 obtain⟨z,hz⟩:=qfk (D:=D) W h
 have b1:=qee ok hn (I.sub n hn) hl
 have b2:=ldQ_bd ok W h
 have l0:=I.nn n (I.sub n hn) h hl
 have lh:=I.hi ok (I.sub n hn) hl
 rw [hz] at b1 b2 ⊢
 have b1':(1:Int)<=z:=by exact_mod_cast b1
 have b2':z<=7000:=by exact_mod_cast b2
 obtain⟨y,hy⟩:=I.dl h
 have e:lf h /(z:Rat)*(z:Rat)=lf h:=Rat.div_mul_cancel (by grind)
 have p:(0:Rat) <(z:Rat):=by grind
 have g0:0<=lf h /(z:Rat):=(le_div p).mpr (by grind)
 have g1:lf h /(z:Rat)<=lf h:=by
  have:=Rat.mul_le_mul_of_nonneg_left b1 g0
  grind
 have bb:=b31_0
 refine rb_of (N:=N*z.toNat) (B:=B31) (Nat.mul_pos I.n0 (by omega)) ?_ b31_le ⟨y,?_⟩ (by grind) (by grind)
 .have h1:N*z.toNat<=10000^7*10000:=Nat.mul_le_mul (nb7 I.nb) (by omega)
  rw [<-Nat.pow_succ] at h1
  exact h1
 .rw [Rat.natCast_mul,nat_int (by omega),<-hy]
  grind
theorem goQ_rb (ok:DlOk D) {n:Str} (hn:n∈D.W0):RB (goQ D n):=by
 have h1:=goQ_b ok hn
 have h2:=qfn ok hn
 have w1:=ok.w1 n hn
 have w2:=ok.w2 n hn
 have bb:=b31_0
 refine rb_of (N:=(D.wt n).toNat) (B:=B31) (by omega) (Nat.le_trans (show (D.wt n).toNat<=1000 by omega) (by decide)) b31_le ⟨D.wa n,?_⟩ (by grind) h1.2
 rw [nat_int (by omega),h2]
theorem cast_b36:(((10^36:Nat)):Rat)=100000*(B31:Rat):=by
 have:(10^36:Nat)=100000*B31:=by show (10^36:Nat)=100000*10^31;decide
 rw [this,Rat.natCast_mul]
 rfl
structure Sz (D:Dl) (W:List Str) (lf:Str->Rat) (L:Rat):Prop where
 l:RB L
 w:∀n∈rdy D W lf L,RB (L*(D.wt n:Rat))
 f:∀i,∀n∈D.W0,∀h∈D.ln n,RB (lf h - L*ldQ D ((rdy D W lf L).take i) h)
theorem RdI.sz (ok:DlOk D) {W:List Str} {lf lv:Str->Rat} {M L:Rat} {N:Nat} (I:RdI D W lf lv M N) (il:IsL D W lf L):Sz D W lf L:=by
 obtain⟨ML,Lb,_,N',_,kv,I'⟩:=I.next ok il
 have L0:0<=L:=by have:=I.m0;grind
 have bb:=b31_0
 have n8:=nb8 (nb7 I'.nb)
 refine⟨rb_of I'.n0 n8 b31_le kv (by grind) Lb,fun n hn=>?_,fun i n hn h hl=>?_⟩
 .have hw:=wtQ ok (I.sub n (qbw.mp hn).1)
  have w0:(0:Rat)<=(D.wt n:Rat):=by grind
  have h1:=Rat.mul_nonneg L0 w0
  have h2:=Rat.mul_le_mul_of_nonneg_left hw.2 L0
  refine rb_of (B:=10^36) I'.n0 n8 (by decide) (kv.ints _) ?_ ?_ <;> rw [cast_b36] <;> grind
 .obtain⟨z1,e1⟩:=qfk (D:=D) ((rdy D W lf L).take i) h
  obtain⟨z2,e2⟩:=qfk (D:=D) (rdy D W lf L) h
  have n1:=ldQ_nn ok ((rdy D W lf L).take i) h
  have n2:=ldQ_bd ok ((rdy D W lf L).take i) h
  have h1:=Rat.mul_nonneg L0 n1
  have h2:=Rat.mul_le_mul_of_nonneg_left n2 L0
  have l0:=I.nn n hn h hl
  have lh:=I.hi ok hn hl
  have dv:Dv N' (lf h - L*ldQ D ((rdy D W lf L).take i) h):=by
   have:=(I'.dl h).sub (kv.ints (z1 - z2))
   have e:lfN D lf L (rdy D W lf L) h - L*((z1 - z2:Int):Rat)=lf h - L*ldQ D ((rdy D W lf L).take i) h:=by
    unfold lfN
    rw [e1,e2,Rat.intCast_sub]
    grind
   rw [e] at this
   exact this
  refine rb_of (B:=10^36) I'.n0 n8 (by decide) dv ?_ ?_ <;> rw [cast_b36] <;> grind
end
theorem fd_row {H:Hp} {φ:Str->Option Rat}:∀{kvs:List (Key × V)},(∀p∈kvs,∃z a q,p=(Sum.inr z,V.ref a)/\qbm H a q/\φ z=some q)->∃ps:List (Addr × Rat),kvs.map (·.2)=ps.map (fun p=>V.ref p.1)/\(∀p∈ps,qbm H p.1 p.2/\∃z,φ z=some p.2)/\∀k a,(k,V.ref a)∈kvs->∃p∈ps,p.1=a
 | [],_=>⟨[],rfl,fun p hp=>by simp at hp,fun k a h=>by simp at h⟩
 |p :: kvs,h=>by
  obtain⟨ps,e1,e2,e3⟩:=fd_row (kvs:=kvs) fun p hp=>h p (mem_cons_of_mem _ hp)
  obtain⟨z,a,q,rfl,hf,hz⟩:=h p (mem_cons_self ..)
  refine⟨(a,q) :: ps,by rw [map_cons,map_cons,e1],fun p hp=>?_,fun k b hb=>?_⟩
  .rcases mem_cons.mp hp with rfl|hp
   .exact⟨hf,z,hz⟩
   .exact e2 p hp
  .rcases mem_cons.mp hb with e|hb
   .injection e with _ e
    injection e with e
    exact⟨(a,q),mem_cons_self ..,e.symm⟩
   .obtain⟨p,hp,e⟩:=e3 k b hb
    exact⟨p,mem_cons_of_mem _ hp,e⟩
theorem FD.row {H:Hp} {kvs:List (Key × V)} {φ:Str->Option Rat} (h:FD H kvs φ):∃ps:List (Addr × Rat),kvs.map (·.2)=ps.map (fun p=>V.ref p.1)/\(∀p∈ps,qbm H p.1 p.2/\∃z,φ z=some p.2)/\∀z q,φ z=some q->∃p∈ps,p.2=q:=by
 obtain⟨ps,e1,e2,e3⟩:=fd_row h.sh
 refine⟨ps,e1,e2,fun z q hz=>?_⟩
 obtain⟨a,ha,hf⟩:=h.get z q hz
 obtain⟨p,hp,rfl⟩:=e3 _ a (valV_mem ha)
 exact⟨p,hp,(e2 p hp).1.uniq hf⟩
def w4f (K:Frag) (d:Ad):Sp:=fun vs H Q _=>∃(de t dg lw dl dgo:Addr) (S:Ts) (D:Dl) (HS:List Str) (kg kl kgo:List (Key × V)) (W:List Str) (lf lv:Str->Rat) (M:Rat) (N:Nat),vs=[.ref de]/\DlOk D/\DeAt d H de t dg lw dl dgo S D HS kg kl kgo W lf/\RdI D W lf lv M N/\W≠ []/\
 ∀(L:Rat) (rt la ln lw':Addr) (kl':List (Key × V)) H',IsL D W lf L->Sb2 de dl H H'->H ln=none->H lw'=none->H' rt=some (.tup [.ref la,.ref ln])->qbm H' la L->H' ln=some (.lst ((rdy D W lf L).map V.str))->DeAt d H' de t dg lw' dl dgo S D HS kg kl' kgo (wls W (rdy D W lf L)) (lfN D lf L (rdy D W lf L))->Q (.ref rt) H'
include T in
theorem w4q:FnOk P w K mg base (My.CX1 P w) 8 d.w1b d.w18 ["self"] (w4f K d):=by
 refine okX T.w52 w0l (fun vs H Q E h=>?_) (fun cdv A outer s H vs Q E hr h=>?_)
 .obtain⟨de,t,dg,lw,dl,dgo,S,D,HS,kg,kl,kgo,W,lf,lv,M,N,rfl,_⟩:=h;rfl
 obtain⟨de,t,dg,lw,dl,dgo,S,D,HS,kg,kl,kgo,W,lf,lv,M,N,rfl,ok,hD,I,wn,q⟩:=h
 refine⟨_,(qa2 (qaf (i:=1) w0l.nd rfl (Or.inl rfl) (pe_methX0 (pv 0) T.w0e T.w12 ((w7a T).mono (by decide)) hr T.w8d .nil qar))
  (qa2 (qaf (i:=2) w0l.nd rfl (Or.inl rfl) (qah ((wbu T).mono (by decide)) hr rfl T.wcz T.w8u.kp T.wda .nil qaw (qa0 (qag op_cat (qca (call_listV rfl) rfl T.wb2 PyProof.Rows.boot_list (qa0 (pe_bm0 PySem.F.plainAttrs_dict PySem.F.slot_dict_values PySem.F.type_dict_values mt_vals (pv 1)) qa3)) (qco (caps:=[0]) (cn:=["self"]) (qc6 rfl rfl (by rfl) (by rfl) rfl ⟨rfl,trivial⟩ (by rfl) rfl ⟨⟨rfl,rfl,rfl,rfl,_,rfl⟩,trivial⟩ (by decide)) rfl (qb0 (qay (pv 0) rfl)) (fun _ _ _ _=>qej) (fun _ _ _ _=>(qat (qau hr) (qay (pv 1) rfl) (pv 0) (fun _ _=>rfl))))) qa3)))
  (qa2 (qaf (i:=3) w0l.nd rfl (Or.inl rfl) (qaz (pv 0) T.w0e T.w13 ((w7j T).mono (by decide)) hr T.w80 .nil qar (qa0 (pv 2) (qa0 (pv 1) qa3))))
  (qa2 (qba (qaz (pv 0) T.w0e T.w0w ((w6k T).mono (by decide)) hr T.w7d .nil qar (qa0 (pv 2) (qa0 (pv 3) qa3))))
  (qa5 (qad (qdo (qa0 (pv 2) (qa0 (pv 3) qa3))))))))),?_⟩
 walk_at "d"
 try dsimp only [cxC]
 refine qab (σ:=[some (.ref de),none,none,none]) rfl ?_
 have cl:=T.w0e
 have n3:qap K d.w00 "waiting":=T.w04
 have n5:qap K d.w00 "goals":=T.w0f
 obtain⟨dx,ho⟩:=hD.ob
 have w7:W.length<=7:=Nat.le_trans (List.Nodup.length_le_of_subset I.nd I.sub) ok.l8
 walk_at "g"
 refine⟨de,t,dg,lw,dl,dgo,S,D,HS,kg,kl,kgo,W,lf,rfl,ok,hD,I.sub,w7,fun n hn h hl=>I.rb ok (I.sub n hn) hl,fun lf' kf H1 s1 hlf el1 hF1 hk1=>?_⟩
 have ho1:=s1 _ _ ho
 have hR1:Rd H1 lf' (.dK kf):=.inl el1
 walk_at "g"
 refine r_vals hR1 fun v hv=>?_
 have s2:=s1.trans (qa7 hv (ValO v lf'))
 have el2:=qaa (o':=ValO v lf') el1 hv
 have ev2:upd H1 v (ValO v lf') v=some (ValO v lf'):=qa1
 have hF2:=hF1.t (qc1.of (qa7 hv (ValO v lf')))
 generalize upd H1 v (ValO v lf')=H2 at*
 clear hv hR1 el1 hF1 ho1
 walk_at "g"
 refine r_listV ev2 (.inl el2) fun l1 hl1=>?_
 have s3:=s2.trans (qa7 hl1 (.lst (kf.map (·.2))))
 have el3:=qaa (o':=.lst (kf.map (·.2))) el2 hl1
 have e13:upd H2 l1 (.lst (kf.map (·.2))) l1=some (.lst (kf.map (·.2))):=qa1
 have hF3:=hF2.t (qc1.of (qa7 hl1 (.lst (kf.map (·.2)))))
 generalize upd H2 l1 (.lst (kf.map (·.2)))=H3 at*
 clear hl1 el2 ev2 hF2
 have ho3:=s3 _ _ ho
 have hw3:=s3 _ _ hD.w
 walk_at "g"
 intro C s9 H9 fp acc hacc
 refine c_by W.length (fun j Hx=>∃ps:List (Addr × Rat),Same H3 Hx/\Hx acc=some (.lst (ps.map fun p=>V.ref p.1))/\(∀p∈ps,qbm Hx p.1 p.2)/\ps.map (·.2)=(W.take j).map (goQ D)) ⟨[],qa7 hacc _,qa1,fun p hp=>by simp at hp,rfl⟩ ?_ ?_ ?_ ?_
 .rintro j Hx hj ⟨ps,sx,_⟩
  exact⟨_,.str W[j],SqL.of (sx _ _ hw3),by rw [getElem?_map,getElem?_eq_getElem hj];rfl⟩
 .rintro Hx ⟨ps,sx,_⟩
  exact⟨_,SqL.of (sx _ _ hw3),by rw [length_map];exact Nat.le_refl _⟩
 .rintro j Hx v H'' hj ⟨ps,sx,ea,hps,hms⟩ ⟨rfl,hv⟩
  have hv:=hv _ (SqL.of (sx _ _ hw3))
  rw [getElem?_map,getElem?_eq_getElem hj] at hv
  cases hv
  have hm:=I.sub _ (getElem_mem hj)
  have etj:W.take (j+1)=W.take j++ [W[j]]:=by rw [take_add_one,getElem?_eq_getElem hj];rfl
  have hlen:ps.length=j:=by have:=congrArg List.length hms;rw [length_map,length_map,length_take] at this;omega
  generalize W[j]=n at*
  have hRg:Rd H'' dgo (.dK kgo):=.inl (sx _ _ (s3 _ _ hD.go))
  have hFg:=hD.goA.t (qc1.of (s3.trans sx))
  have ho4:=sx _ _ ho3
  have zl:(ps.map fun p=>V.ref p.1).length < sizeLine:=by rw [length_map];show _ < 16777216;omega
  clear hv
  walk_at "g"
  refine r_dgF hRg hFg (qfq hm) fun b hb=>?_
  walk_at "g"
  have t5:qc1 H'' (upd H'' acc (.lst ((ps.map fun p=>V.ref p.1)++ [V.ref b]))):=qc1.upd ea fun xs e=>by cases e
  refine⟨ps++ [(b,goQ D n)],qb4 sx hacc,by rw [qa1,map_append];rfl,fun p hp=>?_,by rw [map_append,hms,etj,map_append];rfl⟩
  rcases mem_append.mp hp with h1|h1
  .exact t5 _ _ (hps p h1)
  .rw [mem_singleton.mp h1]
   exact t5 _ _ hb
 rintro H4 ⟨ps,s4,ea,hps,hms⟩
 rw [take_length] at hms
 obtain⟨pf,ef,hpf,hpa⟩:=(hF3.t (qc1.of s4)).row
 have e14:=s4 _ _ e13
 rw [ef] at e14
 have plen:ps.length=W.length:=by have:=congrArg List.length hms;rw [length_map,length_map] at this;exact this
 have flen:pf.length=kf.length:=by have:=congrArg List.length ef;rw [length_map,length_map] at this;exact this.symm
 refine r_cat e14 ea (by rw [length_map,length_map];show _<=16777216;omega) fun l2 hl2=>?_
 rw [<-map_append]
 have s5:=s4.trans (qa7 hl2 (.lst ((pf++ps).map fun p=>V.ref p.1)))
 have s5':Same H4 (upd H4 l2 (.lst ((pf++ps).map fun p=>V.ref p.1))):=qa7 hl2 _
 have e5:upd H4 l2 (.lst ((pf++ps).map fun p=>V.ref p.1)) l2=some (.lst ((pf++ps).map fun p=>V.ref p.1)):=qa1
 generalize upd H4 l2 (.lst ((pf++ps).map fun p=>V.ref p.1))=H5 at*
 have s6:=s3.trans s5
 have hD5:=hD.same s6
 have ho5:=s6 _ _ ho
 have el5:=s5 _ _ el3
 have hF5:=hF3.t (qc1.of s5)
 have hpos:∀n∈W,∀h∈D.ln n,∃p∈pf,p.2=lf h / ldQ D W h:=fun n hn h hl=>hpa h _ (flF_in ok I.nd I.sub lf hn hl)
 have hfl:∀p∈pf,∃n∈W,∃h∈D.ln n,p.2=lf h / ldQ D W h:=fun p hp=>by
  obtain⟨z,hz⟩:=(hpf p hp).2
  by_cases c:∃n∈W,z∈D.ln n
  .obtain⟨n,hn,hl⟩:=c
   rw [flF_in ok I.nd I.sub lf hn hl] at hz
   exact⟨n,hn,z,hl,(Option.some.inj hz).symm⟩
  .unfold flF at hz
   rw [if_neg c] at hz
   cases hz
 have hgo:∀p∈ps,∃n∈W,p.2=goQ D n:=fun p hp=>by
  have h1:p.2∈ps.map (·.2):=mem_map.mpr ⟨p,hp,rfl⟩
  rw [hms] at h1
  obtain⟨n,hn,e⟩:=mem_map.mp h1
  exact⟨n,hn,e.symm⟩
 have hog:∀n∈W,∃p∈ps,p.2=goQ D n:=fun n hn=>by
  have h1:goQ D n∈ps.map (·.2):=by rw [hms];exact mem_map.mpr ⟨n,hn,rfl⟩
  obtain⟨p,hp,e⟩:=mem_map.mp h1
  exact⟨p,hp,e⟩
 have hFr:FrL H5 (pf++ps):=fun p hp=>by
  rcases mem_append.mp hp with h1|h1
  .obtain⟨n,hn,h,hl,e⟩:=hfl p h1
   exact⟨s5' _ _ (hpf p h1).1,by rw [e];exact I.rbF ok hn hl⟩
  .obtain⟨n,hn,e⟩:=hgo p h1
   exact⟨s5' _ _ (hps p h1),by rw [e];exact goQ_rb ok (I.sub n hn)⟩
 have hne:pf++ps≠ []:=fun e=>by
  have:=List.length_pos_iff.mpr wn
  have:=congrArg List.length e
  rw [length_append,length_nil] at this
  omega
 clear hl2 ea e14 s4 s5 s5' el3 hF3 e13 hw3 ho3
 walk_at "g"
 refine⟨l2,pf++ps,rfl,e5,hFr,hne,fun p hp hle=>?_⟩
 have il:IsL D W lf p.2:=by
  refine⟨fun n hn=>⟨fun h hl=>?_,?_⟩,?_⟩
  .obtain⟨p',hp',e⟩:=hpos n hn h hl
   rw [<-e]
   exact hle p' (mem_append_left _ hp')
  .obtain⟨p',hp',e⟩:=hog n hn
   rw [<-e]
   exact hle p' (mem_append_right _ hp')
  .rcases mem_append.mp hp with h1|h1
   .obtain⟨n,hn,h,hl,e⟩:=hfl p h1
    exact⟨n,hn,.inl ⟨h,hl,e.symm⟩⟩
   .obtain⟨n,hn,e⟩:=hgo p h1
    exact⟨n,hn,.inr e.symm⟩
 have hLa:=(hFr p hp).1
 have sz:=I.sz ok il
 generalize p.2=L at*
 generalize p.1=la at*
 walk_at "g"
 refine⟨de,t,dg,lw,dl,dgo,la,lf',S,D,HS,kg,kl,kgo,kf,W,lf,L,rfl,ok,hD5,I.sub,I.nd,hLa,el5,hF5,fun ln H6 s7 hln eln=>?_⟩
 have ho6:=s7 _ _ ho5
 have hLa6:qbm H6 la L:=s7 _ _ hLa
 walk_at "g"
 refine⟨de,t,dg,lw,dl,dgo,la,ln,S,D,HS,kg,kl,kgo,W,_,lf,L,rfl,ok,hD5.same s7,I.sub,I.nd,hLa6,sz.l,eln,fun n hn=>(qbw.mp hn).1,I.nd.filter _,sz.w,sz.f,fun lw' kl' H7 sb7 hlw' hD7=>?_⟩
 have nae:la≠de:=fun e=>by subst e;unfold qbm at hLa6;rw [ho6] at hLa6;cases hLa6
 have nal:la≠dl:=fun e=>by subst e;unfold qbm at hLa;rw [hD5.l] at hLa;cases hLa
 have nne:ln≠de:=fun e=>by subst e;rw [ho6] at eln;cases eln
 have nnl:ln≠dl:=fun e=>by subst e;rw [(hD5.same s7).l] at eln;cases eln
 have eln7:=sb7 _ _ nne nnl eln
 have hLa7:qbm H7 la L:=sb7 _ _ nae nal hLa6
 walk_at "g"
 rename_i rt hrt
 have s8:=qa7 hrt (.tup [V.ref la,V.ref ln])
 exact q L rt la ln lw' kl' _ il (fun b u h1 h2 e=>s8 _ _ (sb7 b u h1 h2 (s7 _ _ (s6 _ _ e)))) (s6.free hln) ((s6.trans s7).free hlw') qa1 (s8 _ _ hLa7) (s8 _ _ eln7) (hD7.same s8)
structure Rnd where
 a:Addr
 la:Addr
 ln:Addr
 L:Rat
 ns:List Str
structure RndAt (H:Hp) (r:Rnd):Prop where
 t:H r.a=some (.tup [.ref r.la,.ref r.ln])
 l:qbm H r.la r.L
 n:H r.ln=some (.lst (r.ns.map V.str))
theorem RndAt.same {H H':Hp} {r:Rnd} (h:RndAt H r) (s:Same H H'):RndAt H' r:=⟨s _ _ h.t,s _ _ h.l,s _ _ h.n⟩
theorem RndAt.sb {H H':Hp} {r:Rnd} {a b C dx:Addr} {fs:List (Str × V)} {kvs:List (Key × V)} (h:RndAt H r) (ea:H a=some (.ins C dx fs)) (eb:H b=some (.dK kvs)) (s:Sb2 a b H H'):RndAt H' r:=by
 have hl:=h.l
 unfold qbm at hl
 exact⟨s _ _ (fun e=>by have:=h.t;rw [e,ea] at this;cases this) (fun e=>by have:=h.t;rw [e,eb] at this;cases this) h.t,
  s _ _ (fun e=>by rw [e,ea] at hl;cases hl) (fun e=>by rw [e,eb] at hl;cases hl) hl,
  s _ _ (fun e=>by have:=h.n;rw [e,ea] at this;cases this) (fun e=>by have:=h.n;rw [e,eb] at this;cases this) h.n⟩
theorem RndAt.put {H:Hp} {r:Rnd} {l:Addr} {xs ys:List V} (h:RndAt H r) (el:H l=some (.lst xs)) (n:r.ln≠l):RndAt (upd H l (.lst ys)) r:=by
 have hl:=h.l
 unfold qbm at hl
 refine⟨?_,?_,?_⟩
 .rw [qa6 fun e=>by have:=h.t;rw [e,el] at this;cases this];exact h.t
 .show upd H l (.lst ys) r.la=_
  rw [qa6 fun e=>by rw [e,el] at hl;cases hl];exact hl
 .rw [qa6 n];exact h.n
structure RdsOk (D:Dl) (W:List Str) (lv:Str->Rat) (N:Nat) (rs:List Rnd):Prop where
 m:∀r∈rs,∀n∈r.ns,n∈D.W0/\n∉W/\r.L=lv n
 e:∀n∈D.W0,n∉W->∃r∈rs,n∈r.ns
 rb:∀r∈rs,RB r.L
 dv:∀r∈rs,Dv N r.L
 z:rs.length+W.length<=D.W0.length
open Classical in
theorem RdsOk.next {D:Dl} {W:List Str} {lf lv:Str->Rat} {N N':Nat} {rs:List Rnd} {r:Rnd} (h:RdsOk D W lv N rs) (hk:∃k:Nat,N'=N*k) (kv:Dv N' r.L) (sub:∀n∈W,n∈D.W0) (e:r.ns=rdy D W lf r.L) (rb:RB r.L) (len:(wls W (rdy D W lf r.L)).length < W.length):
  RdsOk D (wls W (rdy D W lf r.L)) (fun n=>if n∈rdy D W lf r.L then r.L else lv n) N' (rs++ [r]):=by
 refine⟨fun r' hr' n hn=>?_,fun n hn hnw=>?_,fun r' hr'=>?_,fun r' hr'=>?_,?_⟩
 .rcases mem_append.mp hr' with h1|h1
  .obtain⟨a1,a2,a3⟩:=h.m r' h1 n hn
   refine⟨a1,fun z=>a2 (qbk.mp z).1,?_⟩
   rw [if_neg fun z=>a2 (qbw.mp z).1]
   exact a3
  .have:=mem_singleton.mp h1
   subst this
   rw [e] at hn
   exact⟨sub n (qbw.mp hn).1,fun z=>(qbk.mp z).2 hn,by rw [if_pos hn]⟩
 .by_cases c:n∈W
  .refine⟨r,mem_append_right _ (mem_singleton.mpr rfl),?_⟩
   rw [e]
   exact Classical.byContradiction fun z=>hnw (qbk.mpr ⟨c,z⟩)
  .obtain⟨r',h1,h2⟩:=h.e n hn c
   exact⟨r',mem_append_left _ h1,h2⟩
 .rcases mem_append.mp hr' with h1|h1
  .exact h.rb r' h1
  .rw [mem_singleton.mp h1];exact rb
 .obtain⟨k,rfl⟩:=hk
  rcases mem_append.mp hr' with h1|h1
  .exact(h.dv r' h1).mul k
  .rw [mem_singleton.mp h1];exact kv
 .have:=h.z
  rw [length_append,length_singleton]
  omega
open Classical in
theorem RdI.start {D:Dl} (ok:DlOk D):RdI D D.W0 (fun h=>(D.rm h:Rat)) (fun _=>0) 0 1:=by
 refine⟨fun n h=>h,ok.nd,fun h=>?_,fun n hn h hl=>?_,fun n hn h hl=>?_,fun n hn=>(goQ_b ok hn).1,Rat.le_refl,fun n hn hnw=>absurd hn hnw,by decide,fun h=>⟨D.rm h,?_⟩,Nat.one_le_pow _ _ (by decide)⟩
 .rw [qf0 fun n hn=>if_neg fun z=>z.1 hn];grind
 .have:(0:Rat)<=(D.rm h:Rat):=by exact_mod_cast ok.r0 n hn h hl
  grind
 .exact_mod_cast ok.r0 n hn h hl
 .show (D.rm h:Rat)*((1:Nat):Rat)=_
  grind
theorem DeAt.lst {d:Ad} {H:Hp} {de t dg lw dl dgo:Addr} {S:Ts} {D:Dl} {HS:List Str} {kg kl kgo:List (Key × V)} {W:List Str} {lf:Str->Rat} {H0:Hp} {lt:Addr} {xs ys:List V} (h:DeAt d H de t dg lw dl dgo S D HS kg kl kgo W lf) (el:H lt=some (.lst xs)) (n:lw≠lt) (s:Same H0 (upd H lt (.lst ys))) (f1:H0 de=none) (f2:H0 dl=none) (hT:TrD d H0 t S D):DeAt d (upd H lt (.lst ys)) de t dg lw dl dgo S D HS kg kl kgo W lf:=by
 obtain⟨dx,ho⟩:=h.ob
 have t1:qc1 H (upd H lt (.lst ys)):=qc1.upd el fun xs e=>by cases e
 refine⟨⟨dx,?_⟩,⟨H0,s,f1,f2,hT⟩,?_,h.gA,?_,?_,h.lA.t t1,h.lz,?_,h.goA.t t1,h.nlg,h.nld,h.hs⟩
 .rw [qa6 fun e=>by rw [e,el] at ho;cases ho];exact ho
 .rw [qa6 fun e=>by have:=h.g;rw [e,el] at this;cases this];exact h.g
 .rw [qa6 n];exact h.w
 .rw [qa6 fun e=>by have:=h.l;rw [e,el] at this;cases this];exact h.l
 .rw [qa6 fun e=>by have:=h.go;rw [e,el] at this;cases this];exact h.go
noncomputable def stR (D:Dl) (rs:List Rnd):List Str × (Str->Rat):=rs.foldl (fun p r=>(wls p.1 r.ns,lfN D p.2 r.L r.ns)) (D.W0,fun h=>(D.rm h:Rat))
structure RdT (D:Dl) (W:List Str) (lf:Str->Rat) (rs:List Rnd):Prop where
 st:stR D rs=(W,lf)
 at_:∀(i:Nat) (r:Rnd),rs[i]?=some r->IsL D (stR D (rs.take i)).1 (stR D (rs.take i)).2 r.L/\r.ns=rdy D (stR D (rs.take i)).1 (stR D (rs.take i)).2 r.L
theorem RdT.nil (D:Dl):RdT D D.W0 (fun h=>(D.rm h:Rat)) []:=⟨rfl,fun i r h=>by simp at h⟩
theorem RdT.next {D:Dl} {W:List Str} {lf:Str->Rat} {rs:List Rnd} {r:Rnd} (h:RdT D W lf rs) (il:IsL D W lf r.L) (e:r.ns=rdy D W lf r.L):RdT D (wls W (rdy D W lf r.L)) (lfN D lf r.L (rdy D W lf r.L)) (rs++ [r]):=by
 refine⟨?_,fun i r' hr=>?_⟩
 .have:=h.st
  unfold stR at this ⊢
  rw [List.foldl_append,this,<-e]
  rfl
 .by_cases c:i < rs.length
  .rw [List.getElem?_append_left c] at hr
   rw [List.take_append_of_le_length (Nat.le_of_lt c)]
   exact h.at_ i r' hr
  .have ei:i=rs.length:=by
    have:=(List.getElem?_eq_some_iff.mp hr).1
    rw [length_append,length_singleton] at this
    omega
   subst ei
   rw [List.getElem?_append_right (Nat.le_refl _),Nat.sub_self] at hr
   have:r=r':=by simpa using hr
   subst this
   rw [List.take_left,h.st]
   exact⟨il,e⟩
def wa4 (K:Frag) (d:Ad):Sp:=fun vs H Q _=>∃(t dr dw dg:Addr) (S:Ts) (D:Dl) (HS:List Str) (kr kw kg:List (Key × V)),vs=[.ref t,.ref dr,.ref dw,.ref dg]/\DlOk D/\PyProof.Rows.sortedS D.W0=true/\TrD d H t S D/\
 H dr=some (.dK kr)/\AD kr (qc0 HS D.rm)/\HS.Nodup/\HS.length<=60/\H dw=some (.dK kw)/\AD kw (qc0 D.W0 D.wa)/\H dg=some (.dK kg)/\AD kg (qc0 D.W0 D.wt)/\dg≠dw/\(∀n∈D.W0,∀h∈D.ln n,h∈HS)/\
 ∀(lt:Addr) (rs:List Rnd) (lf lv:Str->Rat) (M:Rat) (N:Nat) H',Same H H'->H lt=none->H' lt=some (.lst (rs.map fun r=>V.ref r.a))->(∀r∈rs,RndAt H' r/\H r.ln=none)->RdI D [] lf lv M N->RdsOk D [] lv N rs->RdT D [] lf rs->Q (.ref lt) H'
include T in
theorem waa:FnOk P w K mg base (My.CX1 P w) 9 d.w5o d.w4a ["tree","rooms","wants","weights"] (wa4 K d):=by
 refine okX T.w7w w4h (fun vs H Q E h=>?_) (fun cdv A outer s H vs Q E hr h=>?_)
 .obtain⟨t,dr,dw,dg,S,D,HS,kr,kw,kg,rfl,_⟩:=h;rfl
 obtain⟨t,dr,dw,dg,S,D,HS,kr,kw,kg,rfl,ok,srt,hT,hr0,hrA,hsn,hsl,hw,hwA,hg,hgA,ngw,hs,q⟩:=h
 refine⟨_,(qa2 (qaf (i:=4) w4h.nd rfl (Or.inl rfl) (pe_makeX T.w39 ((w7z T).mono (by decide)) hr rfl T.weh T.w8l .nil qar (qa0 (pv 0) (qa0 (pv 1) (qa0 (pv 2) (qa0 (pv 3) qa3))))))
  (qa2 (qaf (i:=5) w4h.nd rfl (Or.inl rfl) (qbr qa3))
  (qa2 (qe2 (qbv rfl rfl) (qal qfz (qae qbh rfl T.w51 PySem.boot_len (qa0 (qay (pv 4) rfl) qa3)) qa4 (qas _)) (qa5 (qba (qgb PySem.F.plainAttrs_list PySem.F.slot_list_append PySem.F.type_list_append qbs (pv 5) (qa0 (pe_methX0 (pv 4) T.w0e T.w0c ((w4q T).mono (by decide)) hr T.w53 .nil qar) qa3)))))
  (qa5 (qad (pv 5)))))),?_⟩
 walk_at "d"
 try dsimp only [cxC]
 refine qab (σ:=[some (.ref t),some (.ref dr),some (.ref dw),some (.ref dg),none,none]) rfl ?_
 have cl:=T.w0e
 have n3:qap K d.w00 "waiting":=T.w04
 walk_at "g"
 intro x dx hx hdx ndx
 have sH:Same H (upd (upd H dx (.own x)) x (.ins d.w00 dx [])):=(qa7 hdx _).trans (qa7 (by rw [qa6 ndx.symm];exact hx) _)
 refine⟨x,dx,t,dr,dw,dg,D,HS,kr,kw,kg,rfl,qa1,ok,srt,sH _ _ hr0,hrA,hsn,hsl,sH _ _ hw,hwA,sH _ _ hg,hgA,ngw,fun lw dl dgo kl kgo H2 sb hlw hdl hdgo nlg ex ew el hFl kl60 eg hFg=>⟨rfl,?_⟩⟩
 have s2:Same H H2:=fun b u e=>sb b u (fun z=>by subst z;rw [hx] at e;cases e) (sH b u e)
 have hD:DeAt d H2 x t dg lw dl dgo S D HS kg kl kgo D.W0 (fun h=>(D.rm h:Rat)):=⟨⟨dx,ex⟩,⟨H,s2,hx,sH.free hdl,hT⟩,s2 _ _ hg,hgA,ew,el,hFl,kl60,eg,hFg,nlg,(fun e=>by have:=sH.free hdl;rw [e,hg] at this;cases this),hs⟩
 clear sb hlw hdgo ex ew el hFl eg hFg
 have hdl0:=sH.free hdl
 clear hdl sH
 walk_at "g"
 rename_i lt hlt
 have s3:=s2.trans (qa7 hlt (.lst []))
 have et:upd H2 lt (.lst []) lt=some (.lst []):=qa1
 have hD3:=hD.same (qa7 hlt (.lst []))
 have hlt0:=s2.free hlt
 have hwlt:=hD.w
 generalize upd H2 lt (.lst [])=H3 at*
 clear hD
 refine qdy (fun σ H'=>∃(W:List Str) (rs:List Rnd) (lf lv:Str->Rat) (M:Rat) (N:Nat) (lw:Addr) (kl:List (Key × V)),σ=[some (.ref t),some (.ref dr),some (.ref dw),some (.ref dg),some (.ref x),some (.ref lt)]/\Same H H'/\H' lt=some (.lst (rs.map fun r=>V.ref r.a))/\DeAt d H' x t dg lw dl dgo S D HS kg kl kgo W lf/\lw≠lt/\RdI D W lf lv M N/\RdsOk D W lv N rs/\RdT D W lf rs/\∀r∈rs,RndAt H' r/\r.ln≠lt/\H r.ln=none) (fun _ H'=>D.W0.length+1 - lenAt lt H') ?_ ?_ ?_
 .refine⟨D.W0, [],_,fun _=>0,0,1,lw,kl,rfl,s3,et,hD3,fun e=>?_,RdI.start ok,⟨fun r hr=>by simp at hr,fun n hn h=>absurd hn h,fun r hr=>by simp at hr,fun r hr=>by simp at hr,by simp⟩,RdT.nil D,fun r hr=>by simp at hr⟩
  subst e
  rw [hwlt] at hlt
  cases hlt
 .rintro σ H' ⟨W,rs,lf,lv,M,N,lw,kl,rfl,sm,el,hD,nlt,I,R,RT,hrs⟩
  obtain⟨dx',ho⟩:=hD.ob
  have hw':=hD.w
  have wl7:W.length<=7:=Nat.le_trans (List.Nodup.length_le_of_subset I.nd I.sub) ok.l8
  have lr:lenAt lt H'=rs.length:=by rw [qeu el,length_map]
  have rz:=R.z
  have l8:=ok.l8
  walk_at "g"
  by_cases c:W=[]
  .subst c
   rw [if_neg (by decide)]
   walk_at "g"
   exact q lt rs lf lv M N H' sm hlt0 el (fun r hr=>⟨(hrs r hr).1,(hrs r hr).2.2⟩) I R RT
  .have w0:=List.length_pos_iff.mpr c
   rw [if_pos (decide_eq_true (by rw [length_map];omega))]
   have zl:(rs.map fun r=>V.ref r.a).length < sizeLine:=by rw [length_map];show _ < 16777216;omega
   walk_at "g"
   refine⟨x,t,dg,lw,dl,dgo,S,D,HS,kg,kl,kgo,W,lf,lv,M,N,rfl,ok,hD,I,c,fun L rt la ln lw' kl' H4 il sb4 fln flw' ert hLa eln hD4=>?_⟩
   obtain⟨ML,Lb,len,N',hk',kv,I'⟩:=I.next ok il
   have sz:=I.sz ok il
   have nxl:lt≠x:=fun e=>by subst e;rw [ho] at el;cases el
   have ndl:lt≠dl:=fun e=>by subst e;rw [hD.l] at el;cases el
   have el4:=sb4 _ _ nxl ndl el
   have nln:ln≠lt:=fun e=>by subst e;rw [el] at fln;cases fln
   have nlw:lw'≠lt:=fun e=>by subst e;rw [el] at flw';cases flw'
   have s4:Same H H4:=fun b u e=>sb4 b u (fun z=>by subst z;rw [hx] at e;cases e) (fun z=>by subst z;rw [hdl0] at e;cases e) (sm b u e)
   walk_at "g"
   have s5:Same H (upd H4 lt (.lst ((rs.map fun r=>V.ref r.a)++ [V.ref rt]))):=qb4 s4 hlt0
   have R':RdsOk D (wls W (rdy D W lf L)) (fun n=>if n∈rdy D W lf L then L else lv n) N' (rs++ [⟨rt,la,ln,L,rdy D W lf L⟩]):=R.next (r:=⟨rt,la,ln,L,rdy D W lf L⟩) hk' kv I.sub rfl sz.l len
   refine⟨⟨_,rs++ [⟨rt,la,ln,L,rdy D W lf L⟩],_,_,L,N',lw',kl',rfl,s5,by rw [qa1,map_append];rfl,hD4.lst el4 nlw s5 hx hdl0 hT,nlw,I',R',RT.next (r:=⟨rt,la,ln,L,rdy D W lf L⟩) il rfl,fun r hr=>?_⟩,?_⟩
   .rcases mem_append.mp hr with h1|h1
    .exact⟨((hrs r h1).1.sb ho hD.l sb4).put el4 (hrs r h1).2.1,(hrs r h1).2⟩
    .rw [mem_singleton.mp h1]
     exact⟨RndAt.put ⟨ert,hLa,eln⟩ el4 nln,nln,sm.free fln⟩
   .have g2:lenAt lt (upd H4 lt (.lst ((rs.map fun r=>V.ref r.a)++ [V.ref rt])))=_:=qeu qa1
    rw [length_append,length_map,length_singleton] at g2
    rw [g2,lr]
    omega
 .rintro σ H' Q1 Q2 hm ⟨v,hv,a,C,dx,fs,w,e1,e2,e3,e4,e5,p,ys,e6,e7,i,j,e8,e9,k,e10,e11⟩
  exact⟨v,hv,a,C,dx,fs,w,e1,e2,e3,e4,e5,p,ys,e6,e7,i,j,e8,e9,k,e10,hm _ _ e11⟩
def wan (K:Frag) (d:Ad):Sp:=fun vs H Q _=>∃(t dr dw:Addr) (wv:V) (S:Ts) (D:Dl) (HS:List Str) (kr kw:List (Key × V)),vs=[.ref t,.ref dr,.ref dw,wv]/\DlOk D/\PyProof.Rows.sortedS D.W0=true/\TrD d H t S D/\Wgh H S D wv/\
 H dr=some (.dK kr)/\AD kr (qc0 HS D.rm)/\HS.Nodup/\HS.length<=60/\H dw=some (.dK kw)/\AD kw (qc0 D.W0 D.wa)/\(∀n∈D.W0,∀h∈D.ln n,h∈HS)/\
 ∀(lt:Addr) (rs:List Rnd) (lf lv:Str->Rat) (M:Rat) (N:Nat) H',Same H H'->H lt=none->H' lt=some (.lst (rs.map fun r=>V.ref r.a))->(∀r∈rs,RndAt H' r/\H r.ln=none)->RdI D [] lf lv M N->RdsOk D [] lv N rs->RdT D [] lf rs->Q (.ref lt) H'
include T in
theorem w8h:FnOk P w K mg base (My.CX1 P w) 10 d.w93 d.w5q ["tree","rooms","wants","weigh"] (wan K d):=by
 refine okDX T.w7m we7 (fun vs H Q E h=>?_) (fun cdv A outer s H vs Q E hr h=>?_)
 .obtain⟨t,dr,dw,wv,S,D,HS,kr,kw,rfl,_⟩:=h;rfl
 obtain⟨t,dr,dw,wv,S,D,HS,kr,kw,rfl,ok,srt,hT,hg,hr0,hrA,hsn,hsl,hw,hwA,hs,q⟩:=h
 refine⟨_,(qa5 (qad (qav ((waa T).mono (by decide)) hr rfl T.wbe T.w7w.kp T.wb4 .nil qar (qa0 (pv 0) (qa0 (pv 1) (qa0 (pv 2) (qa0 (qav ((w9d T).mono (by decide)) hr rfl T.w9x T.w71.kp T.waf .nil qar (qa0 (pv 0) (qa0 (pv 2) (qa0 (pv 3) qa3)))) qa3))))))),?_⟩
 walk_at "d"
 refine qab (σ:=[some (.ref t),some (.ref dr),some (.ref dw),some (wv)]) rfl ?_
 walk_at "g"
 refine⟨t,dw,wv,S,D,kw,rfl,ok,srt,hT,hg,hw,hwA,fun l k' H1 s1 hl el hK=>?_⟩
 have ndw:l≠dw:=(qa9 hw hl).symm
 walk_at "g"
 refine⟨t,dr,dw,l,S,D,HS,kr,kw,k',rfl,ok,srt,hT.same s1,s1 _ _ hr0,hrA,hsn,hsl,s1 _ _ hw,hwA,el,hK,ndw,hs,fun lt rs lf lv M N H' s2 hlt elt hR I R RT=>?_⟩
 walk_at "g"
 exact q lt rs lf lv M N H' (s1.trans s2) (s1.free hlt) elt (fun r hr=>⟨(hR r hr).1,s1.free (hR r hr).2⟩) I R RT
def iV (e:Nat):V:=.int (e:Int)
def elN (es:List Nat) (k:Nat):Nat:=(es[k - 1]?).getD 0
def oV:Option Nat->V
 |none=> .non
 |some a=> .int (a:Int)
def restL (el:Nat->Nat):Option Nat->List Nat
 |none=> []
 |some a=>qcb el a
def wgm (K:Frag) (d:Ad):Sp:=fun vs H Q _=>∃(le:Addr) (es:List Nat) (k:Nat),vs=[.ref le,.int (k:Int)]/\H le=some (.lst (.non :: es.map iV))/\(∀(k e:Nat),es[k]?=some e->e<=k)/\k<=es.length/\es.length<=12/\
 ∀l,H l=none->Q (.ref l) (upd H l (.lst ((qcb (elN es) k).map iV)))
theorem elN_low {es:List Nat} (lo:∀(k e:Nat),es[k]?=some e->e<=k) (n:Nat):Low (elN es) n:=fun k k0 kn=>by
 unfold elN
 cases e:es[k - 1]? with
 |none=>exact k0
 |some a=>have:=lo _ _ e;show a < k;omega
theorem elN_at {es:List Nat} {b:Nat} (hb:b < es.length):elN es (b+1)=es[b]:=by unfold elN;rw [Nat.add_sub_cancel,getElem?_eq_getElem hb];rfl
def meas3 (σ:L2.St):Nat:=match σ[3]? with
 |some (some (V.int a))=>a.toNat+1
 |_=>0
include T in
theorem wh7:FnOk P w K mg base CX0 1 d.wer d.wb7 ["_law_elders","_law_k"] (wgm K d):=by
 refine T.wg5.ok w97 (fun vs H Q E h=>?_) (fun cdv A outer s H vs Q E hr h=>?_)
 .obtain⟨le,es,k,rfl,_⟩:=h;rfl
 obtain⟨le,es,k,rfl,hE,lo,hk,h12,q⟩:=h
 have low:=elN_low lo (es.length+1)
 refine⟨_,(qa2 (qaf (i:=2) w97.nd rfl (Or.inl rfl) (qbr qa3))
  (qa2 (qaf (i:=3) w97.nd rfl (Or.inl rfl) (pv 1))
  (qa2 (qe2 PassesOwn.never (qal qgc (pv 3) qe3 (qas _)) (qa2 (qba (qgb PySem.F.plainAttrs_list PySem.F.slot_list_append PySem.F.type_list_append qbs (pv 2) (qa0 (pv 3) qa3)))
  (qa5 (qaf (i:=3) w97.nd rfl (Or.inl rfl) (qai qan (pv 0) (pv 3) (fun _ _=>rfl))))))
  (qa5 (qad (pv 2)))))),?_⟩
 walk_at "d"
 refine qab (σ:=[some (.ref le),some (.int (k:Int)),none,none]) rfl ?_
 generalize hki:((k:Nat):Int)=ki
 walk_at "g"
 rename_i l hl
 refine qdy (fun σ H'=>∃(done:List Nat) (o:Option Nat),σ=[some (.ref le),some (.int ki),some (.ref l),some (oV o)]/\H'=upd H l (.lst (done.map iV))/\done++restL (elN es) o=qcb (elN es) k/\(∀a,o=some a->a<=k)) (fun σ _=>meas3 σ) ⟨[],some k,by rw [<-hki];rfl,rfl,rfl,fun a h=>by cases h;exact Nat.le_refl _⟩ ?_ ?_
 .rintro σ H' ⟨done,o,rfl,rfl,hd,ha⟩
  have hdl:done.length<=14:=by
   have h1:=congrArg List.length hd
   rw [length_append] at h1
   have h2:=qfi low k (by omega)
   omega
  cases o with
  |none=>
   rw [show oV none=V.non from rfl]
   have hd':done=qcb (elN es) k:=by rw [<-hd];exact(append_nil _).symm
   rw [hd']
   walk_at "g"
   exact q l hl
  |some a=>
   have hak:=ha a rfl
   rw [show oV (some a)=V.int (a:Int) from rfl]
   have eE:=qaa (o':=.lst (done.map iV)) hE hl
   have eL:upd H l (.lst (done.map iV)) l=some (.lst (done.map iV)):=qa1
   have hz:(done.map iV).length < sizeLine:=by rw [length_map];show _ < 16777216;omega
   generalize hai:((a:Nat):Int)=ai
   walk_at "g"
   rw [qcw]
   have eIv:V.int ai=iV a:=by rw [<-hai];rfl
   have eE2:=qaa (o':=.lst (done.map iV++ [V.int ai])) hE hl
   have fin:done.map iV++ [V.int ai]=(done++ [a]).map iV:=by rw [eIv,map_append];rfl
   cases a with
   |zero=>
    refine qcr (v:=.non) (SqL.of eE2) (by rw [<-hai];exact qc7 (j:=0) rfl) ?_
    walk_at "g"
    refine⟨⟨done++ [0],none,rfl,by rw [fin],by rw [<-hd];show (done++ [0])++ []=_;rw [append_nil];rfl,fun a h=>(by cases h)⟩,?_⟩
    show 0 < ai.toNat+1
    omega
   |succ b=>
    have hb:b < es.length:=by omega
    have eb:=elN_at hb
    have lb:=low (b+1) (by omega) (by omega)
    refine qcr (v:=iV es[b]) (SqL.of eE2) (by rw [<-hai];exact qc7 (j:=b+1) (by rw [List.getElem?_cons_succ,getElem?_map,getElem?_eq_getElem hb];rfl)) ?_
    walk_at "g"
    refine⟨⟨done++ [b+1],some es[b],rfl,by rw [fin],?_,fun a h=>by cases h;rw [eb] at lb;omega⟩,?_⟩
    .rw [<-hd,List.append_assoc]
     show done++([b+1]++qcb (elN es) es[b])=done++qcb (elN es) (b+1)
     rw [qdh (k:=b+1) low (by omega) (by omega),eb];rfl
    .rw [eb] at lb
     show ((es[b]:Nat):Int).toNat+1 < ai.toNat+1
     omega
 .rintro σ H1 Q1 Q2 h ⟨v,hv,w,k,hk,hq⟩
  exact⟨v,hv,w,k,hk,h _ _ hq⟩
def nmG (nm:List Str) (k:Nat):Str:=(nm[k]?).getD (ofL [])
theorem qda {nm:List Str} {k:Nat} (h:k < nm.length):nm[k]?=some (nmG nm k):=by unfold nmG;rw [getElem?_eq_getElem h];rfl
theorem qcx {nm:List Str} {k:Nat} (h:k < nm.length):nmG nm k∈nm:=mem_of_getElem? (qda h)
structure ShAt (H:Hp) (p ln le dg dw dr:Addr) (nm:List Str) (es:List Nat) (kg kw kr:List (Key × V)) (D:Dl):Prop where
 top:H p=some (.lst [.ref ln,.ref le,.ref dg,.ref dw,.ref dr])
 n:H ln=some (.lst (nm.map V.str))
 e:H le=some (.lst (.non :: es.map iV))
 g:H dg=some (.dK kg)
 w:H dw=some (.dK kw)
 r:H dr=some (.dK kr)
 gA:AD kg (qc0 nm D.wt)
 wA:AD kw (qc0 D.W0 D.wa)
 rA:AD kr (qc0 nm D.rm)
theorem ShAt.same {H H':Hp} {p ln le dg dw dr:Addr} {nm:List Str} {es:List Nat} {kg kw kr:List (Key × V)} {D:Dl} (h:ShAt H p ln le dg dw dr nm es kg kw kr D) (s:Same H H'):ShAt H' p ln le dg dw dr nm es kg kw kr D:=
 ⟨s _ _ h.top,s _ _ h.n,s _ _ h.e,s _ _ h.g,s _ _ h.w,s _ _ h.r,h.gA,h.wA,h.rA⟩
structure ShOk (nm:List Str) (es:List Nat) (D:Dl):Prop where
 nd:nm.Nodup
 gd:∀z∈nm,qef z=true
 len:nm.length=es.length+1
 l7:nm.length<=7
 lo:∀(k e:Nat),es[k]?=some e->e<=k
 sub:∀n∈D.W0,n∈nm
 ln:∀k,k < nm.length->D.ln (nmG nm k)=(qcb (elN es) k).map (nmG nm)
 ok:DlOk D
 srt:PyProof.Rows.sortedS D.W0=true
theorem qfg {nm:List Str} (nd:nm.Nodup) {i j:Nat} (hi:i < nm.length) (hj:j < nm.length) (e:nmG nm i=nmG nm j):i=j:=by
 have h1:=qda hi
 have h2:=qda hj
 rw [e,<-h2] at h1
 exact(List.getElem?_inj hi nd).mp h1
theorem ShOk.low {nm:List Str} {es:List Nat} {D:Dl} (h:ShOk nm es D):Low (elN es) nm.length:=elN_low h.lo _
theorem ShOk.at_line {nm:List Str} {es:List Nat} {D:Dl} (h:ShOk nm es D) {k j:Nat} (hk:k < nm.length) (hj:j < nm.length):nmG nm j∈D.ln (nmG nm k)↔j∈qcb (elN es) k:=by
 rw [h.ln k hk]
 constructor
 .intro hm
  obtain⟨i,hi,e⟩:=mem_map.mp hm
  have:=qcy h.low k hk i hi
  rw [<-qfg h.nd (show i < nm.length by omega) hj e]
  exact hi
 .exact fun hm=>mem_map.mpr ⟨j,hm,rfl⟩
def qcq (D:Dl) (nm:List Str) (h:Str):List Str:=nm.filter fun n=>decide (n∈D.W0/\h∈D.ln n)
theorem domF_some {W:List Str} {g:Str->Int} {z:Str}:(qc0 W g z).isSome=decide (z∈W):=by
 unfold qc0
 by_cases c:z∈W
 .rw [if_pos c,decide_eq_true c];rfl
 .rw [if_neg c,decide_eq_false c];rfl
theorem r_diA {H:Hp} {Q:VK} {a:Addr} {kvs:List (Key × V)} {W:List Str} {g:Str->Int} {z:Str} (d:Rd H a (.dK kvs)) (A:AD kvs (qc0 W g)) (h:Q (.bl (decide (z∈W))) H):rDI (.ref a) (.str z) H Q:=r_dik d A (by rw [domF_some];exact h)
theorem flat_iV (L:List Nat):((L.map iV).all fun v=>qct v)=true:=by
 rw [all_eq_true]
 intro v hv
 obtain⟨n,_,rfl⟩:=mem_map.mp hv
 rfl
theorem inV_iV (x:Nat):∀L:List Nat,inV (iV x) (L.map iV)=decide (x∈L)
 | []=>rfl
 |y :: L=>by
  have ih:=inV_iV x L
  unfold inV at ih ⊢
  rw [map_cons,any_cons,ih]
  by_cases c:y=x
  .subst c
   rw [show eqV (iV y) (iV y)=true from beq_self_eq_true _,decide_eq_true (mem_cons_self ..)]
   rfl
  .rw [show eqV (iV y) (iV x)=false from beq_false_of_ne (show ((y:Nat):Int)≠((x:Nat):Int) by omega),Bool.false_or]
   by_cases m:x∈L
   .rw [decide_eq_true m,decide_eq_true (mem_cons_of_mem _ m)]
   .rw [decide_eq_false m,decide_eq_false fun z=>(mem_cons.mp z).elim (fun e=>c e.symm) m]
theorem r_inIv {K:Frag} {H:Hp} {Q:VK} {p:Addr} {x:Nat} {L:List Nat} (h:SqL K H p (L.map iV)) (q:Q (.bl (decide (x∈L))) H):rIn K false (iV x) (.ref p) H Q:=⟨p,_,rfl,.inl h,rfl,flat_iV L,by rw [inV_iV];exact q⟩
def weq (K:Frag) (d:Ad):Sp:=fun vs H Q _=>∃(p ln le dg dw dr:Addr) (nm:List Str) (es:List Nat) (kg kw kr:List (Key × V)) (D:Dl) (j:Nat),vs=[.ref p,iV j]/\ShAt H p ln le dg dw dr nm es kg kw kr D/\ShOk nm es D/\j < nm.length/\
 ∀l H',Same H H'->H l=none->H' l=some (.lst ((qcq D nm (nmG nm j)).map V.str))->Q (.ref l) H'
set_option maxHeartbeats 9000000 in
include T in
theorem wa7:FnOk P w K mg base CX0 3 d.w9e d.w7o ["_law_sharing_here","_law_at"] (weq K d):=by
 refine T.w9q.ok w38 (fun vs H Q E h=>?_) (fun cdv A outer s H vs Q E hr h=>?_)
 .obtain⟨p,ln,le,dg,dw,dr,nm,es,kg,kw,kr,D,j,rfl,_⟩:=h;rfl
 obtain⟨p,ln,le,dg,dw,dr,nm,es,kg,kw,kr,D,j,rfl,hA,ok,hj,q⟩:=h
 refine⟨_,(qa2 (qfa (pv 0) (qfc rfl (qao (qac (i:=2) w38.nd rfl (Or.inr rfl)) (qao (qac (i:=3) w38.nd rfl (Or.inr rfl)) (qao (qac (i:=4) w38.nd rfl (Or.inl rfl)) (qao (qac (i:=5) w38.nd rfl (Or.inr rfl)) (qao (qac (i:=6) w38.nd rfl (Or.inl rfl)) qds)))))))
  (qa5 (qad (qco (caps:=[1,2,3,5]) (cn:=["_law_at","_law_names","_law_elders","_law_wants"]) (qc6 rfl rfl (by rfl) (by rfl) rfl ⟨rfl,⟨rfl,⟨rfl,⟨rfl,trivial⟩⟩⟩⟩ (by rfl) rfl ⟨⟨rfl,rfl,rfl,rfl,_,rfl⟩,⟨⟨rfl,rfl,rfl,rfl,_,rfl⟩,⟨⟨rfl,rfl,rfl,rfl,_,rfl⟩,⟨⟨rfl,rfl,rfl,rfl,_,rfl⟩,trivial⟩⟩⟩⟩ (by decide)) rfl (qcg rfl T.w4e (qa0 (qae qbh rfl T.w51 PySem.boot_len (qa0 (pv 2) qa3)) qa3)) (fun _ _ _ _=>(pf_one (PW.pt (pw_and (qg1 (pc_din (qau hr) (qai qan (pv 2) (pv 0) (fun _ _=>rfl)) (pv 4))) (qf9 (qal op_in_seq (pv 1) (qah ((wh7 T).mono (by decide)) hr rfl T.whe T.wg5.kp T.whd .nil qaw (qa0 (pv 3) (qa0 (pv 0) qa3))) (by rfl))))))) (fun _ _ _ _=>(qai qan (pv 2) (pv 0) (fun _ _=>rfl))))))),?_⟩
 walk_at "d"
 try dsimp only [cxC]
 refine qab (σ:=[some (.ref p),some (iV j),none,none,none,none,none]) rfl ?_
 have etop:=hA.top
 have en:=hA.n
 have l7:=ok.l7
 have ln7:(nm.map V.str).length=nm.length:=length_map _
 walk_at "g"
 intro C s0 H0 fp l hl
 refine c_by nm.length (fun i H'=>Same H H'/\H' l=some (.lst ((qcq D (nm.take i) (nmG nm j)).map V.str))) ⟨qa7 hl _,qa1⟩ (fun i H' hi _=>by show i <((nm.map V.str).length:Int).toNat;rw [ln7];omega) (fun H' _=>by show ((nm.map V.str).length:Int).toNat<=_;rw [ln7];omega) ?_ ?_
 .rintro i H' v H'' hi ⟨sm,el⟩ ⟨rfl,rfl⟩
  have hA':=hA.same sm
  have xn:atI (nm.map V.str) (0+(i:Int))=some (.str (nmG nm i)):=by rw [Int.zero_add];exact qc7 (by rw [getElem?_map,qda hi];rfl)
  have etk:nm.take (i+1)=nm.take i++ [nmG nm i]:=by rw [take_add_one,qda hi];rfl
  have hRw:Rd H'' dw (.dK kw):=.inl hA'.w
  have hwA:=hA.wA
  have fcons:∀b:Bool,decide (nmG nm i∈D.W0/\nmG nm j∈D.ln (nmG nm i))=b->qcq D (nm.take (i+1)) (nmG nm j)=qcq D (nm.take i) (nmG nm j)++if b then [nmG nm i] else []:=fun b hb=>by
   unfold qcq
   rw [etk,filter_append]
   congr 1
   cases b with
   |true=>rw [filter_cons,if_pos hb];rfl
   |false=>rw [filter_cons,if_neg (by rw [hb];simp)];rfl
  walk_at "g"
  refine qcr (SqL.of hA'.n) xn ?_
  walk_at "g"
  refine r_diA hRw hwA ?_
  by_cases c:nmG nm i∈D.W0
  .rw [decide_eq_true c]
   have lo:=ok.lo
   have len:=ok.len
   walk_at "g"
   refine⟨le,es,i,by rw [Int.zero_add],hA'.e,lo,by omega,by omega,fun ll hll=>?_⟩
   have s2:=qa7 hll (.lst ((qcb (elN es) i).map iV))
   have ell:upd H'' ll (.lst ((qcb (elN es) i).map iV)) ll=some (.lst ((qcb (elN es) i).map iV)):=qa1
   have el2:=qaa (o':=.lst ((qcb (elN es) i).map iV)) el hll
   generalize upd H'' ll (.lst ((qcb (elN es) i).map iV))=H2 at*
   refine r_inIv (SqL.of ell) ?_
   by_cases c2:j∈qcb (elN es) i
   .rw [decide_eq_true c2]
    have fc:=fcons true (decide_eq_true ⟨c,(ok.at_line hi hj).mpr c2⟩)
    have zl:((qcq D (nm.take i) (nmG nm j)).map V.str).length < sizeLine:=by
     rw [length_map]
     have h1:(qcq D (nm.take i) (nmG nm j)).length<=(nm.take i).length:=length_filter_le _ _
     rw [length_take] at h1
     show _ < 16777216
     omega
    walk_at "g"
    refine qcr (SqL.of (s2 _ _ hA'.n)) xn ?_
    refine⟨_,el2,zl,?_⟩
    refine⟨qb4 (sm.trans s2) hl,?_⟩
    rw [qa1,fc,map_append];rfl
   .rw [decide_eq_false c2]
    have fc:=fcons false (decide_eq_false fun z=>c2 ((ok.at_line hi hj).mp z.2))
    walk_at "g"
    refine⟨sm.trans s2,?_⟩
    rw [el2,fc]
    show _=some (HO.lst ((_++ []).map V.str))
    rw [append_nil]
  .rw [decide_eq_false c]
   have fc:=fcons false (decide_eq_false fun z=>c z.1)
   walk_at "g"
   refine⟨sm,?_⟩
   rw [el,fc]
   show _=some (HO.lst ((_++ []).map V.str))
   rw [append_nil]
 rintro H' ⟨sm,el⟩
 rw [take_length] at el
 exact q l H' sm hl el
theorem sumQ_app {f:Str->Rat}:∀{l:List Str} {n:Str},qbz (l++ [n]) f=qbz l f+f n
 | [],n=>by show f n+0=0+f n;grind
 |m :: l,n=>by
  show f m+qbz (l++ [n]) f=f m+qbz l f+f n
  rw [sumQ_app];grind
structure SzB (V:List Str) (s:Str->Rat):Prop where
 lo:∀n∈V,0<=s n
 hi:∀n∈V,s n<=(B31:Rat)
 dn:∀n∈V,(s n).den<=30^7
theorem qge {t1 b1 t2 b2:Int} {q1 q2:Rat} (h1:0 < b1) (h2:0 < b2) (e1:(t1:Rat)=q1*(b1:Rat)) (e2:(t2:Rat)=q2*(b2:Rat)):(t1*b2 < t2*b1)↔q1 < q2:=by
 have p1:(0:Rat) <(b1:Rat):=by exact_mod_cast h1
 have p2:(0:Rat) <(b2:Rat):=by exact_mod_cast h2
 have c:(t1*b2 < t2*b1)↔((t1*b2:Int):Rat) <((t2*b1:Int):Rat):=by exact_mod_cast Iff.rfl
 have pp:(0:Rat) <(b1:Rat)*(b2:Rat):=Rat.mul_pos p1 p2
 rw [c,Rat.intCast_mul,Rat.intCast_mul,e1,e2]
 have x1:q1*(b1:Rat)*(b2:Rat)=q1*((b1:Rat)*(b2:Rat)):=by grind
 have x2:q2*(b2:Rat)*(b1:Rat)=q2*((b1:Rat)*(b2:Rat)):=by grind
 rw [x1,x2]
 constructor
 .intro h
  apply Classical.byContradiction
  intro z
  have:=Rat.mul_le_mul_of_nonneg_right (show q2<=q1 by grind) (show (0:Rat)<=(b1:Rat)*(b2:Rat) by grind)
  grind
 .intro h
  exact Rat.mul_lt_mul_of_pos_right h pp
theorem hug_t {t b:Int} {q:Rat} (b0:0 < b) (hb:b<=2^3000) (e:(t:Rat)=q*(b:Rat)) (q0: -(((10^60:Nat)):Rat)<=q) (q1:q<=(((10^60:Nat)):Rat)):Hug t:=by
 have bq:(0:Rat)<=(b:Rat):=by exact_mod_cast Int.le_of_lt b0
 have h1:(t:Rat)<=(((10^60:Nat)):Rat)*(b:Rat):=by rw [e];exact Rat.mul_le_mul_of_nonneg_right q1 bq
 have h2: -(((10^60:Nat)):Rat)*(b:Rat)<=(t:Rat):=by rw [e];exact Rat.mul_le_mul_of_nonneg_right q0 bq
 have c:(((((10^60:Nat)):Int)*b:Int):Rat)=(((10^60:Nat)):Rat)*(b:Rat):=by rw [Rat.intCast_mul,Rat.intCast_natCast]
 have h1':t<=(((10^60:Nat)):Int)*b:=by
  have:(t:Rat)<=(((((10^60:Nat)):Int)*b:Int):Rat):=by rw [c];exact h1
  exact_mod_cast this
 have h2': -((((10^60:Nat)):Int)*b)<=t:=by
  have:((-((((10^60:Nat)):Int)*b):Int):Rat)<=(t:Rat):=by rw [Rat.intCast_neg,c];grind
  exact_mod_cast this
 have m:(((10^60:Nat)):Int)*b<=(((10^60:Nat)):Int)*2^3000:=Int.mul_le_mul_of_nonneg_left hb (by decide)
 refine Hug.le (n:=10^60*2^3000) ?_ (by decide)
 have e2:(((10^60:Nat)):Int)*2^3000=(((10^60*2^3000:Nat)):Int):=by decide
 rw [e2] at m
 generalize (((10^60:Nat)):Int)*b=x at*
 generalize (10^60*2^3000:Nat)=y at*
 omega
theorem hug_b {b:Int} (b0:0 < b) (hb:b<=2^3000):Hug b:=by
 refine Hug.le (n:=2^3000) ?_ (by decide)
 have e:((2:Int)^3000)=(((2^3000:Nat)):Int):=by decide
 rw [e] at hb
 generalize (2^3000:Nat)=y at*
 omega
def wgw (K:Frag) (d:Ad):Sp:=fun vs H Q _=>∃(a1 a2:Addr) (t1 b1 t2 b2:Int),vs=[.ref a1,.ref a2]/\H a1=some (.tup [.int t1,.int b1])/\H a2=some (.tup [.int t2,.int b2])/\Hug t1/\Hug b1/\Hug t2/\Hug b2/\Q (.bl (decide (t1*b2 < t2*b1))) H
include T in
theorem wc0:FnOk P w K mg base CX0 1 d.wez d.wbr ["_law_one","_law_other"] (wgw K d):=by
 refine T.wcu.ok wgn (fun vs H Q E h=>?_) (fun cdv A outer s H vs Q E hr h=>?_)
 .obtain⟨a1,a2,t1,b1,t2,b2,rfl,_⟩:=h;rfl
 obtain⟨a1,a2,t1,b1,t2,b2,rfl,e1,e2,n1,n2,n3,n4,q⟩:=h
 refine⟨_,(qa5 (qad (qcd op_lt (qag qd9 (qai qak (pv 0) qa4 (fun _ _=>rfl)) (qai qak (pv 1) qa4 (fun _ _=>rfl))) (qag qd9 (qai qak (pv 1) qa4 (fun _ _=>rfl)) (qai qak (pv 0) qa4 (fun _ _=>rfl))) (qas _)))),?_⟩
 walk_at "d"
 refine qab (σ:=[some (.ref a1),some (.ref a2)]) rfl ?_
 walk_at "g"
 exact q
structure PD (H:Hp) (us:List (Str × Addr)) (tp bt:Str->Int):Prop where
 nd:(us.map (·.1)).Nodup
 at_:∀p∈us,H p.2=some (.tup [.int (tp p.1),.int (bt p.1)])
theorem PD.t {H H':Hp} {us:List (Str × Addr)} {tp bt:Str->Int} (h:PD H us tp bt) (t:qc1 H H'):PD H' us tp bt:=⟨h.nd,fun p hp=>t _ _ (h.at_ p hp)⟩
theorem PD.look {H:Hp} {us:List (Str × Addr)} {tp bt:Str->Int} (h:PD H us tp bt) {z:Str} (hz:z∈us.map (·.1)):∃a,qci us z=some a/\H a=some (.tup [.int (tp z),.int (bt z)]):=by
 obtain⟨⟨z',a⟩,hp,rfl⟩:=mem_map.mp hz
 exact⟨a,qgf h.nd hp,h.at_ _ hp⟩
theorem look_is (us:List (Str × Addr)) (z:Str):(qci us z).isSome=decide (z∈us.map (·.1)):=by
 cases c:qci us z with
 |none=>rw [decide_eq_false (qdg.mp c)];rfl
 |some a=>rw [decide_eq_true (mem_map.mpr ⟨_,lookO_mem c,rfl⟩)];rfl
structure PsB (U:List Str) (tp bt:Str->Int) (s:Str->Rat):Prop where
 b0:∀n∈U,0 < bt n
 b1:∀n∈U,bt n<=10^30
 e:∀n∈U,(tp n:Rat)=s n*(bt n:Rat)
 lo:∀n∈U,0<=s n
 hi:∀n∈U,s n<=(((10^35:Nat)):Rat)
theorem q35:(0:Rat)<=(((10^35:Nat)):Rat)/\8*(((10^35:Nat)):Rat)<=(((10^60:Nat)):Rat):=by
 constructor
 .exact_mod_cast Nat.zero_le _
 .have:8*(10^35:Nat)<=(10^60:Nat):=by decide
  exact_mod_cast this
theorem PsB.sum {U:List Str} {tp bt:Str->Int} {s:Str->Rat} (h:PsB U tp bt s) {L:List Str} (sub:∀n∈L,n∈U) (l7:L.length<=7):0<=qbz L s/\qbz L s<=7*(((10^35:Nat)):Rat):=by
 refine⟨qg8 fun n hn=>h.lo n (sub n hn),?_⟩
 have h1:=sumQ_bd (l:=L) (f:=s) (B:=(((10^35:Nat)):Rat)) fun n hn=>h.hi n (sub n hn)
 have h2:((L.length:Nat):Rat)<=7:=by exact_mod_cast l7
 have m:=Rat.mul_nonneg (show (0:Rat)<=7 - ((L.length:Nat):Rat) by grind) q35.1
 grind
theorem p210 {i:Nat} (h:i<=7):((10:Int)^30)^i<=2^1000:=by
 have a:∀j,j < 8->((10:Int)^30)^j<=2^1000:=by decide
 exact a i (by omega)
theorem le3000 {b:Int} (h:b<=2^1000):b<=2^3000:=Int.le_trans h (by decide)
def wce (K:Frag) (d:Ad):Sp:=fun vs H Q _=>∃(ds ls:Addr) (us:List (Str × Addr)) (L:List Str) (tp bt:Str->Int) (s:Str->Rat),vs=[.ref ds,.ref ls]/\Rd H ds (.dK (oK us))/\PD H us tp bt/\PsB (us.map (·.1)) tp bt s/\H ls=some (.lst (L.map V.str))/\(∀n∈L,n∈us.map (·.1))/\L.length<=7/\
 ∀(p:Addr) (t b:Int),H p=none->0 < b->b<=2^1000->(t:Rat)=qbz L s*(b:Rat)->Q (.ref p) (upd H p (.tup [.int t,.int b]))
include T in
theorem wbb:FnOk P w K mg base CX0 1 d.w6m d.w5b ["_law_shares","_law_some"] (wce K d):=by
 refine T.w8t.ok w1k (fun vs H Q E h=>?_) (fun cdv A outer s H vs Q E hr h=>?_)
 .obtain⟨ds,ls,us,L,tp,bt,s,rfl,_⟩:=h;rfl
 obtain⟨ds,ls,us,L,tp,bt,s,rfl,hR,hF,hB,hl,sub,l7,q⟩:=h
 refine⟨_,(qa2 (qaf (i:=2) w1k.nd rfl (Or.inl rfl) qa4)
  (qa2 (qaf (i:=3) w1k.nd rfl (Or.inl rfl) qa4)
  (qa2 (qb5 PassesOwn.never rfl (qb0 (pv 1)) (qac (i:=4) w1k.nd rfl (Or.inl rfl)) (qa2 (qaf (i:=5) w1k.nd rfl (Or.inl rfl) (qat (qau hr) (pv 0) (pv 4) (fun _ _=>rfl)))
  (qa2 (qaf (i:=2) w1k.nd rfl (Or.inl rfl) (qag qby (qag qd9 (pv 2) (qai qak (pv 5) qa4 (fun _ _=>rfl))) (qag qd9 (qai qak (pv 5) qa4 (fun _ _=>rfl)) (pv 3))))
  (qa5 (qaf (i:=3) w1k.nd rfl (Or.inl rfl) (qag qd9 (pv 3) (qai qak (pv 5) qa4 (fun _ _=>rfl))))))))
  (qa5 (qad (qdo (qa0 (pv 2) (qa0 (pv 3) qa3)))))))),?_⟩
 walk_at "d"
 refine qab (σ:=[some (.ref ds),some (.ref ls),none,none,none,none]) rfl ?_
 walk_at "g"
 refine qcc (xs:=L.map V.str) (fun i σ H'=>H'=H/\∃(t b:Int) (w1 w2:Option V),σ=[some (.ref ds),some (.ref ls),some (.int t),some (.int b),w1,w2]/\0 < b/\b<=(10^30)^i/\(t:Rat)=qbz (L.take i) s*(b:Rat)) ⟨rfl,0,1,none,none,rfl,by decide,by decide,by show (0:Rat)=0*_;grind⟩ ?_ ?_ ?_
 .rintro i σ H' _ ⟨rfl,_⟩;exact SqL.of hl
 .rintro i v σ H' hv ⟨rfl,t,b,w1,w2,rfl,b0,bb,et⟩
  rw [getElem?_map] at hv
  obtain⟨n,hn,rfl⟩:=Option.map_eq_some_iff.mp hv
  have hi:=(List.getElem?_eq_some_iff.mp hn).1
  have hnW:=sub n (mem_of_getElem? hn)
  have etk:L.take (i+1)=L.take i++ [n]:=by rw [take_add_one,hn];rfl
  have b2:b<=2^3000:=le3000 (Int.le_trans bb (p210 (by omega)))
  have sB:=hB.sum (L:=L.take i) (fun m hm=>sub m (List.mem_of_mem_take hm)) (by rw [length_take];omega)
  have q3:=q35
  have nt:=hug_t b0 b2 et (by grind) (by grind)
  have nb:=hug_b b0 b2
  have d0:=hB.b0 n hnW
  have d1:=hB.b1 n hnW
  have d2:bt n<=2^3000:=Int.le_trans d1 (by decide)
  have sl:=hB.lo n hnW
  have sh:=hB.hi n hnW
  have nd:=hug_b d0 d2
  have nn:=hug_t d0 d2 (hB.e n hnW) (by grind) (by grind)
  have enu:=hB.e n hnW
  obtain⟨a,lk,ha⟩:=hF.look hnW
  clear hv sB b2 q3 d2 sl sh
  walk_at "g"
  refine r_dgO hR lk ?_
  have key1:0 < b*bt n:=Int.mul_pos b0 d0
  have key2:b*bt n<=(10^30)^(i+1):=by
   rw [Int.pow_succ]
   exact Int.mul_le_mul bb d1 (Int.le_of_lt d0) (Int.le_trans (Int.le_of_lt b0) bb)
  have key3:((t*bt n+tp n*b:Int):Rat)=qbz (L.take (i+1)) s*((b*bt n:Int):Rat):=by
   rw [etk,sumQ_app,Rat.intCast_add,Rat.intCast_mul,Rat.intCast_mul,Rat.intCast_mul,et,enu]
   grind
  clear et enu d1 d0 bb b0
  walk_at "g"
  exact⟨rfl,_,_,_,_,rfl,key1,key2,key3⟩
 rintro σ H' ⟨rfl,t,b,w1,w2,rfl,b0,bb,et⟩
 rw [length_map,take_length] at et
 rw [length_map] at bb
 have b2:b<=2^1000:=Int.le_trans bb (p210 l7)
 walk_at "g"
 exact q _ t b (by assumption) b0 b2 et
structure Bt (S:Ts) (nm:Nat->Str) (el:Nat->Nat) (n:Nat) (wt:Nat->Int):Prop where
 pl:Pl S nm el n
 no:∀e∈S.hl,(∀y,e.x.fp y=none)/\∀y,e.x.fc y=none
 w:∀(k:Nat) (e:He),S.hl[k]?=some e->e.x.w=wt k
 ws:S.ws.length<=6
theorem posF_no (y:Str):qd7 noF y=none:=rfl
theorem addF_no {f g:Str->Option Int} (hf:∀y,f y=none) (hg:∀y,g y=none) (y:Str):qgk f g y=none:=by
 unfold qgk
 rw [hg y]
 exact hf y
theorem sumF_no:∀(ts:List Pt) (f:Str->Option Int),(∀t∈ts,∀y,t.f y=none)->(∀y,f y=none)->∀y,ts.foldl (fun f t=>qgk f t.f) f y=none
 | [],f,_,hf,y=>hf y
 |t :: ts,f,h,hf,y=>sumF_no ts (qgk f t.f) (fun t' ht=>h t' (mem_cons_of_mem _ ht)) (fun z=>addF_no hf (h t (mem_cons_self ..)) z) y
section
variable {S: Ts} {nm: Nat -> Str} {el: Nat -> Nat} {k: Nat} {wt: Nat -> Int}
theorem Bt.one {e:He} (h1:S.hl=[e]) (en:e.n=nm 0) (ee:e.x.el=none) (ew:e.x.w=wt 0) (ep:∀v,e.x.fp v=none) (ec:∀v,e.x.fc v=none) (ws:S.ws.length<=6):Bt S nm el 1 wt:=by
 have split:∀(i:Nat) (e':He),S.hl[i]?=some e'->i=0/\e'=e:=fun i e' he=>by
  rw [h1] at he
  have:=(List.getElem?_eq_some_iff.mp he).1
  rw [length_singleton] at this
  obtain rfl:i=0:=by omega
  exact⟨rfl,(Option.some.inj he).symm⟩
 refine⟨⟨by rw [h1];rfl,fun i e' he=>?_,fun i j hi hj _=>by omega,fun i a b=>by omega⟩,fun e' he=>?_,fun i e' he=>?_,ws⟩
 .obtain⟨rfl,rfl⟩:=split i e' he
  exact⟨en,ee⟩
 .rw [h1] at he
  rw [mem_singleton.mp he]
  exact⟨ep,ec⟩
 .obtain⟨rfl,rfl⟩:=split i e' he
  exact ew
theorem Bt.next (h:Bt S nm el k wt) (k0:0 < k) (inj:∀i j,i < k+1->j < k+1->nm i=nm j->i=j) (low:el k < k) {e2:He} (en:e2.n=nm k) (ee:e2.x.el=some (nm (el k))) (ew:e2.x.w=wt k) (ep:∀v,e2.x.fp v=none) (ec:∀v,e2.x.fc v=none):
  Bt {S with hl:=S.hl++ [e2]} nm el (k+1) wt:=by
 have hl:=h.pl.len
 have split:∀(i:Nat) (e:He),(S.hl++ [e2])[i]?=some e->(i < k/\S.hl[i]?=some e)\/(i=k/\e=e2):=fun i e he=>by
  rcases Nat.lt_or_ge i S.hl.length with c|c
  .rw [List.getElem?_append_left c] at he
   exact .inl ⟨by omega,he⟩
  .have:=(List.getElem?_eq_some_iff.mp he).1
   rw [length_append,length_singleton] at this
   have ei:i=S.hl.length:=by omega
   rw [List.getElem?_append_right c,ei,Nat.sub_self] at he
   exact .inr ⟨by omega,by simpa using he.symm⟩
 refine⟨⟨by show (S.hl++ [e2]).length=_;rw [length_append,hl];rfl,fun i e he=>?_,inj,fun i i0 ik=>?_⟩,fun e he=>?_,fun i e he=>?_,h.ws⟩
 .rcases split i e he with ⟨a,b⟩ |⟨rfl,rfl⟩
  .exact h.pl.nam i e b
  .exact⟨en,by rw [if_neg (by omega)];exact ee⟩
 .by_cases c:i=k
  .rw [c];exact low
  .exact h.pl.low i i0 (by omega)
 .rcases mem_append.mp he with h1|h1
  .exact h.no e h1
  .rw [mem_singleton.mp h1];exact⟨ep,ec⟩
 .rcases split i e he with ⟨a,b⟩ |⟨rfl,rfl⟩
  .exact h.w i e b
  .exact ew
theorem Bt.ask (h:Bt S nm el k wt) (k0:0 < k) (k9:k<=9) (inj:∀i j,i < k+1->j < k+1->nm i=nm j->i=j) (lk:el k < k):∃e,S.at (nm (el k))=some e/\e.n=nm (el k)/\WF S/\qgm S/\S.ws.length<=50/\S.hl.length < 40/\S.at (nm k)=none/\
  ∃zs,LineOf S e.n zs/\zs.length < 12/\∀y∈zs,∃e',S.at y=some e'/\Dep S 12 y/\∀bs,Ben S 12 y bs->∀v n,qgk (sumF (bs.map (ptOf S))) (qd7 noF) v=some n->n<=gN e'.x.fc v:=by
 have low:=h.pl.low
 have h6:=h.ws
 obtain⟨e,h1,h2,h3⟩:=h.pl.at lk
 have en:e.n=nm (el k):=(qcv h1).2
 refine⟨e,h1,en,h.pl.wf,⟨by omega,fun e' he z hz=>absurd ((h.no e' he).1 z) hz⟩,by omega,by rw [h.pl.len];omega,?_,(qcb el (el k)).map nm,by rw [en];exact h.pl.line _ lk,?_,fun y hy=>?_⟩
 .cases c:S.at (nm k) with
  |none=>rfl
  |some e'=>
   obtain⟨i,hi,_,q,_⟩:=h.pl.ix (qcv c).1
   have:=inj i k (by omega) (by omega) (by rw [<-q,(qcv c).2])
   omega
 .rw [length_map]
  have hl:=qfi low (el k) lk
  omega
 .obtain⟨j,hj,rfl⟩:=mem_map.mp hy
  have jl:=qcy low (el k) lk j hj
  have jk:j < k:=by omega
  obtain⟨e',q1,q2,_⟩:=h.pl.at jk
  refine⟨e',q1,h.pl.dep 12 j jk (by omega),fun bs hb v n hn=>?_⟩
  have z:qgk (sumF (bs.map (ptOf S))) (qd7 noF) v=none:=addF_no (fun y=>sumF_no _ _ (fun t ht y=>by
   obtain⟨b,_,rfl⟩:=mem_map.mp ht
   cases c:S.at b with
   |none=>unfold ptOf;rw [c];rfl
   |some e2=>rw [qga c];exact(h.no e2 (qcv c).1).1 y) (fun _=>rfl) y) posF_no v
  rw [z] at hn
  cases hn
theorem Bt.found {K:Frag} {d:Ad} {H:Hp} {t p1 p2:Addr} {Q:VK} {E:XK} (h:Bt S nm el k wt) (hT:qen d H t S) (k0:0 < k) (k9:k<=9) (inj:∀i j,i < k+1->j < k+1->nm i=nm j->i=j) (lk:el k < k) (gz:qef (nm k)=true) (e1:H p1=some (.dK [])) (e2:H p2=some (.dK [])) (w1:1<=wt k) (w2:wt k<=1000)
  (q:∀(e2:He) H',SameBut S.hs H H'->qen d H' t {S with hl:=S.hl++ [e2]}->Bt {S with hl:=S.hl++ [e2]} nm el (k+1) wt->Q .non H'):w5v K d [.ref t,.str (nm k),.str (nm (el k)),.ref p1,.ref p2,.int (wt k)] H Q E:=by
 obtain⟨e,ae,een,hW,hOw,hw50,h40,nk,line⟩:=h.ask k0 k9 inj lk
 have fn:∀ws,Fin ws noF:=fun ws z n e=>by cases e
 refine⟨t,p1,p2,S,nm k,.str (nm (el k)), [], [],noF,noF,wt k,rfl,hT,gz,nk,.inl ⟨_,rfl⟩,fun hn=>?_,fun e' he'=>?_⟩
 .rw [show who S (.str (nm (el k)))=some e from ae] at hn;cases hn
 .have ee':e=e':=Option.some.inj (ae.symm.trans he')
  subst ee'
  exact⟨hW,hOw,hw50,e1,AD.nil,by decide,e2,AD.nil,by decide,fn _,fn _,w1,w2,h40,line,fun y=>Int.le_refl _,fun e3 H' sb f1 f2 f3 hT' n1 n2 n3 n4 n5=>q e3 H' sb hT' (h.next k0 inj lk n1 (by rw [n2,een]) n3 n4 n5)⟩
end
def wap (K:Frag) (d:Ad):Sp:=fun vs H Q _=>∃i j:Int,vs=[.int i,.int j]/\0<=j/\Q (.int (gcdI i j)) H
include T in
theorem wa6:FnOk P w K mg base CX0 1 d.w5i d.w4g ["_law_one","_law_other"] (wap K d):=by
 refine T.w82.ok w77 (fun vs H Q E h=>?_) (fun cdv A outer s H vs Q E hr h=>?_)
 .obtain⟨i,j,rfl,_⟩:=h;rfl
 obtain⟨i,j,rfl,j0,q⟩:=h
 refine⟨_,(qa2 (qe2 PassesOwn.never (qal op_ne (pv 1) qa4 (qas _)) (qa5 (ps_par (i:=0) (j:=1) rfl w77.nd rfl rfl (by decide) rfl rfl (qa0 (pv 1) (qa0 (qag qb9 (pv 0) (pv 1)) qa3)) rfl)))
  (qa5 (qad (qae qfs rfl T.wgv PyProof.Rows.boot_abs (qa0 (pv 0) qa3))))),?_⟩
 walk_at "d"
 refine qab (σ:=[some (.int i),some (.int j)]) rfl ?_
 walk_at "g"
 refine qdy (fun σ H'=>H'=H/\∃(g t:Int),σ=[some (.int g),some (.int t)]/\0<=t/\Int.gcd g t=Int.gcd i j) (fun σ _=>meas 1 σ) ?_ ?_ ?_
 .exact⟨rfl,_,_,rfl,j0,rfl⟩
 .rintro σ H1 ⟨rfl,g,t,rfl,ht,e⟩
  walk_at "g"
  refine i_n2 (fun c=>?_) (fun c=>?_)
  .have c:0 < t:=by omega
   walk_at "g"
   refine⟨⟨rfl,_,_,rfl,Int.emod_nonneg _ (by omega),?_⟩,?_⟩
   .rw [gcd_step g t c];exact e
   .show (g%t).toNat < t.toNat
    have:=Int.emod_lt_of_pos g c
    have:=Int.emod_nonneg g (show t≠0 by omega)
    omega
  .subst c
   walk_at "g"
   have e2:(if g < 0 then -g else g)=gcdI i j:=by
    rw [Int.gcd_zero_right] at e
    unfold gcdI
    rw [<-e];split <;> omega
   rw [e2];exact q
 .rintro σ H1 Q1 Q2 h ⟨v,e,e1,k,e2,q⟩
  exact⟨v,e,e1,k,e2,h _ _ q⟩
structure Sc (sc:Int):Prop where
 lo:1<=sc
 hi:sc<=10^27
theorem Sc.abs {sc:Int} (h:Sc sc):sc.natAbs < 2^600:=by
 have h1:=h.lo
 have h2:=h.hi
 have:sc.natAbs<=10^27:=by omega
 exact Nat.lt_of_le_of_lt this (by decide)
structure InB (B v:Int):Prop where
 lo:0<=v
 hi:v<=B
def wgs (K:Frag) (d:Ad):Sp:=fun vs H Q _=>∃r sc:Int,vs=[.int r,.int sc]/\0<=r/\Sc sc/\∀(v:Int) H',InB (10^30) v->Same H H'->Q (.int v) H'
def wgp (K:Frag) (d:Ad):Sp:=fun vs H Q _=>∃r sc:Int,vs=[.int r,.int sc]/\0<=r/\Sc sc/\∀(v:Int) H',InB (10^31) v->Same H H'->Q (.int v) H'
theorem men3 {m:Int} (h:m∈ [(0:Int),0,1]):0<=m/\m<=1:=by simp only [mem_cons,not_mem_nil,or_false] at h;omega
theorem in_want {sc u m:Int} (h:Sc sc) (u0:0<=u) (u1:u < 13) (hm:0<=m/\m<=1):InB (10^30) (u*sc+m):=by
 have h1:=Int.mul_le_mul (show u<=12 by omega) h.hi (by have:=h.lo;omega) (by decide)
 have h2:=Int.mul_nonneg u0 (show 0<=sc by have:=h.lo;omega)
 have h3:(12:Int)*10^27+1<=10^30:=by decide
 exact⟨by omega,by omega⟩
theorem in_room {sc u m:Int} (h:Sc sc) (u0:0<=u) (u1:u < 30) (hm:0<=m/\m<=1):InB (10^31) (u*sc+m):=by
 have h1:=Int.mul_le_mul (show u<=29 by omega) h.hi (by have:=h.lo;omega) (by decide)
 have h2:=Int.mul_nonneg u0 (show 0<=sc by have:=h.lo;omega)
 have h3:(29:Int)*10^27+1<=10^31:=by decide
 exact⟨by omega,by omega⟩
include T in
theorem wgk:FnOk P w K mg base CX0 1 d.wed d.wcf ["_law_number","_law_scale"] (wgs K d):=by
 refine T.wfy.ok wgx (fun vs H Q E h=>?_) (fun cdv A outer s H vs Q E hr h=>?_)
 .obtain⟨r,sc,rfl,_⟩:=h;rfl
 obtain⟨r,sc,rfl,r0,hsc,q⟩:=h
 refine⟨_,(qa2 (qbb (qal qe5 (qag qb9 (pv 0) qa4) qa4 (qas _)) (qa5 (qad (qag op_pow qa4 qa4))) qaq)
  (qa5 (qad (qag qby (qag qb1 (qag qb9 (qag qbg (pv 0) qa4) qa4) (pv 1)) (qai qan (qbr (qa0 qa4 (qa0 qa4 (qa0 qa4 qa3)))) (qag qb9 (qag qbg (pv 0) qa4) qa4) (fun _ _=>rfl)))))),?_⟩
 walk_at "d"
 refine qab (σ:=[some (.int r),some (.int sc)]) rfl ?_
 walk_at "g"
 refine i_2 (fun c=>?_) (fun c=>?_)
 .walk_at "g"
  exact q _ _ ⟨by decide,by decide⟩ fun _ _ e=>e
 .have u0:=Int.emod_nonneg (r.fdiv 7) (show (13:Int)≠0 by decide)
  have u1:=Int.emod_lt_of_pos (r.fdiv 7) (show (0:Int) < 13 by decide)
  generalize eu:r.fdiv 7%13=u at*
  have nu:u.natAbs < 2^600:=Nat.lt_of_le_of_lt (show u.natAbs<=1000 by omega) (by decide)
  have ns:=hsc.abs
  have m0:=Int.emod_nonneg (r.fdiv 91) (show (3:Int)≠0 by decide)
  have m1:=Int.emod_lt_of_pos (r.fdiv 91) (show (0:Int) < 3 by decide)
  generalize em:r.fdiv 91%3=m at*
  have hv:∀x:Int,0<=x/\x<=1->_:=fun x hx=>in_want hsc u0 u1 hx
  clear u0 u1 r0
  walk_at "g"
  rw [eu]
  walk_at "g"
  rename_i p hp
  rw [em]
  refine r_menu (xs:=[0,0,1]) (SqL.of qa1) m0 m1 fun x hx=>?_
  clear m0 m1 em eu nu ns
  walk_at "g"
  exact q _ _ (hv x (men3 hx)) (qa7 hp _)
include T in
theorem wgj:FnOk P w K mg base CX0 1 d.wds d.wbh ["_law_number","_law_scale"] (wgp K d):=by
 refine T.wfz.ok wgr (fun vs H Q E h=>?_) (fun cdv A outer s H vs Q E hr h=>?_)
 .obtain⟨r,sc,rfl,_⟩:=h;rfl
 obtain⟨r,sc,rfl,r0,hsc,q⟩:=h
 refine⟨_,(qa2 (qbb (qal qe5 (qag qb9 (pv 0) qa4) qa4 (qas _)) (qa5 (qad (qag op_pow qa4 qa4))) qaq)
  (qa5 (qad (qag qby (qag qb1 (qag qb9 (qag qbg (pv 0) qa4) qa4) (pv 1)) (qai qan (qbr (qa0 qa4 (qa0 qa4 (qa0 qa4 qa3)))) (qag qb9 (qag qbg (pv 0) qa4) qa4) (fun _ _=>rfl)))))),?_⟩
 walk_at "d"
 refine qab (σ:=[some (.int r),some (.int sc)]) rfl ?_
 walk_at "g"
 refine i_2 (fun c=>?_) (fun c=>?_)
 .walk_at "g"
  exact q _ _ ⟨by decide,by decide⟩ fun _ _ e=>e
 .have u0:=Int.emod_nonneg (r.fdiv 4) (show (30:Int)≠0 by decide)
  have u1:=Int.emod_lt_of_pos (r.fdiv 4) (show (0:Int) < 30 by decide)
  generalize eu:r.fdiv 4%30=u at*
  have nu:u.natAbs < 2^600:=Nat.lt_of_le_of_lt (show u.natAbs<=1000 by omega) (by decide)
  have ns:=hsc.abs
  have m0:=Int.emod_nonneg (r.fdiv 120) (show (3:Int)≠0 by decide)
  have m1:=Int.emod_lt_of_pos (r.fdiv 120) (show (0:Int) < 3 by decide)
  generalize em:r.fdiv 120%3=m at*
  have hv:∀x:Int,0<=x/\x<=1->_:=fun x hx=>in_room hsc u0 u1 hx
  clear u0 u1 r0
  walk_at "g"
  rw [eu]
  walk_at "g"
  rename_i p hp
  rw [em]
  refine r_menu (xs:=[0,0,1]) (SqL.of qa1) m0 m1 fun x hx=>?_
  clear m0 m1 em eu nu ns
  walk_at "g"
  exact q _ _ (hv x (men3 hx)) (qa7 hp _)
def wfh (K:Frag) (d:Ad):Sp:=fun vs H Q _=>∃r:Int,vs=[.int r]/\Q (.bl true) H
include T in
theorem wcq:FnOk P w K mg base CX0 1 d.wcb d.w9m ["_law_found"] (wfh K d):=by
 refine T.wb9.ok wfk (fun vs H Q E h=>?_) (fun cdv A outer s H vs Q E hr h=>?_)
 .obtain⟨r,rfl,_⟩:=h;rfl
 obtain⟨r,rfl,q⟩:=h
 refine⟨_,(qa5 (qad (qek (qae qbf rfl T.w08 PyProof.Rows.boot_isinstance (qa0 (pv 0) (qa0 (qc5 (v:=.ty "int") rfl T.wf9 PyProof.Rows.boot_int rfl) qa3))) (qfd (pe_not (qae qbf rfl T.w08 PyProof.Rows.boot_isinstance (qa0 (pv 0) (qa0 (qc5 (v:=.ty "bool") rfl T.wg3 PyProof.Rows.boot_bool rfl) qa3)))))))),?_⟩
 walk_at "d"
 refine qab (σ:=[some (.int r)]) rfl ?_
 walk_at "g"
 exact q
def w8k (K:Frag) (d:Ad):Sp:=fun vs H Q _=>∃(a:Addr) (q:Rat),vs=[.ref a]/\qbm H a q/\Q (.bl true) H
theorem gcd_red (q:Rat):gcdI q.num (q.den:Int)=1:=by
 unfold gcdI
 have:Int.gcd q.num (q.den:Int)=1:=q.reduced
 rw [this];rfl
include T in
theorem w8o:FnOk P w K mg base CX0 2 d.w3x d.w35 ["_law_found"] (w8k K d):=by
 refine T.w5x.ok w8j (fun vs H Q E h=>?_) (fun cdv A outer s H vs Q E hr h=>?_)
 .obtain⟨a,q,rfl,_⟩:=h;rfl
 obtain⟨a,x,rfl,ha,q⟩:=h
 refine⟨_,(qa2 (qbb (PW.pt (qe0 (qbx (qbn (qae qbf rfl T.w08 PyProof.Rows.boot_isinstance (qa0 (pv 0) (qa0 (qc5 (v:=.ty "tuple") rfl T.weo PyProof.Rows.boot_tuple rfl) qa3))))) (qe0 (qal op_ne (qae qbh rfl T.w51 PySem.boot_len (qa0 (pv 0) qa3)) qa4 (qas _)) (qe0 (qbx (qbn (qah ((wcq T).mono (by decide)) hr rfl T.wdy T.wb9.kp T.we5 .nil qaw (qa0 (qai qak (pv 0) qa4 (fun _ _=>rfl)) qa3)))) (qf8 (qbx (qbn (qah ((wcq T).mono (by decide)) hr rfl T.wdy T.wb9.kp T.we5 .nil qaw (qa0 (qai qak (pv 0) qa4 (fun _ _=>rfl)) qa3))))))))) (qa5 (qad qfe)) qaq)
  (qa5 (qad (qek (qcd qfz (qai qak (pv 0) qa4 (fun _ _=>rfl)) qa4 (qas _)) (qfd (qcd qe5 (qah ((wa6 T).mono (by decide)) hr rfl T.wbv T.w82.kp T.wb5 .nil qaw (qa0 (qai qak (pv 0) qa4 (fun _ _=>rfl)) (qa0 (qai qak (pv 0) qa4 (fun _ _=>rfl)) qa3))) qa4 (qas _))))))),?_⟩
 walk_at "d"
 try dsimp only [cxC]
 refine qab (σ:=[some (.ref a)]) rfl ?_
 have dp:=den_pos x
 have gr:=gcd_red x
 unfold qbm at ha
 walk_at "g"
 refine⟨_,rfl,?_⟩
 walk_at "g"
 refine⟨_,rfl,?_⟩
 walk_at "g"
 refine⟨_,_,rfl,Int.le_of_lt dp,?_⟩
 rw [gr]
 walk_at "g"
 exact q
theorem qf7:∀{p:Str} {l:List Str},(p :: l).Pairwise leS->PyProof.Rows.risingS p l=true
 |p, [],_=>rfl
 |p,x :: r,h=>by
  have h1:=List.rel_of_pairwise_cons h (mem_cons_self ..)
  unfold PyProof.Rows.risingS
  rw [Bool.and_eq_true,Bool.not_eq_true']
  exact⟨h1,qf7 (List.Pairwise.of_cons h)⟩
theorem ins_ex (x:Str):∀{l:List Str},l.Pairwise leS->∃l':List Str,l'.Perm (x :: l)/\l'.Pairwise leS
 | [],_=>⟨[x],List.Perm.refl _,List.pairwise_singleton _ _⟩
 |y :: r,h=>by
  by_cases c:leS x y
  .refine⟨x :: y :: r,List.Perm.refl _,List.pairwise_cons.mpr ⟨fun z hz=>?_,h⟩⟩
   rcases mem_cons.mp hz with rfl|hz
   .exact c
   .exact leS_trans c (List.rel_of_pairwise_cons h hz)
  .have c':leS y x:=qdb.mpr ((List.le_total _ _).resolve_left fun z=>c (qdb.mpr z))
   obtain⟨l',hp,hl⟩:=ins_ex x (List.Pairwise.of_cons h)
   refine⟨y :: l',(hp.cons y).trans (List.Perm.swap x y r),List.pairwise_cons.mpr ⟨fun z hz=>?_,hl⟩⟩
   rcases mem_cons.mp (hp.mem_iff.mp hz) with rfl|hz
   .exact c'
   .exact List.rel_of_pairwise_cons h hz
theorem sort_ex:∀ss:List Str,∃ss':List Str,ss'.Perm ss/\PyProof.Rows.sortedS ss'=true:=fun ss=>by
 have:∃ss':List Str,ss'.Perm ss/\ss'.Pairwise leS:=by
  induction ss with
  |nil=>exact⟨[],List.Perm.refl _,List.Pairwise.nil⟩
  |cons x r ih=>
   obtain⟨r',hp,hr⟩:=ih
   obtain⟨l',hp',hl⟩:=ins_ex x hr
   exact⟨l',hp'.trans (hp.cons x),hl⟩
 obtain⟨l,hp,hl⟩:=this
 refine⟨l,hp,?_⟩
 cases l with
 |nil=>rfl
 |cons x r=>exact qf7 hl
theorem IsL.rise {D:Dl} (ok:DlOk D) {W:List Str} {lf:Str->Rat} {L L':Rat} (sub:∀n∈W,n∈D.W0) (il:IsL D W lf L) (il':IsL D (wls W (rdy D W lf L)) (lfN D lf L (rdy D W lf L)) L'):L < L':=by
 obtain⟨n,hn,c⟩:=il'.at_
 obtain⟨nW,nR⟩:=qbk.mp hn
 have hsub:∀n∈rdy D W lf L,n∈W:=fun n h=>(qbw.mp h).1
 have nR':¬((∃h∈D.ln n,lf h / ldQ D W h=L)\/goQ D n=L):=fun z=>nR (qbw.mpr ⟨nW,z⟩)
 rcases c with ⟨h,hl,e⟩ |e
 .have p:=qee ok nW (sub n nW) hl
  have p':=qee ok hn (sub n nW) hl
  have g:=(il.ge n nW).1 h hl
  have ne:lf h / ldQ D W h≠L:=fun z=>nR' (.inl ⟨h,hl,z⟩)
  have e2:=(div_eq (show (0:Rat) < ldQ D (wls W (rdy D W lf L)) h by grind)).mp e
  have sp:=ldQ_split (D:=D) W (rdy D W lf L) hsub h
  have p0:(0:Rat) < ldQ D W h:=by grind
  have a:=(le_div p0).mp g
  have b:lf h≠L*ldQ D W h:=fun z=>ne ((div_eq p0).mpr z)
  unfold lfN at e2
  have q0:(0:Rat)<=ldQ D (wls W (rdy D W lf L)) h:=by grind
  clear ne nR' nR hsub il il' g e sub nW
  generalize ldQ D (wls W (rdy D W lf L)) h=x at*
  generalize ldQ D (rdy D W lf L) h=y at*
  rw [sp] at a b
  have lt:L*x < L'*x:=by grind
  refine Classical.byContradiction fun z=>?_
  have:=Rat.mul_le_mul_of_nonneg_right (show L'<=L by grind) q0
  grind
 .have g:=(il.ge n nW).2
  have ne:goQ D n≠L:=fun z=>nR' (.inr z)
  grind
theorem IsL.le {D:Dl} {W:List Str} {lf:Str->Rat} {L L':Rat} (a:IsL D W lf L) (b:IsL D W lf L'):L<=L':=by
 obtain⟨n,hn,c⟩:=b.at_
 rcases c with ⟨h,hl,e⟩ |e
 .have:=(a.ge n hn).1 h hl;grind
 .have:=(a.ge n hn).2;grind
theorem IsL.uniq {D:Dl} {W:List Str} {lf:Str->Rat} {L L':Rat} (a:IsL D W lf L) (b:IsL D W lf L'):L=L':=Rat.le_antisymm (a.le b) (b.le a)
def lvN (r:Rnd):Rat × List Str:=(r.L,r.ns)
theorem stR_eq {D:Dl}:∀{rs rs':List Rnd},rs.map lvN=rs'.map lvN->stR D rs=stR D rs':=fun {rs rs'} h=>by
 have e:∀rs:List Rnd,stR D rs=(rs.map lvN).foldl (fun p r=>(wls p.1 r.2,lfN D p.2 r.1 r.2)) (D.W0,fun h=>(D.rm h:Rat)):=fun rs=>by
  unfold stR
  rw [List.foldl_map]
  rfl
 rw [e rs,e rs',h]
theorem RdT.uniq {D:Dl} {lf lf':Str->Rat} {rs rs':List Rnd} (a:RdT D [] lf rs) (b:RdT D [] lf' rs'):rs.map lvN=rs'.map lvN:=by
 have stop:∀{lf lf':Str->Rat} {rs rs':List Rnd} {i:Nat} {r:Rnd},RdT D [] lf rs->RdT D [] lf' rs'->(rs.take i).map lvN=(rs'.take i).map lvN->rs[i]?=some r->rs'[i]?=none->False:=fun {lf lf' rs rs' i r} a b ht h1 h2=>by
  have hl:=List.getElem?_eq_none_iff.mp h2
  rw [List.take_of_length_le hl] at ht
  have h3:=(a.at_ i r h1).1
  rw [stR_eq ht,b.st] at h3
  obtain⟨n,hn,_⟩:=h3.at_
  simp at hn
 have key:∀i:Nat,(rs.take i).map lvN=(rs'.take i).map lvN:=fun i=>by
  induction i with
  |zero=>rfl
  |succ i ih=>
   rw [take_add_one,take_add_one,map_append,map_append,ih]
   congr 1
   cases h1:rs[i]? with
   |none=>
    cases h2:rs'[i]? with
    |none=>rfl
    |some r'=>exact(stop b a ih.symm h2 h1).elim
   |some r=>
    cases h2:rs'[i]? with
    |none=>exact(stop a b ih h1 h2).elim
    |some r'=>
     obtain⟨a1,a2⟩:=a.at_ i r h1
     obtain⟨b1,b2⟩:=b.at_ i r' h2
     rw [stR_eq ih] at a1 a2
     have e:=a1.uniq b1
     show [lvN r]=[lvN r']
     unfold lvN
     rw [a2,b2,e]
 have:=key (rs.length+rs'.length)
 rw [List.take_of_length_le (Nat.le_add_right _ _),List.take_of_length_le (Nat.le_add_left _ _)] at this
 exact this
structure Wk (D:Dl) (W:List Str) (lf:Str->Rat) (us:List (Str × Addr)) (tp bt:Str->Int) (s:Str->Rat):Prop where
 sub:∀n∈W,n∈D.W0
 nd:W.Nodup
 so:PyProof.Rows.sortedS W=true
 mm:∀n,n∈us.map (·.1)↔n∈D.W0/\n∉W
 lf:∀h,lf h=(D.rm h:Rat) - qbz D.W0 fun n=>if n∉W/\h∈D.ln n then s n else 0
 ps:PsB (us.map (·.1)) tp bt s
theorem sumQ_perm {f:Str->Rat} {l l':List Str} (h:l.Perm l'):qbz l f=qbz l' f:=by
 induction h with
 |nil=>rfl
 |cons x _ ih=>show f x+_=f x+_;rw [ih]
 |swap x y l=>show f y+(f x+qbz l f)=f x+(f y+qbz l f);grind
 |trans _ _ h1 h2=>exact h1.trans h2
theorem qdr {s:Str->Rat} {P:Str->Bool}:∀{l:List Str},qbz (l.filter P) s=qbz l fun n=>if P n=true then s n else 0
 | []=>rfl
 |n :: l=>by
  show _=(if P n=true then s n else 0)+qbz l _
  by_cases c:P n=true
  .rw [List.filter_cons_of_pos c,if_pos c,<-qdr];rfl
  .rw [List.filter_cons_of_neg c,if_neg c,<-qdr];grind
theorem ins_sum {nm:List Str} {es:List Nat} {D:Dl} (ok:ShOk nm es D) {P:Str->Bool} {f g:Str->Rat} (h:Str) (hg:∀n∈D.W0,g n=if P n=true/\h∈D.ln n then f n else 0):qbz ((qcq D nm h).filter P) f=qbz D.W0 g:=by
 have p:((qcq D nm h).filter P).Perm (D.W0.filter fun n=>P n && decide (h∈D.ln n)):=by
  refine(List.perm_ext_iff_of_nodup ((ok.nd.filter _).filter _) (ok.ok.nd.filter _)).mpr fun z=>?_
  simp only [qcq,mem_filter,decide_eq_true_eq,Bool.and_eq_true]
  exact⟨fun a=>⟨a.1.2.1,a.2,a.1.2.2⟩,fun a=>⟨⟨ok.sub z a.1,a.1,a.2.2⟩,a.2.1⟩⟩
 rw [sumQ_perm p,qdr]
 refine qc4 fun n hn=>?_
 rw [hg n hn]
 by_cases c:P n=true/\h∈D.ln n
 .rw [if_pos c,if_pos (by rw [c.1,decide_eq_true c.2];rfl)]
 .rw [if_neg c,if_neg fun z=>c (by simpa using z)]
theorem sum_cast {f:Str->Int}:∀{l:List Str},((l.map f).sum:Rat)=qbz l fun n=>(f n:Rat)
 | []=>rfl
 |n :: l=>by
  rw [map_cons,sum_cons,Rat.intCast_add,sum_cast]
  rfl
section
variable {D: Dl} {nm: List Str} {es: List Nat} {W: List Str} {lf s: Str -> Rat} {us: List (Str × Addr)} {tp bt: Str -> Int}
theorem Wk.load (k:Wk D W lf us tp bt s) (ok:ShOk nm es D) (h:Str):((((qcq D nm h).filter fun n=>!decide (n∈us.map (·.1))).map D.wt).sum:Rat)=ldQ D W h:=by
 rw [sum_cast]
 unfold ldQ
 refine ins_sum ok h fun n hn=>?_
 by_cases c:n∈W
 .have c2:n∉us.map (·.1):=fun z=>((k.mm n).mp z).2 c
  by_cases c3:h∈D.ln n
  .rw [if_pos ⟨c,c3⟩,if_pos ⟨by rw [decide_eq_false c2];rfl,c3⟩]
  .rw [if_neg fun z=>c3 z.2,if_neg fun z=>c3 z.2]
 .have c2:n∈us.map (·.1):=(k.mm n).mpr ⟨hn,c⟩
  rw [if_neg fun z=>c z.1,if_neg fun z=>by have:=z.1;rw [decide_eq_true c2] at this;cases this]
theorem Wk.had (k:Wk D W lf us tp bt s) (ok:ShOk nm es D) (h:Str):(D.rm h:Rat) - qbz ((qcq D nm h).filter fun n=>decide (n∈us.map (·.1))) s=lf h:=by
 rw [k.lf h]
 congr 1
 refine ins_sum ok h fun n hn=>?_
 by_cases c:n∈W
 .have c2:n∉us.map (·.1):=fun z=>((k.mm n).mp z).2 c
  rw [if_neg fun z=>z.1 c,if_neg fun z=>c2 (of_decide_eq_true z.1)]
 .have c2:n∈us.map (·.1):=(k.mm n).mpr ⟨hn,c⟩
  by_cases c3:h∈D.ln n
  .rw [if_pos ⟨c,c3⟩,if_pos ⟨decide_eq_true c2,c3⟩]
  .rw [if_neg fun z=>c3 z.2,if_neg fun z=>c3 z.2]
end
theorem so_of {l:List Str} (h:l.Pairwise leS):PyProof.Rows.sortedS l=true:=by
 cases l with
 |nil=>rfl
 |cons x r=>exact qf7 h
theorem qf1 {W:List Str} (h:PyProof.Rows.sortedS W=true) (P:Str->Bool):PyProof.Rows.sortedS (W.filter P)=true:=so_of ((qdz h).filter P)
theorem dv_den {N:Nat} {q:Rat} (n0:0 < N) (h:Dv N q):q.den<=N:=by
 obtain⟨z,hz⟩:=h
 have e:q.num*(N:Int)=z*(q.den:Int):=by
  apply qf3
  rw [Rat.intCast_mul,Rat.intCast_mul,Rat.intCast_natCast,Rat.intCast_natCast,qgd q,<-hz]
  grind
 refine Nat.le_of_dvd n0 ?_
 have h1:(q.den:Int) ∣ q.num*(N:Int):=⟨z,by rw [e,Int.mul_comm]⟩
 have h2:q.den ∣ q.num.natAbs*N:=by
  have:=Int.natAbs_dvd_natAbs.mpr h1
  rw [Int.natAbs_natCast,Int.natAbs_mul,Int.natAbs_natCast] at this
  exact this
 exact Nat.Coprime.dvd_of_dvd_mul_left q.reduced.symm h2
theorem ShOk.hs {nm:List Str} {es:List Nat} {D:Dl} (ok:ShOk nm es D):∀n∈D.W0,∀h∈D.ln n,h∈nm:=fun n hn h hh=>by
 obtain⟨k,hk,e⟩:=mem_iff_getElem.mp (ok.sub n hn)
 have e2:nmG nm k=n:=by unfold nmG;rw [getElem?_eq_getElem hk,e];rfl
 rw [<-e2,ok.ln k hk] at hh
 obtain⟨j,hj,rfl⟩:=mem_map.mp hh
 exact qcx (by have:=qcy ok.low k hk j hj;omega)
def rDNI (x y:V) (H:Hp) (Q:VK):Prop:=∃a o,x=.ref a/\DGet H a y o/\Q (.bl (!o.isSome)) H
theorem r_dni {ty td:TE} {σ:L2.St} {H:Hp} {Q:VK} (h:ty σ H fun y H1=>td σ H1 fun x H2=>rDNI x y H2 Q):tDNotIn ty td σ H Q:=h
theorem r_dniO {H:Hp} {Q:VK} {a:Addr} {hs:List (Str × Addr)} {z:Str} (d:Rd H a (.dK (oK hs))) (h:Q (.bl (!decide (z∈hs.map (·.1)))) H):rDNI (.ref a) (.str z) H Q:=by
 refine⟨a,qce (oK hs) (Sum.inr z),rfl,.inl ⟨_,Sum.inr z,d,rfl,rfl⟩,?_⟩
 rw [qey,Option.isSome_map,look_is]
 exact h
def FullR (D:Dl) (W:List Str) (lf:Str->Rat) (h:Str) (L:Rat) (r:Int):Prop:=(ldQ D W h=0/\r= -1)\/(0 < ldQ D W h/\((lf h / ldQ D W h < L/\r=1)\/(lf h / ldQ D W h=L/\r=0)\/(L < lf h / ldQ D W h/\r= -1)))
theorem qg2 (q:Rat):((q.num:Int):Rat)=q*(((q.den:Nat):Int):Rat):=by rw [Rat.intCast_natCast];exact qgd q
theorem RB.hn {q:Rat} (h:RB q):Hug q.num:=Hug.small (Nat.lt_of_lt_of_le h.n (Nat.pow_le_pow_right (by decide) (by decide)))
theorem RB.hd {q:Rat} (h:RB q):Hug (q.den:Int):=Hug.small (by rw [Int.natAbs_natCast];exact Nat.lt_of_lt_of_le h.d (Nat.pow_le_pow_right (by decide) (by decide)))
def wgh (K:Frag) (d:Ad):Sp:=fun vs H Q _=>∃(p ln le dg dw dr:Addr) (nm:List Str) (es:List Nat) (kg kw kr:List (Key × V)) (D:Dl) (ds la:Addr) (us:List (Str × Addr)) (tp bt:Str->Int) (W:List Str) (lf s:Str->Rat) (L:Rat) (j:Nat),vs=[.ref p,.ref ds,.ref la,iV j]/\ShAt H p ln le dg dw dr nm es kg kw kr D/\ShOk nm es D/\H ds=some (.dK (oK us))/\PD H us tp bt/\Wk D W lf us tp bt s/\qbm H la L/\RB L/\j < nm.length/\
 ∀(r:Int) H',Same H H'->FullR D W lf (nmG nm j) L r->Q (.int r) H'
set_option maxHeartbeats 9000000 in
include T in
theorem wee:FnOk P w K mg base CX0 5 d.we0 d.wci ["_law_sharing_here","_law_shares","_law_level","_law_at"] (wgh K d):=by
 refine T.wf4.ok w36 (fun vs H Q E h=>?_) (fun cdv A outer s H vs Q E hr h=>?_)
 .obtain⟨p,ln,le,dg,dw,dr,nm,es,kg,kw,kr,D,ds,la,us,tp,bt,W,lf,s,L,j,rfl,_⟩:=h;rfl
 obtain⟨p,ln,le,dg,dw,dr,nm,es,kg,kw,kr,D,ds,la,us,tp,bt,W,lf,s,L,j,rfl,hA,ok,hds,hP,wk,hL,rb,hj,q⟩:=h
 refine⟨_,(qa2 (qfa (pv 0) (qfc rfl (qao (qac (i:=4) w36.nd rfl (Or.inl rfl)) (qao (qac (i:=5) w36.nd rfl (Or.inl rfl)) (qao (qac (i:=6) w36.nd rfl (Or.inr rfl)) (qao (qac (i:=7) w36.nd rfl (Or.inl rfl)) (qao (qac (i:=8) w36.nd rfl (Or.inl rfl)) qds)))))))
  (qa2 (qaf (i:=9) w36.nd rfl (Or.inl rfl) (qah ((wa7 T).mono (by decide)) hr rfl T.wcl T.w9q.kp T.wct .nil qaw (qa0 (pv 0) (qa0 (pv 3) qa3))))
  (qa2 (qaf (i:=10) w36.nd rfl (Or.inl rfl) (qae (call_sumL rfl) rfl T.whh PyProof.Rows.boot_sum (qa0 (qco (caps:=[1,6]) (cn:=["_law_shares","_law_weights"]) (qc6 rfl rfl (by rfl) (by rfl) rfl ⟨rfl,⟨rfl,trivial⟩⟩ (by rfl) rfl ⟨⟨rfl,rfl,rfl,rfl,_,rfl⟩,⟨⟨rfl,rfl,rfl,rfl,_,rfl⟩,trivial⟩⟩ (by decide)) rfl (qb0 (pv 9)) (fun _ _ _ _=>(pf_one (qg1 (qe4 (qau hr) (pv 0) (pv 1))))) (fun _ _ _ _=>(qat (qau hr) (pv 2) (pv 0) (fun _ _=>rfl)))) qa3)))
  (qa2 (qbb (qal qe5 (pv 10) qa4 (qas _)) (qa5 (qad (pe_un un_neg qa4))) qaq)
  (qa2 (qaf (i:=11) w36.nd rfl (Or.inl rfl) (qah ((wbb T).mono (by decide)) hr rfl T.wdn T.w8t.kp T.wdg .nil qaw (qa0 (pv 1) (qa0 (qco (caps:=[1]) (cn:=["_law_shares"]) (qc6 rfl rfl (by rfl) (by rfl) rfl ⟨rfl,trivial⟩ (by rfl) rfl ⟨⟨rfl,rfl,rfl,rfl,_,rfl⟩,trivial⟩ (by decide)) rfl (qb0 (pv 9)) (fun _ _ _ _=>(pf_one (qg1 (pc_din (qau hr) (pv 0) (pv 1))))) (fun _ _ _ _=>(pv 0))) qa3))))
  (qa2 (qaf (i:=12) w36.nd rfl (Or.inl rfl) (qdo (qa0 (qag op_sub (qag qd9 (qat (qau hr) (pv 8) (qai qan (pv 4) (pv 3) (fun _ _=>rfl)) (fun _ _=>rfl)) (qai qak (pv 11) qa4 (fun _ _=>rfl))) (qai qak (pv 11) qa4 (fun _ _=>rfl))) (qa0 (qag qd9 (qai qak (pv 11) qa4 (fun _ _=>rfl)) (pv 10)) qa3))))
  (qa2 (qbb (qbn (qah ((wc0 T).mono (by decide)) hr rfl T.wdr T.wcu.kp T.wf0 .nil qaw (qa0 (pv 12) (qa0 (pv 2) qa3)))) (qa5 (qad qa4)) qaq)
  (qa5 (qad (qag qd9 (qca call_intB rfl T.wf9 PyProof.Rows.boot_int (qa0 (qah ((wc0 T).mono (by decide)) hr rfl T.wdr T.wcu.kp T.wf0 .nil qaw (qa0 (pv 2) (qa0 (pv 12) qa3))) qa3)) (pe_un un_neg qa4))))))))))),?_⟩
 walk_at "d"
 try dsimp only [cxC]
 refine qab (σ:=[some (.ref p),some (.ref ds),some (.ref la),some (iV j),none,none,none,none,none,none,none,none,none]) rfl ?_
 have etop:=hA.top
 have l7:=ok.l7
 have hgA:=hA.gA
 have hrA:=hA.rA
 have hjm:nmG nm j∈nm:=qcx hj
 walk_at "g"
 refine⟨p,ln,le,dg,dw,dr,nm,es,kg,kw,kr,D,j,rfl,hA,ok,hj,fun li H1 s1 fli eli=>?_⟩
 have hA1:=hA.same s1
 have hds1:=s1 _ _ hds
 have il:(qcq D nm (nmG nm j)).length<=7:=Nat.le_trans (length_filter_le _ _) l7
 have inW:∀n∈qcq D nm (nmG nm j),n∈D.W0/\n∈nm/\nmG nm j∈D.ln n:=fun n hn=>by
  have:=mem_filter.mp hn
  have h2:=of_decide_eq_true this.2
  exact⟨h2.1,this.1,h2.2⟩
 walk_at "g"
 intro C s9 H9 fp lc hlc
 refine c_by (qcq D nm (nmG nm j)).length (fun i' Hx=>Same H1 Hx/\Hx lc=some (.lst (((((qcq D nm (nmG nm j)).take i').filter fun n=>!decide (n∈us.map (·.1))).map D.wt).map V.int))) ⟨qa7 hlc _,qa1⟩ ?_ ?_ ?_ ?_
 .rintro i' Hx hi' ⟨sx,_⟩
  exact⟨_,.str (qcq D nm (nmG nm j))[i'],SqL.of (sx _ _ eli),by rw [getElem?_map,getElem?_eq_getElem hi'];rfl⟩
 .rintro Hx ⟨sx,_⟩
  exact⟨_,SqL.of (sx _ _ eli),by rw [length_map];exact Nat.le_refl _⟩
 .rintro i' Hx v H'' hi' ⟨sx,ea⟩ ⟨rfl,hv⟩
  have hv:=hv _ (SqL.of (sx _ _ eli))
  rw [getElem?_map,getElem?_eq_getElem hi'] at hv
  cases hv
  have hin:=inW _ (getElem_mem hi')
  have etj:(qcq D nm (nmG nm j)).take (i'+1)=(qcq D nm (nmG nm j)).take i'++ [(qcq D nm (nmG nm j))[i']]:=by rw [take_add_one,getElem?_eq_getElem hi'];rfl
  generalize (qcq D nm (nmG nm j))[i']=n at*
  have zl:((((((qcq D nm (nmG nm j)).take i').filter fun n=>!decide (n∈us.map (·.1))).map D.wt).map V.int)).length < sizeLine:=by
   rw [length_map,length_map]
   have h1:=length_filter_le (fun n=>!decide (n∈us.map (·.1))) ((qcq D nm (nmG nm j)).take i')
   rw [length_take] at h1
   show _ < 16777216
   omega
  have hRg:Rd H'' dg (.dK kg):=.inl (sx _ _ hA1.g)
  have gw:qc0 nm D.wt n=some (D.wt n):=qbl hin.2.1
  walk_at "g"
  refine r_dni ?_
  walk_at "g"
  refine r_dniO (.inl (sx _ _ hds1)) ?_
  by_cases c:n∈us.map (·.1)
  .rw [decide_eq_true c]
   walk_at "g"
   refine⟨sx,?_⟩
   rw [ea,etj,filter_append,filter_cons,if_neg (by rw [decide_eq_true c];decide),List.filter_nil,append_nil]
  .rw [decide_eq_false c]
   walk_at "g"
   refine⟨qb4 sx hlc,?_⟩
   rw [qa1,etj,filter_append,filter_cons,if_pos (by rw [decide_eq_false c];rfl),map_append,map_append];rfl
 rintro H2 ⟨s2,elc⟩
 rw [take_length] at elc
 have ewt:=wk.load ok (nmG nm j)
 have hnn:=ldQ_nn ok.ok W (nmG nm j)
 have hbd:=ldQ_bd ok.ok W (nmG nm j)
 walk_at "g"
 refine r_sumL (SqL.of elc) ?_
 generalize (((qcq D nm (nmG nm j)).filter fun n=>!decide (n∈us.map (·.1))).map D.wt).sum=wt at*
 rw [<-ewt] at hnn hbd
 have w0:(0:Int)<=wt:=by exact_mod_cast hnn
 have w7:wt<=7000:=by exact_mod_cast hbd
 clear hnn hbd elc
 have s02:=s1.trans s2
 by_cases cw:wt=0
 .subst cw
  walk_at "g"
  exact q (-1) H2 s02 (.inl ⟨by rw [<-ewt];rfl,rfl⟩)
 have wp:(0:Rat) < ldQ D W (nmG nm j):=by
  rw [<-ewt]
  have:(0:Int) < wt:=by omega
  exact_mod_cast this
 obtain⟨m,hm,hml⟩:∃m∈W,nmG nm j∈D.ln m:=Classical.byContradiction fun z=>by
  rw [qd0 fun m hm hl=>z ⟨m,hm,hl⟩] at wp
  exact absurd wp (by decide)
 have r0:=ok.ok.r0 m (wk.sub m hm) _ hml
 have r1:=ok.ok.r1 m (wk.sub m hm) _ hml
 have hP2:=hP.t (qc1.of s02)
 have hds2:=s02 _ _ hds
 have hA2:=hA.same s02
 have eli2:=s2 _ _ eli
 have xn:atI (nm.map V.str) ((j:Nat):Int)=some (.str (nmG nm j)):=qc7 (by rw [getElem?_map,qda hj];rfl)
 clear hA1 hds1 eli s1
 walk_at "g"
 intro C s9 H9 fp lc2 hlc2
 refine c_by (qcq D nm (nmG nm j)).length (fun i' Hx=>Same H2 Hx/\Hx lc2=some (.lst ((((qcq D nm (nmG nm j)).take i').filter fun n=>decide (n∈us.map (·.1))).map V.str))) ⟨qa7 hlc2 _,qa1⟩ ?_ ?_ ?_ ?_
 .rintro i' Hx hi' ⟨sx,_⟩
  exact⟨_,.str (qcq D nm (nmG nm j))[i'],SqL.of (sx _ _ eli2),by rw [getElem?_map,getElem?_eq_getElem hi'];rfl⟩
 .rintro Hx ⟨sx,_⟩
  exact⟨_,SqL.of (sx _ _ eli2),by rw [length_map];exact Nat.le_refl _⟩
 .rintro i' Hx v H'' hi' ⟨sx,ea⟩ ⟨rfl,hv⟩
  have hv:=hv _ (SqL.of (sx _ _ eli2))
  rw [getElem?_map,getElem?_eq_getElem hi'] at hv
  cases hv
  have etj:(qcq D nm (nmG nm j)).take (i'+1)=(qcq D nm (nmG nm j)).take i'++ [(qcq D nm (nmG nm j))[i']]:=by rw [take_add_one,getElem?_eq_getElem hi'];rfl
  generalize (qcq D nm (nmG nm j))[i']=n at*
  have zl:(((((qcq D nm (nmG nm j)).take i').filter fun n=>decide (n∈us.map (·.1))).map V.str)).length < sizeLine:=by
   rw [length_map]
   have h1:=length_filter_le (fun n=>decide (n∈us.map (·.1))) ((qcq D nm (nmG nm j)).take i')
   rw [length_take] at h1
   show _ < 16777216
   omega
  have hRs:Rd H'' ds (.dK (oK us)):=.inl (sx _ _ hds2)
  clear w0 w7 cw r0 r1
  walk_at "g"
  rw [look_is]
  by_cases c:n∈us.map (·.1)
  .rw [decide_eq_true c]
   walk_at "g"
   refine⟨qb4 sx hlc2,?_⟩
   rw [qa1,etj,filter_append,filter_cons,if_pos (decide_eq_true c),map_append];rfl
  .rw [decide_eq_false c]
   walk_at "g"
   refine⟨sx,?_⟩
   rw [ea,etj,filter_append,filter_cons,if_neg (by simpa using c),List.filter_nil,append_nil]
 rintro H3 ⟨s3,elc⟩
 rw [take_length] at elc
 have s03:=s02.trans s3
 walk_at "g"
 have lk7:((qcq D nm (nmG nm j)).filter fun n=>decide (n∈us.map (·.1))).length<=7:=Nat.le_trans (length_filter_le _ _) il
 have sbk:∀n∈(qcq D nm (nmG nm j)).filter (fun n=>decide (n∈us.map (·.1))),n∈us.map (·.1):=fun n hn=>of_decide_eq_true (mem_filter.mp hn).2
 refine⟨ds,lc2,us,(qcq D nm (nmG nm j)).filter fun n=>decide (n∈us.map (·.1)),tp,bt,s,rfl,.inl (s3 _ _ hds2),hP2.t (qc1.of s3),wk.ps,elc,sbk,lk7,fun pt t b hpt b0 b2 et=>?_⟩
 have hsb:=wk.ps.sum sbk lk7
 have hhad:=wk.had ok (nmG nm j)
 generalize qbz ((qcq D nm (nmG nm j)).filter fun n=>decide (n∈us.map (·.1))) s=sq at*
 have b3:b<=2^3000:=le3000 b2
 have hgb:=hug_b b0 b3
 have r0q:(0:Rat)<=(D.rm (nmG nm j):Rat):=by exact_mod_cast r0
 have r1q:(D.rm (nmG nm j):Rat)<=(((10^35:Nat)):Rat):=by
  have h1:D.rm (nmG nm j)<=(((10^35:Nat)):Int):=Int.le_trans r1 (by decide)
  rw [<-Rat.intCast_natCast]
  exact_mod_cast h1
 have q3:=q35
 have hgt:=hug_t b0 b3 et (by grind) (by grind)
 have hgr:Hug (D.rm (nmG nm j)):=hug_t (b:=1) (q:=(D.rm (nmG nm j):Rat)) (by decide) (by decide) (by show _=_*((1:Int):Rat);rw [show ((1:Int):Rat)=1 from rfl];grind) (by grind) (by grind)
 have erest:((D.rm (nmG nm j)*b - t:Int):Rat)=lf (nmG nm j)*(b:Rat):=by
  rw [Rat.intCast_sub,Rat.intCast_mul,et,<-hhad]
  grind
 have hg0:Hug (D.rm (nmG nm j)*b - t):=hug_t b0 b3 erest (by rw [<-hhad];grind) (by rw [<-hhad];grind)
 have bw0:0 < b*wt:=Int.mul_pos b0 (by omega)
 have bw1:b*wt<=2^3000:=Int.le_trans (Int.mul_le_mul b2 w7 w0 (by decide)) (by decide)
 have hgw:Hug wt:=hug_b (by omega) (Int.le_trans w7 (by decide))
 have hg1:=hug_b bw0 bw1
 have ebw:((D.rm (nmG nm j)*b - t:Int):Rat)=lf (nmG nm j) / ldQ D W (nmG nm j)*((b*wt:Int):Rat):=by
  rw [erest,Rat.intCast_mul,ewt]
  have:lf (nmG nm j) / ldQ D W (nmG nm j)*ldQ D W (nmG nm j)=lf (nmG nm j):=Rat.div_mul_cancel (by grind)
  grind
 have lp1:=qge bw0 (den_pos L) ebw (qg2 L)
 have lp2:=qge (den_pos L) bw0 (qg2 L) ebw
 have hLn:=rb.hn
 have hLd:=rb.hd
 have s4:=s03.trans (qa7 hpt (.tup [V.int t,V.int b]))
 have ept:upd H3 pt (.tup [V.int t,V.int b]) pt=some (.tup [V.int t,V.int b]):=qa1
 generalize upd H3 pt (.tup [V.int t,V.int b])=H4 at*
 have hA4:=hA.same s4
 have hRr:Rd H4 dr (.dK kr):=.inl hA4.r
 have grm:qc0 nm D.rm (nmG nm j)=some (D.rm (nmG nm j)):=qbl hjm
 have hL4:=hL.same s4
 clear r0 r1 r0q r1q q3 hsb hhad bw1 b2 b3 w0 w7 erest ebw et hpt s3 s2 s02 s03 hA2 hds2 hP2 eli2 elc hlc hlc2 sbk lk7 hA hds hP hL il inW
 unfold qbm at hL4
 rw [show iV j=V.int ((j:Nat):Int) from rfl]
 generalize ((j:Nat):Int)=jj at*
 walk_at "g"
 refine qcr (SqL.of hA4.n) xn ?_
 walk_at "g"
 rename_i pr hpr
 have s5:=s4.trans (qa7 hpr (.tup [V.int (D.rm (nmG nm j)*b - t),V.int (b*wt)]))
 have epr:upd H4 pr (.tup [V.int (D.rm (nmG nm j)*b - t),V.int (b*wt)]) pr=some (.tup [V.int (D.rm (nmG nm j)*b - t),V.int (b*wt)]):=qa1
 have hL5:=qaa (o':=.tup [V.int (D.rm (nmG nm j)*b - t),V.int (b*wt)]) hL4 hpr
 generalize upd H4 pr (.tup [V.int (D.rm (nmG nm j)*b - t),V.int (b*wt)])=H5 at*
 generalize D.rm (nmG nm j)*b - t=x0 at*
 generalize b*wt=x1 at*
 clear s4 ept hA4 hRr hL4 hpr
 have h1:Hug 1:=Hug.small (by decide)
 have h0:Hug 0:=Hug.small (by decide)
 have hm1:Hug (-1):=Hug.small (by decide)
 refine⟨pr,la,x0,x1,L.num,_,rfl,epr,hL5,hg0,hg1,hLn,hLd,?_⟩
 by_cases c1:lf (nmG nm j) / ldQ D W (nmG nm j) < L
 .rw [decide_eq_true (lp1.mpr c1)]
  walk_at "g"
  exact q 1 _ s5 (.inr ⟨wp,.inl ⟨c1,rfl⟩⟩)
 .rw [decide_eq_false fun z=>c1 (lp1.mp z)]
  walk_at "g"
  refine⟨la,pr,L.num,_,x0,x1,rfl,hL5,epr,hLn,hLd,hg0,hg1,?_⟩
  by_cases c2:L < lf (nmG nm j) / ldQ D W (nmG nm j)
  .rw [decide_eq_true (lp2.mpr c2)]
   walk_at "g"
   exact q (-1) _ s5 (.inr ⟨wp,.inr (.inr ⟨c2,rfl⟩)⟩)
  .rw [decide_eq_false fun z=>c2 (lp2.mp z)]
   walk_at "g"
   exact q 0 _ s5 (.inr ⟨wp,.inr (.inl ⟨by grind,rfl⟩)⟩)
theorem eq_pair {D:Dl} (ok:DlOk D) {n:Str} (hn:n∈D.W0) (L:Rat):(D.wa n*(L.den:Int)=L.num*D.wt n)↔goQ D n=L:=by
 have p:=(wtQ ok hn).1
 have g:=qfn ok hn
 have dn:=qel L
 have e:=qgd L
 have c:(D.wa n*(L.den:Int)=L.num*D.wt n)↔((D.wa n*(L.den:Int):Int):Rat)=((L.num*D.wt n:Int):Rat):=by exact_mod_cast Iff.rfl
 rw [c,Rat.intCast_mul,Rat.intCast_mul,Rat.intCast_natCast,e,<-g]
 constructor
 .intro h
  have h1:(goQ D n - L)*((D.wt n:Rat)*((L.den:Nat):Rat))=0:=by grind
  rcases Rat.mul_eq_zero.mp h1 with h2|h2
  .grind
  .rcases Rat.mul_eq_zero.mp h2 with h3|h3
   .grind
   .exact absurd h3 dn
 .intro h;rw [h];grind
theorem lt_pairG {D:Dl} (ok:DlOk D) {n:Str} (hn:n∈D.W0) {L:Rat} (h:L<=goQ D n):¬D.wa n*(L.den:Int) < L.num*D.wt n:=by
 have w1:=ok.w1 n hn
 have g:((D.wa n:Int):Rat)=goQ D n*((D.wt n:Int):Rat):=(qfn ok hn).symm
 rw [qge (by omega) (den_pos L) g (qg2 L)]
 grind
theorem wn6 {D:Dl} (ok:DlOk D) {n:Str} (hn:n∈D.W0):(D.wa n).natAbs < 2^600/\(D.wt n).natAbs < 2^600:=by
 have a0:=ok.a0 n hn
 have a1:=ok.a1 n hn
 have w1:=ok.w1 n hn
 have w2:=ok.w2 n hn
 exact⟨Nat.lt_of_le_of_lt (show (D.wa n).natAbs<=10^31 by omega) (by decide),Nat.lt_of_le_of_lt (show (D.wt n).natAbs<=1000 by omega) (by decide)⟩
def Fu (D:Dl) (W:List Str) (lf:Str->Rat) (L:Rat) (h:Str):Prop:=0 < ldQ D W h/\lf h / ldQ D W h=L
theorem FullR.z {D:Dl} {W:List Str} {lf:Str->Rat} {h:Str} {L:Rat} {r:Int} (f:FullR D W lf h L r):r=0↔Fu D W lf L h:=by
 unfold Fu
 rcases f with ⟨a,rfl⟩ |⟨a,⟨b,rfl⟩ |⟨b,rfl⟩ |⟨b,rfl⟩⟩ <;> constructor <;> intro z <;> grind
theorem FullR.one {D:Dl} (ok:DlOk D) {W:List Str} {lf:Str->Rat} {h:Str} {L:Rat} {r:Int} (il:IsL D W lf L) (sub:∀n∈W,n∈D.W0) (f:FullR D W lf h L r):r≠1:=fun e=>by
 rcases f with ⟨a,rfl⟩ |⟨a,⟨b,rfl⟩ |⟨b,rfl⟩ |⟨b,rfl⟩⟩
 .cases e
 .by_cases c:∃m∈W,h∈D.ln m
  .obtain⟨m,hm,hl⟩:=c
   have:=(il.ge m hm).1 h hl
   grind
  .rw [qd0 fun m hm hl=>c ⟨m,hm,hl⟩] at a
   exact absurd a (by decide)
 .cases e
 .cases e
structure Due (D:Dl) (W:List Str) (P:Str->Prop) (du:List Str):Prop where
 nd:du.Nodup
 mem:∀n,n∈du↔n∈W/\P n
theorem Due.len {D:Dl} {W:List Str} {P:Str->Prop} {du:List Str} (h:Due D W P du) (ok:DlOk D) (sub:∀n∈W,n∈D.W0):du.length<=7:=Nat.le_trans (List.Nodup.length_le_of_subset h.nd fun n hn=>sub n ((h.mem n).mp hn).1) ok.l8
theorem Due.add {D:Dl} {W:List Str} {P P':Str->Prop} {du:List Str} {x:Str} (h:Due D W P du) (hx:x∉du) (xW:x∈W) (e:∀n,n∈W->(P' n↔P n\/n=x)):Due D W P' (du++ [x]):=by
 refine⟨nodup_append.mpr ⟨h.nd,nodup_cons.mpr ⟨by simp,nodup_nil⟩,fun a ha b hb e=>?_⟩,fun n=>?_⟩
 .rw [mem_singleton.mp hb] at e
  exact hx (e ▸ ha)
 .rw [mem_append,h.mem n,mem_singleton]
  constructor
  .rintro(⟨a,b⟩ |rfl)
   .exact⟨a,(e n a).mpr (.inl b)⟩
   .exact⟨xW,(e n xW).mpr (.inr rfl)⟩
  .rintro⟨a,b⟩
   rcases(e n a).mp b with b|b
   .exact .inl ⟨a,b⟩
   .exact .inr b
theorem Due.stay {D:Dl} {W:List Str} {P P':Str->Prop} {du:List Str} (h:Due D W P du) (e:∀n,n∈W->(P' n↔P n)):Due D W P' du:=⟨h.nd,fun n=>by rw [h.mem n];exact⟨fun a=>⟨a.1,(e n a.1).mpr a.2⟩,fun a=>⟨a.1,(e n a.1).mp a.2⟩⟩⟩
theorem Due.fin {D:Dl} {W:List Str} {lf:Str->Rat} {L:Rat} {nm:List Str} {es:List Nat} {du ss:List Str} (okS:ShOk nm es D) (sub:∀n∈W,n∈D.W0) (nd:W.Nodup) (so:PyProof.Rows.sortedS W=true) (h:Due D W (fun n=>goQ D n=L\/∃j,j < nm.length/\Fu D W lf L (nmG nm j)/\nmG nm j∈D.ln n) du) (hp:ss.Perm du) (hs:PyProof.Rows.sortedS ss=true):ss=rdy D W lf L:=by
 refine qea (hp.trans ?_) hs (qf1 so _)
 refine(List.perm_ext_iff_of_nodup h.nd (nd.filter _)).mpr fun n=>?_
 rw [h.mem n]
 show _↔n∈rdy D W lf L
 rw [qbw]
 constructor
 .rintro⟨a,b|⟨j,hj,f,hl⟩⟩
  .exact⟨a,.inr b⟩
  .exact⟨a,.inl ⟨_,hl,f.2⟩⟩
 .rintro⟨a,⟨h,hl,e⟩ |b⟩
  .have hm:=okS.hs n (sub n a) h hl
   obtain⟨j,hj,e2⟩:=mem_iff_getElem.mp hm
   have e3:nmG nm j=h:=by unfold nmG;rw [getElem?_eq_getElem hj,e2];rfl
   have p:=qee okS.ok a (sub n a) hl
   exact⟨a,.inr ⟨j,hj,by rw [e3];exact⟨by grind,e⟩,by rw [e3];exact hl⟩⟩
  .exact⟨a,.inl b⟩
theorem r_ninSs {K:Frag} {H:Hp} {Q:VK} {p:Addr} {y:Str} {nm:List Str} (h:SqL K H p (nm.map V.str)) (q:Q (.bl (!decide (y∈nm))) H):rIn K true (.str y) (.ref p) H Q:=⟨p,_,rfl,.inl h,rfl,My.qfo nm,by rw [My.qgi];exact q⟩
def wdf (K:Frag) (d:Ad):Sp:=fun vs H Q _=>∃(p ln le dg dw dr:Addr) (nm:List Str) (es:List Nat) (kg kw kr:List (Key × V)) (D:Dl) (ds la:Addr) (us:List (Str × Addr)) (tp bt:Str->Int) (W:List Str) (lf s:Str->Rat) (L:Rat),vs=[.ref p,.ref ds,.ref la]/\ShAt H p ln le dg dw dr nm es kg kw kr D/\ShOk nm es D/\H ds=some (.dK (oK us))/\ds≠dw/\PD H us tp bt/\Wk D W lf us tp bt s/\qbm H la L/\RB L/\
 ∀l H',Same H H'->H l=none->H' l=some (.lst ((rdy D W lf L).map V.str))->Q (.ref l) H'
set_option maxHeartbeats 9000000 in
include T in
theorem wdp:FnOk P w K mg base CX0 6 d.w7p d.w6l ["_law_sharing_here","_law_shares","_law_level"] (wdf K d):=by
 refine T.waw.ok w17 (fun vs H Q E h=>?_) (fun cdv A outer s H vs Q E hr h=>?_)
 .obtain⟨p,ln,le,dg,dw,dr,nm,es,kg,kw,kr,D,ds,la,us,tp,bt,W,lf,s,L,rfl,_⟩:=h;rfl
 obtain⟨p,ln,le,dg,dw,dr,nm,es,kg,kw,kr,D,ds,la,us,tp,bt,W,lf,s,L,rfl,hA,ok,hds,nds,hP,wk,hL,rb,q⟩:=h
 refine⟨_,(qa2 (qfa (pv 0) (qfc rfl (qao (qac (i:=3) w17.nd rfl (Or.inl rfl)) (qao (qac (i:=4) w17.nd rfl (Or.inl rfl)) (qao (qac (i:=5) w17.nd rfl (Or.inl rfl)) (qao (qac (i:=6) w17.nd rfl (Or.inl rfl)) (qao (qac (i:=7) w17.nd rfl (Or.inl rfl)) qds)))))))
  (qa2 (qaf (i:=8) w17.nd rfl (Or.inl rfl) (qbr qa3))
  (qa2 (qdn (qb5 PassesOwn.never rfl (qch (pv 6)) (qac (i:=9) w17.nd rfl (Or.inl rfl)) (qa5 (qd6 (qbb (PW.pt (pw_and (qg1 (qe4 (qau hr) (pv 9) (pv 1))) (qf9 (qal qe5 (qag qb1 (qat (qau hr) (pv 6) (pv 9) (fun _ _=>rfl)) (qai qak (pv 2) qa4 (fun _ _=>rfl))) (qag qb1 (qai qak (pv 2) qa4 (fun _ _=>rfl)) (qat (qau hr) (pv 5) (pv 9) (fun _ _=>rfl))) (qas _))))) (qa5 (qba (qgb PySem.F.plainAttrs_list PySem.F.slot_list_append PySem.F.type_list_append qbs (pv 8) (qa0 (pv 9) qa3)))) qaq)))))
  (qa2 (qb5 PassesOwn.never rfl (qcg rfl T.w4e (qa0 (qae qbh rfl T.w51 PySem.boot_len (qa0 (pv 3) qa3)) qa3)) (qac (i:=10) w17.nd rfl (Or.inl rfl)) (qa5 (qd6 (qbb (qal qe5 (qah ((wee T).mono (by decide)) hr rfl T.wfx T.wf4.kp T.wg6 .nil qaw (qa0 (pv 0) (qa0 (pv 1) (qa0 (pv 2) (qa0 (pv 10) qa3))))) qa4 (qas _)) (qa5 (qb5 PassesOwn.never rfl (qb0 (qah ((wa7 T).mono (by decide)) hr rfl T.wcl T.w9q.kp T.wct .nil qaw (qa0 (pv 0) (qa0 (pv 10) qa3)))) (qac (i:=9) w17.nd rfl (Or.inl rfl)) (qa5 (qd6 (qbb (PW.pt (pw_and (qg1 (qe4 (qau hr) (pv 9) (pv 1))) (qf9 (qal qd8 (pv 9) (pv 8) (by rfl))))) (qa5 (qba (qgb PySem.F.plainAttrs_list PySem.F.slot_list_append PySem.F.type_list_append qbs (pv 8) (qa0 (pv 9) qa3)))) qaq))))) qaq))))
  (qa5 (qad (qae qdl rfl T.w2h PyProof.Rows.boot_sorted (qa0 (pv 8) qa3)))))))),?_⟩
 walk_at "d"
 try dsimp only [cxC]
 refine qab (σ:=[some (.ref p),some (.ref ds),some (.ref la),none,none,none,none,none,none,none,none]) rfl ?_
 have etop:=hA.top
 have l7:=ok.l7
 have hgA:=hA.gA
 have hwA:=hA.wA
 have kp:=qdx hA.wA ok.ok.nd
 have sub:=wk.sub
 have n1:=rb.n6
 have n2:=rb.d6
 walk_at "g"
 rename_i l0 hl0
 have s1:=qa7 hl0 (.lst [])
 have el0:upd H l0 (.lst []) l0=some (.lst []):=qa1
 generalize upd H l0 (.lst [])=H1 at*
 have hA1:=hA.same s1
 have nlw:l0≠dw:=(qa9 hA.w hl0).symm
 refine qf5 hA1.w fun o=>?_
 refine qdp (fun i σ H'=>∃(du:List Str) (w9:Option V),σ=[some (.ref p),some (.ref ds),some (.ref la),some (.ref ln),some (.ref le),some (.ref dg),some (.ref dw),some (.ref dr),some (.ref l0),w9,none]/\Sb2 dw l0 H1 H'/\H' dw=some (.frz o (.dK kw))/\H' l0=some (.lst (du.map V.str))/\Due D W (fun n=>goQ D n=L/\n∈(qbq kw).take i) du)
  ⟨[],_,rfl,fun b u n1 _ e=>by rw [qa6 n1];exact e,qa1,by rw [qa6 nlw];exact el0,⟨nodup_nil,fun n=>by simp⟩⟩ ?_ ?_ ?_
 .rintro i σ H' _ ⟨du,w9,rfl,sb,fz,_⟩;exact fz
 .rintro i k v σ H' hk ⟨du,w9,rfl,sb,fz,el,hD⟩
  obtain⟨z,n,rfl,rfl,hf,hzi⟩:=hA.wA.at hk
  have hz:z∈D.W0:=qc9.mp (by rw [hf];simp)
  have hRs:Rd H' ds (.dK (oK us)):=.inl (sb _ _ nds (qa9 hds hl0) (s1 _ _ hds))
  have hRw:Rd H' dw (.dK kw):=.inr ⟨o,fz⟩
  have hRg:Rd H' dg (.dK kg):=by
   by_cases e:dg=dw
   .have e1:=hA.g
    rw [e,hA.w] at e1
    cases e1
    rw [e]
    exact .inr ⟨o,fz⟩
   .exact .inl (sb _ _ e (qa9 hA.g hl0) hA1.g)
  have hLa:qbm H' la L:=by
   unfold qbm at hL ⊢
   exact sb _ _ (fun z=>by rw [z,hA.w] at hL;cases hL) (qa9 hL hl0) (s1 _ _ hL)
  have tk:∀y,y∈(qbq kw).take (i+1)↔y∈(qbq kw).take i\/y=z:=qam hzi
  have gw:qc0 nm D.wt z=some (D.wt z):=qbl (ok.sub z hz)
  have ga:qc0 D.W0 D.wa z=some (D.wa z):=qbl hz
  have w6:=wn6 ok.ok hz
  have n3:=w6.1
  have n4:=w6.2
  have du7:=hD.len ok.ok sub
  have zl:(du.map V.str).length < sizeLine:=by rw [length_map];show _ < 16777216;omega
  have fin:∀Hx,Sb2 dw l0 H1 Hx->Hx dw=some (.frz o (.dK kw))->Hx l0=some (.lst (du.map V.str))->¬(z∈W/\goQ D z=L)->∃(du:List Str) (w9:Option V), [some (V.ref p),some (.ref ds),some (.ref la),some (.ref ln),some (.ref le),some (.ref dg),some (.ref dw),some (.ref dr),some (.ref l0),some (.str z),none]=[some (.ref p),some (.ref ds),some (.ref la),some (.ref ln),some (.ref le),some (.ref dg),some (.ref dw),some (.ref dr),some (.ref l0),w9,none]/\Sb2 dw l0 H1 Hx/\Hx dw=some (.frz o (.dK kw))/\Hx l0=some (.lst (du.map V.str))/\Due D W (fun n=>goQ D n=L/\n∈(qbq kw).take (i+1)) du:=fun Hx h1 h2 h3 h4=>
   ⟨du,_,rfl,h1,h2,h3,hD.stay fun y hy=>⟨fun a=>⟨a.1,((tk y).mp a.2).resolve_right fun e=>h4 ⟨e ▸ hy,e ▸ a.1⟩⟩,fun a=>⟨a.1,(tk y).mpr (.inl a.2)⟩⟩⟩
  clear hk hf w6
  unfold qbm at hLa
  show qdv _ (.str z) _ _ _
  have nzt:z∉(qbq kw).take i:=qet hA.wA.knd hzi
  walk_at "g"
  refine qf6 ?_
  walk_at "g"
  refine r_dni ?_
  walk_at "g"
  refine r_dniO hRs ?_
  by_cases c:z∈us.map (·.1)
  .rw [decide_eq_true c]
   walk_at "g"
   exact fin H' sb fz el fun a=>((wk.mm z).mp c).2 a.1
  .have zW:z∈W:=Classical.byContradiction fun n=>c ((wk.mm z).mpr ⟨hz,n⟩)
   rw [decide_eq_false c]
   have ep:=eq_pair ok.ok hz L
   walk_at "g"
   refine i_2 (fun c2=>?_) (fun c2=>?_)
   .have zd:z∉du:=fun h=>nzt ((hD.mem z).mp h).2.2
    have c3:=ep.mp c2
    clear c2 ep
    walk_at "g"
    refine⟨du++ [z],_,rfl,fun b u n1 n2 e=>by rw [qa6 n2];exact sb b u n1 n2 e,by rw [qa6 nlw.symm];exact fz,by rw [qa1,map_append];rfl,hD.add zd zW fun y hy=>?_⟩
    rw [tk y]
    constructor
    .rintro⟨a,b|b⟩
     .exact .inl ⟨a,b⟩
     .exact .inr b
    .rintro(⟨a,b⟩ |rfl)
     .exact⟨a,.inl b⟩
     .exact⟨c3,.inr rfl⟩
   .have c3:¬goQ D z=L:=fun h=>c2 (ep.mpr h)
    clear c2 ep
    walk_at "g"
    exact fin H' sb fz el fun a=>c3 a.2
 rintro σ H' ⟨du,w9,rfl,sb,fz,el,hD⟩
 refine qdm (qez fz (qc8 hA.w)) ?_
 rw [<-hA.wA.klen,take_length] at hD
 have s4:Same H (upd H' dw (.dK kw)):=fun b u e=>by
  by_cases c:b=dw
  .subst c;rw [qa1,<-hA.w];exact e
  .rw [qa6 c];exact sb b u c (qa9 e hl0) (s1 b u e)
 have el4:upd H' dw (.dK kw) l0=some (.lst (du.map V.str)):=by rw [qa6 nlw];exact el
 have hD4:Due D W (fun n=>goQ D n=L\/∃j,j < 0/\Fu D W lf L (nmG nm j)/\nmG nm j∈D.ln n) du:=hD.stay fun y hy=>⟨fun a=>a.elim (fun a=>⟨a,kp.mem_iff.mpr (sub y hy)⟩) (fun⟨j,hj,_⟩=>absurd hj (by omega)),fun a=> .inl a.1⟩
 generalize upd H' dw (.dK kw)=H4 at*
 clear sb fz el hD kp s1 hA1 el0
 have en4:=s4 _ _ hA.n
 have ln7:(nm.map V.str).length=nm.length:=length_map _
 walk_at "g"
 rw [show ((nm.map V.str).length:Int).toNat=nm.length by rw [ln7];omega]
 have hl0H:=hl0
 refine qfp (n:=nm.length) (fun i σ H'=>∃(du:List Str) (w9 w10:Option V),σ=[some (.ref p),some (.ref ds),some (.ref la),some (.ref ln),some (.ref le),some (.ref dg),some (.ref dw),some (.ref dr),some (.ref l0),w9,w10]/\Same H H'/\H' l0=some (.lst (du.map V.str))/\Due D W (fun n=>goQ D n=L\/∃j,j < i/\Fu D W lf L (nmG nm j)/\nmG nm j∈D.ln n) du) ⟨du,_,none,rfl,s4,el4,hD4⟩ ?_ ?_
 .rintro i σ H' hi ⟨du,w9,w10,rfl,sm,el,hD⟩
  have nx:∀{du:List Str} {P:Str->Prop},Due D W P du->(∀n∈W,(goQ D n=L\/∃j,j < i+1/\Fu D W lf L (nmG nm j)/\nmG nm j∈D.ln n)↔P n)->Due D W (fun n=>goQ D n=L\/∃j,j < i+1/\Fu D W lf L (nmG nm j)/\nmG nm j∈D.ln n) du:=fun h e=>h.stay e
  walk_at "g"
  refine qf6 ?_
  walk_at "g"
  refine⟨p,ln,le,dg,dw,dr,nm,es,kg,kw,kr,D,ds,la,us,tp,bt,W,lf,s,L,i,by rw [Int.zero_add];rfl,hA.same sm,ok,sm _ _ hds,hP.t (qc1.of sm),wk,hL.same sm,rb,hi,fun r H2 s2 hF=>?_⟩
  have s02:=sm.trans s2
  have el2:=s2 _ _ el
  walk_at "g"
  refine i_2 (fun c=>?_) (fun c=>?_)
  .have hfu:=hF.z.mp c
   clear c hF
   walk_at "g"
   refine⟨p,ln,le,dg,dw,dr,nm,es,kg,kw,kr,D,i,by rw [Int.zero_add];rfl,hA.same s02,ok,hi,fun li H3 s3 fli eli=>?_⟩
   have s03:=s02.trans s3
   have el3:=s3 _ _ el2
   have nli:li≠l0:=fun z=>by subst z;rw [el2] at fli;cases fli
   walk_at "g"
   refine qcc (xs:=(qcq D nm (nmG nm i)).map V.str) (fun k σ H'=>∃(du2:List Str) (w9:Option V),σ=[some (.ref p),some (.ref ds),some (.ref la),some (.ref ln),some (.ref le),some (.ref dg),some (.ref dw),some (.ref dr),some (.ref l0),w9,some (.int (0+(i:Int)))]/\Same H H'/\H' li=some (.lst ((qcq D nm (nmG nm i)).map V.str))/\H' l0=some (.lst (du2.map V.str))/\Due D W (fun n=>(goQ D n=L\/∃j,j < i/\Fu D W lf L (nmG nm j)/\nmG nm j∈D.ln n)\/n∈(qcq D nm (nmG nm i)).take k) du2) ⟨du,_,rfl,s03,eli,el3,hD.stay fun y hy=>⟨fun a=>a.resolve_right fun z=>by simp at z,.inl⟩⟩ ?_ ?_ ?_
   .rintro k σ H' _ ⟨du2,w9,rfl,_,e,_⟩;exact SqL.of e
   .rintro k v σ H' hv ⟨du2,w9,rfl,sx,eli',el',hD'⟩
    rw [getElem?_map] at hv
    obtain⟨z,hz,rfl⟩:=Option.map_eq_some_iff.mp hv
    have hzi:=mem_of_getElem? hz
    have hz0:z∈D.W0:=(of_decide_eq_true (mem_filter.mp hzi).2).1
    have tk:∀y,y∈(qcq D nm (nmG nm i)).take (k+1)↔y∈(qcq D nm (nmG nm i)).take k\/y=z:=qam hz
    have hRs:Rd H' ds (.dK (oK us)):=.inl (sx _ _ hds)
    have du7:=hD'.len ok.ok sub
    have zl:(du2.map V.str).length < sizeLine:=by rw [length_map];show _ < 16777216;omega
    clear hv hz
    walk_at "g"
    refine qf6 ?_
    walk_at "g"
    refine r_dni ?_
    walk_at "g"
    refine r_dniO hRs ?_
    by_cases c:z∈us.map (·.1)
    .have zW:z∉W:=((wk.mm z).mp c).2
     rw [decide_eq_true c]
     walk_at "g"
     exact⟨du2,_,rfl,sx,eli',el',hD'.stay fun y hy=>by rw [tk y];exact⟨fun a=>a.elim .inl fun b=>b.elim .inr fun e=>absurd (e ▸ hy) zW,fun a=>a.elim .inl fun b=> .inr (.inl b)⟩⟩
    .have zW:z∈W:=Classical.byContradiction fun n=>c ((wk.mm z).mpr ⟨hz0,n⟩)
     rw [decide_eq_false c]
     walk_at "g"
     refine r_ninSs (SqL.of el') ?_
     by_cases c2:z∈du2
     .rw [decide_eq_true c2]
      walk_at "g"
      refine⟨du2,_,rfl,sx,eli',el',hD'.stay fun y hy=>?_⟩
      rw [tk y]
      constructor
      .rintro(a|a|rfl)
       .exact .inl a
       .exact .inr a
       .exact((hD'.mem y).mp c2).2
      .rintro(a|a)
       .exact .inl a
       .exact .inr (.inl a)
     .rw [decide_eq_false c2]
      walk_at "g"
      refine⟨du2++ [z],_,rfl,qb4 sx hl0,by rw [qa6 nli];exact eli',by rw [qa1,map_append];rfl,hD'.add c2 zW fun y hy=>?_⟩
      rw [tk y]
      constructor
      .rintro(a|a|a)
       .exact .inl (.inl a)
       .exact .inl (.inr a)
       .exact .inr a
      .rintro((a|a) |a)
       .exact .inl a
       .exact .inr (.inl a)
       .exact .inr (.inr a)
   .rintro σ H' ⟨du2,w9,rfl,sx,eli',el',hD'⟩
    rw [length_map,take_length] at hD'
    refine⟨du2,_,_,rfl,sx,el',nx hD' fun y hy=>?_⟩
    constructor
    .rintro(a|⟨j,hj,f,l⟩)
     .exact .inl (.inl a)
     .by_cases e:j=i
      .subst e
       exact .inr (mem_filter.mpr ⟨ok.sub y (sub y hy),decide_eq_true ⟨sub y hy,l⟩⟩)
      .exact .inl (.inr ⟨j,by omega,f,l⟩)
    .rintro((a|⟨j,hj,f,l⟩) |a)
     .exact .inl a
     .exact .inr ⟨j,by omega,f,l⟩
     .exact .inr ⟨i,by omega,hfu,(of_decide_eq_true (mem_filter.mp a).2).2⟩
  .have hfu:¬Fu D W lf L (nmG nm i):=fun z=>c (hF.z.mpr z)
   clear c hF
   walk_at "g"
   refine⟨du,_,_,rfl,s02,el2,nx hD fun y hy=>?_⟩
   constructor
   .rintro(a|⟨j,hj,f,l⟩)
    .exact .inl a
    .by_cases e:j=i
     .subst e;exact absurd f hfu
     .exact .inr ⟨j,by omega,f,l⟩
   .rintro(a|⟨j,hj,f,l⟩)
    .exact .inl a
    .exact .inr ⟨j,by omega,f,l⟩
 rintro σ H' ⟨du,w9,w10,rfl,sm,el,hD⟩
 have du7:=hD.len ok.ok sub
 walk_at "g"
 refine qg9 (SqL.of el) (by omega) fun l ss hl hp hs=>?_
 have es:=Due.fin ok sub wk.nd wk.so hD hp hs
 subst es
 exact q l _ (sm.trans (qa7 hl _)) (sm.free hl) qa1
def wfn (K:Frag) (d:Ad):Sp:=fun vs H Q _=>∃(p ln le dg dw dr:Addr) (nm:List Str) (es:List Nat) (kg kw kr:List (Key × V)) (D:Dl) (ds la:Addr) (us:List (Str × Addr)) (tp bt:Str->Int) (W:List Str) (lf s:Str->Rat) (L:Rat),vs=[.ref p,.ref ds,.ref la]/\ShAt H p ln le dg dw dr nm es kg kw kr D/\ShOk nm es D/\H ds=some (.dK (oK us))/\ds≠dw/\PD H us tp bt/\Wk D W lf us tp bt s/\qbm H la L/\RB L/\IsL D W lf L/\
 ∀H',Same H H'->Q (.bl true) H'
set_option maxHeartbeats 9000000 in
include T in
theorem wfp:FnOk P w K mg base CX0 6 d.wc6 d.w9s ["_law_sharing_here","_law_shares","_law_level"] (wfn K d):=by
 refine T.wef.ok w31 (fun vs H Q E h=>?_) (fun cdv A outer s H vs Q E hr h=>?_)
 .obtain⟨p,ln,le,dg,dw,dr,nm,es,kg,kw,kr,D,ds,la,us,tp,bt,W,lf,s,L,rfl,_⟩:=h;rfl
 obtain⟨p,ln,le,dg,dw,dr,nm,es,kg,kw,kr,D,ds,la,us,tp,bt,W,lf,s,L,rfl,hA,ok,hds,nds,hP,wk,hL,rb,il,q⟩:=h
 refine⟨_,(qa2 (qfa (pv 0) (qfc rfl (qao (qac (i:=3) w31.nd rfl (Or.inl rfl)) (qao (qac (i:=4) w31.nd rfl (Or.inl rfl)) (qao (qac (i:=5) w31.nd rfl (Or.inl rfl)) (qao (qac (i:=6) w31.nd rfl (Or.inl rfl)) (qao (qac (i:=7) w31.nd rfl (Or.inl rfl)) qds)))))))
  (qa2 (qdn (qb5 PassesOwn.never rfl (qch (pv 6)) (qac (i:=8) w31.nd rfl (Or.inl rfl)) (qa5 (qbb (PW.pt (pw_and (qg1 (qe4 (qau hr) (pv 8) (pv 1))) (qf9 (qal op_lt (qag qb1 (qat (qau hr) (pv 6) (pv 8) (fun _ _=>rfl)) (qai qak (pv 2) qa4 (fun _ _=>rfl))) (qag qb1 (qai qak (pv 2) qa4 (fun _ _=>rfl)) (qat (qau hr) (pv 5) (pv 8) (fun _ _=>rfl))) (qas _))))) (qa5 (qad qfe)) qaq))))
  (qa2 (qb5 PassesOwn.never rfl (qcg rfl T.w4e (qa0 (qae qbh rfl T.w51 PySem.boot_len (qa0 (pv 3) qa3)) qa3)) (qac (i:=9) w31.nd rfl (Or.inl rfl)) (qa5 (qbb (qal qe5 (qah ((wee T).mono (by decide)) hr rfl T.wfx T.wf4.kp T.wg6 .nil qaw (qa0 (pv 0) (qa0 (pv 1) (qa0 (pv 2) (qa0 (pv 9) qa3))))) qa4 (qas _)) (qa5 (qad qfe)) qaq)))
  (qa5 (qad qfe))))),?_⟩
 walk_at "d"
 try dsimp only [cxC]
 refine qab (σ:=[some (.ref p),some (.ref ds),some (.ref la),none,none,none,none,none,none,none]) rfl ?_
 have etop:=hA.top
 have l7:=ok.l7
 have hgA:=hA.gA
 have hwA:=hA.wA
 have sub:=wk.sub
 have n1:=rb.n6
 have n2:=rb.d6
 walk_at "g"
 refine qf5 hA.w fun o=>?_
 refine qdp (fun i σ H'=>∃(w8:Option V),σ=[some (.ref p),some (.ref ds),some (.ref la),some (.ref ln),some (.ref le),some (.ref dg),some (.ref dw),some (.ref dr),w8,none]/\SameBut dw H H'/\H' dw=some (.frz o (.dK kw))) ⟨_,rfl,sb_frz hA.w,qa1⟩ ?_ ?_ ?_
 .rintro i σ H' _ ⟨w8,rfl,sb,fz⟩;exact fz
 .rintro i k v σ H' hk ⟨w8,rfl,sb,fz⟩
  obtain⟨z,n,rfl,rfl,hf,hzi⟩:=hA.wA.at hk
  have hz:z∈D.W0:=qc9.mp (by rw [hf];simp)
  have hRs:Rd H' ds (.dK (oK us)):=.inl (sb _ _ nds hds)
  have hRw:Rd H' dw (.dK kw):=.inr ⟨o,fz⟩
  have hRg:Rd H' dg (.dK kg):=by
   by_cases e:dg=dw
   .have e1:=hA.g
    rw [e,hA.w] at e1
    cases e1
    rw [e]
    exact .inr ⟨o,fz⟩
   .exact .inl (sb _ _ e hA.g)
  have hLa:qbm H' la L:=by
   unfold qbm at hL ⊢
   exact sb _ _ (fun z=>by rw [z,hA.w] at hL;cases hL) hL
  have gw:qc0 nm D.wt z=some (D.wt z):=qbl (ok.sub z hz)
  have ga:qc0 D.W0 D.wa z=some (D.wa z):=qbl hz
  have w6:=wn6 ok.ok hz
  have n3:=w6.1
  have n4:=w6.2
  clear hk hf w6
  unfold qbm at hLa
  show qdv _ (.str z) _ _ _
  walk_at "g"
  refine r_dni ?_
  walk_at "g"
  refine r_dniO hRs ?_
  by_cases c:z∈us.map (·.1)
  .rw [decide_eq_true c]
   walk_at "g"
   exact⟨_,rfl,sb,fz⟩
  .have zW:z∈W:=Classical.byContradiction fun n=>c ((wk.mm z).mpr ⟨hz,n⟩)
   have lt:=lt_pairG ok.ok hz (il.ge z zW).2
   rw [decide_eq_false c]
   walk_at "g"
   exact⟨_,rfl,sb,fz⟩
 rintro σ H' ⟨w8,rfl,sb,fz⟩
 refine qdm (qez fz (qc8 hA.w)) ?_
 have s4:Same H (upd H' dw (.dK kw)):=fun b u e=>by
  by_cases c:b=dw
  .subst c;rw [qa1,<-hA.w];exact e
  .rw [qa6 c];exact sb b u c e
 generalize upd H' dw (.dK kw)=H4 at*
 clear sb fz
 have en4:=s4 _ _ hA.n
 have ln7:(nm.map V.str).length=nm.length:=length_map _
 walk_at "g"
 rw [show ((nm.map V.str).length:Int).toNat=nm.length by rw [ln7];omega]
 refine qfp (n:=nm.length) (fun i σ H'=>∃(w8 w9:Option V),σ=[some (.ref p),some (.ref ds),some (.ref la),some (.ref ln),some (.ref le),some (.ref dg),some (.ref dw),some (.ref dr),w8,w9]/\Same H H') ⟨_,none,rfl,s4⟩ ?_ ?_
 .rintro i σ H' hi ⟨w8,w9,rfl,sm⟩
  walk_at "g"
  refine⟨p,ln,le,dg,dw,dr,nm,es,kg,kw,kr,D,ds,la,us,tp,bt,W,lf,s,L,i,by rw [Int.zero_add];rfl,hA.same sm,ok,sm _ _ hds,hP.t (qc1.of sm),wk,hL.same sm,rb,hi,fun r H2 s2 hF=>?_⟩
  have r1:=hF.one ok.ok il sub
  walk_at "g"
  exact⟨_,_,rfl,sm.trans s2⟩
 rintro σ H' ⟨w8,w9,rfl,sm⟩
 walk_at "g"
 exact q H' sm
theorem qe9 {K:Frag} {H:Hp} {n:Nat}:∀(L:List Str),DEqs K H n (L.map V.str) (L.map V.str)
 | []=>trivial
 |x :: L=>⟨deq_str x,qe9 L⟩
def wc2 (K:Frag) (d:Ad):Sp:=fun vs H Q _=>∃(r:Rnd),vs=[.ref r.a]/\RndAt H r/\0<=r.L/\r.ns≠ []/\r.ns.length<=7/\PyProof.Rows.sortedS r.ns=true/\∀H',Same H H'->Q (.bl true) H'
include T in
theorem wbf:FnOk P w K mg base CX0 4 d.w65 d.w5h ["_law_row"] (wc2 K d):=by
 refine T.w8v.ok wbs (fun vs H Q E h=>?_) (fun cdv A outer s H vs Q E hr h=>?_)
 .obtain⟨r,rfl,_⟩:=h;rfl
 obtain⟨r,rfl,hr0,L0,ne,l7,so,q⟩:=h
 refine⟨_,(qa2 (qbb (PW.pt (qe0 (qbx (qbn (qae qbf rfl T.w08 PyProof.Rows.boot_isinstance (qa0 (pv 0) (qa0 (qc5 (v:=.ty "tuple") rfl T.weo PyProof.Rows.boot_tuple rfl) qa3))))) (qe0 (qal op_ne (qae qbh rfl T.w51 PySem.boot_len (qa0 (pv 0) qa3)) qa4 (qas _)) (qe0 (qbx (qbn (qah ((w8o T).mono (by decide)) hr rfl T.w9j T.w5x.kp T.w9f .nil qaw (qa0 (qai qak (pv 0) qa4 (fun _ _=>rfl)) qa3)))) (qf8 (qbx (qbn (qae qbf rfl T.w08 PyProof.Rows.boot_isinstance (qa0 (qai qak (pv 0) qa4 (fun _ _=>rfl)) (qa0 (qc5 (v:=.ty "list") rfl T.wb2 PyProof.Rows.boot_list rfl) qa3)))))))))) (qa5 (qad qfe)) qaq)
  (qa5 (qad (qek (qcd op_ge (qai qak (qai qak (pv 0) qa4 (fun _ _=>rfl)) qa4 (fun _ _=>rfl)) qa4 (qas _)) (qek (qcd (op_neD (hu8 hr)) (qai qak (pv 0) qa4 (fun _ _=>rfl)) (qbr qa3) (qas _)) (qfd (qcd (op_eqD (hu8 hr)) (qai qak (pv 0) qa4 (fun _ _=>rfl)) (qae qdl rfl T.w2h PyProof.Rows.boot_sorted (qa0 (qai qak (pv 0) qa4 (fun _ _=>rfl)) qa3)) (qas _)))))))),?_⟩
 walk_at "d"
 try dsimp only [cxC]
 refine qab (σ:=[some (.ref r.a)]) rfl ?_
 have et:=hr0.t
 have el:=hr0.l
 have en:=hr0.n
 walk_at "g"
 refine⟨r.la,r.L,rfl,el,?_⟩
 have L0':0<=r.L.num:=Rat.num_nonneg.mpr L0
 have nn:decide (r.ns.map V.str=[])=false:=decide_eq_false fun z=>ne (List.map_eq_nil_iff.mp z)
 unfold qbm at el
 walk_at "g"
 rename_i pe hpe
 have nre:r.ln≠pe:=qa9 en hpe
 refine r_neD (n:=1) nre (by decide) (deq_nilL (n:=0) (SqL.of (qaa en hpe)) (SqL.of qa1) nre) ?_
 rw [nn]
 walk_at "g"
 have s1:=qa7 hpe (.lst [])
 generalize upd H pe (.lst [])=H1 at*
 have en1:=s1 _ _ en
 refine qg9 (SqL.of en1) (by omega) fun l ss hl hp hs=>?_
 have es:ss=r.ns:=qea hp hs so
 subst es
 have nl:r.ln≠l:=qa9 en1 hl
 walk_at "g"
 refine r_eqD (n:=1) nl (by decide) (qdj (n:=0) (SqL.of (qaa en1 hl)) (SqL.of qa1) nl (qe9 _)) ?_
 walk_at "g"
 exact q _ (s1.trans (qa7 hl _))
def wes (K:Frag) (d:Ad):Sp:=fun vs H Q _=>∃(p ln le dg dw dr:Addr) (nm:List Str) (es:List Nat) (kg kw kr:List (Key × V)) (D:Dl) (lt:Addr) (rs:List Rnd) (lf:Str->Rat),vs=[.ref p,.ref lt]/\ShAt H p ln le dg dw dr nm es kg kw kr D/\ShOk nm es D/\H lt=some (.lst (rs.map fun r=>V.ref r.a))/\(∀r∈rs,RndAt H r)/\(∀r∈rs,RB r.L)/\RdT D [] lf rs/\
 ∀H',Same H H'->Q (.bl true) H'
def tpL (D:Dl) (lv:Str->Rat) (n:Str):Int:=(lv n).num*D.wt n
def btL (lv:Str->Rat) (n:Str):Int:=((lv n).den:Int)
def shL (D:Dl) (lv:Str->Rat) (n:Str):Rat:=lv n*(D.wt n:Rat)
theorem wk_of {D:Dl} (ok:DlOk D) {W:List Str} {lf lv:Str->Rat} {M:Rat} {N:Nat} {us:List (Str × Addr)} (I:RdI D W lf lv M N) (so:PyProof.Rows.sortedS W=true) (hu:∀n,n∈us.map (·.1)↔n∈D.W0/\n∉W) (dn:∀n∈D.W0,n∉W->(lv n).den<=10^28):Wk D W lf us (tpL D lv) (btL lv) (shL D lv):=by
 refine⟨I.sub,I.nd,so,hu,I.sum,⟨fun n hn=>den_pos _,fun n hn=>?_,fun n hn=>?_,fun n hn=>?_,fun n hn=>?_⟩⟩
 .obtain⟨a,b⟩:=(hu n).mp hn
  have:=dn n a b
  show (((lv n).den:Nat):Int)<=10^30
  have h2:(((lv n).den:Nat):Int)<=(((10^28:Nat)):Int):=by exact_mod_cast this
  exact Int.le_trans h2 (by decide)
 .unfold tpL btL shL
  rw [Rat.intCast_mul,qg2 (lv n)]
  grind
 .obtain⟨a,b⟩:=(hu n).mp hn
  have h1:=(I.st n a b).1
  have h2:=(wtQ ok a).1
  unfold shL
  exact Rat.mul_nonneg h1 (by grind)
 .obtain⟨a,b⟩:=(hu n).mp hn
  obtain⟨h0,_,h1,_⟩:=I.st n a b
  have h2:=wtQ ok a
  have h3:=(goQ_b ok a).2
  unfold shL
  have h4:lv n<=(B31:Rat):=by grind
  have b0:(0:Rat)<=(B31:Rat):=by grind
  have h5:=Rat.mul_le_mul_of_nonneg_right h4 (show (0:Rat)<=(D.wt n:Rat) by grind)
  have h6:=Rat.mul_le_mul_of_nonneg_left h2.2 b0
  have h7:(B31:Rat)*1000<=(((10^35:Nat)):Rat):=by
   have:B31*1000<=(10^35:Nat):=by decide
   exact_mod_cast this
  grind
theorem stR_succ {D:Dl} {rs:List Rnd} {i:Nat} {r:Rnd} (h:rs[i]?=some r):stR D (rs.take (i+1))=(wls (stR D (rs.take i)).1 r.ns,lfN D (stR D (rs.take i)).2 r.L r.ns):=by
 rw [take_add_one,h]
 unfold stR
 rw [List.foldl_append]
 rfl
theorem pd_ext {H:Hp} {us:List (Str × Addr)} {tp bt tp' bt':Str->Int} (h:PD H us tp bt) (e:∀n∈us.map (·.1),tp n=tp' n/\bt n=bt' n):PD H us tp' bt':=⟨h.nd,fun p hp=>by
 have:=e p.1 (mem_map.mpr ⟨p,hp,rfl⟩)
 rw [<-this.1,<-this.2]
 exact h.at_ p hp⟩
theorem pd_add {H:Hp} {us:List (Str × Addr)} {tp bt:Str->Int} {z:Str} {a:Addr} (h:PD H us tp bt) (n:z∉us.map (·.1)) (e:H a=some (.tup [.int (tp z),.int (bt z)])):PD H (us++ [(z,a)]) tp bt:=by
 refine⟨?_,fun p hp=>?_⟩
 .rw [map_append]
  exact nodup_append.mpr ⟨h.nd,nodup_cons.mpr ⟨by simp,nodup_nil⟩,fun x hx y hy e=>by
   have:y=z:=by simpa using hy
   exact n (by rw [<-this,<-e];exact hx)⟩
 .rcases mem_append.mp hp with h1|h1
  .exact h.at_ p h1
  .rw [mem_singleton.mp h1];exact e
theorem RdI.l0 {D:Dl} (ok:DlOk D) {W:List Str} {lf lv:Str->Rat} {M L:Rat} {N:Nat} (I:RdI D W lf lv M N) (il:IsL D W lf L):0<=L:=Rat.le_trans I.m0 (I.next ok il).1
theorem k28 {m:Nat}:10000^(7 - m)<=10^28:=by
 have:10000^(7 - m)<=10000^7:=Nat.pow_le_pow_right (by decide) (by omega)
 exact Nat.le_trans this (by decide)
theorem rdy_ne {D:Dl} {W:List Str} {lf:Str->Rat} {L:Rat} (il:IsL D W lf L):rdy D W lf L≠ []:=fun e=>by
 obtain⟨n,hn,c⟩:=il.at_
 have:n∈rdy D W lf L:=qbw.mpr ⟨hn,c⟩
 rw [e] at this
 simp at this
set_option maxHeartbeats 9000000 in
include T in
theorem wew:FnOk P w K mg base CX0 7 d.w9v d.w7y ["_law_sharing_here","_law_told"] (wes K d):=by
 refine T.wcv.ok w3b (fun vs H Q E h=>?_) (fun cdv A outer s H vs Q E hr h=>?_)
 .obtain⟨p,ln,le,dg,dw,dr,nm,es,kg,kw,kr,D,lt,rs,lf,rfl,_⟩:=h;rfl
 obtain⟨p,ln,le,dg,dw,dr,nm,es,kg,kw,kr,D,lt,rs,lf,rfl,hA,ok,hlt,hrs,hrb,RT,q⟩:=h
 refine⟨_,(qa2 (qaf (i:=2) w3b.nd rfl (Or.inl rfl) qb8)
  (qa2 (qaf (i:=3) w3b.nd rfl (Or.inl rfl) (qdo (qa0 (pe_un un_neg qa4) (qa0 qa4 qa3))))
  (qa2 (qb5 PassesOwn.never rfl (qb0 (pv 1)) (qac (i:=4) w3b.nd rfl (Or.inl rfl)) (qa2 (qbb (PW.pt (qe0 (qbx (qbn (qah ((wbf T).mono (by decide)) hr rfl T.wcy T.w8v.kp T.wd0 .nil qaw (qa0 (pv 4) qa3)))) (qe0 (qbx (qbn (qah ((wc0 T).mono (by decide)) hr rfl T.wdr T.wcu.kp T.wf0 .nil qaw (qa0 (pv 3) (qa0 (qai qak (pv 4) qa4 (fun _ _=>rfl)) qa3))))) (qf8 (qbx (qbn (qah ((wfp T).mono (by decide)) hr rfl T.wgt T.wef.kp T.wgg .nil qaw (qa0 (pv 0) (qa0 (pv 2) (qa0 (qai qak (pv 4) qa4 (fun _ _=>rfl)) qa3)))))))))) (qa5 (qad qfe)) qaq)
  (qa2 (qbb (qal (op_neD (hu8 hr)) (qai qak (pv 4) qa4 (fun _ _=>rfl)) (qah ((wdp T).mono (by decide)) hr rfl T.wf2 T.waw.kp T.wdv .nil qaw (qa0 (pv 0) (qa0 (pv 2) (qa0 (qai qak (pv 4) qa4 (fun _ _=>rfl)) qa3)))) (qas _)) (qa5 (qad qfe)) qaq)
  (qa2 (qb5 PassesOwn.never rfl (qb0 (qai qak (pv 4) qa4 (fun _ _=>rfl))) (qac (i:=5) w3b.nd rfl (Or.inl rfl)) (qa5 (qbp (qau hr) (pv 2) (pv 5) (qdo (qa0 (qag qb1 (qai qak (qai qak (pv 4) qa4 (fun _ _=>rfl)) qa4 (fun _ _=>rfl)) (qat (qau hr) (qai qan (pv 0) qa4 (fun _ _=>rfl)) (pv 5) (fun _ _=>rfl))) (qa0 (qai qak (qai qak (pv 4) qa4 (fun _ _=>rfl)) qa4 (fun _ _=>rfl)) qa3))) rfl)))
  (qa5 (qaf (i:=3) w3b.nd rfl (Or.inl rfl) (qai qak (pv 4) qa4 (fun _ _=>rfl))))))))
  (qa5 (qad (qcd (op_eqD (hu8 hr)) (qae (qcu rfl) rfl T.w2h PyProof.Rows.boot_sorted (qa0 (pv 2) qa3)) (qae (qcu rfl) rfl T.w2h PyProof.Rows.boot_sorted (qa0 (qai qan (pv 0) qa4 (fun _ _=>rfl)) qa3)) (qas _))))))),?_⟩
 walk_at "d"
 try dsimp only [cxC]
 refine qab (σ:=[some (.ref p),some (.ref lt),none,none,none,none]) rfl ?_
 have okD:=ok.ok
 have l8:=okD.l8
 walk_at "g"
 rename_i ds hds kp0 hkp0
 have s1:=(qa7 hds (.dK [])).trans (qa7 hkp0 (.tup [V.int (-1),V.int 1]))
 have eds:upd (upd H ds (.dK [])) kp0 (.tup [V.int (-1),V.int 1]) ds=some (.dK (oK [])):=qaa qa1 hkp0
 have ekp:upd (upd H ds (.dK [])) kp0 (.tup [V.int (-1),V.int 1]) kp0=some (.tup [V.int (-1),V.int 1]):=qa1
 generalize upd (upd H ds (.dK [])) kp0 (.tup [V.int (-1),V.int 1])=H1 at*
 refine qcc (xs:=rs.map fun r=>V.ref r.a) (fun i σ H'=>∃(us:List (Str × Addr)) (lv:Str->Rat) (M:Rat) (N:Nat) (kp:Addr) (kn kd:Int) (kq:Rat) (w4 w5:Option V),σ=[some (.ref p),some (.ref lt),some (.ref ds),some (.ref kp),w4,w5]/\SameBut ds H1 H'/\H' ds=some (.dK (oK us))/\PD H' us (tpL D lv) (btL lv)/\H' kp=some (.tup [.int kn,.int kd])/\Hug kn/\Hug kd/\0 < kd/\(kn:Rat)=kq*(kd:Rat)/\
   RdI D (stR D (rs.take i)).1 (stR D (rs.take i)).2 lv M N/\PyProof.Rows.sortedS (stR D (rs.take i)).1=true/\(∀n,n∈us.map (·.1)↔n∈D.W0/\n∉(stR D (rs.take i)).1)/\(∀n∈D.W0,n∉(stR D (rs.take i)).1->(lv n).den<=10^28)/\∀L',IsL D (stR D (rs.take i)).1 (stR D (rs.take i)).2 L'->kq < L')
  ⟨[],fun _=>0,0,1,kp0,-1,1,-1,none,none,rfl,fun b u _ e=>e,eds,⟨nodup_nil,fun p hp=>by simp at hp⟩,ekp,Hug.small (by decide),Hug.small (by decide),by decide,by show ((-1:Int):Rat)= -1*((1:Int):Rat);rw [show ((1:Int):Rat)=1 from rfl,show ((-1:Int):Rat)= -1 from rfl];grind,RdI.start okD,ok.srt,fun n=>⟨fun z=>by simp at z,fun z=>absurd z.1 z.2⟩,fun n h1 h2=>absurd h1 h2,fun L' il=>?_⟩ ?_ ?_ ?_
 .have:=(RdI.start okD).l0 okD il
  grind
 .rintro i σ H' _ ⟨us,lv,M,N,kp,kn,kd,kq,w4,w5,rfl,sb,_⟩;exact SqL.of (sb _ _ (qa9 hlt hds) (s1 _ _ hlt))
 .rintro i v σ H' hv ⟨us,lv,M,N,kp,kn,kd,kq,w4,w5,rfl,sb,ed,hP,ek,hkn,hkd,kd0,ekq,I,so,hu,dn,up⟩
  rw [getElem?_map] at hv
  obtain⟨r,hr,rfl⟩:=Option.map_eq_some_iff.mp hv
  have hrm:=mem_of_getElem? hr
  obtain⟨il,ens⟩:=RT.at_ i r hr
  have esu:=stR_succ (D:=D) hr
  have rise:∀L',IsL D (stR D (rs.take (i+1))).1 (stR D (rs.take (i+1))).2 L'->r.L < L':=fun L' h=>by
   rw [esu,ens] at h
   exact IsL.rise okD I.sub il h
  generalize (stR D (rs.take i)).1=W at*
  generalize (stR D (rs.take i)).2=lf0 at*
  have sN:∀b u,H b=some u->H' b=some u:=fun b u e=>sb b u (qa9 e hds) (s1 b u e)
  have hA':=hA.same sN
  have hR':=(hrs r hrm).same sN
  have rb:=hrb r hrm
  have wk:=wk_of okD I so hu dn
  have L0:=I.l0 okD il
  have nsW:∀n∈r.ns,n∈W:=fun n hn=>(qbw.mp (ens ▸ hn)).1
  have nds:r.ns.Nodup:=by rw [ens];exact I.nd.filter _
  have ns7:r.ns.length<=7:=Nat.le_trans (List.Nodup.length_le_of_subset nds fun n hn=>I.sub n (nsW n hn)) l8
  have nsne:r.ns≠ []:=by rw [ens];exact rdy_ne il
  have nsso:PyProof.Rows.sortedS r.ns=true:=by rw [ens];exact qf1 so _
  have ndw:ds≠dw:=(qa9 hA.w hds).symm
  have rT:=hR'.t
  clear hv
  walk_at "g"
  refine⟨r,rfl,hR',L0,nsne,ns7,nsso,fun H2 s2=>?_⟩
  have lp:=(qge kd0 (den_pos r.L) ekq (qg2 r.L)).mpr (up r.L il)
  have rT2:=s2 _ _ rT
  walk_at "g"
  refine⟨kp,r.la,kn,kd,r.L.num,_,rfl,s2 _ _ ek,(hR'.same s2).l,hkn,hkd,rb.hn,rb.hd,?_⟩
  rw [decide_eq_true lp]
  clear lp
  walk_at "g"
  refine⟨p,ln,le,dg,dw,dr,nm,es,kg,kw,kr,D,ds,r.la,us,tpL D lv,btL lv,W,lf0,shL D lv,r.L,rfl,hA'.same s2,ok,s2 _ _ ed,ndw,hP.t (qc1.of s2),wk,(hR'.same s2).l,rb,il,fun H3 s3=>?_⟩
  have s23:=s2.trans s3
  have rT3:=s3 _ _ rT2
  clear rT2
  walk_at "g"
  refine⟨p,ln,le,dg,dw,dr,nm,es,kg,kw,kr,D,ds,r.la,us,tpL D lv,btL lv,W,lf0,shL D lv,r.L,rfl,hA'.same s23,ok,s23 _ _ ed,ndw,hP.t (qc1.of s23),wk,(hR'.same s23).l,rb,fun l H4 s4 fl el=>?_⟩
  have s24:=s23.trans s4
  have hR4:=hR'.same s24
  have rT4:=hR4.t
  have rn4:=hR4.n
  rw [<-ens] at el
  have nl:r.ln≠l:=qa9 (hR'.same s23).n fl
  walk_at "g"
  refine r_neD (n:=1) nl (by decide) (qdj (n:=0) (SqL.of rn4) (SqL.of el) nl (qe9 _)) ?_
  have sb4:SameBut ds H1 H4:=fun b u n e=>s24 _ _ (sb b u n e)
  have ed4:=s24 _ _ ed
  have hP4:=hP.t (qc1.of s24)
  have hlk:H4 ds≠none:=by rw [ed4];simp
  clear s2 s3 s4 s23 s24 rT3 rT hR' hA' ed hP ek hkn hkd kd0 ekq up el fl nl sN
  obtain⟨_,_,_,N',⟨k,rfl⟩,dv,I'⟩:=I.next okD il
  have hN:N*k<=10^28:=Nat.le_trans I'.nb k28
  have dL:r.L.den<=10^28:=Nat.le_trans (dv_den I'.n0 dv) hN
  have hlv:∀n∈r.ns,(fun n=>if n∈rdy D W lf0 r.L then r.L else lv n) n=r.L:=fun n hn=>if_pos (ens ▸ hn)
  have hlo:∀n,n∉r.ns->(fun n=>if n∈rdy D W lf0 r.L then r.L else lv n) n=lv n:=fun n hn=>if_neg fun z=>hn (by rw [ens];exact z)
  generalize (fun n=>if n∈rdy D W lf0 r.L then r.L else lv n)=lv' at*
  have hPn:PD H4 us (tpL D lv') (btL lv'):=pd_ext hP4 fun n hn=>by
   have:n∉r.ns:=fun z=>((hu n).mp hn).2 (nsW n z)
   unfold tpL btL
   rw [hlo n this]
   exact⟨rfl,rfl⟩
  have n6:=rb.n6
  have kuse:∀n∈r.ns,n∉us.map (·.1):=fun n hn z=>((hu n).mp z).2 (nsW n hn)
  have usl:us.length<=7:=by
   have h1:=List.Nodup.length_le_of_subset hP4.nd fun n hn=>((hu n).mp hn).1
   rw [length_map] at h1
   omega
  have eg:=hA.g
  have egA:=hA.gA
  have etp:=hA.top
  walk_at "g"
  refine qcc (xs:=r.ns.map V.str) (fun k σ H'=>∃(us2:List (Str × Addr)) (w5:Option V),σ=[some (.ref p),some (.ref lt),some (.ref ds),some (.ref kp),some (.ref r.a),w5]/\SameBut ds H1 H'/\H' ds=some (.dK (oK us2))/\us2.map (·.1)=us.map (·.1)++r.ns.take k/\PD H' us2 (tpL D lv') (btL lv')) ⟨us,_,rfl,sb4,ed4,by simp,hPn⟩ ?_ ?_ ?_
  .rintro k σ H' _ ⟨us2,w5,rfl,sx,_⟩;exact SqL.of (sx _ _ (qa9 (hrs r hrm).n hds) (s1 _ _ (hrs r hrm).n))
  .rintro k v σ H' hv ⟨us2,w5,rfl,sx,ed',eus,hP'⟩
   rw [getElem?_map] at hv
   obtain⟨z,hz,rfl⟩:=Option.map_eq_some_iff.mp hv
   have hzn:=mem_of_getElem? hz
   have hzW:=I.sub z (nsW z hzn)
   have sN:∀b u,H b=some u->H' b=some u:=fun b u e=>sx b u (qa9 e hds) (s1 b u e)
   have hR':=(hrs r hrm).same sN
   have rT:=hR'.t
   have rl:=hR'.l
   have hRg:Rd H' dg (.dK kg):=.inl (sN _ _ eg)
   have gw:qc0 nm D.wt z=some (D.wt z):=qbl (ok.sub z hzW)
   have w6:=(wn6 okD hzW).2
   have etp':=sN _ _ etp
   have etk:r.ns.take (k+1)=r.ns.take k++ [z]:=by rw [take_add_one,hz];rfl
   have nz:z∉us2.map (·.1):=by
    rw [eus,mem_append]
    rintro(h1|h1)
    .exact kuse z hzn h1
    .exact qet nds hz h1
   have us2l:us2.length<=14:=by
    have h1:=congrArg List.length eus
    rw [length_map,length_append,length_map,length_take] at h1
    omega
   have zk:(oK us2).length < sizeLine:=by rw [oK_len];show _ < 16777216;omega
   unfold qbm at rl
   clear hv hz us2l sN
   walk_at "g"
   rename_i pt hpt
   rw [putK_oK (qdg.mpr nz)]
   have t1:qc1 H' (upd (upd H' pt (.tup [V.int (r.L.num*D.wt z),V.int (r.L.den:Int)])) ds (.dK (oK (us2++ [(z,pt)])))):=(qc1.of (qa7 hpt _)).trans (qc1.upd (qaa ed' hpt) fun xs e=>by cases e)
   have npd:pt≠ds:=fun e=>by subst e;rw [ed'] at hpt;cases hpt
   refine⟨us2++ [(z,pt)],_,rfl,fun b u n e=>?_,qa1,?_,pd_add (hP'.t t1) nz ?_⟩
   .rw [qa6 n]
    exact qa7 hpt _ _ _ (sx b u n e)
   .rw [map_append,eus,etk,List.append_assoc];rfl
   .rw [qa6 npd,qa1]
    unfold tpL btL
    rw [hlv z hzn]
  .rintro σ H' ⟨us2,w5,rfl,sx,ed',eus,hP'⟩
   rw [length_map,take_length] at eus
   have sN:∀b u,H b=some u->H' b=some u:=fun b u e=>sx b u (qa9 e hds) (s1 b u e)
   have hR':=(hrs r hrm).same sN
   have rT:=hR'.t
   have rl:=hR'.l
   walk_at "g"
   refine⟨us2,lv',r.L,N*k,r.la,r.L.num,_,r.L,_,_,rfl,sx,ed',hP',rl,rb.hn,rb.hd,den_pos _,qg2 _,?_,?_,fun n=>?_,fun n h1 h2=>?_,rise⟩
   .rw [esu,ens];exact I'
   .rw [esu];exact qf1 so _
   .rw [esu,eus,mem_append,hu n]
    show _↔n∈D.W0/\n∉wls W r.ns
    rw [qbk]
    constructor
    .rintro(⟨a,b⟩ |a)
     .exact⟨a,fun z=>b z.1⟩
     .exact⟨I.sub n (nsW n a),fun z=>z.2 a⟩
    .rintro⟨a,b⟩
     by_cases c:n∈W
     .exact .inr (Classical.byContradiction fun z=>b ⟨c,z⟩)
     .exact .inl ⟨a,c⟩
   .rw [esu] at h2
    by_cases c:n∈r.ns
    .rw [hlv n c];exact dL
    .rw [hlo n c]
     exact dn n h1 fun z=>h2 (qbk.mpr ⟨z,c⟩)
 rintro σ H' ⟨us,lv,M,N,kp,kn,kd,kq,w4,w5,rfl,sb,ed,hP,ek,hkn,hkd,kd0,ekq,I,so,hu,dn,up⟩
 rw [length_map,take_length,RT.st] at hu
 have sN:∀b u,H b=some u->H' b=some u:=fun b u e=>sb b u (qa9 e hds) (s1 b u e)
 have hA':=hA.same sN
 have etp:=hA'.top
 have kp':=qdx hA.wA okD.nd
 have pm:(us.map (·.1)).Perm D.W0:=(List.perm_ext_iff_of_nodup hP.nd okD.nd).mpr fun n=>by rw [hu n];simp
 have pl:=pm.length_eq
 clear ek hkn hkd kd0 ekq I so hu dn up
 walk_at "g"
 refine qf4 (ss:=us.map (·.1)) (.inl ed) (oK_keys us) (by omega) fun l1 ss1 hl1 hp1 hs1=>?_
 have es1:ss1=D.W0:=qea (hp1.trans pm) hs1 ok.srt
 subst es1
 have s2:=qa7 hl1 (.lst (D.W0.map V.str))
 have el1:upd H' l1 (.lst (D.W0.map V.str)) l1=some (.lst (D.W0.map V.str)):=qa1
 generalize upd H' l1 (.lst (D.W0.map V.str))=H2 at*
 have etp2:=s2 _ _ etp
 walk_at "g"
 refine qf4 (ss:=qbq kw) (.inl (s2 _ _ hA'.w)) hA.wA.keys (by have:=kp'.length_eq;omega) fun l2 ss2 hl2 hp2 hs2=>?_
 have es2:ss2=D.W0:=qea (hp2.trans kp') hs2 ok.srt
 subst es2
 have nl:l1≠l2:=qa9 el1 hl2
 walk_at "g"
 refine r_eqD (n:=1) nl (by decide) (qdj (n:=0) (SqL.of (qaa el1 hl2)) (SqL.of qa1) nl (qe9 _)) ?_
 exact q _ fun b u e=>qa7 hl2 _ _ _ (s2 _ _ (sN b u e))
theorem nm_nodup (c:Int) {n:Nat} (hn:n<=20):((List.range n).map fun k:Nat=>nmS c (0+(k:Int))).Nodup:=by
 show List.Pairwise _ _
 rw [List.pairwise_map]
 refine List.Pairwise.imp_of_mem (R:=fun a b=>a < b) (fun {a b} ha hb lt e=>?_) List.pairwise_lt_range
 have h1:=List.mem_range.mp ha
 have h2:=List.mem_range.mp hb
 have:=nmS_inj (by omega) (by omega) (by omega) (by omega) e
 omega
theorem lineN_nd {el:Nat->Nat} {n:Nat} (lo:Low el n):∀k,k < n->(qcb el k).Nodup:=by
 intro k
 induction k using Nat.strongRecOn with
 |ind k ih=>
  intro kn
  cases k with
  |zero=>rw [qg4];exact nodup_cons.mpr ⟨by simp,nodup_nil⟩
  |succ k=>
   have l:=lo (k+1) (by omega) kn
   rw [qdh lo (by omega) kn]
   refine nodup_cons.mpr ⟨fun z=>?_,ih _ l (by omega)⟩
   have:=qcy lo _ (by omega) _ z
   omega
open Classical in
noncomputable def lnD (nm:List Str) (es:List Nat) (n:Str):List Str:=if h:∃k,k < nm.length/\nmG nm k=n then (qcb (elN es) h.choose).map (nmG nm) else []
theorem lnD_at {nm:List Str} {es:List Nat} (nd:nm.Nodup) {k:Nat} (hk:k < nm.length):lnD nm es (nmG nm k)=(qcb (elN es) k).map (nmG nm):=by
 have h:∃k',k' < nm.length/\nmG nm k'=nmG nm k:=⟨k,hk,rfl⟩
 unfold lnD
 rw [dif_pos h]
 rw [qfg nd h.choose_spec.1 hk h.choose_spec.2]
structure Dn (nm:List Str) (i:Nat) (es:List Nat) (W:List Str) (wt wa rm:Str->Int):Prop where
 el:es.length=i - 1
 lo:∀(k e:Nat),es[k]?=some e->e<=k
 wnd:W.Nodup
 wsub:∀n∈W,n∈nm.take i
 wt:∀n∈nm.take i,1<=wt n/\wt n<=1000
 wa:∀n∈W,InB (10^30) (wa n)
 rm:∀n∈nm.take i,InB (10^31) (rm n)
theorem Dn.ok {nm:List Str} {es:List Nat} {W W0:List Str} {wt wa rm:Str->Int} (h:Dn nm nm.length es W wt wa rm) (n1:1<=nm.length) (n7:nm.length<=7) (nd:nm.Nodup) (gd:∀z∈nm,qef z=true) (pm:W0.Perm W) (srt:PyProof.Rows.sortedS W0=true):ShOk nm es ⟨W0,lnD nm es,wt,wa,rm⟩:=by
 have low:Low (elN es) nm.length:=elN_low h.lo _
 have wsub:∀n∈W0,n∈nm:=fun n hn=>List.mem_of_mem_take (h.wsub n (pm.mem_iff.mp hn))
 have ix:∀n∈W0,∃k,k < nm.length/\nmG nm k=n:=fun n hn=>by
  obtain⟨k,hk,e⟩:=mem_iff_getElem.mp (wsub n hn)
  exact⟨k,hk,by unfold nmG;rw [getElem?_eq_getElem hk,e];rfl⟩
 have htw:∀n∈nm,n∈nm.take nm.length:=fun n hn=>by rw [take_length];exact hn
 have line:∀n∈W0,∀x∈lnD nm es n,∃j,j < nm.length/\x=nmG nm j:=fun n hn x hx=>by
  obtain⟨k,hk,rfl⟩:=ix n hn
  rw [lnD_at nd hk] at hx
  obtain⟨j,hj,rfl⟩:=mem_map.mp hx
  exact⟨j,by have:=qcy low k hk j hj;omega,rfl⟩
 have rmb:∀n∈W0,∀x∈lnD nm es n,InB (10^31) (rm x):=fun n hn x hx=>by
  obtain⟨j,hj,rfl⟩:=line n hn x hx
  exact h.rm _ (htw _ (qcx hj))
 refine⟨nd,gd,by have:=h.el;omega,n7,h.lo,wsub,fun k hk=>lnD_at nd hk,⟨pm.nodup_iff.mpr h.wnd,fun n hn=>(h.wt n (htw n (wsub n hn))).1,fun n hn=>(h.wt n (htw n (wsub n hn))).2,fun n hn=>(h.wa n (pm.mem_iff.mp hn)).lo,fun n hn=>Int.le_trans (h.wa n (pm.mem_iff.mp hn)).hi (by decide),fun n hn x hx=>(rmb n hn x hx).lo,fun n hn x hx=>(rmb n hn x hx).hi,fun n hn=>?_,fun n hn=>?_,fun n hn=>?_,?_⟩,srt⟩
 .obtain⟨k,hk,rfl⟩:=ix n hn
  show nmG nm k∈lnD nm es (nmG nm k)
  rw [lnD_at nd hk]
  exact mem_map.mpr ⟨k,lineN_self low hk,rfl⟩
 .obtain⟨k,hk,rfl⟩:=ix n hn
  show (lnD nm es (nmG nm k)).Nodup
  rw [lnD_at nd hk]
  refine List.pairwise_map.mpr ((List.pairwise_iff_getElem.mpr fun i j hi hj lt z=>?_))
  have h1:=qcy low k hk _ (getElem_mem hi)
  have h2:=qcy low k hk _ (getElem_mem hj)
  have:=qfg nd (by omega) (by omega) z
  have:=(List.getElem_inj (lineN_nd low k hk)).mp this
  omega
 .obtain⟨k,hk,rfl⟩:=ix n hn
  show (lnD nm es (nmG nm k)).length<=20
  rw [lnD_at nd hk,length_map]
  have:=qfi low k hk
  omega
 .show W0.length<=7
  exact Nat.le_trans (List.Nodup.length_le_of_subset (pm.nodup_iff.mpr h.wnd) wsub) n7
theorem len3 {xs:List Int} (h:xs.length=3):∃x y z,xs=[x,y,z]:=by
 match xs,h with
 | [x,y,z],_=>exact⟨x,y,z,rfl⟩
def wdi (K:Frag) (d:Ad):Sp:=fun vs H Q _=>∃(a:Addr) (ns:List Int) (n:Nat),vs=[.ref a,.int (n:Int)]/\SqL K H a (ns.map V.int)/\1<=n/\n<=7/\
 ∀(p ln le dg dw dr:Addr) (nm:List Str) (es:List Nat) (kg kw kr:List (Key × V)) (D:Dl) H',Same H H'->ShAt H' p ln le dg dw dr nm es kg kw kr D->ShOk nm es D->(∀z∈nm,1<=D.wt z/\D.wt z<=1000)->Q (.ref p) H'
theorem ad_next {kvs:List (Key × V)} {L:List Str} {f:Str->Int} {z:Str} {v:Int} (h:AD kvs (qc0 L f)):AD (qc3 kvs (Sum.inr z) (.int v)) (qc0 (L++ [z]) (fun y=>if y=z then v else f y)):=(h.put z v).cast fun y=>by
 rw [qeb]
 unfold qc0
 by_cases c:y=z
 .rw [if_pos c,if_pos (by rw [c];simp)]
  show some v=some (if y=z then v else f y)
  rw [if_pos c]
 .rw [if_neg c]
  by_cases c2:y∈L
  .rw [if_pos c2,if_pos (mem_append_left _ c2)]
   show some (f y)=some (if y=z then v else f y)
   rw [if_neg c]
  .rw [if_neg c2,if_neg fun m=>(mem_append.mp m).elim c2 fun e=>c (mem_singleton.mp e)]
theorem ad_again {kvs:List (Key × V)} {L:List Str} {f:Str->Int} {z:Str} {v:Int} (h:AD kvs (qc0 L f)) (hz:z∈L):AD (qc3 kvs (Sum.inr z) (.int v)) (qc0 L (fun y=>if y=z then v else f y)):=(h.put z v).cast fun y=>by
 rw [qeb]
 unfold qc0
 by_cases c:y=z
 .rw [if_pos c,if_pos (by rw [c];exact hz)]
  show some v=some (if y=z then v else f y)
  rw [if_pos c]
 .rw [if_neg c]
  by_cases c2:y∈L
  .rw [if_pos c2,if_pos c2]
   show some (f y)=some (if y=z then v else f y)
   rw [if_neg c]
  .rw [if_neg c2,if_neg c2]
set_option maxHeartbeats 9000000 in
include T in
theorem wd4:FnOk P w K mg base CX0 3 d.w7r d.w6j ["_law_script","_law_count"] (wdi K d):=by
 refine T.wa0.ok w0u (fun vs H Q E h=>?_) (fun cdv A outer s H vs Q E hr h=>?_)
 .obtain⟨a,ns,n,rfl,_⟩:=h;rfl
 obtain⟨a,ns,n,rfl,hS,n1,n7,q⟩:=h
 refine' ⟨_,?rx,?_⟩
 case' rx=>(with_unfolding_all change My.PSsx _ _ _);refine' (pssx_set (i:=2) w0u.nd rfl (Or.inl rfl) (pex_ixL (qes qa4 (qes qa4 (qes qa4 (qes (qag op_pow qa4 qa4) pax_nil)))) (qag qb9 (qah ((w1u T).mono (by decide)) hr rfl T.w2p T.w20.kp T.w2v .nil qaw (qa0 (pv 0) (qa0 qa4 qa3))) qa4) (fun _ _=>rfl)) ?ry)
 case' ry=>exact(qa2 (ps_comp (j:=3) (caps:=[0]) (cn:=["_law_script"]) (qc6 rfl rfl (by rfl) (by rfl) rfl ⟨rfl,trivial⟩ (by rfl) rfl ⟨⟨rfl,rfl,rfl,rfl,_,rfl⟩,trivial⟩ (by decide)) rfl w0u.nd rfl rfl (qcg rfl T.w4e (qa0 (pv 1) qa3)) (fun _ _ _ _=>qej) (fun _ _ _ _=>(qah ((we4 T).mono (by decide)) hr rfl T.wg1 T.wek.kp T.wg8 .nil qaw (qa0 (qah ((w1u T).mono (by decide)) hr rfl T.w2p T.w20.kp T.w2v .nil qaw (qa0 (pv 1) (qa0 qa4 qa3))) (qa0 (pv 0) qa3)))))
  (qa2 (qaf (i:=4) w0u.nd rfl (Or.inl rfl) (qbr (qa0 qe3 qa3)))
  (qa2 (qaf (i:=5) w0u.nd rfl (Or.inl rfl) qb8)
  (qa2 (qaf (i:=6) w0u.nd rfl (Or.inl rfl) qb8)
  (qa2 (qaf (i:=7) w0u.nd rfl (Or.inl rfl) qb8)
  (qa2 (qb5 PassesOwn.never rfl (qcg rfl T.w4e (qa0 (pv 1) qa3)) (qac (i:=8) w0u.nd rfl (Or.inr rfl)) (qa2 (ps_comp (j:=9) (caps:=[0,8]) (cn:=["_law_script","_law_k"]) (qc6 rfl rfl (by rfl) (by rfl) rfl ⟨rfl,⟨rfl,trivial⟩⟩ (by rfl) rfl ⟨⟨rfl,rfl,rfl,rfl,_,rfl⟩,⟨⟨rfl,rfl,rfl,rfl,_,rfl⟩,trivial⟩⟩ (by decide)) rfl w0u.nd rfl rfl (qcg rfl T.w4e (qa0 qa4 qa3)) (fun _ _ _ _=>qej) (fun _ _ _ _=>(qah ((w1u T).mono (by decide)) hr rfl T.w2p T.w20.kp T.w2v .nil qaw (qa0 (pv 1) (qa0 (qag qby (qag qby qa4 (qag qb1 qa4 (pv 2))) (pv 0)) qa3)))))
  (qa2 (qd6 (qbb (qal qfz (pv 8) qa4 (qas _)) (qa5 (qba (qgb PySem.F.plainAttrs_list PySem.F.slot_list_append PySem.F.type_list_append qbs (pv 4) (qa0 (qai qan (qbr (qa0 (qag qb9 (qai qan (pv 9) qa4 (fun _ _=>rfl)) (pv 8)) (qa0 (qag op_sub (pv 8) qa4) (qa0 qa4 (qa0 (qag qb9 (qai qan (pv 9) qa4 (fun _ _=>rfl)) (pv 8)) qa3))))) (qag qb9 (qah ((w1u T).mono (by decide)) hr rfl T.w2p T.w20.kp T.w2v .nil qaw (qa0 (pv 0) (qa0 qa4 qa3))) qa4) (fun _ _=>rfl)) qa3)))) qaq))
  (qa2 (qaf (i:=10) w0u.nd rfl (Or.inl rfl) (qah ((w98 T).mono (by decide)) hr rfl T.wbt T.w9a.kp T.wbw .nil qaw (qa0 (qai qan (pv 9) qa4 (fun _ _=>rfl)) (qa0 (qag qb1 qa4 (pv 8)) qa3))))
  (qa2 (qbp (qau hr) (pv 5) (qai qan (pv 3) (pv 8) (fun _ _=>rfl)) (qai qan (qbr (qa0 qa4 (qa0 qa4 (qa0 qa4 (qa0 qa4 (qa0 (qag qby qa4 (qag qb9 (qag qbg (pv 10) qa4) qa4)) (qa0 qa4 qa3))))))) (qag qb9 (pv 10) qa4) (fun _ _=>rfl)) rfl)
  (qa2 (qaf (i:=10) w0u.nd rfl (Or.inl rfl) (qah ((w98 T).mono (by decide)) hr rfl T.wbt T.w9a.kp T.wbw .nil qaw (qa0 (qai qan (pv 9) qa4 (fun _ _=>rfl)) (qa0 (qag qby (qag qb1 qa4 (pv 8)) qa4) qa3))))
  (qa2 (qd6 (qbb (qal qfz (qag qb9 (pv 10) qa4) qa4 (qas _)) (qa5 (qbp (qau hr) (pv 6) (qai qan (pv 3) (pv 8) (fun _ _=>rfl)) (qah ((wgk T).mono (by decide)) hr rfl T.whf T.wfy.kp T.wha .nil qaw (qa0 (pv 10) (qa0 (pv 2) qa3))) rfl)) qaq))
  (qa2 (qbp (qau hr) (pv 7) (qai qan (pv 3) (pv 8) (fun _ _=>rfl)) (qah ((wgj T).mono (by decide)) hr rfl T.wh9 T.wfz.kp T.whb .nil qaw (qa0 (qah ((w98 T).mono (by decide)) hr rfl T.wbt T.w9a.kp T.wbw .nil qaw (qa0 (qai qan (pv 9) qa4 (fun _ _=>rfl)) (qa0 (qag qby (qag qb1 qa4 (pv 8)) qa4) qa3))) (qa0 (pv 2) qa3))) rfl)
  (qa5 (qd6 (qbb (PW.pt (pw_and (qal qfz (pv 8) qa4 (qas _)) (qf9 (qal qe5 (qag qb9 (qai qan (pv 9) qa4 (fun _ _=>rfl)) qa4) qa4 (qas _))))) (qa5 (qbp (qau hr) (pv 7) (qai qan (pv 3) (pv 8) (fun _ _=>rfl)) (qat (qau hr) (pv 7) (qai qan (pv 3) (qai qan (pv 4) (pv 8) (fun _ _=>rfl)) (fun _ _=>rfl)) (fun _ _=>rfl)) rfl)) qaq)))))))))))
  (qa5 (qad (qbr (qa0 (pv 3) (qa0 (pv 4) (qa0 (pv 5) (qa0 (pv 6) (qa0 (pv 7) qa3))))))))))))))
 walk_at "d"
 try dsimp only [cxC]
 generalize hni:((n:Nat):Int)=ni
 refine qab (σ:=[some (.ref a),some (.int ni),none,none,none,none,none,none,none,none,none]) rfl ?_
 walk_at "g"
 rename_i pm hpm
 have s2:=qa7 hpm (.lst [V.int 1,V.int 1,V.int 7000000001,V.int (10^Int.toNat 27)])
 have e3:upd H pm (.lst [V.int 1,V.int 1,V.int 7000000001,V.int (10^Int.toNat 27)]) pm=some (.lst [V.int 1,V.int 1,V.int 7000000001,V.int (10^Int.toNat 27)]):=qa1
 generalize upd H pm (.lst [V.int 1,V.int 1,V.int 7000000001,V.int (10^Int.toNat 27)])=H2 at*
 refine⟨a,ns,2,rfl,s2.seq hS,by decide,?_⟩
 walk_at "g"
 have m0:=Int.emod_nonneg (cell ns 2) (show (4:Int)≠0 by decide)
 have m1:=Int.emod_lt_of_pos (cell ns 2) (show (0:Int) < 4 by decide)
 refine r_menu (xs:=[1,1,7000000001,10^Int.toNat 27]) (SqL.of e3) m0 m1 fun sc hm=>?_
 have hsc:Sc sc:=by
  simp only [mem_cons,not_mem_nil,or_false] at hm
  have e27:(10:Int)^Int.toNat 27=10^27:=rfl
  rw [e27] at hm
  exact⟨by omega,by omega⟩
 clear hm m0 m1 e3 hpm
 walk_at "g"
 intro C1 s01 H01 fp1 ln hln
 have eni:ni.toNat=n:=by omega
 refine c_by ni.toNat (fun i H'=>H'=upd H2 ln (.lst (((List.range i).map fun k:Nat=>nmS (cell ns 1) (0+(k:Int))).map V.str))) rfl (fun i H' hi _=>hi) (fun H' _=>Nat.le_refl _) ?_ ?_
 .rintro i H' v H'' hi rfl ⟨rfl,rfl⟩
  have hS':=sqL_new (o:=.lst (((List.range i).map fun k:Nat=>nmS (cell ns 1) (0+(k:Int))).map V.str)) (s2.seq hS) hln
  walk_at "g"
  refine⟨a,ns,_,rfl,hS',by decide,?_⟩
  walk_at "g"
  refine⟨_,_,rfl,by omega,by omega,?_⟩
  refine⟨_,qa1,by rw [length_map,length_map,List.length_range];show _ < 16777216;omega,?_⟩
  rw [qcw,List.range_succ,map_append,map_append];rfl
 rintro H3 rfl
 rw [eni]
 have hwl:((List.range n).map fun k:Nat=>nmS (cell ns 1) (0+(k:Int))).length=n:=by rw [length_map,List.length_range]
 have hwg:∀z∈(List.range n).map fun k:Nat=>nmS (cell ns 1) (0+(k:Int)),qef z=true:=fun z hz=>by
  obtain⟨k,_,rfl⟩:=mem_map.mp hz
  exact nmS_good _ _
 have hwn:=nm_nodup (cell ns 1) (n:=n) (by omega)
 generalize ((List.range n).map fun k:Nat=>nmS (cell ns 1) (0+(k:Int)))=nm at*
 have s3:=s2.trans (qa7 hln (.lst (nm.map V.str)))
 have en3:upd H2 ln (.lst (nm.map V.str)) ln=some (.lst (nm.map V.str)):=qa1
 generalize upd H2 ln (.lst (nm.map V.str))=H3 at*
 clear s2 hln s01 H01 fp1
 walk_at "g"
 rename_i le hle dg hdg dw hdw dr hdr
 have s4:Same H3 (upd (upd (upd (upd H3 le (.lst [V.non])) dg (.dK [])) dw (.dK [])) dr (.dK [])):=((qa7 hle _).trans (qa7 hdg _)).trans ((qa7 hdw _).trans (qa7 hdr _))
 have ele:upd (upd (upd (upd H3 le (.lst [V.non])) dg (.dK [])) dw (.dK [])) dr (.dK []) le=some (.lst [V.non]):=qaa (qaa (qaa qa1 hdg) hdw) hdr
 have edg:upd (upd (upd (upd H3 le (.lst [V.non])) dg (.dK [])) dw (.dK [])) dr (.dK []) dg=some (.dK []):=qaa (qaa qa1 hdw) hdr
 have edw:upd (upd (upd (upd H3 le (.lst [V.non])) dg (.dK [])) dw (.dK [])) dr (.dK []) dw=some (.dK []):=qaa qa1 hdr
 have edr:upd (upd (upd (upd H3 le (.lst [V.non])) dg (.dK [])) dw (.dK [])) dr (.dK []) dr=some (.dK []):=qa1
 have ngw:dg≠dw:=fun z=>by subst z;rw [qa1] at hdw;cases hdw
 have ngr:dg≠dr:=fun z=>by subst z;rw [qaa qa1 hdw] at hdr;cases hdr
 have nwr:dw≠dr:=fun z=>by subst z;rw [qa1] at hdr;cases hdr
 have fle:H3 le=none:=hle
 have fdg:H3 dg=none:=(qa7 hle _).free hdg
 have fdw:H3 dw=none:=((qa7 hle _).trans (qa7 hdg _)).free hdw
 have fdr:H3 dr=none:=(((qa7 hle _).trans (qa7 hdg _)).trans (qa7 hdw _)).free hdr
 generalize upd (upd (upd (upd H3 le (.lst [V.non])) dg (.dK [])) dw (.dK [])) dr (.dK [])=H4 at*
 have nlg:le≠dg:=fun z=>by subst z;rw [edg] at ele;cases ele
 have nlw:le≠dw:=fun z=>by subst z;rw [edw] at ele;cases ele
 have nlr:le≠dr:=fun z=>by subst z;rw [edr] at ele;cases ele
 clear hle hdg hdw hdr
 rw [eni]
 refine qfp (n:=n) (fun i σ H'=>∃(es:List Nat) (W:List Str) (wt wa rm:Str->Int) (kg kw kr:List (Key × V)) (w8 w9 w10:Option V),σ=[some (.ref a),some (.int ni),some (.int sc),some (.ref ln),some (.ref le),some (.ref dg),some (.ref dw),some (.ref dr),w8,w9,w10]/\Same H3 H'/\H' le=some (.lst (.non :: es.map iV))/\H' dg=some (.dK kg)/\H' dw=some (.dK kw)/\H' dr=some (.dK kr)/\AD kg (qc0 (nm.take i) wt)/\AD kw (qc0 W wa)/\AD kr (qc0 (nm.take i) rm)/\Dn nm i es W wt wa rm) ⟨[], [],fun _=>0,fun _=>0,fun _=>0, [], [], [],none,none,none,rfl,s4,ele,edg,edw,edr,AD.nil.cast fun z=>rfl,AD.nil.cast fun z=>rfl,AD.nil.cast fun z=>rfl,⟨rfl,fun k e h=>by simp at h,nodup_nil,fun z h=>by simp at h,fun z h=>by simp at h,fun z h=>by simp at h,fun z h=>by simp at h⟩⟩ ?_ ?_
 .rintro i σ H' hi ⟨es,W,wt,wa,rm,kg,kw,kr,w8,w9,w10,rfl,sm,el',eg',ew',er',hgA,hwA,hrA,hd⟩
  have hil:i < nm.length:=by omega
  have etk:nm.take (i+1)=nm.take i++ [nmG nm i]:=by rw [take_add_one,qda hil];rfl
  have xn:atI (nm.map V.str) (0+(i:Int))=some (.str (nmG nm i)):=by rw [Int.zero_add];exact qc7 (by rw [getElem?_map,qda hil];rfl)
  have hS':=(s3.trans sm).seq hS
  have en':=sm _ _ en3
  have tl:(nm.take i).length<=7:=by rw [length_take];omega
  have zg:kg.length < sizeLine:=by
   have:=hgA.le (ws:=nm.take i) fun z hz=>qc9.mp hz
   show _ < 16777216
   omega
  have zw:kw.length < sizeLine:=by
   have h1:=hwA.le (ws:=W) fun z hz=>qc9.mp hz
   have h2:W.length<=(nm.take i).length:=List.Nodup.length_le_of_subset hd.wnd hd.wsub
   show _ < 16777216
   omega
  have zr:kr.length < sizeLine:=by
   have:=hrA.le (ws:=nm.take i) fun z hz=>qc9.mp hz
   show _ < 16777216
   omega
  generalize hki:(0+(i:Int))=ki at*
  have k0:0<=ki:=by omega
  have k7:ki<=7:=by omega
  have nki:ki.natAbs < 2^600:=Nat.lt_of_le_of_lt (show ki.natAbs<=7 by omega) (by decide)
  clear tl
  walk_at "g"
  intro C1 s01 H01 fp1 lc hlc
  refine c_by 3 (fun j Hx=>∃xs:List Int,Hx=upd H' lc (.lst (xs.map V.int))/\xs.length=j) ⟨[],rfl,rfl⟩ (fun i H' hi _=>hi) (fun H' _=>Nat.le_refl _) ?_ ?_
  .rintro j Hx v H'' hj ⟨xs,rfl,hx⟩ ⟨rfl,rfl⟩
   have hS'':=sqL_new (o:=.lst (xs.map V.int)) hS' hlc
   walk_at "g"
   refine⟨a,ns,_,rfl,hS'',by omega,?_⟩
   refine⟨_,qa1,by rw [length_map];show _ < 16777216;omega,?_⟩
   exact⟨xs++ [_],by rw [qcw,map_append];rfl,by rw [length_append,hx];rfl⟩
  rintro Hx ⟨xs,rfl,hx⟩
  obtain⟨c0,c1,c2,rfl⟩:=len3 hx
  have s5:=qa7 hlc (.lst ([c0,c1,c2].map V.int))
  have elc:upd H' lc (.lst ([c0,c1,c2].map V.int)) lc=some (.lst ([c0,c1,c2].map V.int)):=qa1
  generalize upd H' lc (.lst ([c0,c1,c2].map V.int))=H5 at*
  have elc:H5 lc=some (.lst [V.int c0,V.int c1,V.int c2]):=elc
  have el5:=s5 _ _ el'
  have eg5:=s5 _ _ eg'
  have ew5:=s5 _ _ ew'
  have er5:=s5 _ _ er'
  have en5:=s5 _ _ en'
  have sm5:=sm.trans s5
  have ncl:lc≠le:=fun z=>by subst z;rw [el'] at hlc;cases hlc
  have nnl:ln≠le:=fun z=>by subst z;rw [en3] at fle;cases fle
  clear hx hlc s5 el' eg' ew' er' en' sm hS' s01 H01 fp1
  have hS5:=(s3.trans sm5).seq hS
  walk_at "g"
  refine r_cut (fun σ Hy=>∃es':List Nat,σ=[some (.ref a),some (.int ni),some (.int sc),some (.ref ln),some (.ref le),some (.ref dg),some (.ref dw),some (.ref dr),some (.int ki),some (.ref lc),w10]/\SameBut le H5 Hy/\Hy le=some (.lst (.non :: es'.map iV))/\es'.length=i/\∀(k e:Nat),es'[k]?=some e->e<=k) ?_ ?_
  .have hes:=hd.el
   have hlo:=hd.lo
   walk_at "g"
   refine i_2 (fun c=>?_) (fun c=>?_)
   .have zl:(V.non :: es.map iV).length < sizeLine:=by rw [length_cons,length_map];show _ < 16777216;omega
    walk_at "g"
    rename_i pl hpl
    have s6:=qa7 hpl (.lst [V.int (c0%ki),V.int (ki - 1),V.int 0,V.int (c0%ki)])
    have epl:upd H5 pl (.lst [V.int (c0%ki),V.int (ki - 1),V.int 0,V.int (c0%ki)]) pl=some (.lst [V.int (c0%ki),V.int (ki - 1),V.int 0,V.int (c0%ki)]):=qa1
    have el6:=s6 _ _ el5
    generalize upd H5 pl (.lst [V.int (c0%ki),V.int (ki - 1),V.int 0,V.int (c0%ki)])=H6 at*
    refine⟨a,ns,3,rfl,s6.seq hS5,by decide,?_⟩
    walk_at "g"
    have m0:=Int.emod_nonneg (cell ns 3) (show (4:Int)≠0 by decide)
    have m1:=Int.emod_lt_of_pos (cell ns 3) (show (0:Int) < 4 by decide)
    refine r_menu (xs:=[c0%ki,ki - 1,0,c0%ki]) (SqL.of epl) m0 m1 fun x hx=>?_
    have a0:=Int.emod_nonneg c0 (show ki≠0 by omega)
    have a1:=Int.emod_lt_of_pos c0 c
    have hx2:0<=x/\x < ki:=by
     simp only [mem_cons,not_mem_nil,or_false] at hx
     omega
    obtain⟨e,rfl⟩:∃e:Nat,x=(e:Int):=⟨x.toNat,by omega⟩
    have ei:e<=i - 1:=by omega
    have i1:1<=i:=by omega
    clear hx m0 m1 a0 a1 hx2 epl hpl
    generalize hei:((e:Nat):Int)=ei' at*
    walk_at "g"
    refine⟨es++ [e],rfl,fun b u hb z=>by rw [qa6 hb];exact s6 _ _ z,?_,by rw [length_append,length_singleton];omega,fun k e2 h2=>?_⟩
    .rw [qa1,<-hei,map_append];rfl
    .by_cases ck:k < es.length
     .rw [List.getElem?_append_left ck] at h2;exact hlo k e2 h2
     .have h3:=(List.getElem?_eq_some_iff.mp h2).1
      rw [length_append,length_singleton] at h3
      have ek:k=es.length:=by omega
      rw [List.getElem?_append_right (by omega),ek,Nat.sub_self] at h2
      have:e=e2:=Option.some.inj h2
      omega
   .walk_at "g"
    exact⟨es,rfl,fun b u _ z=>z,el5,by omega,hlo⟩
  rintro σ' H6 ⟨es',rfl,sb6,el6,hel,hlo⟩
  have sm6:Same H3 H6:=fun b u z=>sb6 b u (fun y=>by subst y;rw [fle] at z;cases z) (sm5 b u z)
  have elc6:=sb6 _ _ ncl elc
  have eg6:=sb6 _ _ nlg.symm eg5
  have ew6:=sb6 _ _ nlw.symm ew5
  have er6:=sb6 _ _ nlr.symm er5
  have en6:=sb6 _ _ nnl en5
  clear sb6 elc eg5 ew5 er5 en5 sm5 hS5 el5
  walk_at "g"
  refine⟨c1,3*ki,rfl,by omega,by omega,fun r1 r10=>?_⟩
  walk_at "g"
  rename_i pl hpl
  have s7:=qa7 hpl (.lst [V.int 1,V.int 1,V.int 2,V.int 3,V.int (1+r1.fdiv 6%1000),V.int 1000])
  have epl:upd H6 pl (.lst [V.int 1,V.int 1,V.int 2,V.int 3,V.int (1+r1.fdiv 6%1000),V.int 1000]) pl=some (.lst [V.int 1,V.int 1,V.int 2,V.int 3,V.int (1+r1.fdiv 6%1000),V.int 1000]):=qa1
  generalize upd H6 pl (.lst [V.int 1,V.int 1,V.int 2,V.int 3,V.int (1+r1.fdiv 6%1000),V.int 1000])=H7 at*
  have m0:=Int.emod_nonneg r1 (show (6:Int)≠0 by decide)
  have m1:=Int.emod_lt_of_pos r1 (show (0:Int) < 6 by decide)
  have u0:=Int.emod_nonneg (r1.fdiv 6) (show (1000:Int)≠0 by decide)
  have u1:=Int.emod_lt_of_pos (r1.fdiv 6) (show (0:Int) < 1000 by decide)
  refine r_menu (xs:=[1,1,2,3,1+r1.fdiv 6%1000,1000]) (SqL.of epl) m0 m1 fun x hx=>?_
  have hwt:1<=x/\x<=1000:=by
   simp only [mem_cons,not_mem_nil,or_false] at hx
   omega
  have sm7:=sm6.trans s7
  have elc7:=s7 _ _ elc6
  have el7:=s7 _ _ el6
  have eg7:=s7 _ _ eg6
  have ew7:=s7 _ _ ew6
  have er7:=s7 _ _ er6
  have en7:=s7 _ _ en6
  clear hx m0 m1 u0 u1 epl hpl s7 sm6 elc6 el6 eg6 ew6 er6 en6 r10
  walk_at "g"
  refine qcr (SqL.of en7) xn ?_
  walk_at "g"
  have ncg:lc≠dg:=fun z=>by subst z;rw [eg7] at elc7;cases elc7
  have nng:ln≠dg:=fun z=>by subst z;rw [eg7] at en7;cases en7
  have sm8:Same H3 (upd H7 dg (.dK (qc3 kg (Sum.inr (nmG nm i)) (.int x)))):=qb4 sm7 fdg
  have elc8:upd H7 dg (.dK (qc3 kg (Sum.inr (nmG nm i)) (.int x))) lc=_:=(qa6 ncg).trans elc7
  have el8:upd H7 dg (.dK (qc3 kg (Sum.inr (nmG nm i)) (.int x))) le=_:=(qa6 nlg).trans el7
  have eg8:upd H7 dg (.dK (qc3 kg (Sum.inr (nmG nm i)) (.int x))) dg=some (.dK (qc3 kg (Sum.inr (nmG nm i)) (.int x))):=qa1
  have ew8:upd H7 dg (.dK (qc3 kg (Sum.inr (nmG nm i)) (.int x))) dw=_:=(qa6 ngw.symm).trans ew7
  have er8:upd H7 dg (.dK (qc3 kg (Sum.inr (nmG nm i)) (.int x))) dr=_:=(qa6 ngr.symm).trans er7
  have en8:upd H7 dg (.dK (qc3 kg (Sum.inr (nmG nm i)) (.int x))) ln=_:=(qa6 nng).trans en7
  generalize upd H7 dg (.dK (qc3 kg (Sum.inr (nmG nm i)) (.int x)))=H8 at*
  have hgA8:=ad_next (z:=nmG nm i) (v:=x) hgA
  rw [<-etk] at hgA8
  clear elc7 el7 eg7 ew7 er7 en7 sm7 ncg nng zg
  walk_at "g"
  refine⟨c1,3*ki+1,rfl,by omega,by omega,fun r2 r20=>?_⟩
  walk_at "g"
  have r70:=Int.emod_nonneg r2 (show (7:Int)≠0 by decide)
  refine r_cut (fun σ Hy=>∃(W':List Str) (wa':Str->Int) (kw':List (Key × V)),σ=[some (.ref a),some (.int ni),some (.int sc),some (.ref ln),some (.ref le),some (.ref dg),some (.ref dw),some (.ref dr),some (.int ki),some (.ref lc),some (.int r2)]/\SameBut dw H8 Hy/\Hy dw=some (.dK kw')/\AD kw' (qc0 W' wa')/\W'.Nodup/\(∀z∈W',z∈nm.take (i+1))/\∀z∈W',InB (10^30) (wa' z)) ?_ ?_
  .walk_at "g"
   refine i_2 (fun c=>?_) (fun c=>?_)
   .walk_at "g"
    refine⟨r2,sc,rfl,r20,hsc,fun v H9 hv s9=>?_⟩
    have ew9:=s9 _ _ ew8
    have en9:=s9 _ _ en8
    walk_at "g"
    refine qcr (SqL.of en9) xn ?_
    walk_at "g"
    have nW:nmG nm i∉W:=fun z=>by
     obtain⟨j,hj,e⟩:=mem_iff_getElem.mp (hd.wsub _ z)
     rw [length_take] at hj
     rw [List.getElem_take] at e
     have h2:nmG nm j=nm[j]:=by unfold nmG;rw [getElem?_eq_getElem (by omega)];rfl
     have:=qfg hwn (show j < nm.length by omega) hil (h2.trans e)
     omega
    refine⟨W++ [nmG nm i],_,_,rfl,fun b u hb z=>by rw [qa6 hb];exact s9 _ _ z,qa1,ad_next hwA,?_,fun z hz=>?_,fun z hz=>?_⟩
    .exact nodup_append.mpr ⟨hd.wnd,nodup_cons.mpr ⟨by simp,nodup_nil⟩,fun x hx y hy e=>by rw [mem_singleton.mp hy] at e;rw [e] at hx;exact nW hx⟩
    .rw [etk]
     rcases mem_append.mp hz with h1|h1
     .exact mem_append_left _ (hd.wsub z h1)
     .exact mem_append_right _ h1
    .try dsimp only
     by_cases c2:z=nmG nm i
     .rw [if_pos c2];exact hv
     .rw [if_neg c2]
      rcases mem_append.mp hz with h1|h1
      .exact hd.wa z h1
      .exact absurd (mem_singleton.mp h1) c2
   .walk_at "g"
    exact⟨W,wa,kw,rfl,fun b u _ z=>z,ew8,hwA,hd.wnd,fun z hz=>by rw [etk];exact mem_append_left _ (hd.wsub z hz),hd.wa⟩
  rintro σ' H9 ⟨W',wa',kw',rfl,sb9,ew9,hwA9,wnd9,wsub9,wa9⟩
  have ncw:lc≠dw:=fun z=>by subst z;rw [ew8] at elc8;cases elc8
  have nnw:ln≠dw:=fun z=>by subst z;rw [ew8] at en8;cases en8
  have sm9:Same H3 H9:=fun b u z=>sb9 b u (fun y=>by subst y;rw [fdw] at z;cases z) (sm8 b u z)
  have elc9:=sb9 _ _ ncw elc8
  have el9:=sb9 _ _ nlw el8
  have eg9:=sb9 _ _ ngw eg8
  have er9:=sb9 _ _ nwr.symm er8
  have en9:=sb9 _ _ nnw en8
  clear sb9 elc8 el8 eg8 er8 en8 sm8 ew8 ncw nnw r70 r20 zw hwA
  walk_at "g"
  refine⟨c2,3*ki+2,rfl,by omega,by omega,fun r3 r30=>?_⟩
  walk_at "g"
  refine⟨r3,sc,rfl,r30,hsc,fun v HA hv sA=>?_⟩
  have smA:=sm9.trans sA
  have elcA:=sA _ _ elc9
  have elA:=sA _ _ el9
  have egA:=sA _ _ eg9
  have ewA:=sA _ _ ew9
  have erA:=sA _ _ er9
  have enA:=sA _ _ en9
  clear elc9 el9 eg9 ew9 er9 en9 sm9 sA r30
  walk_at "g"
  refine qcr (SqL.of enA) xn ?_
  walk_at "g"
  have ncr:lc≠dr:=fun z=>by subst z;rw [erA] at elcA;cases elcA
  have nnr:ln≠dr:=fun z=>by subst z;rw [erA] at enA;cases enA
  have smB:Same H3 (upd HA dr (.dK (qc3 kr (Sum.inr (nmG nm i)) (.int v)))):=qb4 smA fdr
  have elcB:upd HA dr (.dK (qc3 kr (Sum.inr (nmG nm i)) (.int v))) lc=_:=(qa6 ncr).trans elcA
  have elB:upd HA dr (.dK (qc3 kr (Sum.inr (nmG nm i)) (.int v))) le=_:=(qa6 nlr).trans elA
  have egB:upd HA dr (.dK (qc3 kr (Sum.inr (nmG nm i)) (.int v))) dg=_:=(qa6 ngr).trans egA
  have ewB:upd HA dr (.dK (qc3 kr (Sum.inr (nmG nm i)) (.int v))) dw=_:=(qa6 nwr).trans ewA
  have erB:upd HA dr (.dK (qc3 kr (Sum.inr (nmG nm i)) (.int v))) dr=some (.dK (qc3 kr (Sum.inr (nmG nm i)) (.int v))):=qa1
  have enB:upd HA dr (.dK (qc3 kr (Sum.inr (nmG nm i)) (.int v))) ln=_:=(qa6 nnr).trans enA
  generalize upd HA dr (.dK (qc3 kr (Sum.inr (nmG nm i)) (.int v)))=HB at*
  have hrAB:=ad_next (z:=nmG nm i) (v:=v) hrA
  rw [<-etk] at hrAB
  have tin:∀z∈nm.take (i+1),z≠nmG nm i->z∈nm.take i:=fun z hz ne=>by
   rw [etk] at hz
   exact(mem_append.mp hz).resolve_right fun h=>ne (mem_singleton.mp h)
  have hrB:∀z∈nm.take (i+1),InB (10^31) (if z=nmG nm i then v else rm z):=fun z hz=>by
   by_cases c:z=nmG nm i
   .rw [if_pos c];exact hv
   .rw [if_neg c];exact hd.rm z (tin z hz c)
  have hwB:∀z∈nm.take (i+1),1<=(if z=nmG nm i then x else wt z)/\(if z=nmG nm i then x else wt z)<=1000:=fun z hz=>by
   by_cases c:z=nmG nm i
   .rw [if_pos c];exact hwt
   .rw [if_neg c];exact hd.wt z (tin z hz c)
  have zrB:(qc3 kr (Sum.inr (nmG nm i)) (.int v)).length < sizeLine:=by
   have h1:=hrAB.le (ws:=nm.take (i+1)) fun z hz=>qc9.mp hz
   rw [length_take] at h1
   show _ < 16777216
   omega
  generalize qc3 kr (Sum.inr (nmG nm i)) (.int v)=krB at*
  generalize hrm:(fun y=>if y=nmG nm i then v else rm y)=rmB at*
  have hrB:∀z∈nm.take (i+1),InB (10^31) (rmB z):=fun z hz=>by rw [<-hrm];exact hrB z hz
  have hdn:∀rm':Str->Int,(∀z∈nm.take (i+1),InB (10^31) (rm' z))->Dn nm (i+1) es' W' (fun y=>if y=nmG nm i then x else wt y) wa' rm':=fun rm' h=>⟨by omega,hlo,wnd9,wsub9,hwB,wa9,h⟩
  clear elcA elA egA ewA erA enA smA ncr nnr hv hwt hrm tin zr hrA hgA
  refine r_cut (fun σ Hy=>∃(rm':Str->Int) (kr':List (Key × V)),σ=[some (.ref a),some (.int ni),some (.int sc),some (.ref ln),some (.ref le),some (.ref dg),some (.ref dw),some (.ref dr),some (.int ki),some (.ref lc),some (.int r2)]/\SameBut dr HB Hy/\Hy dr=some (.dK kr')/\AD kr' (qc0 (nm.take (i+1)) rm')/\∀z∈nm.take (i+1),InB (10^31) (rm' z)) ?_ ?_
  .walk_at "g"
   refine i_2 (fun c=>?_) (fun c=>?_)
   .walk_at "g"
    refine i_2 (fun c3=>?_) (fun c3=>?_)
    .have i1:i - 1 < es'.length:=by omega
     obtain⟨e,he⟩:∃e,es'[i - 1]?=some e:=⟨_,getElem?_eq_getElem i1⟩
     have hle:=hlo _ _ he
     have xe:atI (V.non :: es'.map iV) ki=some (iV e):=by
      have e1:ki=((i:Nat):Int):=by omega
      rw [e1]
      refine qc7 ?_
      obtain⟨b,rfl⟩:∃b,i=b+1:=⟨i - 1,by omega⟩
      rw [List.getElem?_cons_succ,getElem?_map]
      rw [Nat.add_sub_cancel] at he
      rw [he];rfl
     have hen:e < nm.length:=by omega
     have xne:atI (nm.map V.str) ((e:Nat):Int)=some (.str (nmG nm e)):=qc7 (by rw [getElem?_map,qda hen];rfl)
     have em:nmG nm e∈nm.take (i+1):=mem_of_getElem? (i:=e) (by rw [List.getElem?_take_of_lt (by omega)];exact qda hen)
     have im:nmG nm i∈nm.take (i+1):=by rw [etk];simp
     have gr:qc0 (nm.take (i+1)) rmB (nmG nm e)=some (rmB (nmG nm e)):=qbl em
     have hRr:Rd HB dr (.dK krB):=.inl erB
     clear he hle
     walk_at "g"
     refine qcr (SqL.of elB) xe ?_
     walk_at "g"
     refine qcr (SqL.of enB) xne ?_
     walk_at "g"
     refine qcr (SqL.of enB) xn ?_
     walk_at "g"
     refine⟨_,_,rfl,fun b u hb z=>by rw [qa6 hb];exact z,qa1,ad_again hrAB im,fun z hz=>?_⟩
     try dsimp only
     by_cases c4:z=nmG nm i
     .rw [if_pos c4];exact hrB _ em
     .rw [if_neg c4];exact hrB z hz
    .walk_at "g"
     exact⟨rmB,krB,rfl,fun b u _ z=>z,erB,hrAB,hrB⟩
   .walk_at "g"
    exact⟨rmB,krB,rfl,fun b u _ z=>z,erB,hrAB,hrB⟩
  rintro σ' HC ⟨rm',kr',rfl,sbC,erC,hrAC,rmC⟩
  exact⟨es',W',_,wa',rm',_,kw',kr',_,_,_,rfl,fun b u z=>sbC b u (fun y=>by subst y;rw [fdr] at z;cases z) (smB b u z),sbC _ _ nlr elB,sbC _ _ ngr egB,sbC _ _ nwr ewB,erC,hgA8,hwA9,hrAC,hdn rm' rmC⟩
 rintro σ H' ⟨es,W,wt,wa,rm,kg,kw,kr,w8,w9,w10,rfl,sm,el',eg',ew',er',hgA,hwA,hrA,hd⟩
 obtain⟨W0,pm,srt⟩:=sort_ex W
 subst hwl
 rw [take_length] at hgA hrA
 have ok:=hd.ok n1 n7 hwn hwg pm srt
 have en':=sm _ _ en3
 walk_at "g"
 rename_i p hp
 have sF:=qa7 hp (.lst [V.ref ln,V.ref le,V.ref dg,V.ref dw,V.ref dr])
 refine q p ln le dg dw dr nm es kg kw kr ⟨W0,lnD nm es,wt,wa,rm⟩ _ ((s3.trans sm).trans sF) ⟨qa1,sF _ _ en',sF _ _ el',sF _ _ eg',sF _ _ ew',sF _ _ er',hgA,hwA.cast fun z=>?_,hrA⟩ ok fun z hz=>hd.wt z (by rw [take_length];exact hz)
 unfold qc0
 by_cases c:z∈W
 .rw [if_pos c,if_pos (pm.mem_iff.mpr c)]
 .rw [if_neg c,if_neg fun h=>c (pm.mem_iff.mp h)]
def wgq (K:Frag) (d:Ad):Sp:=fun vs H Q _=>∃(a:Addr) (ns:List Int) (p ln le dg dw dr:Addr) (nm:List Str) (es:List Nat) (kg kw kr:List (Key × V)) (D:Dl),vs=[.ref a,.ref p]/\SqL K H a (ns.map V.int)/\ShAt H p ln le dg dw dr nm es kg kw kr D/\ShOk nm es D/\(∀z∈nm,1<=D.wt z/\D.wt z<=1000)/\
 ∀(t:Addr) (S:Ts) H',Same H H'->TrD d H' t S D->(∀n∈D.W0,∀e,S.at n=some e->e.x.w=D.wt n)->Q (.ref t) H'
set_option maxHeartbeats 9000000 in
include T in
theorem we8:FnOk P w K mg base CX0 20 d.we6 d.wb3 ["_law_script","_law_sharing_here"] (wgq K d):=by
 refine T.wem.ok w4l (fun vs H Q E h=>?_) (fun cdv A outer s H vs Q E hr h=>?_)
 .obtain⟨a,ns,p,ln,le,dg,dw,dr,nm,es,kg,kw,kr,D,rfl,_⟩:=h;rfl
 obtain⟨a,ns,p,ln,le,dg,dw,dr,nm,es,kg,kw,kr,D,rfl,hS,hA,ok,hw,q⟩:=h
 refine⟨_,(qa2 (qfa (pv 1) (qfc rfl (qao (qac (i:=2) w4l.nd rfl (Or.inl rfl)) (qao (qac (i:=3) w4l.nd rfl (Or.inl rfl)) (qao (qac (i:=4) w4l.nd rfl (Or.inl rfl)) (qao (qac (i:=5) w4l.nd rfl (Or.inl rfl)) (qao (qac (i:=6) w4l.nd rfl (Or.inl rfl)) qds)))))))
  (qa2 (qaf (i:=7) w4l.nd rfl (Or.inl rfl) (pe_makeX (W:=fun _ _ _ _=>False) T.w8c ((wah T).mono (by decide)) hr rfl T.wh8 T.wcj .nil xes_no (qa0 (qbr (qa0 (qah ((we4 T).mono (by decide)) hr rfl T.wg1 T.wek.kp T.wg8 .nil qaw (qa0 (qah ((w1u T).mono (by decide)) hr rfl T.w2p T.w20.kp T.w2v .nil qaw (qa0 (pv 0) (qa0 qa4 qa3))) (qa0 qa4 qa3))) qa3)) (qa0 (qai qan (pv 2) qa4 (fun _ _=>rfl)) (qa0 qb8 (qa0 qb8 (qa0 (qat (qau hr) (pv 4) (qai qan (pv 2) qa4 (fun _ _=>rfl)) (fun _ _=>rfl)) qa3)))))))
  (qa2 (qb5 PassesOwn.never rfl (pi_range2 rfl T.w4e (qa0 qa4 (qa0 (qae qbh rfl T.w51 PySem.boot_len (qa0 (pv 2) qa3)) qa3))) (qac (i:=8) w4l.nd rfl (Or.inl rfl)) (qa5 (qba (qaz (W:=fun _ _ _ _=>False) (pv 7) T.w02 T.w1r ((w9w T).mono (by decide)) hr T.wak .nil xes_no (qa0 (qai qan (pv 2) (pv 8) (fun _ _=>rfl)) (qa0 (qai qan (pv 2) (qai qan (pv 3) (pv 8) (fun _ _=>rfl)) (fun _ _=>rfl)) (qa0 qb8 (qa0 qb8 (qa0 (qat (qau hr) (pv 4) (qai qan (pv 2) (pv 8) (fun _ _=>rfl)) (fun _ _=>rfl)) qa3)))))))))
  (qa5 (qad (pv 7)))))),?_⟩
 walk_at "d"
 try dsimp only [cxC]
 refine qab (σ:=[some (.ref a),some (.ref p),none,none,none,none,none,none,none]) rfl ?_
 have ct:=T.w02
 have etop:=hA.top
 have en:=hA.n
 have l7:=ok.l7
 have len:=ok.len
 have low:=ok.low
 have n0:0 < nm.length:=by omega
 have ln7:(nm.map V.str).length=nm.length:=length_map _
 have xn:∀j,j < nm.length->atI (nm.map V.str) ((j:Nat):Int)=some (.str (nmG nm j)):=fun j hj=>qc7 (by rw [getElem?_map,qda hj];rfl)
 have hgA:=hA.gA
 walk_at "g"
 refine⟨a,ns,2,rfl,hS,by decide,?_⟩
 walk_at "g"
 refine⟨_,_,rfl,by decide,by decide,?_⟩
 have gz:=nmS_good (cell ns 2) 0
 generalize nmS (cell ns 2) 0=z0 at*
 walk_at "g"
 rename_i pw hpw
 refine qcr (SqL.of (qaa en hpw)) (xn 0 n0) ?_
 walk_at "g"
 rename_i p1 hp1 p2 hp2
 have s6:=(qa7 hpw (.lst [V.str z0])).trans ((qa7 hp1 (.dK [])).trans (qa7 hp2 (.dK [])))
 have ew6:upd (upd (upd H pw (.lst [V.str z0])) p1 (.dK [])) p2 (.dK []) pw=some (.lst [V.str z0]):=qaa (qaa qa1 hp1) hp2
 have ep1:upd (upd (upd H pw (.lst [V.str z0])) p1 (.dK [])) p2 (.dK []) p1=some (.dK []):=qaa qa1 hp2
 have ep2:upd (upd (upd H pw (.lst [V.str z0])) p1 (.dK [])) p2 (.dK []) p2=some (.dK []):=qa1
 generalize upd (upd (upd H pw (.lst [V.str z0])) p1 (.dK [])) p2 (.dK [])=H6 at*
 have hA6:=hA.same s6
 clear hpw hp1 hp2
 refine qcr (SqL.of hA6.n) (xn 0 n0) ?_
 have hRg:Rd H6 dg (.dK kg):=.inl hA6.g
 have gw0:qc0 nm D.wt (nmG nm 0)=some (D.wt (nmG nm 0)):=qbl (qcx n0)
 walk_at "g"
 intro x dx hx hdx ne
 have sN:Same H6 (upd (upd H6 dx (.own x)) x (.ins d.w01 dx [])):=(qa7 hdx _).trans (qa7 (by rw [qa6 ne.symm];exact hx) _)
 have ex7:upd (upd H6 dx (.own x)) x (.ins d.w01 dx []) x=some (.ins d.w01 dx []):=qa1
 generalize upd (upd H6 dx (.own x)) x (.ins d.w01 dx [])=H7 at*
 have fn:∀ws,Fin ws noF:=fun ws z n e=>by cases e
 have w0:=hw _ (qcx n0)
 refine⟨x,dx,pw,p1,p2,nmG nm 0, [z0], [], [],noF,noF,D.wt (nmG nm 0),rfl,ex7,sN _ _ ew6,⟨by show 1<=1;decide,by show 1<=6;decide,fun z hz=>by rw [mem_singleton.mp hz];exact gz,nodup_cons.mpr ⟨by simp,nodup_nil⟩⟩,ok.gd _ (qcx n0),sN _ _ ep1,AD.nil,by decide,sN _ _ ep2,AD.nil,by decide,fn _,fn _,w0.1,w0.2,fun y=>Int.le_refl _,fun S e H8 sb hT f1 f2 f3 f4 f5 ehl een ee ew efp efc hpm hso=>⟨rfl,?_⟩⟩
 have s8:Same H6 H8:=fun b u e=>sb b u (qa9 e hx) (sN b u e)
 have fhs:H6 S.hs=none:=sN.free f1
 have bt1:Bt S (nmG nm) (elN es) 1 (fun k=>D.wt (nmG nm k)):=Bt.one ehl een ee ew efp efc (by rw [hpm.length_eq];show 1<=6;decide)
 clear sb f1 f2 f3 f4 f5 ehl een ee ew efp efc hpm hso ex7 sN hx hdx ne e ew6 ep1 ep2 fn w0 hRg gw0 gz
 have en8:=s8 _ _ hA6.n
 walk_at "g"
 unfold iRng2
 walk_at "g"
 refine⟨1,((nm.map V.str).length:Int),rfl,?_,?_⟩
 .rw [ln7];omega
 rw [ln7,show (((nm.length:Nat):Int) - 1).toNat=nm.length - 1 by omega]
 have inj:∀i j,i < nm.length->j < nm.length->nmG nm i=nmG nm j->i=j:=fun i j hi hj e=>qfg ok.nd hi hj e
 refine qfp (n:=nm.length - 1) (fun i σ H'=>∃(S:Ts) (w8:Option V),σ=[some (.ref a),some (.ref p),some (.ref ln),some (.ref le),some (.ref dg),some (.ref dw),some (.ref dr),some (.ref x),w8]/\Same H6 H'/\H6 S.hs=none/\qen d H' x S/\Bt S (nmG nm) (elN es) (1+i) (fun k=>D.wt (nmG nm k))) ⟨S,none,rfl,s8,fhs,hT,bt1⟩ ?_ ?_
 .rintro i σ H' hi ⟨S,w8,rfl,s',fhs',hT',bt'⟩
  have hA':=hA6.same s'
  obtain⟨tx,ht⟩:=id hT'.1
  have hk:1+i < nm.length:=by omega
  have lk:=low (1+i) (by omega) hk
  have xe:atI (V.non :: es.map iV) (1+(i:Int))=some (iV (elN es (1+i))):=by
   have e1:(1+(i:Int))=((i+1:Nat):Int):=by omega
   have hb:i < es.length:=by omega
   rw [e1,Nat.add_comm 1 i,elN_at hb]
   exact qc7 (by rw [List.getElem?_cons_succ,getElem?_map,getElem?_eq_getElem hb];rfl)
  have xk:atI (nm.map V.str) (1+(i:Int))=some (.str (nmG nm (1+i))):=by
   have:=xn (1+i) hk
   rw [show (1+(i:Int))=((1+i:Nat):Int) by omega]
   exact this
  have xel:=xn (elN es (1+i)) (by omega)
  have wb:=hw _ (qcx hk)
  have gk:=ok.gd _ (qcx hk)
  have gw:qc0 nm D.wt (nmG nm (1+i))=some (D.wt (nmG nm (1+i))):=qbl (qcx hk)
  generalize (1+(i:Int))=ii at*
  walk_at "g"
  refine qcr (SqL.of hA'.n) xk ?_
  walk_at "g"
  refine qcr (SqL.of hA'.e) xe ?_
  walk_at "g"
  refine qcr (SqL.of hA'.n) xel ?_
  walk_at "g"
  rename_i q1 hq1 q2 hq2
  have s9:=(qa7 hq1 (.dK [])).trans (qa7 hq2 (.dK []))
  have eq1:upd (upd H' q1 (.dK [])) q2 (.dK []) q1=some (.dK []):=qaa qa1 hq2
  have eq2:upd (upd H' q1 (.dK [])) q2 (.dK []) q2=some (.dK []):=qa1
  generalize upd (upd H' q1 (.dK [])) q2 (.dK [])=H9 at*
  refine qcr (SqL.of (s9 _ _ hA'.n)) xk ?_
  have hRg:Rd H9 dg (.dK kg):=.inl (s9 _ _ hA'.g)
  walk_at "g"
  refine Bt.found (nm:=nmG nm) (el:=elN es) (wt:=fun k=>D.wt (nmG nm k)) (k:=1+i) bt' (hT'.same s9) (by omega) (by omega) (fun i' j' a b=>inj i' j' (by omega) (by omega)) lk gk eq1 eq2 wb.1 wb.2 fun e2 H10 sb hT2 bt2=>?_
  walk_at "g"
  exact⟨{S with hl:=S.hl++ [e2]},_,rfl,fun b u e=>sb b u (fun z=>by subst z;rw [fhs'] at e;cases e) (s9 _ _ (s' _ _ e)),fhs',hT2,bt2⟩
 rintro σ H9 ⟨S,w8,rfl,s',fhs',hT',bt'⟩
 rw [show 1+(nm.length - 1)=nm.length by omega] at bt'
 walk_at "g"
 have all:∀n∈D.W0,∃e,S.at n=some e/\e.x.w=D.wt n/\LineOf S n (D.ln n):=fun n hn=>by
  obtain⟨k,hk,e⟩:=mem_iff_getElem.mp (ok.sub n hn)
  have e2:nmG nm k=n:=by unfold nmG;rw [getElem?_eq_getElem hk,e];rfl
  obtain⟨e,h1,h2,h3⟩:=bt'.pl.at (k:=k) hk
  have hl:=bt'.pl.line k hk
  rw [<-ok.ln k hk] at hl
  rw [e2] at h1 hl
  exact⟨e,h1,by rw [bt'.w k e h2,e2],hl⟩
 refine q x S H9 (s6.trans s') ⟨hT',fun n hn=>?_⟩ fun n hn e he=>?_
 .obtain⟨e,h1,_,h3⟩:=all n hn
  exact⟨e,h1,trivial,h3⟩
 .obtain⟨e',h1,h2,_⟩:=all n hn
  rw [he] at h1
  cases h1
  exact h2
def qfv (H H':Hp):Prop:=∀b u,(∀ps,u≠HO.tbl ps)->H b=some u->H' b=some u
theorem Same.sn {H H':Hp} (s:Same H H'):qfv H H':=fun b u _ e=>s b u e
theorem qfv.trans {H H' H'':Hp} (s:qfv H H') (s':qfv H' H''):qfv H H'':=fun b u n e=>s' b u n (s b u n e)
theorem ShAt.sn {H H':Hp} {p ln le dg dw dr:Addr} {nm:List Str} {es:List Nat} {kg kw kr:List (Key × V)} {D:Dl} (h:ShAt H p ln le dg dw dr nm es kg kw kr D) (s:qfv H H'):ShAt H' p ln le dg dw dr nm es kg kw kr D:=
 ⟨s _ _ (fun ps e=>by cases e) h.top,s _ _ (fun ps e=>by cases e) h.n,s _ _ (fun ps e=>by cases e) h.e,s _ _ (fun ps e=>by cases e) h.g,s _ _ (fun ps e=>by cases e) h.w,s _ _ (fun ps e=>by cases e) h.r,h.gA,h.wA,h.rA⟩
theorem HoAt.sn {d:Ad} {H H':Hp} {a:Addr} {x:Ho} (h:HoAt d H a x) (s:qfv H H'):HoAt d H' a x:=⟨let ⟨dx,e⟩:=h.1;⟨dx,s _ _ (fun ps e=>by cases e) e⟩,s _ _ (fun ps e=>by cases e) h.2.1,h.2.2.1,s _ _ (fun ps e=>by cases e) h.2.2.2.1,h.2.2.2.2⟩
theorem qen.sn {d:Ad} {H H':Hp} {t:Addr} {S:Ts} (h:qen d H t S) (s:qfv H H'):qen d H' t S:=
 ⟨let ⟨dx,e⟩:=h.1;⟨dx,s _ _ (fun ps e=>by cases e) e⟩,s _ _ (fun ps e=>by cases e) h.2.1,s _ _ (fun ps e=>by cases e) h.2.2.1,h.2.2.2.1,h.2.2.2.2.1,fun e he=>(h.2.2.2.2.2 e he).sn s⟩
def wfl (K:Frag) (d:Ad) (tp:Addr):Sp:=fun vs H Q _=>∃(a:Addr) (ns:List Int) (p ln le dg dw dr:Addr) (nm:List Str) (es:List Nat) (kg kw kr:List (Key × V)) (D:Dl),vs=[.ref a,.ref p]/\SqL K H a (ns.map V.int)/\ShAt H p ln le dg dw dr nm es kg kw kr D/\ShOk nm es D/\(∀z∈nm,1<=D.wt z/\D.wt z<=1000)/\H tp=some (.tbl #[])/\
 ∀(l t:Addr) (wv:V) (S:Ts) H',qfv H H'->H l=none->H' l=some (.lst [.ref t,wv])->TrD d H' t S D->Wgh H' S D wv->Q (.ref l) H'
theorem dom_step {W:List Str} {g:Str->Int} {i:Nat} {n:Str} (hn:W[i]?=some n) (z:Str):putF' (qc0 (W.take i) g) n (g n) z=qc0 (W.take (i+1)) g z:=by
 rw [qeb]
 unfold qc0
 have tk:z∈W.take (i+1)↔z∈W.take i\/z=n:=qam hn z
 by_cases c:z=n
 .rw [if_pos c,if_pos (tk.mpr (.inr c)),c]
 .rw [if_neg c]
  by_cases c2:z∈W.take i
  .rw [if_pos c2,if_pos (tk.mpr (.inl c2))]
  .rw [if_neg c2,if_neg fun h=>(tk.mp h).elim c2 c]
theorem wff {P:Program} {w:World} {K:Frag} {mg:Str->Option Value} {base:Heap} {d:Ad} (T:Tx K mg d) {tp:Addr} (hwg:FnOk P w K mg base CX0 2 d.w5r d.w4y ["_law_table"] (w6r tp)):FnOk P w K mg base CX0 24 d.wbj d.w91 ["_law_script","_law_sharing_here"] (wfl K d tp):=by
 refine T.wej.ok w1z (fun vs H Q E h=>?_) (fun cdv A outer s H vs Q E hr h=>?_)
 .obtain⟨a,ns,p,ln,le,dg,dw,dr,nm,es,kg,kw,kr,D,rfl,_⟩:=h;rfl
 obtain⟨a,ns,p,ln,le,dg,dw,dr,nm,es,kg,kw,kr,D,rfl,hS,hA,ok,hw,htp,q⟩:=h
 refine⟨_,(qa2 (qfa (pv 1) (qfc rfl (qao (qac (i:=2) w1z.nd rfl (Or.inl rfl)) (qao (qac (i:=3) w1z.nd rfl (Or.inl rfl)) (qao (qac (i:=4) w1z.nd rfl (Or.inl rfl)) (qao (qac (i:=5) w1z.nd rfl (Or.inl rfl)) (qao (qac (i:=6) w1z.nd rfl (Or.inl rfl)) qds)))))))
  (qa2 (qbb (qal qe5 (qag qb9 (qag qbg (qah ((w1u T).mono (by decide)) hr rfl T.w2p T.w20.kp T.w2v .nil qaw (qa0 (pv 0) (qa0 qa4 qa3))) qa4) qa4) qa4 (qas _)) (qa5 (qad (qbr (qa0 (qah ((we8 T).mono (by decide)) hr rfl T.wgb T.wem.kp T.wga .nil qaw (qa0 (pv 0) (qa0 (pv 1) qa3))) (qa0 qe3 qa3))))) qaq)
  (qa2 (qaf (i:=7) w1z.nd rfl (Or.inl rfl) qb8)
  (qa2 (qb5 PassesOwn.never rfl (qb0 (pv 2)) (qac (i:=8) w1z.nd rfl (Or.inl rfl)) (qa5 (qbp (qau hr) (pv 7) (pv 8) (qag qby qa4 (qag qb9 (qat (qau hr) (pv 4) (pv 8) (fun _ _=>rfl)) qa4)) rfl)))
  (qa2 (qaf (i:=9) w1z.nd rfl (Or.inl rfl) qb8)
  (qa2 (qdn (qb5 PassesOwn.never rfl (qch (pv 5)) (qac (i:=8) w1z.nd rfl (Or.inl rfl)) (qa5 (qbp (qau hr) (pv 9) (pv 8) (qat (qau hr) (pv 4) (pv 8) (fun _ _=>rfl)) rfl))))
  (qa5 (qad (qbr (qa0 (qah ((we8 T).mono (by decide)) hr rfl T.wgb T.wem.kp T.wga .nil qaw (qa0 (pv 0) (qa0 (qbr (qa0 (pv 2) (qa0 (pv 3) (qa0 (pv 7) (qa0 (pv 5) (qa0 (pv 6) qa3)))))) qa3))) (qa0 (qah (hwg.mono (by decide)) hr rfl T.wam T.w9y.kp T.wdz .nil qaw (qa0 (pv 9) qa3)) qa3))))))))))),?_⟩
 walk_at "d"
 refine qab (σ:=[some (.ref a),some (.ref p),none,none,none,none,none,none,none,none]) rfl ?_
 have etop:=hA.top
 walk_at "g"
 refine⟨a,ns,0,rfl,hS,by decide,?_⟩
 walk_at "g"
 by_cases c:(cell ns 0).fdiv 7%2=0
 .rw [if_pos (decide_eq_true c)]
  walk_at "g"
  refine⟨a,ns,p,ln,le,dg,dw,dr,nm,es,kg,kw,kr,D,rfl,hS,hA,ok,hw,fun t S H1 s1 hT hwt=>?_⟩
  walk_at "g"
  rename_i l hl
  exact q l t .non S _ (Same.sn (s1.trans (qa7 hl _))) (s1.free hl) qa1 (hT.same (qa7 hl _)) (.inl ⟨rfl,hwt⟩)
 .rw [if_neg (by simpa using c)]
  have en:=hA.n
  have len:=ok.len
  have l7:=ok.l7
  walk_at "g"
  rename_i lo hlo
  have s1:=qa7 hlo (.dK [])
  have elo:upd H lo (.dK []) lo=some (.dK []):=qa1
  generalize upd H lo (.dK [])=H1 at*
  refine qcc (xs:=nm.map V.str) (fun i σ H'=>∃(k':List (Key × V)) (w:Option V),σ=[some (.ref a),some (.ref p),some (.ref ln),some (.ref le),some (.ref dg),some (.ref dw),some (.ref dr),some (.ref lo),w,none]/\Same H H'/\H' lo=some (.dK k')/\AD k' (qc0 (nm.take i) fun z=>1+D.wt z%7)/\k'.length<=i) ⟨[],none,rfl,s1,elo,AD.nil.cast fun z=>rfl,Nat.le_refl _⟩ ?_ ?_ ?_
  .rintro i σ H' _ ⟨k',w,rfl,sm,_⟩;exact SqL.of (sm _ _ en)
  .rintro i v σ H' hv ⟨k',w,rfl,sm,ed,hK,hk⟩
   rw [getElem?_map] at hv
   obtain⟨n,hn,rfl⟩:=Option.map_eq_some_iff.mp hv
   have hi:=(List.getElem?_eq_some_iff.mp hn).1
   have hn0:=mem_of_getElem? hn
   have hRg:Rd H' dg (.dK kg):=.inl (sm _ _ hA.g)
   have hgA:=hA.gA
   have gw:qc0 nm D.wt n=some (D.wt n):=qbl hn0
   have zk:k'.length < sizeLine:=by show _ < 16777216;omega
   clear hv
   walk_at "g"
   have lput:=qax k' (Sum.inr n) (.int (1+D.wt n%7))
   refine⟨_,_,rfl,qb4 sm hlo,qa1,(hK.put n _).cast fun z=>?_,by omega⟩
   exact dom_step hn z
  rintro σ H2 ⟨ko,w,rfl,s2,ed,hK,hk⟩
  rw [length_map,take_length] at hK
  walk_at "g"
  rename_i tb htb
  have s3:=s2.trans (qa7 htb (.dK []))
  have etb:upd H2 tb (.dK []) tb=some (.dK []):=qa1
  have ed3:=qaa (o':=.dK []) ed htb
  have htb0:H tb=none:=s2.free htb
  have nob:lo≠tb:=fun e=>by subst e;rw [ed] at htb;cases htb
  generalize upd H2 tb (.dK [])=H3 at*
  have hA3:=hA.same s3
  have hw3:=hA3.w
  have nwb:tb≠dw:=(qa9 hA.w htb0).symm
  have nwo:lo≠dw:=(qa9 hA.w hlo).symm
  refine qf5 hw3 fun o=>?_
  refine qdp (fun i σ H'=>∃(kt:List (Key × V)) (w:Option V),σ=[some (.ref a),some (.ref p),some (.ref ln),some (.ref le),some (.ref dg),some (.ref dw),some (.ref dr),some (.ref lo),w,some (.ref tb)]/\Sb2 dw tb H3 H'/\H' dw=some (.frz o (.dK kw))/\H' tb=some (.dK kt)/\AD kt (qc0 ((qbq kw).take i) D.wt)/\kt.length<=i)
   ⟨[],_,rfl,fun b u n1 _ e=>by rw [qa6 n1];exact e,qa1,by rw [qa6 nwb];exact etb,AD.nil.cast fun z=>rfl,Nat.le_refl _⟩ ?_ ?_ ?_
  .rintro i σ H' _ ⟨kt,w,rfl,sb,fz,_⟩;exact fz
  .rintro i k v σ H' hk ⟨kt,w,rfl,sb,fz,el,hF,hlen⟩
   obtain⟨z,n,rfl,rfl,hf,hzi⟩:=hA.wA.at hk
   have hi:i < kw.length:=(List.getElem?_eq_some_iff.mp hk).1
   have hz:z∈D.W0:=qc9.mp (by rw [hf];simp)
   have hzn:=ok.sub z hz
   have gw:qc0 nm D.wt z=some (D.wt z):=qbl hzn
   have hgA:=hA.gA
   have hRg:Rd H' dg (.dK kg):=by
    by_cases e:dg=dw
    .have e1:=hA.g
     rw [e,hA.w] at e1
     cases e1
     rw [e]
     exact .inr ⟨o,fz⟩
    .exact .inl (sb _ _ e (qa9 hA.g htb0) hA3.g)
   have kl7:kw.length<=7:=by
    have:=(qdx hA.wA ok.ok.nd).length_eq
    rw [hA.wA.klen] at this
    have:=ok.ok.l8
    omega
   have zl:kt.length < sizeLine:=by show _ < 16777216;omega
   show qdv _ (.str z) _ _ _
   walk_at "g"
   have lput:=qax kt (Sum.inr z) (.int (D.wt z))
   refine⟨_,_,rfl,fun b u n1 n2 e=>by rw [qa6 n2];exact sb b u n1 n2 e,by rw [qa6 nwb.symm];exact fz,qa1,(hF.put z _).cast fun y=>?_,by omega⟩
   exact dom_step hzi y
  rintro σ H' ⟨kt,w,rfl,sb,fz,el,hF,hlen⟩
  refine qdm (qez fz (qc8 hA.w)) ?_
  rw [<-hA.wA.klen,take_length] at hF
  have s4:Same H (upd H' dw (.dK kw)):=fun b u e=>by
   by_cases c:b=dw
   .subst c;rw [qa1,<-hA.w];exact e
   .rw [qa6 c];exact sb b u c (qa9 e htb0) (s3 b u e)
  have etb4:upd H' dw (.dK kw) tb=some (.dK kt):=by rw [qa6 nwb];exact el
  have ed4:upd H' dw (.dK kw) lo=some (.dK ko):=by rw [qa6 nwo];exact sb _ _ nwo nob ed3
  have hT4:AD kt (qc0 D.W0 D.wt):=hF.cast fun z=>by
   have kp:=qdx hA.wA ok.ok.nd
   unfold qc0
   by_cases c:z∈D.W0
   .rw [if_pos c,if_pos (kp.mem_iff.mpr c)]
   .rw [if_neg c,if_neg fun h=>c (kp.mem_iff.mp h)]
  generalize upd H' dw (.dK kw)=H4 at*
  walk_at "g"
  rename_i p2 hp2
  have s5:=s4.trans (qa7 hp2 (.lst [V.ref ln,V.ref le,V.ref lo,V.ref dw,V.ref dr]))
  have ep2:upd H4 p2 (.lst [V.ref ln,V.ref le,V.ref lo,V.ref dw,V.ref dr]) p2=some (.lst [V.ref ln,V.ref le,V.ref lo,V.ref dw,V.ref dr]):=qa1
  have etb5:=qaa (o':=.lst [V.ref ln,V.ref le,V.ref lo,V.ref dw,V.ref dr]) etb4 hp2
  have ed5:=qaa (o':=.lst [V.ref ln,V.ref le,V.ref lo,V.ref dw,V.ref dr]) ed4 hp2
  generalize upd H4 p2 (.lst [V.ref ln,V.ref le,V.ref lo,V.ref dw,V.ref dr])=H5 at*
  have hA5:=hA.same s5
  have hw7:∀z,1<=1+D.wt z%7/\1+D.wt z%7<=1000:=fun z=>by omega
  have ok':ShOk nm es {D with wt:=fun z=>1+D.wt z%7}:=⟨ok.nd,ok.gd,ok.len,ok.l7,ok.lo,ok.sub,ok.ln,⟨ok.ok.nd,fun n _=>(hw7 n).1,fun n _=>(hw7 n).2,ok.ok.a0,ok.ok.a1,ok.ok.r0,ok.ok.r1,ok.ok.l0,ok.ok.ld,ok.ok.lz,ok.ok.l8⟩,ok.srt⟩
  refine⟨a,ns,p2,ln,le,lo,dw,dr,nm,es,ko,kw,kr,{D with wt:=fun z=>1+D.wt z%7},rfl,s5.seq hS,⟨ep2,hA5.n,hA5.e,ed5,hA5.w,hA5.r,hK,hA5.wA,hA5.rA⟩,ok',fun z _=>hw7 z,fun t S H6 s6 hT _=>?_⟩
  have s06:=s5.trans s6
  have htp6:=s06 _ _ htp
  have etb6:=s6 _ _ etb5
  clear ok' hA5 ed5 ep2 s5 s6 etb5 etb4 ed4 hp2 s4 fz el sb hF
  walk_at "g"
  refine⟨.ref tb,rfl,htp6,fun more g cd cl hg hcd hcl n1 n2 n3=>?_⟩
  have old:∀b u,(∀ps,u≠HO.tbl ps)->H6 b=some u->made H6 tp g cd cl more (.ref tb) "_law_weigh_by" qw (qbd in_w) bdw (qa8 in_w) "_law_table" b=some u:=fun b u nt e=>by
   rw [qde (fun z=>by subst z;rw [htp6] at e;exact nt _ (Option.some.inj e).symm) (fun z=>by subst z;rw [hcl] at e;cases e) (fun z=>by subst z;rw [hcd] at e;cases e) (fun z=>by subst z;rw [hg] at e;cases e)]
   exact e
  have wg:WgH (made H6 tp g cd cl more (.ref tb) "_law_weigh_by" qw (qbd in_w) bdw (qa8 in_w) "_law_table") g tb:=by
   refine⟨cl,cd,?_,?_,?_⟩
   .unfold made;rw [qa1]
   .unfold made;rw [qa6 n3.symm,qa1]
   .unfold made;rw [qa6 n2.symm,qa6 n1.symm,qa1]
  have free:∀l,made H6 tp g cd cl more (.ref tb) "_law_weigh_by" qw (qbd in_w) bdw (qa8 in_w) "_law_table" l=none->H6 l=none:=fun l e=>by
   cases c:H6 l with
   |none=>rfl
   |some u=>
    by_cases z:l=tp
    .subst z
     unfold made at e
     rw [qa6 (fun z=>by subst z;rw [hg] at c;cases c),qa6 (fun z=>by subst z;rw [hcd] at c;cases c),qa6 (fun z=>by subst z;rw [hcl] at c;cases c),qa1] at e
     cases e
    .rw [qde z (fun z=>by subst z;rw [hcl] at c;cases c) (fun z=>by subst z;rw [hcd] at c;cases c) (fun z=>by subst z;rw [hg] at c;cases c),c] at e
     cases e
  have etb7:=old _ _ (fun ps e=>by cases e) etb6
  have hT7:qen d (made H6 tp g cd cl more (.ref tb) "_law_weigh_by" qw (qbd in_w) bdw (qa8 in_w) "_law_table") t S:=hT.tr.sn old
  generalize made H6 tp g cd cl more (.ref tb) "_law_weigh_by" qw (qbd in_w) bdw (qa8 in_w) "_law_table" =H7 at*
  walk_at "g"
  rename_i l hl
  have s8:=qa7 hl (.lst [V.ref t,V.ref g])
  refine q l t (.ref g) S _ (qfv.trans (qfv.trans (Same.sn s06) old) (Same.sn s8)) (s06.free (free l hl)) qa1 ⟨hT7.same s8,hT.ln⟩ (.inr ⟨g,tb,kt,rfl,?_,s8 _ _ etb7,hT4⟩)
  obtain⟨cl,cd,w1,w2,w3⟩:=wg
  exact⟨cl,cd,s8 _ _ w1,s8 _ _ w2,s8 _ _ w3⟩
theorem deq_tup {K:Frag} {H:Hp} {n:Nat} {a b:Addr} {xs ys:List V} (ha:SqT K H a xs) (hb:SqT K H b ys) (ne:a≠b) (h:DEqs K H n xs ys):DEq K H (n+1) (.ref a) (.ref b) true:=by
 have z:=DEq.ts (n:=n) (e:=fun _=>true) ha hb ne h.get
 have e:((List.range (min xs.length ys.length)).all (fun _=>true) && xs.length==ys.length)=true:=by rw [h.len];simp
 rw [e] at z
 exact z
theorem deq_ad {K:Frag} {H:Hp} {n:Nat} {a b:Addr} {ka kb:List (Key × V)} {f:Str->Option Int} (ha:H a=some (.dK ka)) (hb:H b=some (.dK kb)) (ne:a≠b) (A:AD ka f) (B:AD kb f):DEq K H (n+1) (.ref a) (.ref b) true:=by
 have z:=DEq.dd (K:=K) (n:=n) (.inl ha) (.inl hb) ne A.flat B.flat
 rw [A.eq B] at z
 exact z
theorem deq_int1 {K:Frag} {H:Hp} {n:Nat} (x:Int):DEq K H n (.int x) (.int x) true:=by
 have w:=DEq.flat (K:=K) (H:=H) (n:=n) (x:=.int x) (y:=.int x) rfl rfl
 have e:eqV (.int x) (.int x)=true:=by simp [eqV]
 rw [e] at w
 exact w
theorem deq_rnds {K:Frag} {H:Hp}:∀{rs rs':List Rnd},rs.map lvN=rs'.map lvN->(∀r∈rs,RndAt H r)->(∀r∈rs',RndAt H r)->DEqs K H 2 (rs.map fun r=>V.ref r.a) (rs'.map fun r=>V.ref r.a)
 | [], [],_,_,_=>trivial
 | [],_ :: _,e,_,_=>by cases e
 |_ :: _, [],e,_,_=>by cases e
 |r :: rs,r' :: rs',e,h,h'=>by
  rw [map_cons,map_cons] at e
  injection e with e1 e2
  unfold lvN at e1
  injection e1 with eL en
  refine⟨?_,deq_rnds e2 (fun x hx=>h x (mem_cons_of_mem _ hx)) fun x hx=>h' x (mem_cons_of_mem _ hx)⟩
  have a:=h r (mem_cons_self ..)
  have b:=h' r' (mem_cons_self ..)
  show DEq K H 2 (.ref r.a) (.ref r'.a) true
  by_cases c:r.a=r'.a
  .rw [c];exact .same
  .refine deq_tup (n:=1) (SqT.of a.t) (SqT.of b.t) c ⟨?_,?_,trivial⟩
   .by_cases c2:r.la=r'.la
    .rw [c2];exact .same
    .have bl:=b.l
     rw [<-eL] at bl
     exact deq_tup (n:=0) (SqT.of a.l) (SqT.of bl) c2 ⟨deq_int1 _,deq_int1 _,trivial⟩
   .by_cases c2:r.ln=r'.ln
    .rw [c2];exact .same
    .have bn:=b.n
     rw [<-en] at bn
     exact qdj (n:=0) (SqL.of a.n) (SqL.of bn) c2 (qe9 _)
theorem r_callXd {sp:Sp} {dvs:List V} {W:L2.St->XK} {t:TA} {σ:L2.St} {H:Hp} {Q:VK} (h:t σ H fun vs H1=>sp (vs++dvs) H1 Q (W σ)):tCallX sp dvs W t σ H Q:=h
theorem stR_len (D:Dl) (rs:List Rnd):(stR D rs).1.length<=D.W0.length:=by
 have key:∀(rs:List Rnd) (p:List Str × (Str->Rat)),(rs.foldl (fun p r=>(wls p.1 r.ns,lfN D p.2 r.L r.ns)) p).1.length<=p.1.length:=fun rs=>by
  induction rs with
  |nil=>exact fun p=>Nat.le_refl _
  |cons r rs ih=>
   intro p
   rw [List.foldl_cons]
   exact Nat.le_trans (ih _) (length_filter_le _ _)
 exact key rs _
def sp_law0 (K:Frag) (tp:Addr):Sp:=fun vs H Q _=>∃(a:Addr) (ns:List Int),vs=[.ref a]/\SqL K H a (ns.map V.int)/\ns.length<=63/\H tp=some (.tbl #[])/\∀H',Q (.bl true) H'
set_option maxHeartbeats 9000000 in
theorem ok_law {P:Program} {w:World} {K:Frag} {mg:Str->Option Value} {base:Heap} {d:Ad} (T:Tx K mg d) {tp:Addr} (hwg:FnOk P w K mg base CX0 2 d.w5r d.w4y ["_law_table"] (w6r tp)):FnOk P w K mg base CX0 25 d.wcg d.wax ["_law_script"] (sp_law0 K tp):=by
 refine T.whi.ok w61 (fun vs H Q E h=>?_) (fun cdv A outer s H vs Q E hr h=>?_)
 .obtain⟨a,ns,rfl,_⟩:=h;rfl
 obtain⟨a,ns,rfl,hS,hn,htp,q⟩:=h
 refine⟨_,(qa2 (qaf (i:=1) w61.nd rfl (Or.inl rfl) (qah ((wd4 T).mono (by decide)) hr rfl T.we9 T.wa0.kp T.wdx .nil qaw (qa0 (pv 0) (qa0 (qag qby qa4 (qag qb9 (qah ((w1u T).mono (by decide)) hr rfl T.w2p T.w20.kp T.w2v .nil qaw (qa0 (pv 0) (qa0 qa4 qa3))) qa4)) qa3))))
  (qa2 (qfa (qah ((wff T hwg).mono (by decide)) hr rfl T.wgf T.wej.kp T.wh4 .nil qaw (qa0 (pv 0) (qa0 (pv 1) qa3))) (qfc rfl (qao (qac (i:=2) w61.nd rfl (Or.inl rfl)) (qao (qac (i:=3) w61.nd rfl (Or.inl rfl)) qds))))
  (qa2 (qaf (i:=4) w61.nd rfl (Or.inl rfl) (qbr (qa0 (qca qeh rfl T.wcw PyProof.Rows.boot_dict (qa0 (qai qan (pv 1) qa4 (fun _ _=>rfl)) qa3)) (qa0 (qca qeh rfl T.wcw PyProof.Rows.boot_dict (qa0 (qai qan (pv 1) qa4 (fun _ _=>rfl)) qa3)) qa3))))
  (qa2 (qd6 (qbb (qal op_isNN (pv 3) qe3 (qas _)) (qa5 (qaf (i:=5) w61.nd rfl (Or.inl rfl) (qav (W:=fun _ _ _ _=>False) ((w8h T).mono (by decide)) hr rfl T.w9g T.w7m.kp T.wdq T.wf1 xes_no (qa0 (pv 2) (qa0 (qai qan (pv 4) qa4 (fun _ _=>rfl)) (qa0 (qai qan (pv 4) qa4 (fun _ _=>rfl)) qa3)))))) (qa5 (qaf (i:=5) w61.nd rfl (Or.inl rfl) (qav (W:=fun _ _ _ _=>False) ((w8h T).mono (by decide)) hr rfl T.w9g T.w7m.kp T.wcm .nil xes_no (qa0 (pv 2) (qa0 (qai qan (pv 4) qa4 (fun _ _=>rfl)) (qa0 (qai qan (pv 4) qa4 (fun _ _=>rfl)) (qa0 (pv 3) qa3)))))))))
  (qa2 (qbb (PW.pt (qe0 (qbx (qbn (qae qbf rfl T.w08 PyProof.Rows.boot_isinstance (qa0 (pv 5) (qa0 (qc5 (v:=.ty "list") rfl T.wb2 PyProof.Rows.boot_list rfl) qa3))))) (qe0 (qal (op_neD (hu8 hr)) (pv 4) (qbr (qa0 (qai qan (pv 1) qa4 (fun _ _=>rfl)) (qa0 (qai qan (pv 1) qa4 (fun _ _=>rfl)) qa3))) (qas _)) (qf8 (qbx (qbn (qah ((wew T).mono (by decide)) hr rfl T.wf7 T.wcv.kp T.wfd .nil qaw (qa0 (pv 1) (qa0 (pv 5) qa3))))))))) (qa5 (qad qfe)) qaq)
  (qa2 (ps_comp (j:=6) (caps:=[]) (cn:=[]) (qc6 rfl rfl (by rfl) (by rfl) rfl trivial (by rfl) rfl trivial (by decide)) rfl w61.nd rfl rfl (qb0 (pv 5)) (fun _ _ _ _=>qej) (fun _ _ _ _=>(qdo (qa0 (qai qak (pv 0) qa4 (fun _ _=>rfl)) (qa0 (qca call_listR rfl T.wb2 PyProof.Rows.boot_list (qa0 (qai qak (pv 0) qa4 (fun _ _=>rfl)) qa3)) qa3)))))
  (qa2 (qb5 PassesOwn.never rfl (qb0 (pv 5)) (qac (i:=7) w61.nd rfl (Or.inl rfl)) (qa5 (qba (qgb PySem.F.plainAttrs_list PySem.F.slot_list_append PySem.F.type_list_append qbs (qai qak (pv 7) qa4 (fun _ _=>rfl)) (qa0 qcm qa3)))))
  (qa2 (qba (pe_bm0 PySem.F.plainAttrs_list PySem.F.slot_list_clear PySem.F.type_list_clear mt_clear (pv 5)))
  (qa5 (qad (qcd (op_eqD (hu8 hr)) (qav (W:=fun _ _ _ _=>False) ((w8h T).mono (by decide)) hr rfl T.w9g T.w7m.kp T.wcm .nil xes_no (qa0 (pv 2) (qa0 (qai qan (pv 4) qa4 (fun _ _=>rfl)) (qa0 (qai qan (pv 4) qa4 (fun _ _=>rfl)) (qa0 (pv 3) qa3))))) (pv 6) (qas _)))))))))))),?_⟩
 walk_at "d"
 try dsimp only [cxC]
 refine qab (σ:=[some (.ref a),none,none,none,none,none,none,none]) rfl ?_
 walk_at "g"
 refine⟨a,ns,0,rfl,hS,by decide,?_⟩
 walk_at "g"
 have c0:=Int.emod_nonneg (cell ns 0) (show (7:Int)≠0 by decide)
 have c1:=Int.emod_lt_of_pos (cell ns 0) (show (0:Int) < 7 by decide)
 obtain⟨n,hn'⟩:∃n:Nat,1+cell ns 0%7=(n:Int):=⟨(1+cell ns 0%7).toNat,by omega⟩
 have n1:1<=n:=by omega
 have n7:n<=7:=by omega
 rw [hn']
 clear hn' c0 c1
 refine⟨a,ns,n,rfl,hS,n1,n7,fun p ln le dg dw dr nm es kg kw kr D H1 s1 hA ok hw=>?_⟩
 have l7:=ok.l7
 walk_at "g"
 refine⟨a,ns,p,ln,le,dg,dw,dr,nm,es,kg,kw,kr,D,rfl,s1.seq hS,hA,ok,hw,s1 _ _ htp,fun l t wv S H2 sN fl el hT hW=>?_⟩
 have hA2:=hA.sn sN
 have etop:=hA2.top
 have hRr:Rd H2 dr (.dK kr):=.inl hA2.r
 have hRw:Rd H2 dw (.dK kw):=.inl hA2.w
 clear hA s1 fl sN hw htp hS hn n1 n7
 walk_at "g"
 rename_i k1 hk1 k2 hk2 ph hph
 have s3:=((qa7 hk1 (.dK kr)).trans (qa7 hk2 (.dK kw))).trans (qa7 hph (.lst [V.ref k1,V.ref k2]))
 have ek1:upd (upd (upd H2 k1 (.dK kr)) k2 (.dK kw)) ph (.lst [V.ref k1,V.ref k2]) k1=some (.dK kr):=qaa (qaa qa1 hk2) hph
 have ek2:upd (upd (upd H2 k1 (.dK kr)) k2 (.dK kw)) ph (.lst [V.ref k1,V.ref k2]) k2=some (.dK kw):=qaa qa1 hph
 have eph:upd (upd (upd H2 k1 (.dK kr)) k2 (.dK kw)) ph (.lst [V.ref k1,V.ref k2]) ph=some (.lst [V.ref k1,V.ref k2]):=qa1
 have nk1:k1≠dr:=(qa9 hA2.r hk1).symm
 have nk2:k2≠dw:=fun z=>by
  subst z
  have:=qa7 hk1 (.dK kr) _ _ hA2.w
  rw [this] at hk2;cases hk2
 generalize upd (upd (upd H2 k1 (.dK kr)) k2 (.dK kw)) ph (.lst [V.ref k1,V.ref k2])=H3 at*
 have hA3:=hA2.same s3
 have hT3:=hT.same s3
 have hW3:=hW.same s3
 clear hRr hRw hk1 hk2 hph s3 hA2 hT hW etop el
 have call:∀{H':Hp} {Q:VK} {E:XK},Same H3 H'->(∀(lt:Addr) (rs:List Rnd) (lf lv:Str->Rat) (M:Rat) (N:Nat) H'',Same H' H''->H' lt=none->H'' lt=some (.lst (rs.map fun r=>V.ref r.a))->(∀r∈rs,RndAt H'' r/\H' r.ln=none)->RdI D [] lf lv M N->RdsOk D [] lv N rs->RdT D [] lf rs->Q (.ref lt) H'')->wan K d [.ref t,.ref k1,.ref k2,wv] H' Q E:=fun {H' Q E} sm h=>⟨t,k1,k2,wv,S,D,nm,kr,kw,rfl,ok.ok,ok.srt,hT3.same sm,hW3.same sm,sm _ _ ek1,hA3.rA,ok.nd,by omega,sm _ _ ek2,hA3.wA,ok.hs,h⟩
 refine r_cut (fun σ H'=>∃(lt:Addr) (rs:List Rnd) (lf lv:Str->Rat) (N:Nat),σ=[some (.ref a),some (.ref p),some (.ref t),some wv,some (.ref ph),some (.ref lt),none,none]/\Same H3 H'/\H3 lt=none/\H' lt=some (.lst (rs.map fun r=>V.ref r.a))/\(∀r∈rs,RndAt H' r/\H3 r.ln=none)/\RdsOk D [] lv N rs/\RdT D [] lf rs) ?_ ?_
 .have hWx:=hW3
  rcases hWx with ⟨rfl,_⟩ |⟨g,tb,kt,rfl,_⟩
  .walk_at "g"
   refine r_callXd ?_
   walk_at "g"
   refine call (Same.refl _) fun lt rs lf lv M N H4 s4 fl el hr _ R RT=>?_
   walk_at "g"
   exact⟨lt,rs,lf,lv,N,rfl,s4,fl,el,hr,R,RT⟩
  .walk_at "g"
   refine call (Same.refl _) fun lt rs lf lv M N H4 s4 fl el hr _ R RT=>?_
   walk_at "g"
   exact⟨lt,rs,lf,lv,N,rfl,s4,fl,el,hr,R,RT⟩
 rintro σ H4 ⟨lt,rs,lf,lv,N,rfl,s4,flt,elt,hrs,R,RT⟩
 have hA4:=hA3.same s4
 have etop4:=hA4.top
 have eph4:=s4 _ _ eph
 walk_at "g"
 rename_i pq hpq
 have s5:=qa7 hpq (.lst [V.ref dr,V.ref dw])
 have epq:upd H4 pq (.lst [V.ref dr,V.ref dw]) pq=some (.lst [V.ref dr,V.ref dw]):=qa1
 have npq:ph≠pq:=qa9 eph4 hpq
 generalize upd H4 pq (.lst [V.ref dr,V.ref dw])=H5 at*
 have s35:=s4.trans s5
 have hA5:=hA4.same s5
 refine r_neD (n:=2) npq (by decide) (qdj (n:=1) (SqL.of (s5 _ _ eph4)) (SqL.of epq) npq ⟨deq_ad (n:=0) (s35 _ _ ek1) hA5.r nk1 hA3.rA hA3.rA,deq_ad (n:=0) (s35 _ _ ek2) hA5.w nk2 hA3.wA hA3.wA,trivial⟩) ?_
 walk_at "g"
 refine⟨p,ln,le,dg,dw,dr,nm,es,kg,kw,kr,D,lt,rs,lf,rfl,hA5,ok,s5 _ _ elt,fun r hr=>(hrs r hr).1.same s5,R.rb,RT,fun H6 s6=>?_⟩
 have s56:=s5.trans s6
 have s36:=s35.trans s6
 have elt6:=s56 _ _ elt
 have hrs6:∀r∈rs,RndAt H6 r:=fun r hr=>(hrs r hr).1.same s56
 have rl8:rs.length<=7:=by
  have h1:=R.z
  have h2:=ok.ok.l8
  omega
 have hr3:∀r∈rs,H3 r.ln=none:=fun r hr=>(hrs r hr).2
 clear hA5 hA4 s5 s6 s35 s4 s56 epq npq eph4 elt hpq etop4
 walk_at "g"
 intro C s9 H9 fp lc hlc
 refine c_by rs.length (fun i' Hx=>Same H6 Hx/\∃qs:List Rnd,Hx lc=some (.lst (qs.map fun r=>V.ref r.a))/\qs.map lvN=(rs.take i').map lvN/\(∀r∈qs,RndAt Hx r/\H6 r.ln=none/\r.ln≠lc)) ⟨qa7 hlc _, [],qa1,rfl,fun r hr=>by simp at hr⟩ ?_ ?_ ?_ ?_
 .rintro i' Hx hi' ⟨sx,_⟩
  exact⟨_,.ref (rs[i']).a,SqL.of (sx _ _ elt6),by rw [getElem?_map,getElem?_eq_getElem hi'];rfl⟩
 .rintro Hx ⟨sx,_⟩
  exact⟨_,SqL.of (sx _ _ elt6),by rw [length_map];exact Nat.le_refl _⟩
 .rintro i' Hx v H'' hi' ⟨sx,qs,ea,eq,hq⟩ ⟨rfl,hv⟩
  have hv:=hv _ (SqL.of (sx _ _ elt6))
  rw [getElem?_map,getElem?_eq_getElem hi'] at hv
  cases hv
  have hrm:=getElem_mem hi'
  have etj:rs.take (i'+1)=rs.take i'++ [rs[i']]:=by rw [take_add_one,getElem?_eq_getElem hi'];rfl
  generalize rs[i']=r at*
  have hR:=(hrs6 r hrm).same sx
  have rT:=hR.t
  have rN:=hR.n
  have ql:qs.length<=7:=by
   have h1:=congrArg List.length eq
   rw [length_map,length_map,length_take] at h1
   omega
  walk_at "g"
  refine⟨r.ln,_,rfl,.inl (SqL.of rN),fun lp hlp=>?_⟩
  have nlp:lp≠lc:=fun z=>by subst z;rw [ea] at hlp;cases hlp
  have s1:=qa7 hlp (.lst (r.ns.map V.str))
  have elp:upd H'' lp (.lst (r.ns.map V.str)) lp=some (.lst (r.ns.map V.str)):=qa1
  have ea1:=qaa (o':=.lst (r.ns.map V.str)) ea hlp
  generalize upd H'' lp (.lst (r.ns.map V.str))=Hy at*
  have zl:(qs.map fun r=>V.ref r.a).length < sizeLine:=by rw [length_map];show _ < 16777216;omega
  walk_at "g"
  rename_i pt hpt
  have s2:=qa7 hpt (.tup [V.ref r.la,V.ref lp])
  have ept:upd Hy pt (.tup [V.ref r.la,V.ref lp]) pt=some (.tup [V.ref r.la,V.ref lp]):=qa1
  have ea2:=qaa (o':=.tup [V.ref r.la,V.ref lp]) ea1 hpt
  generalize upd Hy pt (.tup [V.ref r.la,V.ref lp])=Hz at*
  refine⟨qb4 (sx.trans (s1.trans s2)) hlc,qs++ [⟨pt,r.la,lp,r.L,r.ns⟩],by rw [qa1,map_append];rfl,by rw [etj,map_append,map_append,eq];rfl,fun x hx=>?_⟩
  rcases mem_append.mp hx with h1|h1
  .obtain⟨b1,b2,b3⟩:=hq x h1
   exact⟨((b1.same s1).same s2).put ea2 b3,b2,b3⟩
  .rw [mem_singleton.mp h1]
   exact⟨RndAt.put ⟨ept,(hR.l.same s1).same s2,s2 _ _ elp⟩ ea2 nlp,sx.free hlp,nlp⟩
 rintro H7 ⟨s7,qs,elc,eqs,hqs⟩
 rw [take_length] at eqs
 have s37:=s36.trans s7
 have elt7:=s7 _ _ elt6
 have hrs7:∀r∈rs,RndAt H7 r:=fun r hr=>(hrs6 r hr).same s7
 have nlt:∀r∈rs,lt≠r.ln:=fun r hr z=>by
  have h1:=(hrs7 r hr).n
  rw [<-z,elt7] at h1
  have h2:(rs.map fun r=>V.ref r.a)=r.ns.map V.str:=by injection h1 with h1;injection h1
  cases rs with
  |nil=>simp at hr
  |cons x xs=>
   cases hns:r.ns with
   |nil=>rw [hns] at h2;cases h2
   |cons y ys=>
    rw [hns,map_cons,map_cons] at h2
    injection h2 with h2 _
    cases h2
 have nlc:∀r∈rs,lc≠r.ln:=fun r hr z=>by have:=(hrs6 r hr).n;rw [<-z,hlc] at this;cases this
 have nlcl:lc≠lt:=fun z=>by rw [z,elt6] at hlc;cases hlc
 have nq:∀x∈qs,∀r∈rs,x.ln≠r.ln:=fun x hx r hr z=>by have:=(hrs6 r hr).n;rw [<-z,(hqs x hx).2.1] at this;cases this
 have nql:∀x∈qs,x.ln≠lt:=fun x hx z=>by have:=(hqs x hx).2.1;rw [z,elt6] at this;cases this
 have ntr:∀(b:Addr) (xs:List V),H7 b=some (.tup xs)->∀r∈rs,b≠r.ln:=fun b xs e r hr z=>by rw [z,(hrs7 r hr).n] at e;cases e
 walk_at "g"
 refine qcc (xs:=rs.map fun r=>V.ref r.a) (fun i σ H'=>∃(w7:Option V),σ=[some (.ref a),some (.ref p),some (.ref t),some wv,some (.ref ph),some (.ref lt),some (.ref lc),w7]/\(∀b u,(∀r∈rs,b≠r.ln)->H7 b=some u->H' b=some u)/\∀r∈rs,∃xs:List V,H' r.ln=some (.lst xs)/\xs.length<=7+i) ⟨none,rfl,fun b u _ e=>e,fun r hr=>⟨_,(hrs7 r hr).n,?_⟩⟩ ?_ ?_ ?_
 .rw [length_map]
  obtain⟨i,hi⟩:=List.mem_iff_getElem?.mp hr
  rw [(RT.at_ i r hi).2]
  have h1:=stR_len D (rs.take i)
  have h2:(rdy D (stR D (rs.take i)).1 (stR D (rs.take i)).2 r.L).length<=(stR D (rs.take i)).1.length:=length_filter_le _ _
  have h3:=ok.ok.l8
  omega
 .rintro i σ H' _ ⟨w7,rfl,kp,_⟩;exact SqL.of (kp _ _ nlt elt7)
 .rintro i v σ H' hv ⟨w7,rfl,kp,hx⟩
  rw [getElem?_map] at hv
  obtain⟨r,hr,rfl⟩:=Option.map_eq_some_iff.mp hv
  have hi:=(List.getElem?_eq_some_iff.mp hr).1
  have hrm:=mem_of_getElem? hr
  have rT:=kp _ _ (ntr _ _ (hrs7 r hrm).t) (hrs7 r hrm).t
  obtain⟨xs,ex,lx⟩:=hx r hrm
  have zx:xs.length < sizeLine:=by show _ < 16777216;omega
  clear hv
  walk_at "g"
  refine⟨_,rfl,fun b u n e=>by rw [qa6 (n r hrm)];exact kp b u n e,fun r' hr'=>?_⟩
  by_cases c:r'.ln=r.ln
  .rw [c,qa1]
   exact⟨_,rfl,by rw [length_append,length_singleton];omega⟩
  .rw [qa6 c]
   obtain⟨ys,ey,ly⟩:=hx r' hr'
   exact⟨ys,ey,by omega⟩
 rintro σ H8 ⟨w7,rfl,kp,hx⟩
 have elt8:=kp _ _ nlt elt7
 have elc8:=kp _ _ nlc elc
 have s38:Same H3 (upd H8 lt (.lst [])):=fun b u e=>by
  rw [qa6 (fun z=>by subst z;rw [flt] at e;cases e)]
  exact kp b u (fun r hr z=>by rw [z,hr3 r hr] at e;cases e) (s37 b u e)
 have elc9:upd H8 lt (.lst []) lc=some (.lst (qs.map fun r=>V.ref r.a)):=by rw [qa6 nlcl];exact elc8
 have hq9:∀x∈qs,RndAt (upd H8 lt (.lst [])) x:=fun x hx=>by
  obtain⟨b1,b2,b3⟩:=hqs x hx
  refine RndAt.put ⟨kp _ _ (ntr _ _ b1.t) b1.t,?_,kp _ _ (nq x hx) b1.n⟩ elt8 (nql x hx)
  have bl:=b1.l
  unfold qbm at bl ⊢
  exact kp _ _ (ntr _ _ bl) bl
 have eph8:=s38 _ _ eph
 clear hx kp
 walk_at "g"
 generalize upd H8 lt (.lst [])=HF at*
 refine call s38 fun lt' rs' lf' lv' M' N' HG sG fl' el' hr' _ R' RT'=>?_
 have nl':lt'≠lc:=fun z=>by subst z;rw [elc9] at fl';cases fl'
 walk_at "g"
 refine r_eqD (n:=3) nl' (by decide) (qdj (n:=2) (SqL.of el') (SqL.of (sG _ _ elc9)) nl' (deq_rnds ((RdT.uniq RT' RT).trans eqs.symm) (fun r hr=>(hr' r hr).1) fun r hr=>(hq9 r hr).same sG)) ?_
 exact q _
structure Fz (K:Frag) (n:Str) (s:Stmt) (f:Addr) (fd:FuncData):Prop where
 a:nsIn K mainGlobals n=some (some (.ref f))
 F:Fun K n n s f fd
structure Fm (K:Frag) (c:Addr) (n q:Str) (s:Stmt) (f:Addr) (fd:FuncData):Prop where
 a:findIn K (.ref c) n=some (some (.ref f))
 F:Fun K n q s f fd
theorem Fz.m {K:Frag} {n:Str} {s:Stmt} {f:Addr} {fd:FuncData} {h:Heap} {mg:Str->Option Value} (g:Fz K n s f fd) (X:K.In h) (G:h.Ns mainGlobals mg):mg n=some (.ref f):=PySem.W.mg_of X G g.a
theorem ln1 {p:List Value->Prop} (h:∀x0:Value,p [x0]) (us:List Value) (e:us.length=1):p us:=by
 match us,e with
 | [x0],_=>exact h x0
theorem ln2 {p:List Value->Prop} (h:∀x0 x1:Value,p [x0,x1]) (us:List Value) (e:us.length=2):p us:=by
 match us,e with
 | [x0,x1],_=>exact h x0 x1
theorem ln3 {p:List Value->Prop} (h:∀x0 x1 x2:Value,p [x0,x1,x2]) (us:List Value) (e:us.length=3):p us:=by
 match us,e with
 | [x0,x1,x2],_=>exact h x0 x1 x2
theorem ln4 {p:List Value->Prop} (h:∀x0 x1 x2 x3:Value,p [x0,x1,x2,x3]) (us:List Value) (e:us.length=4):p us:=by
 match us,e with
 | [x0,x1,x2,x3],_=>exact h x0 x1 x2 x3
theorem ln5 {p:List Value->Prop} (h:∀x0 x1 x2 x3 x4:Value,p [x0,x1,x2,x3,x4]) (us:List Value) (e:us.length=5):p us:=by
 match us,e with
 | [x0,x1,x2,x3,x4],_=>exact h x0 x1 x2 x3 x4
theorem ln6 {p:List Value->Prop} (h:∀x0 x1 x2 x3 x4 x5:Value,p [x0,x1,x2,x3,x4,x5]) (us:List Value) (e:us.length=6):p us:=by
 match us,e with
 | [x0,x1,x2,x3,x4,x5],_=>exact h x0 x1 x2 x3 x4 x5
theorem ln7 {p:List Value->Prop} (h:∀x0 x1 x2 x3 x4 x5 x6:Value,p [x0,x1,x2,x3,x4,x5,x6]) (us:List Value) (e:us.length=7):p us:=by
 match us,e with
 | [x0,x1,x2,x3,x4,x5,x6],_=>exact h x0 x1 x2 x3 x4 x5 x6
theorem txt_mk {K:Frag} {h:Heap} {mg:Str->Option Value} {fa:Addr} {f_z0 f_z1 f_z2 f_z3 f_z4 f_z5 f_z6 f_z7 f_z8 f_z9 f_z10 f_z11 f_z12 f_z13 f_z14 f_z15 f_z16 f_z17 f_z18 f_z19 f_z20 f_z21 f_z22 f_z23 f_z24 f_z25 f_z26 f_z27 f_z28 f_z29 f_z30 f_z31 f_z32 f_z33 f_z34 f_z35 f_z36 f_z37 f_z38 f_z39 f_z40 f_z41 f_z42 f_z43 f_z44 f_z45 wcg f_z47 f_z48 f_z49 f_z50 f_z51 f_z52 f_z53 f_z54 f_z55 f_z56 f_z57 f_z58 f_z59 f_z60 f_z61 f_z62 f_z63 f_z64 f_z65 f_z66 f_z67 w05 w01 w00 w3m w4z w68 w0i w1l w50 w2k w2j w3h w3c:Addr} {d_z0 d_z1 d_z2 d_z3 d_z4 d_z5 d_z6 d_z7 d_z8 d_z9 d_z10 d_z11 d_z12 d_z13 d_z14 d_z15 d_z16 d_z17 d_z18 d_z19 d_z21 d_z22 d_z23 d_z24 d_z25 d_z26 d_z27 d_z28 d_z29 d_z30 d_z31 d_z32 d_z33 d_z34 d_z35 d_z36 d_z37 d_z38 d_z39 d_z40 d_z41 d_z42 d_z43 d_z44 d_z45 d_law d_z47 d_z50 d_z51 d_z52 d_z53 d_z54 d_z55 d_z56 d_z57 d_z58 d_z59 d_z60 d_z61 d_z62 d_z63 d_z64 d_z65 d_z66 d_z67:FuncData} (X:K.In h) (G:h.Ns mainGlobals mg) (hfa:mg "law" =some (.ref fa))
  (g_z0:Fz K "is_whole" s_is_whole f_z0 d_z0)
  (g_z1:Fz K "is_name" s_is_name f_z1 d_z1)
  (g_z2:Fz K "is_whole_from" s_is_whole_from f_z2 d_z2)
  (g_z3:Fz K "is_amount" s_is_amount f_z3 d_z3)
  (g_z4:Fz K "amounts_of" s_amounts_of f_z4 d_z4)
  (g_z5:Fz K "above_nought" s_above_nought f_z5 d_z5)
  (g_z6:Fz K "amount_of" s_amount_of f_z6 d_z6)
  (g_z7:Fz K "added" s_added f_z7 d_z7)
  (g_z8:Fz K "beyond" s_beyond f_z8 d_z8)
  (g_z9:Fz K "total_of" s_total_of f_z9 d_z9)
  (g_z10:Fz K "divisor" s_divisor f_z10 d_z10)
  (g_z11:Fz K "fraction" s_fraction f_z11 d_z11)
  (g_z12:Fz K "minus" s_minus f_z12 d_z12)
  (g_z13:Fz K "times" s_times f_z13 d_z13)
  (g_z14:Fz K "divided" s_divided f_z14 d_z14)
  (g_z15:Fz K "below" s_below f_z15 d_z15)
  (g_z16:Fz K "weights_of" s_weights_of f_z16 d_z16)
  (g_z17:Fz K "loads_of" s_loads_of f_z17 d_z17)
  (g_z18:Fz K "least_of" s_least_of f_z18 d_z18)
  (g_z19:Fz K "rounds_by" s_rounds_by f_z19 d_z19)
  {od_z20 an_z20:Option Addr} {sl_z20:Array (Option Value)} {oc_z20 kV_z20 dc_z20 pm_z20 cd_z20 ct_z20 w23:Value} {t_z20:Addr}
  (a_z20:nsIn K mainGlobals "rounds" =some (some (.ref f_z20))) (l_z20:K.lookup f_z20=some ⟨oc_z20,od_z20,.func (fnOf "rounds" "rounds" (qbd s_rounds) (qbo s_rounds) (qa8 s_rounds) (.ref t_z20) kV_z20 dc_z20 pm_z20 an_z20 cd_z20 ct_z20),sl_z20⟩) (c_z20:codeIn K cd_z20 "rounds" =true) (k_z20:keepIn K (.ref f_z20)=true)
  {ob_z20:Obj} {nn_z20:Nat} (tt_z20:K.lookup t_z20=some ob_z20) (td_z20:ob_z20.data=.seq #[w23] nn_z20) (rd_z20:qbj [.non] [w23])
  (g_z21:Fz K "are_wares" s_are_wares f_z21 d_z21)
  (g_z22:Fz K "check_name" s_check_name f_z22 d_z22)
  (g_z23:Fz K "read_house" s_read_house f_z23 d_z23)
  (g_z24:Fz K "check_promises" s_check_promises f_z24 d_z24)
  (g_z25:Fz K "_law_cell_at" s_cell_at f_z25 d_z25)
  (g_z26:Fz K "_law_mixed" s_mixed f_z26 d_z26)
  (g_z27:Fz K "_law_name" s_name f_z27 d_z27)
  (g_z28:Fz K "_law_whole" s_whole f_z28 d_z28)
  (g_z29:Fz K "_law_want" s_want f_z29 d_z29)
  (g_z30:Fz K "_law_room" s_room f_z30 d_z30)
  (g_z31:Fz K "_law_sharing" s_sharing f_z31 d_z31)
  (g_z32:Fz K "_law_tree" s_tree f_z32 d_z32)
  (g_z33:Fz K "_law_line" s_line f_z33 d_z33)
  (g_z34:Fz K "_law_inside" s_inside f_z34 d_z34)
  (g_z35:Fz K "_law_together" s_together f_z35 d_z35)
  (g_z36:Fz K "_law_less" s_less f_z36 d_z36)
  (g_z37:Fz K "_law_divisor" s_l_divisor f_z37 d_z37)
  (g_z38:Fz K "_law_is_fraction" s_is_fraction f_z38 d_z38)
  (g_z39:Fz K "_law_weigher" s_weigher f_z39 d_z39)
  (g_z40:Fz K "_law_asked" s_asked f_z40 d_z40)
  (g_z41:Fz K "_law_is_round" s_is_round f_z41 d_z41)
  (g_z42:Fz K "_law_full" s_full f_z42 d_z42)
  (g_z43:Fz K "_law_settled" s_settled f_z43 d_z43)
  (g_z44:Fz K "_law_least" s_least f_z44 d_z44)
  (g_z45:Fz K "_law_walked" s_walked f_z45 d_z45)
  (g_law:Fz K "law" s_law wcg d_law)
  (g_z47:Fm K w05 "__init__" "House.__init__" s_House_init f_z47 d_z47)
  {od_z48 an_z48:Option Addr} {sl_z48:Array (Option Value)} {oc_z48 kV_z48 dc_z48 pm_z48 cd_z48 ct_z48 w0y:Value} {t_z48:Addr}
  (a_z48:findIn K (.ref w01) "__init__" =some (some (.ref f_z48))) (l_z48:K.lookup f_z48=some ⟨oc_z48,od_z48,.func (fnOf "__init__" "Tree.__init__" (qbd s_Tree_init) (qbo s_Tree_init) (qa8 s_Tree_init) (.ref t_z48) kV_z48 dc_z48 pm_z48 an_z48 cd_z48 ct_z48),sl_z48⟩) (c_z48:codeIn K cd_z48 "Tree.__init__" =true) (k_z48:keepIn K (.ref f_z48)=true)
  {ob_z48:Obj} {nn_z48:Nat} (tt_z48:K.lookup t_z48=some ob_z48) (td_z48:ob_z48.data=.seq #[w0y] nn_z48) (rd_z48:qbj [.int 1] [w0y])
  {od_z49 an_z49:Option Addr} {sl_z49:Array (Option Value)} {oc_z49 kV_z49 dc_z49 pm_z49 cd_z49 ct_z49 w0m:Value} {t_z49:Addr}
  (a_z49:findIn K (.ref w01) "found" =some (some (.ref f_z49))) (l_z49:K.lookup f_z49=some ⟨oc_z49,od_z49,.func (fnOf "found" "Tree.found" (qbd s_Tree_found) (qbo s_Tree_found) (qa8 s_Tree_found) (.ref t_z49) kV_z49 dc_z49 pm_z49 an_z49 cd_z49 ct_z49),sl_z49⟩) (c_z49:codeIn K cd_z49 "Tree.found" =true) (k_z49:keepIn K (.ref f_z49)=true)
  {ob_z49:Obj} {nn_z49:Nat} (tt_z49:K.lookup t_z49=some ob_z49) (td_z49:ob_z49.data=.seq #[w0m] nn_z49) (rd_z49:qbj [.int 1] [w0m])
  (g_z50:Fm K w01 "wares" "Tree.wares" s_Tree_wares f_z50 d_z50)
  (g_z51:Fm K w01 "names" "Tree.names" s_Tree_names f_z51 d_z51)
  (g_z52:Fm K w01 "has" "Tree.has" s_Tree_has f_z52 d_z52)
  (g_z53:Fm K w01 "check_house" "Tree.check_house" s_Tree_check_house f_z53 d_z53)
  (g_z54:Fm K w01 "house_of" "Tree.house_of" s_Tree_house_of f_z54 d_z54)
  (g_z55:Fm K w01 "elder_of" "Tree.elder_of" s_Tree_elder_of f_z55 d_z55)
  (g_z56:Fm K w01 "weight_of" "Tree.weight_of" s_Tree_weight_of f_z56 d_z56)
  (g_z57:Fm K w01 "kids" "Tree.kids" s_Tree_kids f_z57 d_z57)
  (g_z58:Fm K w01 "line" "Tree.line" s_Tree_line f_z58 d_z58)
  (g_z59:Fm K w01 "beneath" "Tree.beneath" s_Tree_beneath f_z59 d_z59)
  (g_z60:Fm K w01 "promised_beneath" "Tree.promised_beneath" s_Tree_promised_beneath f_z60 d_z60)
  (g_z61:Fm K w01 "check_more" "Tree.check_more" s_Tree_check_more f_z61 d_z61)
  (g_z62:Fm K w00 "__init__" "Dealing.__init__" s_Dealing_init f_z62 d_z62)
  (g_z63:Fm K w00 "fills" "Dealing.fills" s_Dealing_fills f_z63 d_z63)
  (g_z64:Fm K w00 "ready" "Dealing.ready" s_Dealing_ready f_z64 d_z64)
  (g_z65:Fm K w00 "settle" "Dealing.settle" s_Dealing_settle f_z65 d_z65)
  (g_z66:Fm K w00 "next_round" "Dealing.next_round" s_Dealing_next_round f_z66 d_z66)
  (g_z67:Fm K w1l "__init__" "NoPromise.__init__" s_i_NoPromise f_z67 d_z67)
  (qi_z67:initIn K w1l f_z67=true) (hi_z67:isFn K (.ref f_z67)=true)
  (a_House:nsIn K mainGlobals "House" =some (some (.ref w05)))
  (a_Tree:nsIn K mainGlobals "Tree" =some (some (.ref w01)))
  (a_Dealing:nsIn K mainGlobals "Dealing" =some (some (.ref w00)))
  (a_TreeError:nsIn K mainGlobals "TreeError" =some (some (.ref w3m)))
  (a_NoName:nsIn K mainGlobals "NoName" =some (some (.ref w4z)))
  (a_Taken:nsIn K mainGlobals "Taken" =some (some (.ref w68)))
  (a_NoHouse:nsIn K mainGlobals "NoHouse" =some (some (.ref w0i)))
  (a_NoPromise:nsIn K mainGlobals "NoPromise" =some (some (.ref w1l)))
  (a_NoWare:nsIn K mainGlobals "NoWare" =some (some (.ref w50)))
  (a_NoAmount:nsIn K mainGlobals "NoAmount" =some (some (.ref w2k)))
  (a_NoNumber:nsIn K mainGlobals "NoNumber" =some (some (.ref w2j)))
  (a_TooMany:nsIn K mainGlobals "TooMany" =some (some (.ref w3h)))
  (a_TooDeep:nsIn K mainGlobals "TooDeep" =some (some (.ref w3c)))
  {w3f:Value} (a_LETTERS:nsIn K mainGlobals "LETTERS" =some (some w3f)) (w4n:qb2 (.str "abcdefghijklmnopqrstuvwxyz") w3f)
  {w14:Value} (a_LONGEST_NAME:nsIn K mainGlobals "LONGEST_NAME" =some (some w14)) (w1d:qb2 (.int 8) w14)
  {w1m:Value} (a_MOST_WARES:nsIn K mainGlobals "MOST_WARES" =some (some w1m)) (w21:qb2 (.int 6) w1m)
  {w19:Value} (a_MOST_HOUSES:nsIn K mainGlobals "MOST_HOUSES" =some (some w19)) (w1n:qb2 (.int 40) w19)
  {w15:Value} (a_LONGEST_LINE:nsIn K mainGlobals "LONGEST_LINE" =some (some w15)) (w1c:qb2 (.int 12) w15)
  {w0g:Value} (a_GREATEST_WEIGHT:nsIn K mainGlobals "GREATEST_WEIGHT" =some (some w0g)) (w0p:qb2 (.int 1000) w0g)
  (q_NoHouse:excIn K w0i [.type "ValueError",.type "Exception",.type "BaseException",.type "object"] "ValueError.__new__" =true)
  (q_NoAmount:excIn K w2k [.type "ValueError",.type "Exception",.type "BaseException",.type "object"] "ValueError.__new__" =true)
  (q_NoWare:excIn K w50 [.type "ValueError",.type "Exception",.type "BaseException",.type "object"] "ValueError.__new__" =true)
  (q_NoName:excIn K w4z [.type "ValueError",.type "Exception",.type "BaseException",.type "object"] "ValueError.__new__" =true)
  (q_NoNumber:excIn K w2j [.type "ValueError",.type "Exception",.type "BaseException",.type "object"] "ValueError.__new__" =true)
  (q_Taken:excIn K w68 [.type "ValueError",.type "Exception",.type "BaseException",.type "object"] "ValueError.__new__" =true)
  (q_TooMany:excIn K w3h [.type "ValueError",.type "Exception",.type "BaseException",.type "object"] "ValueError.__new__" =true)
  (q_TooDeep:excIn K w3c [.type "ValueError",.type "Exception",.type "BaseException",.type "object"] "ValueError.__new__" =true)
  (w0e:Cls K w00)
  (w39:Mk K w00 f_z62)
  (w12:Meth K w00 "fills" f_z63)
  (w13:Meth K w00 "ready" f_z64)
  (w0w:Meth K w00 "settle" f_z65)
  (w0c:Meth K w00 "next_round" f_z66)
  (w0d:findIn K (.ref w00) "tree" =some none)
  (w09:findIn K (.ref w00) "weights" =some none)
  (w04:findIn K (.ref w00) "waiting" =some none)
  (w0h:findIn K (.ref w00) "left" =some none)
  (w0f:findIn K (.ref w00) "goals" =some none)
  (w1e:Cls K w05)
  (w02:Cls K w01)
  (w5t:Mk K w05 f_z47)
  (w8c:Mk K w01 f_z48)
  (w1r:Meth K w01 "found" f_z49)
  (w2g:Meth K w01 "wares" f_z50)
  (w2f:Meth K w01 "names" f_z51)
  (w1s:Meth K w01 "has" f_z52)
  (w06:Meth K w01 "check_house" f_z53)
  (w0j:Meth K w01 "house_of" f_z54)
  (w0k:Meth K w01 "elder_of" f_z55)
  (w0q:Meth K w01 "weight_of" f_z56)
  (w22:Meth K w01 "kids" f_z57)
  (w0z:Meth K w01 "line" f_z58)
  (w0v:Meth K w01 "beneath" f_z59)
  (w07:Meth K w01 "promised_beneath" f_z60)
  (w0n:Meth K w01 "check_more" f_z61)
  (w0o:findIn K (.ref w05) "elder" =some none)
  (w0b:findIn K (.ref w05) "promise" =some none)
  (w0x:findIn K (.ref w05) "cap" =some none)
  (w0s:findIn K (.ref w05) "weight" =some none)
  (w0a:findIn K (.ref w01) "sorted_wares" =some none)
  (w03:findIn K (.ref w01) "houses" =some none)
  (y_abs:nsIn K mainGlobals "abs" =some none)
  (y_all:nsIn K mainGlobals "all" =some none)
  (y_bool:nsIn K mainGlobals "bool" =some none)
  (y_dict:nsIn K mainGlobals "dict" =some none)
  (y_int:nsIn K mainGlobals "int" =some none)
  (y_isinstance:nsIn K mainGlobals "isinstance" =some none)
  (y_len:nsIn K mainGlobals "len" =some none)
  (y_list:nsIn K mainGlobals "list" =some none)
  (y_range:nsIn K mainGlobals "range" =some none)
  (y_set:nsIn K mainGlobals "set" =some none)
  (y_sorted:nsIn K mainGlobals "sorted" =some none)
  (y_str:nsIn K mainGlobals "str" =some none)
  (y_sum:nsIn K mainGlobals "sum" =some none)
  (y_tuple:nsIn K mainGlobals "tuple" =some none)
  :∃d:Ad,Tx K mg d/\fa=d.wcg/\∀(s:Shared) (v:Value),BindsTo s d.wax ⟨[v], []⟩ [("_law_script",v)]:=by
 have e:=hfa.symm.trans (g_law.m X G)
 cases e
 have Fl:=g_law.F
 obtain⟨_,_,_,_,_,_,_,_,_,rfl,_,_⟩:=Fl.ex
 have F_z20:=funD_mk (st:=s_rounds) l_z20 c_z20 k_z20 tt_z20 td_z20
 have b_z20:qaj K _ ["tree","rooms","wants","weigh"] []:=F_z20.binds (ps:=["tree","rooms","wants","weigh"]) fun _ _ _ _ _ _ us hl=>by have e:us.length=4:=(by simpa using hl);clear hl;revert us e;exact ln4 fun _ _ _ _=>by first|exact .inl rfl|exact .inr ⟨_,rfl,rfl⟩
 have b1_z20:qaj K _ ["tree","rooms","wants","weigh"] [w23]:=F_z20.binds (ps:=["tree","rooms","wants","weigh"]) fun _ _ _ _ _ _ us hl=>by have e:us.length=3:=(by simpa using hl);clear hl;revert us e;exact ln3 fun _ _ _=>by first|exact .inl rfl|exact .inr ⟨_,rfl,rfl⟩
 have F_z48:=funD_mk (st:=s_Tree_init) l_z48 c_z48 k_z48 tt_z48 td_z48
 have b_z48:qaj K _ ["self","wares","name","promise","cap","weight"] []:=F_z48.binds (ps:=["self","wares","name","promise","cap","weight"]) fun _ _ _ _ _ _ us hl=>by have e:us.length=6:=(by simpa using hl);clear hl;revert us e;exact ln6 fun _ _ _ _ _ _=>by first|exact .inl rfl|exact .inr ⟨_,rfl,rfl⟩
 have b1_z48:qaj K _ ["self","wares","name","promise","cap","weight"] [w0y]:=F_z48.binds (ps:=["self","wares","name","promise","cap","weight"]) fun _ _ _ _ _ _ us hl=>by have e:us.length=5:=(by simpa using hl);clear hl;revert us e;exact ln5 fun _ _ _ _ _=>by first|exact .inl rfl|exact .inr ⟨_,rfl,rfl⟩
 have F_z49:=funD_mk (st:=s_Tree_found) l_z49 c_z49 k_z49 tt_z49 td_z49
 have b_z49:qaj K _ ["self","name","elder","promise","cap","weight"] []:=F_z49.binds (ps:=["self","name","elder","promise","cap","weight"]) fun _ _ _ _ _ _ us hl=>by have e:us.length=6:=(by simpa using hl);clear hl;revert us e;exact ln6 fun _ _ _ _ _ _=>by first|exact .inl rfl|exact .inr ⟨_,rfl,rfl⟩
 have b1_z49:qaj K _ ["self","name","elder","promise","cap","weight"] [w0m]:=F_z49.binds (ps:=["self","name","elder","promise","cap","weight"]) fun _ _ _ _ _ _ us hl=>by have e:us.length=5:=(by simpa using hl);clear hl;revert us e;exact ln5 fun _ _ _ _ _=>by first|exact .inl rfl|exact .inr ⟨_,rfl,rfl⟩
 refine⟨⟨_,_,_,_,_,_,_,_,_,_,_,_,_,_,_,_,_,_,_,_,_,_,_,_,_,_,_,_,_,_,_,_,_,_,_,_,_,_,_,_,_,_,t_z20,w23,_,_,_,_,_,_,_,_,_,_,_,_,_,_,_,_,_,_,_,_,_,_,_,_,_,_,_,_,_,_,_,_,_,_,_,_,_,_,_,_,_,_,_,_,_,_,_,_,_,_,_,_,_,_,_,_,t_z48,w0y,_,_,t_z49,w0m,_,_,_,_,_,_,_,_,_,_,_,_,_,_,_,_,_,_,_,_,_,_,_,_,_,_,_,_,_,_,_,_,_,_,_,_,w05,w01,w00,w3m,w4z,w68,w0i,w1l,w50,w2k,w2j,w3h,w3c,w3f,w14,w1m,w19,w15,w0g⟩,⟨g_z0.F,g_z0.m X G,g_z0.F.binds fun _ _ _ _ _ _=>ln1 fun _=>rfl,g_z1.F,g_z1.m X G,g_z1.F.binds fun _ _ _ _ _ _=>ln1 fun _=>rfl,g_z2.F,g_z2.m X G,g_z2.F.binds fun _ _ _ _ _ _=>ln3 fun _ _ _=>rfl,g_z3.F,g_z3.m X G,g_z3.F.binds fun _ _ _ _ _ _=>ln1 fun _=>rfl,g_z4.F,g_z4.m X G,g_z4.F.binds fun _ _ _ _ _ _=>ln2 fun _ _=>rfl,g_z5.F,g_z5.m X G,g_z5.F.binds fun _ _ _ _ _ _=>ln1 fun _=>rfl,g_z6.F,g_z6.m X G,g_z6.F.binds fun _ _ _ _ _ _=>ln2 fun _ _=>rfl,g_z7.F,g_z7.m X G,g_z7.F.binds fun _ _ _ _ _ _=>ln2 fun _ _=>rfl,g_z8.F,g_z8.m X G,g_z8.F.binds fun _ _ _ _ _ _=>ln2 fun _ _=>rfl,g_z9.F,g_z9.m X G,g_z9.F.binds fun _ _ _ _ _ _=>ln1 fun _=>rfl,g_z10.F,g_z10.m X G,g_z10.F.binds fun _ _ _ _ _ _=>ln2 fun _ _=>rfl,g_z11.F,g_z11.m X G,g_z11.F.binds fun _ _ _ _ _ _=>ln2 fun _ _=>rfl,g_z12.F,g_z12.m X G,g_z12.F.binds fun _ _ _ _ _ _=>ln2 fun _ _=>rfl,g_z13.F,g_z13.m X G,g_z13.F.binds fun _ _ _ _ _ _=>ln2 fun _ _=>rfl,g_z14.F,g_z14.m X G,g_z14.F.binds fun _ _ _ _ _ _=>ln2 fun _ _=>rfl,g_z15.F,g_z15.m X G,g_z15.F.binds fun _ _ _ _ _ _=>ln2 fun _ _=>rfl,g_z16.F,g_z16.m X G,g_z16.F.binds fun _ _ _ _ _ _=>ln3 fun _ _ _=>rfl,g_z17.F,g_z17.m X G,g_z17.F.binds fun _ _ _ _ _ _=>ln3 fun _ _ _=>rfl,g_z18.F,g_z18.m X G,g_z18.F.binds fun _ _ _ _ _ _=>ln1 fun _=>rfl,g_z19.F,g_z19.m X G,g_z19.F.binds fun _ _ _ _ _ _=>ln4 fun _ _ _ _=>rfl,F_z20,PySem.W.mg_of X G a_z20,b_z20,b1_z20,rd_z20,g_z21.F,g_z21.m X G,g_z21.F.binds fun _ _ _ _ _ _=>ln1 fun _=>rfl,g_z22.F,g_z22.m X G,g_z22.F.binds fun _ _ _ _ _ _=>ln1 fun _=>rfl,g_z23.F,g_z23.m X G,g_z23.F.binds fun _ _ _ _ _ _=>ln5 fun _ _ _ _ _=>rfl,g_z24.F,g_z24.m X G,g_z24.F.binds fun _ _ _ _ _ _=>ln3 fun _ _ _=>rfl,g_z25.F,g_z25.m X G,g_z25.F.binds fun _ _ _ _ _ _=>ln2 fun _ _=>rfl,g_z26.F,g_z26.m X G,g_z26.F.binds fun _ _ _ _ _ _=>ln2 fun _ _=>rfl,g_z27.F,g_z27.m X G,g_z27.F.binds fun _ _ _ _ _ _=>ln2 fun _ _=>rfl,g_z28.F,g_z28.m X G,g_z28.F.binds fun _ _ _ _ _ _=>ln1 fun _=>rfl,g_z29.F,g_z29.m X G,g_z29.F.binds fun _ _ _ _ _ _=>ln2 fun _ _=>rfl,g_z30.F,g_z30.m X G,g_z30.F.binds fun _ _ _ _ _ _=>ln2 fun _ _=>rfl,g_z31.F,g_z31.m X G,g_z31.F.binds fun _ _ _ _ _ _=>ln2 fun _ _=>rfl,g_z32.F,g_z32.m X G,g_z32.F.binds fun _ _ _ _ _ _=>ln2 fun _ _=>rfl,g_z33.F,g_z33.m X G,g_z33.F.binds fun _ _ _ _ _ _=>ln2 fun _ _=>rfl,g_z34.F,g_z34.m X G,g_z34.F.binds fun _ _ _ _ _ _=>ln2 fun _ _=>rfl,g_z35.F,g_z35.m X G,g_z35.F.binds fun _ _ _ _ _ _=>ln2 fun _ _=>rfl,g_z36.F,g_z36.m X G,g_z36.F.binds fun _ _ _ _ _ _=>ln2 fun _ _=>rfl,g_z37.F,g_z37.m X G,g_z37.F.binds fun _ _ _ _ _ _=>ln2 fun _ _=>rfl,g_z38.F,g_z38.m X G,g_z38.F.binds fun _ _ _ _ _ _=>ln1 fun _=>rfl,g_z39.F,g_z39.m X G,g_z39.F.binds fun _ _ _ _ _ _=>ln1 fun _=>rfl,g_z40.F,g_z40.m X G,g_z40.F.binds fun _ _ _ _ _ _=>ln2 fun _ _=>rfl,g_z41.F,g_z41.m X G,g_z41.F.binds fun _ _ _ _ _ _=>ln1 fun _=>rfl,g_z42.F,g_z42.m X G,g_z42.F.binds fun _ _ _ _ _ _=>ln4 fun _ _ _ _=>rfl,g_z43.F,g_z43.m X G,g_z43.F.binds fun _ _ _ _ _ _=>ln3 fun _ _ _=>rfl,g_z44.F,g_z44.m X G,g_z44.F.binds fun _ _ _ _ _ _=>ln3 fun _ _ _=>rfl,g_z45.F,g_z45.m X G,g_z45.F.binds fun _ _ _ _ _ _=>ln2 fun _ _=>rfl,Fl,g_law.m X G,g_z47.F,g_z47.F.binds fun _ _ _ _ _ _=>ln5 fun _ _ _ _ _=>rfl,F_z48,b_z48,b1_z48,rd_z48,F_z49,b_z49,b1_z49,rd_z49,g_z50.F,g_z50.F.binds fun _ _ _ _ _ _=>ln1 fun _=>rfl,g_z51.F,g_z51.F.binds fun _ _ _ _ _ _=>ln1 fun _=>rfl,g_z52.F,g_z52.F.binds fun _ _ _ _ _ _=>ln2 fun _ _=>rfl,g_z53.F,g_z53.F.binds fun _ _ _ _ _ _=>ln2 fun _ _=>rfl,g_z54.F,g_z54.F.binds fun _ _ _ _ _ _=>ln2 fun _ _=>rfl,g_z55.F,g_z55.F.binds fun _ _ _ _ _ _=>ln2 fun _ _=>rfl,g_z56.F,g_z56.F.binds fun _ _ _ _ _ _=>ln2 fun _ _=>rfl,g_z57.F,g_z57.F.binds fun _ _ _ _ _ _=>ln2 fun _ _=>rfl,g_z58.F,g_z58.F.binds fun _ _ _ _ _ _=>ln2 fun _ _=>rfl,g_z59.F,g_z59.F.binds fun _ _ _ _ _ _=>ln2 fun _ _=>rfl,g_z60.F,g_z60.F.binds fun _ _ _ _ _ _=>ln2 fun _ _=>rfl,g_z61.F,g_z61.F.binds fun _ _ _ _ _ _=>ln3 fun _ _ _=>rfl,g_z62.F,g_z62.F.binds fun _ _ _ _ _ _=>ln5 fun _ _ _ _ _=>rfl,g_z63.F,g_z63.F.binds fun _ _ _ _ _ _=>ln1 fun _=>rfl,g_z64.F,g_z64.F.binds fun _ _ _ _ _ _=>ln3 fun _ _ _=>rfl,g_z65.F,g_z65.F.binds fun _ _ _ _ _ _=>ln3 fun _ _ _=>rfl,g_z66.F,g_z66.F.binds fun _ _ _ _ _ _=>ln1 fun _=>rfl,g_z67.F,xcli_of qi_z67 hi_z67,g_z67.F.binds fun _ _ _ _ _ _=>ln3 fun _ _ _=>rfl,PySem.W.mg_of X G a_House,PySem.W.mg_of X G a_Tree,PySem.W.mg_of X G a_Dealing,PySem.W.mg_of X G a_TreeError,PySem.W.mg_of X G a_NoName,PySem.W.mg_of X G a_Taken,PySem.W.mg_of X G a_NoHouse,PySem.W.mg_of X G a_NoPromise,PySem.W.mg_of X G a_NoWare,PySem.W.mg_of X G a_NoAmount,PySem.W.mg_of X G a_NoNumber,PySem.W.mg_of X G a_TooMany,PySem.W.mg_of X G a_TooDeep,PySem.W.mg_of X G a_LETTERS,w4n,PySem.W.mg_of X G a_LONGEST_NAME,w1d,PySem.W.mg_of X G a_MOST_WARES,w21,PySem.W.mg_of X G a_MOST_HOUSES,w1n,PySem.W.mg_of X G a_LONGEST_LINE,w1c,PySem.W.mg_of X G a_GREATEST_WEIGHT,w0p,PySem.W.mg_none_of X G y_abs,PySem.W.mg_none_of X G y_all,PySem.W.mg_none_of X G y_bool,PySem.W.mg_none_of X G y_dict,PySem.W.mg_none_of X G y_int,PySem.W.mg_none_of X G y_isinstance,PySem.W.mg_none_of X G y_len,PySem.W.mg_none_of X G y_list,PySem.W.mg_none_of X G y_range,PySem.W.mg_none_of X G y_set,PySem.W.mg_none_of X G y_sorted,PySem.W.mg_none_of X G y_str,PySem.W.mg_none_of X G y_sum,PySem.W.mg_none_of X G y_tuple,w0e,w39,w12,w13,w0w,w0c,w0d,w09,w04,w0h,w0f,w1e,w02,w5t,w8c,w1r,w2g,w2f,w1s,w06,w0j,w0k,w0q,w22,w0z,w0v,w07,w0n,w0o,w0b,w0x,w0s,w0a,w03,qd3 q_NoHouse,qd3 q_NoAmount,qd3 q_NoWare,qd3 q_NoName,qd3 q_NoNumber,qd3 q_Taken,qd3 q_TooMany,qd3 q_TooDeep⟩,rfl,fun s v=> .of_eq rfl⟩
theorem walk {l:PySem.W.OpenLaw} {q:Program} {loose:List Str} {XP:(Str->Option Value)->Heap->Prop} {YP:World->Heap->Prop} {e:DefRec} {K:Params->Frag} (hn:l.most=some 63) (hdf:e.params.defaults=[]) (hlaw:e.name= "law")
  (hY:∀(w:World) (h:Heap),YP w h->(K w.params).In h) {dy:DefRec} (hrec:(PyProof.Rows.recsOf q).find? (fun e=>e.name==("_law_weigher" :Str))=some dy) (tab:∀w:World,∃c p,tabIn (K w.params) "_law_weigher" =some (c,p)/\(K w.params).lookup p=none)
  (F:∀(w:World) (mg:Str->Option Value) (fa:Addr) (h:Heap),(K w.params).In h->h.Ns mainGlobals mg->mg "law" =some (.ref fa)->∃d:Ad,Tx (K w.params) mg d/\fa=d.wcg/\∀(s:Shared) (v:Value),BindsTo s d.wax ⟨[v], []⟩ [("_law_script",v)]):
  PySem.W.WalkO q loose XP YP l.row.toRowW e [] (fun f vs=>PySem.call f vs):=by
 refine walk_ofT (n:=63) (k:=25) (x:="_law_script") (y:="_law_weigher") (CX:=fun _=>CX0) (sp:=fun w _ p=>sp_law0 (K w.params) p) hn (by decide) hdf ⟨rfl,by decide,by decide⟩ hY hrec tab (fun w mg fa h c p KX G hm ht=>?_) (fun _ _ _ _ a ns hl hp hS=>⟨a,ns,rfl,hS,hl,hp,fun _=>rfl⟩) fun _ _ _ _ _ z=>z
 rw [hlaw] at hm
 obtain⟨d,T,rfl,hb⟩:=F w mg fa h KX G hm
 exact⟨d.wax,hb,fun base kin hns C bm=>(ok_law (P:=l.prog) (w:=w) (base:=base) T (wcd T.w9y T.wam kin hns ht C bm)).imp fun vs H Q E q=>q⟩
end Our
namespace PySem.W.Fast
def tw2658403149313201034:=0
def tw13429685665179577220:=0
def tw1505374670018983176:=0
def tw2035480460072287841:=0
def tw14912244060395292367:=0
def tw15667987483234772528:=0
def tw8389640627231030349:=0
def tw6301970208208780977:=0
def tw4101704786551266300:=0
def tw902238364379805732:=0
def tw3050957545101390508:=0
def tw16489095562597914256:=0
def tw7696658951726541393:=0
def tw4146700448881286291:=0
def tw3762989874690327832:=0
def tw3176079436619554115:=0
def tw13304865934290864668:=0
def tw1060015622927045299:=0
def tw16434408549127986948:=0
def tw9629424155247427971:=0
def tw2017223649431738750:=0
def tw16725872353562597978:=0
def tw9280795505071765426:=0
def tw2508725848205923905:=0
def tw3137901695055457044:=0
def tw5407203292225491757:=0
def tw15908159936819918280:=0
def tw5795888884900335975:=0
def tw14732816707709425501:=0
def tw4968938756543576121:=0
def tw13269976156954568495:=0
def tw13524447329134746676:=0
def tw17083545172184810407:=0
def tw430904889618576408:=0
def tw850543038828793533:=0
def tw5387600150875090717:=0
def tw9478617447064672696:=0
def tw16736996457379939109:=0
def tw4386229734055162459:=0
def tw1642899350413853415:=0
def tw5684229023183015912:=0
def tw18167654648269378387:=0
def tw7463459822171667613:=0
def tw6525375654523023494:=0
def tw12672578807033186265:=0
def tw17654342376042459919:=0
def tw17997847563827057034:=0
def tw15792312135152161350:=0
def tw2595090147118469533:=0
def tw15110463844298173116:=0
def tw2533863485796355458:=0
def tw484156260159800420:=0
def tw14577934837372044031:=0
def tw16455477993110527554:=0
def tw15505955642698383388:=0
def tw17057568214013821811:=0
def tw9151296845796877049:=0
def tw8481727826188224777:=0
def tw17165301396629091024:=0
def tw15286732459439711182:=0
def tw16778064180280522381:=0
def tw996174854274902393:=0
def tw2315261835414700186:=0
def tw14421034182683034644:=0
def tw4476296106808872797:=0
def tw5765073384804620922:=0
def tw3978865475183280696:=0
def tw14035347027548089186:=0
def tw5890474050157155181:=0
def tw10025006628858590594:=0
def tw6912962123835896877:=0
def tw11386912558048513869:=0
def tw723024732908228092:=0
def tw15081018286891701700:=0
def tw1265141077263412700:=0
def tw15927376357633897051:=0
def tw16192292696168321813:=0
def tw7132460914907748768:=0
def tw3786046983442270145:=0
def tw2551547964983255724:=0
def tw14685763946076683627:=0
def tw262298580255595521:=0
def tw2769042883364890442:=0
def tw5729407208566986740:=0
def tw13499787261427441329:=0
def tw136266195772686412:=0
def tw6504004011324611008:=0
def tw8186246778764441340:=0
def tw12423187012629238691:=0
def tw16444756187591635810:=0
def tw5361195847397703743:=0
def tw15607282857707315772:=0
def tw706650675650275947:=0
def tw1913717326232640704:=0
def tw6125795296012950165:=0
def tw10276225914938431782:=0
def tw15261702130148125455:=0
def tw16763077908459520648:=0
def tw2548935920415089097:=0
def tw1487415622250865482:=0
def tw5282598711930085101:=0
def tw1911718513549123029:=0
def tw3797834663202939550:=0
def tw28607400548214394:=0
def tw9651260239747014298:=0
def tw7104615050796264133:=0
def tw3343516533580881059:=0
def tw9121787541367080348:=0
def tw12882066152787054588:=0
def tw1461783524603255690:=0
def tw15137292808123994824:=0
def tw7495144799078221414:=0
def tw17194474169502581380:=0
def tw15217279223387139231:=0
def tw7477898387554115485:=0
def tw16773847416016206564:=0
def tw8937157732920567464:=0
def tw17028450440733661557:=0
def tw1602903273276580029:=0
def tw558441245518638338:=0
def tw13276040279898343089:=0
def tw17618404761452912605:=0
def tw15200810763664055718:=0
def tw9302169745318640428:=0
def tw5337383047339963221:=0
def tw15885975803116549421:=0
def tw5390998142643612434:=0
def tw12075344959341370421:=0
def tw14207885505717473724:=0
def tw17674604924473142131:=0
def tw8126414733812200084:=0
def tw6130908402549239673:=0
def tw10099909473458857457:=0
def tw8414632634052602270:=0
def tw11511967952300890408:=0
def tw7393193231391969174:=0
def tw442440782130915777:=0
def tw1723164297511459254:=0
def tw1501152214731058035:=0
def tw11774668265668055144:=0
def tw14427765830110138909:=0
def tw17016811958347150526:=0
def tw9825763551258299047:=0
def tw14044732835919982641:=0
def tw17678918439634293860:=0
def tw6999916929599586225:=0
def tw7620866545635702586:=0
def tw2918268802427286989:=0
def tw10047360732734550117:=0
def tw5373096162319443790:=0
def tw17447327452615411903:=0
def tw16006263048467729492:=0
def tw4021953354215525286:=0
def tw1367023015227947968:=0
def tw11579689795207236008:=0
def tw5584531899353378971:=0
def tw2520891008684147761:=0
def tw8594908468677124559:=0
def tw16523510387458621189:=0
def tw15142247852360163284:=0
def tw10005730690050243688:=0
def tw895169242081587768:=0
def tw6332769029409429756:=0
def tw10825509187600993915:=0
def tw17167753338980573836:=0
def tw6961110131063686472:=0
def tw10241181783374405769:=0
def tw13240921609186990237:=0
def tw4449238370507676751:=0
def tw12274156932511260648:=0
def tw6673143305412601068:=0
def tw17741673459498574186:=0
def tw581727490638695474:=0
def tw3073094198841014603:=0
def tw16577500932332216583:=0
def tw4580808008871778103:=0
def tw2286899858698901940:=0
def tw12607740982831745550:=0
def tw8304988083349852815:=0
def tw18284704254716863256:=0
def tw6179170047828394314:=0
def tw15063407341595438235:=0
def tw7577618010462529385:=0
def tw10108459872087356964:=0
def tw13422523579489905846:=0
def tw12232826049528252908:=0
def tw3189848372037966644:=0
def tw12746883373919940794:=0
def tw13886100028341060398:=0
def tw9851726500151450859:=0
def tw15525070799551773479:=0
def tw15324367745590563741:=0
def tw11963998512217696627:=0
def tw264435502469440779:=0
def tw16014776623108046721:=0
def tw11643454788734808735:=0
def tw10295302042539379624:=0
def tw18197507153432681643:=0
def tw14560638284434831086:=0
def tw11773764525180970640:=0
def tw11688327457258697076:=0
def tw1772221016472275899:=0
def tw14913563292338907000:=0
def tw11469858366545985184:=0
def tw8158010617923514247:=0
def tw13076602437974865305:=0
def tw3486405071050594652:=0
def tw11653332336760549242:=0
def tw27479733356568501:=0
def tw17693025458693806461:=0
def tw227635986219692150:=0
def tw8061931202740983828:=0
def tw9971772031515158451:=0
def tw15962409722410479483:=0
def tw14897881945369033930:=0
def tw11624766198678226973:=0
def tw15910258501547472503:=0
def tw17249739909402140145:=0
def tw10562858715687061485:=0
def tw16415444063305431990:=0
def tw14565004755987779738:=0
def tw6098175600885152158:=0
def tw16666660903722666459:=0
def tw13819589530352799788:=0
def tw3442149348632190349:=0
def tw8325447770050566589:=0
def tw7994432298236794810:=0
def tw5724116359669536832:=0
def tw3329730887079765208:=0
def tw15573286963590494788:=0
def tw15456376228407227434:=0
def tw3637701641173606477:=0
def tw11628599833399263741:=0
def tw3789109761858211060:=0
def tw4384540856846361921:=0
def tw400808727624283724:=0
def tw2836164233209050779:=0
def tw11606805874443760516:=0
def tw17879968341240334890:=0
def tw6013760877958334639:=0
def tw15188654545531166865:=0
def tw12286723175221276947:=0
def tw1576138941133695531:=0
def tw2538085844232414362:=0
def tw8670021603885391416:=0
def tw2044643060258864294:=0
def tw15619574931509293464:=0
def tw7149430644662750213:=0
def tw5949362116466074289:=0
def tw16132074780432094048:=0
def tw13803371143591572917:=0
def tw11627757771076278395:=0
def tw10149507826906480307:=0
def tw5927201042791265609:=0
def tw1411898944568466142:=0
def tw17929033595055149294:=0
def tw5851213002548725811:=0
def tw10022162899159835043:=0
def tw5016792128481688710:=0
def tw18409183391504876291:=0
def tw16556198282052590358:=0
def tw9829673675977432580:=0
def tw2744997706981630174:=0
def tw18224793683021635104:=0
def tw16852864490244103701:=0
def tw5612676920573741763:=0
def tw5842909959531833430:=0
def tw203715987344416951:=0
def tw16532212109089649757:=0
def tw7433062160793659587:=0
def tw14744691560969057628:=0
def tw6691952029249242282:=0
def tw3235154307423065620:=0
def tw15208048402056373066:=0
def tw3863279343715475574:=0
def tw11603989026839390844:=0
def tw4965462659185147388:=0
def tw15515490684792381631:=0
def tw2491178902346252337:=0
def tw2243134805383652229:=0
def tw18005515621782599257:=0
def tw14493501651831760020:=0
def tw4025637076571107138:=0
def tw18301200800544854328:=0
def tw11886946018500505326:=0
def tw10545193651470647581:=0
def tw12588626674942191902:=0
def tw5526941395969449424:=0
def tw604261058986022473:=0
def tw18172974251179446033:=0
def tw15038260512990966954:=0
def tw10346533253801528257:=0
def tw1088879881788536801:=0
def tw3953329558503755584:=0
def tw605513401063496803:=0
def tw13539595267863465015:=0
def tw44358284224641349:=0
def tw11145448043552655235:=0
def tw8231831573499942162:=0
def tw14302805643019208677:=0
def tw14964285769186388822:=0
def tw14735952144106049072:=0
def tw14055813954232141698:=0
def tw5892740068824175068:=0
def tw1458089743757664077:=0
def tw14476384265334436488:=0
def tw14267281986908055883:=0
def tw11863478794287844718:=0
def tw1455434627325853102:=0
def tw3799833464977242364:=0
def tw15131143778708577934:=0
def tw14095430028798906229:=0
def tw13710249864467666799:=0
def tw17402010805852127115:=0
def tw2719554448558592794:=0
def tw10933995232518719975:=0
def tw17075547206674693733:=0
def tw17524925188631931175:=0
def tw11658955342664877686:=0
def tw6759187957468769500:=0
def tw16358815578006986628:=0
def tw4000961140103050321:=0
def tw17117427324061970630:=0
def tw9434429540461349211:=0
def tw8367510100580996783:=0
def tw15232960267080019467:=0
def tw5859714788396603704:=0
def tw4471277876646202410:=0
def tw8462548998051375274:=0
def tw11650379008926179950:=0
def tw5709368866104961865:=0
def tw17278828345169578055:=0
def tw15329466588255531842:=0
def tw1124208125647311391:=0
def tw13313477269094209597:=0
def tw6306349201731232042:=0
def tw5739614672555318925:=0
def tw3781634094070994260:=0
def tw3630845741557367503:=0
def tw17570655937543257072:=0
def tw10529268254592613234:=0
def tw8350169363364589914:=0
def tw6874855501921306808:=0
def tw14650161501652005740:=0
def tw804010574610470748:=0
def tw6863760269153292102:=0
def tw5670720704831072047:=0
def tw4208830508059820006:=0
def tw18229276994237596122:=0
def tw13744677715140502079:=0
def tw13102210248800008324:=0
def tw11426904171652695775:=0
def tw10913540424170672193:=0
def tw559666136635147335:=0
def tw15481736848817202181:=0
def tw14419553560870773805:=0
def tw12319918047308672431:=0
def tw2987337907756042205:=0
def tw13994884621303449191:=0
def tw4584222828178935768:=0
def tw3688512315636209288:=0
def tw6109756891694819212:=0
def tw11890976402698906771:=0
def tw5071669660522417226:=0
def tw4457197739522622024:=0
def tw3724714941925014776:=0
def tw2619100235072148354:=0
def tw15310230504010839453:=0
def tw15009385281360610959:=0
def tw16070017305655655387:=0
def tw4744582458804863311:=0
def tw3014228674152839206:=0
def tw14018750634812268416:=0
def tw11858815258799707400:=0
def tw711512869719494559:=0
def tw623850497566112770:=0
def tw5453677714441929666:=0
def tw18369941218363806747:=0
def tw9868769573606360399:=0
def tw760997085182227823:=0
end PySem.W.Fast
open PySem PySem.W PyProof.Rows
set_option maxRecDepth 100000 in
set_option maxHeartbeats 0 in
theorem PySem.Challenge.cw_quotatree_k53_rounds_holds : PySem.Challenge.rw_quotatree_k53_rounds.Holds := by
 w_on;o_law;k_head;(case hw=>w_witness2)
 k_fill
 refine Our.walk (l:=PySem.Challenge.rw_quotatree_k53_rounds) rfl rfl rfl (fun w h Y=>PySem.W.km_in_of Y) rfl (fun w=>⟨630,626,by kernel_rfl,by kernel_rfl⟩) ?F
 case F=>
  intro w mg fa h KX G hmg
  refine' Our.txt_mk KX G hmg ?g_z0 ?g_z1 ?g_z2 ?g_z3 ?g_z4 ?g_z5 ?g_z6 ?g_z7 ?g_z8 ?g_z9 ?g_z10 ?g_z11 ?g_z12 ?g_z13 ?g_z14 ?g_z15 ?g_z16 ?g_z17 ?g_z18 ?g_z19 ?a_z20 ?l_z20 ?c_z20 ?k_z20 ?tt_z20 ?td_z20 ?rd_z20 ?g_z21 ?g_z22 ?g_z23 ?g_z24 ?g_z25 ?g_z26 ?g_z27 ?g_z28 ?g_z29 ?g_z30 ?g_z31 ?g_z32 ?g_z33 ?g_z34 ?g_z35 ?g_z36 ?g_z37 ?g_z38 ?g_z39 ?g_z40 ?g_z41 ?g_z42 ?g_z43 ?g_z44 ?g_z45 ?g_law ?g_z47 ?a_z48 ?l_z48 ?c_z48 ?k_z48 ?tt_z48 ?td_z48 ?rd_z48 ?a_z49 ?l_z49 ?c_z49 ?k_z49 ?tt_z49 ?td_z49 ?rd_z49 ?g_z50 ?g_z51 ?g_z52 ?g_z53 ?g_z54 ?g_z55 ?g_z56 ?g_z57 ?g_z58 ?g_z59 ?g_z60 ?g_z61 ?g_z62 ?g_z63 ?g_z64 ?g_z65 ?g_z66 ?g_z67 ?qi_z67 ?hi_z67 ?a_House ?a_Tree ?a_Dealing ?a_TreeError ?a_NoName ?a_Taken ?a_NoHouse ?a_NoPromise ?a_NoWare ?a_NoAmount ?a_NoNumber ?a_TooMany ?a_TooDeep ?a_LETTERS ?w4n ?a_LONGEST_NAME ?w1d ?a_MOST_WARES ?w21 ?a_MOST_HOUSES ?w1n ?a_LONGEST_LINE ?w1c ?a_GREATEST_WEIGHT ?w0p ?q_NoHouse ?q_NoAmount ?q_NoWare ?q_NoName ?q_NoNumber ?q_Taken ?q_TooMany ?q_TooDeep ?w0e ?w39 ?w12 ?w13 ?w0w ?w0c ?w0d ?w09 ?w04 ?w0h ?w0f ?w1e ?w02 ?w5t ?w8c ?w1r ?w2g ?w2f ?w1s ?w06 ?w0j ?w0k ?w0q ?w22 ?w0z ?w0v ?w07 ?w0n ?w0o ?w0b ?w0x ?w0s ?w0a ?w03 ?y_abs ?y_all ?y_bool ?y_dict ?y_int ?y_isinstance ?y_len ?y_list ?y_range ?y_set ?y_sorted ?y_str ?y_sum ?y_tuple
  (case a_House=>k_is)
  (case a_Tree=>k_is)
  (case a_Dealing=>k_is)
  (case a_TreeError=>k_is)
  (case a_NoName=>k_is)
  (case a_Taken=>k_is)
  (case a_NoHouse=>k_is)
  (case a_NoPromise=>k_is)
  (case a_NoWare=>k_is)
  (case a_NoAmount=>k_is)
  (case a_NoNumber=>k_is)
  (case a_TooMany=>k_is)
  (case a_TooDeep=>k_is)
  all_goals try (refine' ⟨?a,L2.fun_mk ?l ?c ?k⟩;(case a=>k_is);(case l=>k_is);(case c=>k_is);(case k=>k_is))
  (case a_z20=>k_is);(case l_z20=>k_is);(case c_z20=>k_is);(case k_z20=>k_is)
  (case tt_z20=>k_is);(case td_z20=>first|rfl|k_is);(case rd_z20=>first|exact .cons ⟨_,rfl⟩ .nil|exact .cons rfl .nil)
  (case a_z48=>k_is);(case l_z48=>k_is);(case c_z48=>k_is);(case k_z48=>k_is)
  (case tt_z48=>k_is);(case td_z48=>first|rfl|k_is);(case rd_z48=>first|exact .cons ⟨_,rfl⟩ .nil|exact .cons rfl .nil)
  (case a_z49=>k_is);(case l_z49=>k_is);(case c_z49=>k_is);(case k_z49=>k_is)
  (case tt_z49=>k_is);(case td_z49=>first|rfl|k_is);(case rd_z49=>first|exact .cons ⟨_,rfl⟩ .nil|exact .cons rfl .nil)
  (case qi_z67=>kernel_rfl);(case hi_z67=>k_is)
  (case a_LETTERS=>k_is)
  (case w4n=>exact⟨_,rfl⟩)
  (case a_LONGEST_NAME=>k_is)
  (case w1d=>exact⟨_,rfl⟩)
  (case a_MOST_WARES=>k_is)
  (case w21=>exact⟨_,rfl⟩)
  (case a_MOST_HOUSES=>k_is)
  (case w1n=>exact⟨_,rfl⟩)
  (case a_LONGEST_LINE=>k_is)
  (case w1c=>exact⟨_,rfl⟩)
  (case a_GREATEST_WEIGHT=>k_is)
  (case w0p=>exact⟨_,rfl⟩)
  (case q_NoHouse=>k_exc)
  (case q_NoAmount=>k_exc)
  (case q_NoWare=>k_exc)
  (case q_NoName=>k_exc)
  (case q_NoNumber=>k_exc)
  (case q_Taken=>k_exc)
  (case q_TooMany=>k_exc)
  (case q_TooDeep=>k_exc)
  (case w0e=>(constructor <;> first|k_is|kernel_rfl))
  (case w39=>(constructor <;> first|k_is|kernel_rfl))
  (case w12=>(constructor <;> first|k_is|kernel_rfl))
  (case w13=>(constructor <;> first|k_is|kernel_rfl))
  (case w0w=>(constructor <;> first|k_is|kernel_rfl))
  (case w0c=>(constructor <;> first|k_is|kernel_rfl))
  (case w0d=>k_is)
  (case w09=>k_is)
  (case w04=>k_is)
  (case w0h=>k_is)
  (case w0f=>k_is)
  (case w1e=>(constructor <;> first|k_is|kernel_rfl))
  (case w02=>(constructor <;> first|k_is|kernel_rfl))
  (case w5t=>(constructor <;> first|k_is|kernel_rfl))
  (case w8c=>(constructor <;> first|k_is|kernel_rfl))
  (case w1r=>(constructor <;> first|k_is|kernel_rfl))
  (case w2g=>(constructor <;> first|k_is|kernel_rfl))
  (case w2f=>(constructor <;> first|k_is|kernel_rfl))
  (case w1s=>(constructor <;> first|k_is|kernel_rfl))
  (case w06=>(constructor <;> first|k_is|kernel_rfl))
  (case w0j=>(constructor <;> first|k_is|kernel_rfl))
  (case w0k=>(constructor <;> first|k_is|kernel_rfl))
  (case w0q=>(constructor <;> first|k_is|kernel_rfl))
  (case w22=>(constructor <;> first|k_is|kernel_rfl))
  (case w0z=>(constructor <;> first|k_is|kernel_rfl))
  (case w0v=>(constructor <;> first|k_is|kernel_rfl))
  (case w07=>(constructor <;> first|k_is|kernel_rfl))
  (case w0n=>(constructor <;> first|k_is|kernel_rfl))
  (case w0o=>k_is)
  (case w0b=>k_is)
  (case w0x=>k_is)
  (case w0s=>k_is)
  (case w0a=>k_is)
  (case w03=>k_is)
  (case y_abs=>k_is)
  (case y_all=>k_is)
  (case y_bool=>k_is)
  (case y_dict=>k_is)
  (case y_int=>k_is)
  (case y_isinstance=>k_is)
  (case y_len=>k_is)
  (case y_list=>k_is)
  (case y_range=>k_is)
  (case y_set=>k_is)
  (case y_sorted=>k_is)
  (case y_str=>k_is)
  (case y_sum=>k_is)
  (case y_tuple=>k_is)