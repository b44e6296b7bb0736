import PyProof.Rows.All
import Wide.All
import OpenK.AllK
import Wide.FinOn
import Lean
import PyProof.EqAt
import PyProof.EqKinds
import PyProof.TupleCall
import PyProof.NeKinds
import KE.KEqDict
import KE.KRevIter
import PyProof.FactsAll.range_2
import PyProof.ZipIter
import PyProof.FitsReplace
import PyProof.MeetsStr
import PyProof.ListRange
import PyProof.CollectWalk
import PyProof.DictItems
import PyProof.DictItemsLoops
import PyProof.DictValues
import PyProof.DictWalks
import PyProof.StrCalls
import KE.KIsAll
import PyProof.Rows.Range3
import PyProof.Rows.MinMaxN
import PyProof.SumWalkG
import PyProof.MeetsStr2
import PyProof.StrBlockL
import PyProof.Rows.StrNews2
import PyProof.StrLawsOccR
import KE.KIntText
import PyProof.StrLawsIn
import PyProof.Rows.SeqMore2
import PyProof.ListOps
import PyProof.Rows.SeqMore
import PyProof.Rows.SeqGen
import PyProof.EnumFor
import PyProof.EnumMake
import PySem.Challenge.RW_quotatree_k41_left_over_and_room
open PySem.W (Frag instObj lookIn plainGet hasDictIn findIn isFn emptyDict specialIn keepIn mroIn kitOne fnOf codeIn kitCls excIn nsIn)
open List renaming getElem?_eq_getElem->zA,length_map->zB,getElem?_map->zC,mem_of_getElem?->zD,map_append->zE,mem_cons_of_mem->zF,mem_singleton->zG,length_append->zH,mem_map->zI,mem_append_right->zJ,mem_cons->zK,mem_cons_self->zL,take_add_one->zM,size_toArray->zN,getElem_mem->zO,length_cons->zP,mem_iff_getElem->zQ,take_length->zR,map_cons->zS,length_filter_le->zT,length_take->zU,mem_append->zV,filter_cons->zW,filter_append->zX,pairwise_iff_getElem->zY,append_nil->zZ,nodup_cons->yA,length_singleton->yB,getElem?_append_right->yC,mem_filter->yD,all_eq_true->yE,getElem?_append_left->yF,not_mem_nil->yG,mem_append_left->yH,find?_cons->yI,getElem?_eq_none->yJ,nodup_nil->yK,nodup_append->yL,mem_flatten->yM,filter_nil->yN,length_range->yO,mem_range->yP,pairwise_map->yQ,length_nil->yR,any_eq_true->yS,foldl_cons->yT,map_map->yU,any_cons->yV,sum_cons->yW,all_cons->yX
set_option compiler.extract_closed false
set_option Elab.async false
set_option linter.all false
set_option maxRecDepth 100000
namespace L2
open PySem PySem.Spec PyProof.Rows
abbrev Key:=Sum Int Str
def keyIs:Key->Value->Bool
 | .inl k,v=>Value.isInt k v
 | .inr x,v=>Value.isStrOf x v
def keyH (w:World):Key->Int
 | .inl k=>hashInt k
 | .inr x=>hashStr w x
theorem qba:∀{k:Key} {v:Value},keyIs k v=true->(∃i t,k=Sum.inl i/\v=Value.int i t)\/(∃x t,k=Sum.inr x/\v=Value.str x t)
 | .inl i,v,h=>by
  obtain⟨t,e⟩:=Value.isInt_shape (k:=i) (v:=v) h
  exact .inl ⟨i,t,rfl,e⟩
 | .inr x,v,h=>by
  obtain⟨t,e⟩:=Value.isStrOf_shape (x:=x) (v:=v) h
  exact .inr ⟨x,t,rfl,e⟩
theorem keyIs_int (i:Int) (t:Tok):keyIs (.inl i) (.int i t)=true:=by simp [keyIs,Value.isInt]
theorem keyIs_str (x:Str) (t:Tok):keyIs (.inr x) (.str x t)=true:=by simp [keyIs,Value.isStrOf]
theorem key_ll (a b:Int):decide ((Sum.inl a:Key)=Sum.inl b)=(a==b):=by
 by_cases e:a=b
 .subst e;simp
 .have h:¬(Sum.inl a:Key)=Sum.inl b:=fun q=>e (Sum.inl.inj q)
  rw [decide_eq_false h]
  exact(beq_eq_false_iff_ne.mpr e).symm
theorem key_rr (a b:Str):decide ((Sum.inr a:Key)=Sum.inr b)=decide (a=b):=by
 by_cases e:a=b
 .subst e;simp
 .have h:¬(Sum.inr a:Key)=Sum.inr b:=fun q=>e (Sum.inr.inj q)
  rw [decide_eq_false h,decide_eq_false e]
theorem key_lr (a:Int) (b:Str):decide ((Sum.inl a:Key)=Sum.inr b)=false:=decide_eq_false (fun q=>nomatch q)
theorem key_rl (a:Str) (b:Int):decide ((Sum.inr a:Key)=Sum.inl b)=false:=decide_eq_false (fun q=>nomatch q)
def qbc (prog:Program) (w:World):PySem.KeyKind prog w Key where
 is:=keyIs
 hash:=keyH w
 inj:=fun v a b ha hb=>by
  rcases qba ha with ⟨i,t,rfl,rfl⟩ |⟨x,t,rfl,rfl⟩
  .rcases qba hb with ⟨j,u,rfl,e⟩ |⟨y,u,rfl,e⟩
   .injection e with e1 _;rw [e1]
   .exact nomatch e
  .rcases qba hb with ⟨j,u,rfl,e⟩ |⟨y,u,rfl,e⟩
   .exact nomatch e
   .injection e with e1 _;rw [e1]
 byValue:=fun k v h=>by
  rcases qba h with ⟨i,t,rfl,rfl⟩ |⟨x,t,rfl,rfl⟩ <;> rfl
 pyHash:=fun hv h=>by
  rcases qba hv with ⟨i,t,rfl,rfl⟩ |⟨x,t,rfl,rfl⟩
  .exact wpAny_pyHash_int h
  .exact wpAny_pyHash_str h
 eqBool:=fun hu hv h=>by
  rcases qba hu with ⟨i,t,rfl,rfl⟩ |⟨x,t,rfl,rfl⟩
  .rcases qba hv with ⟨j,u,rfl,rfl⟩ |⟨y,u,rfl,rfl⟩
   .rw [key_ll] at h;exact wpAny_eqBool_int h
   .rw [key_lr] at h;exact SeqAt.EqAt.int_str i t y u _ _ _ _ h
  .rcases qba hv with ⟨j,u,rfl,rfl⟩ |⟨y,u,rfl,rfl⟩
   .rw [key_rl] at h;exact SeqAt.EqAt.str_int x t j u _ _ _ _ h
   .rw [key_rr] at h;exact wpAny_eqBool_str h
 «strs»:=fun k x t v h=>by
  rcases qba h with ⟨i,u,rfl,e⟩ |⟨y,u,rfl,e⟩
  .exact nomatch e
  .injection e with e1 _
   subst e1
   cases v <;> rfl
theorem mixKind_int (prog:Program) (w:World) (i:Int) (t:Tok):(qbc prog w).is (.inl i) (.int i t)=true:=keyIs_int i t
theorem mixKind_str (prog:Program) (w:World) (x:Str) (t:Tok):(qbc prog w).is (.inr x) (.str x t)=true:=keyIs_str x t
inductive V where
 |non|bl (b:Bool) |int (i:Int) |str (x:Str) |byt (b:Array UInt8) |flt (b:UInt64) |ref (a:Addr) |ty (n:String)
 deriving DecidableEq
def qbe:V->Value->Prop
 | .non,u=>u=Value.none
 | .bl b,u=>u=Value.bool b
 | .int i,u=>∃t,u=Value.int i t
 | .str x,u=>∃t,u=Value.str x t
 | .byt b,u=>∃t,u=Value.bytes b t
 | .flt b,u=>∃t,u=Value.float b t
 | .ref a,u=>u=Value.ref a
 | .ty n,u=>u=Value.type n
abbrev qbd:List V->List Value->Prop:=Paired qbe
theorem qbd.length {xs:List V} {us:List Value} (r:qbd xs us):xs.length=us.length:=Paired.length r
theorem qbd.get:∀{xs:List V} {us:List Value} {i:Nat} {x:V},qbd xs us->xs[i]?=some x->∃u,us[i]?=some u/\qbe x u
 |_,_,_,_,.nil,e=>by simp at e
 |_,_,0,_,.cons r _,e=>by simp at e;subst e;exact⟨_,rfl,r⟩
 |_,_,i+1,x,.cons _ t,e=>by
  obtain⟨u,h1,h2⟩:=qbd.get (i:=i) (x:=x) t (by simpa using e)
  exact⟨u,by simpa using h1,h2⟩
theorem qbd.set {x:V} {u:Value} (r:qbe x u):∀{xs:List V} {us:List Value} (i:Nat),qbd xs us->qbd (xs.set i x) (us.set i u)
 |_,_,_,.nil=> .nil
 |_,_,0,.cons _ t=> .cons r t
 |_,_,i+1,.cons q t=> .cons q (qbd.set r i t)
theorem qbd.append:∀{xs ys:List V} {us ws:List Value},qbd xs us->qbd ys ws->qbd (xs++ys) (us++ws)
 |_,_,_,_,.nil,s=>s
 |_,_,_,_,.cons r t,s=> .cons r (qbd.append t s)
theorem qbd.take:∀{xs:List V} {us:List Value} (n:Nat),qbd xs us->qbd (xs.take n) (us.take n)
 |_,_,0,_=> .nil
 |_,_,_+1,.nil=> .nil
 |_,_,n+1,.cons r t=> .cons r (qbd.take n t)
theorem qbd.drop:∀{xs:List V} {us:List Value} (n:Nat),qbd xs us->qbd (xs.drop n) (us.drop n)
 |_,_,0,r=>r
 |_,_,_+1,.nil=> .nil
 |_,_,n+1,.cons _ t=>qbd.drop n t
def qg3:Option V->Option Value->Prop
 |some v,some u=>qbe v u
 |none,none=>True
 |_,_=>False
def KV {κ:Type}:List (κ × V)->List (κ × Value)->Prop:=Paired fun(p:κ × V) (q:κ × Value)=>p.1=q.1/\qbe p.2 q.2
def kV:Key->V
 | .inl i=> .int i
 | .inr x=> .str x
inductive HO where
 |lst (xs:List V)
 |tup (xs:List V)
 |dK (kvs:List (Key × V)) |dT (kvs:List (List Key × V))
 |set (S:Int->Bool) (n:Nat)
 |ins (C dx:Addr) (fs:List (Str × V))
 |own (x:Addr)
 |xd (fs:List (Str × V))
 |met (f x:Addr)
 |rng (lo hi:Int)
 |frz (o:Obj) (u:HO)
 |tbl (ps:Array Value)
 |ext (φ:Heap->Prop)
abbrev Hp:=Addr->Option HO
def upd (H:Hp) (a:Addr) (o:HO):Hp:=fun b=>if b=a then some o else H b
theorem qa2 {H:Hp} {a:Addr} {o:HO}:upd H a o a=some o:=by unfold upd;rw [if_pos rfl]
theorem qa7 {H:Hp} {a b:Addr} {o:HO} (h:b≠a):upd H a o b=H b:=by unfold upd;rw [if_neg h]
theorem qbj {H:Hp} {a:Addr} {o u:HO}:upd (upd H a o) a u=upd H a u:=by
 funext b;unfold upd;split <;> rfl
theorem ne_of {H:Hp} {a b:Addr} {o u:HO} (h:H a=some o) (h':H b=some u) (d:o≠u):a≠b:=by
 intro e;subst e;rw [h] at h';exact d (Option.some.inj h')
theorem qaa {H:Hp} {a b:Addr} {o:HO} (h:H a=some o) (h':H b=none):a≠b:=by
 intro e;subst e;rw [h] at h';cases h'
section
variable (P: Program) (w: World)
def qbh (H:Hp) (h:Heap) (a:Addr):HO->Prop
 | .lst xs=>xs.length<=sizeLine/\∃(its:List Value) (n:Nat),qbd xs its/\h.get? a=some {cls:=.type "list",data:=.seq its.toArray n}
 | .tup xs=>xs.length<=sizeLine/\∃its:List Value,qbd xs its/\IsTup h a its.toArray
 | .dK kvs=>kvs.length<=sizeLine/\(a==sysModules)=false/\∃vs,KV kvs vs/\h.DictOf (qbc P w) a vs
 | .dT kvs=>kvs.length<=sizeLine/\(a==sysModules)=false/\∃xs:List (List Key × Addr × Value),
   Paired (fun(p:List Key × V) (q:List Key × Addr × Value)=>p.1=q.1/\H q.2.1=some (.tup (p.1.map kV))/\qbe p.2 q.2.2) kvs xs/\
   ∃o es ep,h.get? a=some o/\o.ExactDict/\o.data=.dict es ep/\es.toList=xs.map (entryOfKey (tupleKind (qbc P w)))/\(xs.map (·.1)).Nodup
 | .set S n=>h.SetOf (intKind P w) a S n
 | .ins C dx fs=>H dx=some (.own a)/\fs.length<=1000/\dx≠a/\h.get? a=some (instObj C dx)/\
   ∃mA,h.Ns1 dx mA/\(∀f,qg3 (fs.lookup f) (mA f))/\PySem.Within mA (fs.map (·.1))
 | .own _=>∃o,h.get? a=some o
 | .xd fs=>∃mA,h.Ns1 a mA/\∀f,qg3 (fs.lookup f) (mA f)
 | .rng lo hi=>∃t u v,h.get? a=some {cls:=.type "range",data:=.fields #[.int lo t,.int hi u,.int 1 v]}
 | .frz o u=>h.get? a=some o/\qbh H h a u
 | .tbl ps=>h.get? a=some {cls:=.none,data:=.fields ps}
 | .met f x=>h.get? a=some (PySem.W.methodObj (.ref f) (.ref x))
 | .ext φ=>φ h/\(∃o,h.get? a=some o)/\∀h1 h2:Heap,φ h1->(∀o,h1.get? a=some o->h2.get? a=some o)->φ h2
def HOk (H:Hp) (h:Heap):Prop:=∀a o,H a=some o->qbh P w H h a o
end
section
variable {P: Program} {w: World} {H H': Hp} {h h': Heap} {a: Addr} {o: HO}
theorem qbh.lt (x:qbh P w H h a o):a < h.objs.size:=by
 cases o with
 |lst xs=>obtain⟨_,_,_,_,e⟩:=x;exact Heap.lt_size e
 |tup xs=>obtain⟨_,_,_,p⟩:=x;exact p.lt
 |dK kvs=>obtain⟨_,_,_,_,o,_,_,e,_⟩:=x;exact Heap.lt_size e
 |dT kvs=>obtain⟨_,_,_,_,o,_,_,e,_⟩:=x;exact Heap.lt_size e
 |set S n=>obtain⟨o,_,_,_,e,_⟩:=x;exact Heap.lt_size e
 |ins C dx fs=>obtain⟨_,_,_,e,_⟩:=x;exact Heap.lt_size e
 |own y=>obtain⟨_,e⟩:=x;exact Heap.lt_size e
 |xd fs=>obtain⟨_,⟨_,_,_,e,_⟩,_⟩:=x;exact Heap.lt_size e
 |rng lo hi=>obtain⟨_,_,_,e⟩:=x;exact Heap.lt_size e
 |frz ob u=>obtain⟨e,_⟩:=x;exact Heap.lt_size e
 |tbl ps=>exact Heap.lt_size (show h.get? a=some _ from x)
 |met f y=>exact Heap.lt_size (show h.get? a=some _ from x)
 |ext φ=>obtain⟨_,⟨_,e⟩,_⟩:=x;exact Heap.lt_size e
theorem Paired.mapP {α β:Type} {F G:α->β->Prop}:∀{l₁:List α} {l₂:List β},Paired F l₁ l₂->(∀a b,F a b->G a b)->Paired G l₁ l₂
 |_,_,.nil,_=> .nil
 |_,_,.cons r t,f=> .cons (f _ _ r) (Paired.mapP t f)
theorem qbh.stay (x:qbh P w H h a o) (k:∀b u,(b=a\/H b=some (.own a))->h.get? b=some u->h'.get? b=some u)
  (ho:∀b,H b=some (.own a)->H' b=some (.own a)) (ht:∀b xs,H b=some (.tup xs)->H' b=some (.tup xs)):qbh P w H' h' a o:=by
 induction o with
 |lst xs=>obtain⟨z,its,n,r,e⟩:=x;exact⟨z,its,n,r,k _ _ (.inl rfl) e⟩
 |tup xs=>obtain⟨z,its,r,ob,e,c⟩:=x;exact⟨z,its,r,ob,k _ _ (.inl rfl) e,c⟩
 |dK kvs=>obtain⟨z,y,vs,r,ob,es,ep,e,c⟩:=x;exact⟨z,y,vs,r,ob,es,ep,k _ _ (.inl rfl) e,c⟩
 |dT kvs=>
  obtain⟨z,y,xs,r,ob,es,ep,e,c⟩:=x
  exact⟨z,y,xs,Paired.mapP r fun p q z=>⟨z.1,ht _ _ z.2.1,z.2.2⟩,ob,es,ep,k _ _ (.inl rfl) e,c⟩
 |set S n=>obtain⟨ob,es,ep,t,e,c⟩:=x;exact⟨ob,es,ep,t,k _ _ (.inl rfl) e,c⟩
 |ins C dx fs=>
  obtain⟨d,z,ne,e,mA,⟨od,es,ep,e2,c⟩,r⟩:=x
  exact⟨ho _ d,z,ne,k _ _ (.inl rfl) e,mA,⟨od,es,ep,k _ _ (.inr d) e2,c⟩,r⟩
 |own y=>obtain⟨ob,e⟩:=x;exact⟨ob,k _ _ (.inl rfl) e⟩
 |xd fs=>obtain⟨mA,⟨od,es,ep,e,c⟩,r⟩:=x;exact⟨mA,⟨od,es,ep,k _ _ (.inl rfl) e,c⟩,r⟩
 |rng lo hi=>obtain⟨t,u,v,e⟩:=x;exact⟨t,u,v,k _ _ (.inl rfl) e⟩
 |frz ob u ih=>obtain⟨e,q⟩:=x;exact⟨k _ _ (.inl rfl) e,ih q⟩
 |tbl ps=>
  have e:h.get? a=some {cls:=.none,data:=.fields ps}:=x
  show h'.get? a=some {cls:=.none,data:=.fields ps}
  exact k a _ (.inl rfl) e
 |met f y=>
  have e:h.get? a=some (PySem.W.methodObj (.ref f) (.ref y)):=x
  show h'.get? a=some (PySem.W.methodObj (.ref f) (.ref y))
  exact k a _ (.inl rfl) e
 |ext φ=>obtain⟨p,⟨o,e⟩,st⟩:=x;exact⟨st _ _ p fun o q=>k _ _ (.inl rfl) q,⟨o,k _ _ (.inl rfl) e⟩,st⟩
theorem HOk.lt (x:HOk P w H h) (e:H a=some o):a < h.objs.size:=(x a o e).lt
theorem HOk.fresh (x:HOk P w H h) (e:h.objs.size<=a):H a=none:=by
 cases q:H a with
 |none=>rfl
 |some u=>exact absurd (Nat.lt_of_lt_of_le (x.lt q) e) (Nat.lt_irrefl _)
theorem HOk.kept (x:HOk P w H h) (k:∀b u,h.get? b=some u->h'.get? b=some u):HOk P w H h':=fun a o e=>
 (x a o e).stay (fun b u _ q=>k b u q) (fun _ q=>q) fun _ _ q=>q
theorem HOk.laid (x:HOk P w H h) (k:∀b u,h.get? b=some u->h'.get? b=some u) (hp:h.objs.size<=a) (new:qbh P w (upd H a o) h' a o):HOk P w (upd H a o) h':=fun b u e=>by
 have hn:=x.fresh hp
 by_cases hb:b=a
 .subst hb;rw [qa2] at e;cases e;exact new
 .rw [qa7 hb] at e
  exact(x b u e).stay (fun c v _ q=>k c v q) (fun c q=>by rw [qa7 (qaa q hn)];exact q) fun c xs q=>by rw [qa7 (qaa q hn)];exact q
end
def Rd (H:Hp) (a:Addr) (u:HO):Prop:=H a=some u\/∃o,H a=some (.frz o u)
theorem Rd.of {H:Hp} {a:Addr} {u:HO} (h:H a=some u):Rd H a u:=.inl h
theorem Rd.ok {P:Program} {w:World} {H:Hp} {h:Heap} {a:Addr} {u:HO} (r:Rd H a u) (x:HOk P w H h):qbh P w H h a u:=by
 rcases r with r|⟨o,r⟩
 .exact x a u r
 .obtain⟨_,q⟩:=x a _ r
  exact q
def Mut:Option HO->Prop
 |some (.lst _)=>True
 |some (.dK _)=>True
 |some (.dT _)=>True
 |some (.set _ _)=>True
 |some (.ins _ _ _)=>True
 |some (.ext _)=>True
 |_=>False
section
variable {P: Program} {w: World} {H: Hp} {h h': Heap} {x e: Addr} {o': HO}
theorem HOk.write (ok:HOk P w H h) (mu:Mut (H x)) (he:e=x\/H e=some (.own x)) (k:∀b u,b≠e->h.get? b=some u->h'.get? b=some u) (heo:∃u,h'.get? e=some u)
  (new:qbh P w (upd H x o') h' x o'):HOk P w (upd H x o') h':=fun b u q=>by
 have nown:∀c y,H c=some (.own y)->c≠x:=fun c y r z=>by subst z;rw [r] at mu;exact mu
 have ntup:∀c xs,H c=some (.tup xs)->c≠x:=fun c xs r z=>by subst z;rw [r] at mu;exact mu
 by_cases hb:b=x
 .subst hb;rw [qa2] at q;cases q;exact new
 .rw [qa7 hb] at q
  by_cases hbe:b=e
  .have q':H b=some (.own x):=by
    rcases he with z|z
    .exact absurd (hbe.trans z) hb
    .rw [hbe];exact z
   rw [q] at q';cases q'
   obtain⟨v,hv⟩:=heo
   exact⟨v,by rw [hbe];exact hv⟩
  .refine(ok b u q).stay (fun c v hc r=>k c v ?_ r) (fun c r=>by rw [qa7 (nown c b r)];exact r) fun c xs r=>by rw [qa7 (ntup c xs r)];exact r
   rcases hc with rfl|hc
   .exact hbe
   .rintro rfl
    rcases he with z|z
    .exact nown c b hc z
    .rw [hc] at z;cases z;exact hb rfl
end
structure Un (fs ex:List Addr) (H H':Hp) (h h':Heap):Prop where
 keep:∀b o,h.get? b=some o->H b=none->b∉fs->b∉ex->h'.get? b=some o
 slot:∀b o,h.get? b=some o->H b=none->b∈fs->b∉ex->∃sl,h'.get? b=some {o with slots:=sl}
 free:∀b o,h.get? b=some o->H b=none->b∉ex->H' b=none
 there:∀b o,h.get? b=some o->b∉ex->∃o',h'.get? b=some o'
 tups:∀b xs,H b=some (.tup xs)->H' b=some (.tup xs)
 frzs:∀b o u,H b=some (.frz o u)->H' b=some (.frz o u)
 tbls:∀b ps,H b=some (.tbl ps)->∃more,H' b=some (.tbl (ps++more))
section
variable {fs ex: List Addr} {H H1: Hp} {h h1 h': Heap} {a x e: Addr} {o: HO}
theorem Un.any (u:Un fs ex H H1 h h1) {b:Addr} {ob:Obj} (q:h.get? b=some ob) (n:H b=none) (hx:b∉ex):∃sl,h1.get? b=some {ob with slots:=sl}:=by
 by_cases hb:b∈fs
 .exact u.slot b ob q n hb hx
 .exact⟨ob.slots,u.keep b ob q n hb hx⟩
theorem Un.kept (k:∀b u,h.get? b=some u->h'.get? b=some u):Un fs ex H H h h':=
 ⟨fun b ob q _ _ _=>k b ob q,fun b ob q _ _ _=>⟨ob.slots,k b ob q⟩,fun _ _ _ n _=>n,fun b ob q _=>⟨ob,k b ob q⟩,fun _ _ q=>q,fun _ _ _ q=>q,fun _ ps q=>⟨#[],by rw [q];simp⟩⟩
theorem Un.refl:Un fs ex H H h h:=Un.kept fun _ _ q=>q
theorem Un.laid (k:∀b u,h.get? b=some u->h'.get? b=some u) (hp:h.objs.size<=a) (hn:H a=none):Un fs ex H (upd H a o) h h' where
 keep:=fun b u q _ _ _=>k b u q
 slot:=fun b u q _ _ _=>⟨u.slots,k b u q⟩
 free:=fun b u q n _=>by rw [qa7 (Nat.ne_of_lt (Nat.lt_of_lt_of_le (Heap.lt_size q) hp))];exact n
 there:=fun b u q _=>⟨u,k b u q⟩
 tups:=fun b xs q=>by rw [qa7 (qaa q hn)];exact q
 frzs:=fun b u xs q=>by rw [qa7 (qaa q hn)];exact q
 tbls:=fun b ps q=>⟨#[],by rw [qa7 (qaa q hn),q];simp⟩
theorem Un.write (mu:Mut (H x)) (he:e=x\/H e=some (.own x)) (k:∀b u,b≠e->h.get? b=some u->h'.get? b=some u) (heo:∃u,h'.get? e=some u):Un fs ex H (upd H x o) h h':=by
 have hx:∀b,H b=none->b≠x:=fun b n z=>by subst z;rw [n] at mu;exact mu
 have hb:∀b,H b=none->b≠e:=fun b n z=>by
  subst z
  rcases he with r|r
  .exact hx b n r
  .rw [n] at r;cases r
 have hm:∀b u,H b=some u->¬Mut (some u)->b≠x:=fun b u q nm z=>by subst z;rw [q] at mu;exact nm mu
 refine⟨fun b u q n _ _=>k b u (hb b n) q,fun b u q n _ _=>⟨u.slots,k b u (hb b n) q⟩,fun b u q n _=>by rw [qa7 (hx b n)];exact n,fun b u q _=>?_,
  fun b xs q=>by rw [qa7 (hm b _ q fun z=>z)];exact q,fun b u xs q=>by rw [qa7 (hm b _ q fun z=>z)];exact q,fun b ps q=>⟨#[],by rw [qa7 (hm b _ q fun z=>z),q];simp⟩⟩
 by_cases hbe:b=e
 .subst hbe;exact heo
 .exact⟨u,k b u hbe q⟩
end
def trk (h:Heap) (H:Hp):List Addr:=(List.range h.objs.size).filter fun a=>(H a).isSome
def hidT (h:Heap) (H:Hp):Heap:=PySem.W.hideAll h (trk h H)
theorem hidT_size (h:Heap) (H:Hp):(hidT h H).objs.size=h.objs.size:=PySem.W.hideAll_size _ _
theorem hidT_get {h:Heap} {H:Hp} {b:Addr} {o:Obj} (e:h.get? b=some o) (n:H b=none):(hidT h H).get? b=some o:=
 PySem.W.hideAll_get _ e fun hm=>by
  have q:(H b).isSome=true:=(yD.mp hm).2
  rw [n] at q;simp at q
theorem of_hidT {h:Heap} {H:Hp} {b:Addr} {o:Obj} (e:(hidT h H).get? b=some o):h.get? b=some o/\H b=none:=by
 have e':h.get? b=some o:=PySem.W.of_hideAll (trk h H) e
 refine⟨e',?_⟩
 cases q:H b with
 |none=>rfl
 |some x=>
  have hm:b∈trk h H:=yD.mpr ⟨yP.mpr (Heap.lt_size e'),by simp [q]⟩
  have z:(hidT h H).get? b=none:=PySem.W.hideAll_none (trk h H) hm
  rw [z] at e;cases e
def allNews (g h:Heap) (L:Addr):List (Addr × Obj):=(List.range h.objs.size).filterMap fun a=>if a=L\/(g.get? a).isSome=true then none else (h.get? a).map fun o=>(a,o)
def rest (g h:Heap) (L d:Addr):List (Addr × Obj):=(allNews g h L).filter fun p=>decide (p.1≠d)
structure Mod (K:Frag) (mg:Str->Option Value) (base:Heap):Prop where
 kin:K.In base
 glob:base.Ns mainGlobals mg
 blt:∃mb,base.Ns builtinsNs mb/\∀x:Str,x≠"__name__"->mb x=bootBuiltins x
 nolimit:base.NoLimit
structure Cx where
 prog:Program
 w:World
 K:Frag
 mg:Str->Option Value
 base:Heap
 A:Around
 N:List Str
 s₀:Shared
 H₀:Hp
 env:Env
 outer:List Env
 stack:List Env
 ex:List Addr
 fn:Str->Bool
 calm:Bool
 pn:List (Addr × Obj)
 xe:Value->Shared->Prop
def frs (l:List Env):List Addr:=l.filterMap (·.frame)
abbrev Cx.fs (X:Cx):List Addr:=frs X.outer
def Vis (sc:Scope) (x:Str):Prop:=sc.names.lookup x=some .local\/sc.names.lookup x=some .cell\/sc.names.lookup x=some .free
def Loc (sc:Scope) (x:Str):Prop:=sc.names.lookup x=some .local\/sc.names.lookup x=some .cell
def Look (env:Env) (h:Heap) (m:Str->Option Value) (x:Str) (u:Value):Prop:=
 (env.kindOf x=some .local/\m x=some u)\/((env.kindOf x=some .cell\/env.kindOf x=some .free)/\∃c,env.cells.lookup x=some c/\h.IsCell c (some u))
structure Cx.Ok (X:Cx):Prop where
 mod:Mod X.K X.mg X.base
 kind:X.env.scope.kind=.function
 glob:X.env.globals=mainGlobals
 blt:X.env.builtins=builtinsNs
 above:X.s₀.heap.objs.size<=X.env.locals
 inj:∀x y c,X.env.cells.lookup x=some c->X.env.cells.lookup y=some c->x=y
 has:∀x,(X.env.kindOf x=some .cell\/X.env.kindOf x=some .free)->∃c,X.env.cells.lookup x=some c
 cab:∀x c,X.fn x=true->X.env.cells.lookup x=some c->X.s₀.heap.objs.size<=c
 hd:X.calm=true->X.A.handled=none
 frames:X.A.frames=some X.stack
 stk:X.stack=X.outer\/(X.stack=X.env :: X.outer/\X.env.frame=some X.env.locals)
 exf:∀b∈X.ex,b≠X.env.locals/\∀x c,X.env.cells.lookup x=some c->c≠b
 bs:∀b o,X.base.get? b=some o->X.s₀.heap.get? b=some o/\X.H₀ b=none
 bsz:X.base.objs.size<=X.s₀.heap.objs.size
 noex:∀b o,X.base.get? b=some o->b∉X.ex
 exfs:∀b∈X.ex,b∉X.fs
 funs:X.s₀.heap.FunFrames X.base X.outer
 frf:∀b∈X.fs,X.H₀ b=none
structure Inv (X:Cx) (pins:List (Addr × Obj)) (σ:List (Option V)) (H:Hp) (s:Shared):Prop where
 ok:X.Ok
 os:s.os=X.s₀.os
 bare:AllBare s.gens
 base:Un X.fs X.ex X.H₀ H X.s₀.heap s.heap
 loc:∃m,s.heap.Ns X.env.locals m/\∀(i:Nat) (x:Str) (v:V),X.N[i]?=some x->σ[i]?=some (some v)->Vis X.env.scope x->∃u,qbe v u/\Look X.env s.heap m x u
 cell:∀x c,X.env.cells.lookup x=some c->∃v,s.heap.IsCell c v
 free:H X.env.locals=none
 freeC:∀x c,X.env.cells.lookup x=some c->H c=none
 pin:∀p∈X.pn++pins,s.heap.get? p.1=some p.2/\H p.1=none/\p.1≠X.env.locals/\p.1∉X.fs/\∀v,p.2.data≠ .cell v
 hok:HOk X.prog X.w H s.heap
 len:σ.length=X.N.length
section
variable {X: Cx} {pins: List (Addr × Obj)} {σ: List (Option V)} {H H': Hp} {s: Shared} {h': Heap}
theorem Cx.Ok.nofr (ok:X.Ok) {b:Addr} {o:Obj} (e:X.base.get? b=some o):b∉X.fs:=fun hb=>by
 have:=(ok.funs.mem hb).1
 rw [e] at this;cases this
theorem Inv.bs (I:Inv X pins σ H s):∀b o,X.base.get? b=some o->s.heap.get? b=some o/\H b=none:=fun b o e=>
 ⟨I.base.keep b o (I.ok.bs b o e).1 (I.ok.bs b o e).2 (I.ok.nofr e) (I.ok.noex b o e),I.base.free b o (I.ok.bs b o e).1 (I.ok.bs b o e).2 (I.ok.noex b o e)⟩
theorem Inv.bk (I:Inv X pins σ H s):∀b o,X.base.get? b=some o->s.heap.get? b=some o:=fun b o e=>(I.bs b o e).1
theorem Inv.mod (I:Inv X pins σ H s):Mod X.K X.mg X.base:=I.ok.mod
theorem Inv.kIn (I:Inv X pins σ H s):X.K.In s.heap:=I.ok.mod.kin.keeps I.bk
theorem Inv.lt (I:Inv X pins σ H s):X.env.locals < s.heap.objs.size:=let ⟨_,hn,_⟩:=I.loc;hn.lt
theorem Inv.sz (I:Inv X pins σ H s):X.s₀.heap.objs.size<=s.heap.objs.size:=Nat.le_trans I.ok.above (Nat.le_of_lt I.lt)
theorem Inv.nofs (I:Inv X pins σ H s) {a:Addr} (h:s.heap.objs.size<=a):a∉X.fs:=fun hb=>by
 obtain⟨_,o,ho,_⟩:=I.ok.funs.mem hb
 exact absurd (Nat.lt_of_lt_of_le (Heap.lt_size ho) (Nat.le_trans I.sz h)) (Nat.lt_irrefl _)
theorem Inv.cne (I:Inv X pins σ H s):∀x c,X.env.cells.lookup x=some c->c≠X.env.locals:=fun x c e z=>by
 obtain⟨v,o,ho,hd⟩:=I.cell x c e
 obtain⟨m,⟨o',es,ep,ho',hd',_⟩,_⟩:=I.loc
 rw [z,ho'] at ho;cases ho;rw [hd'] at hd;cases hd
theorem Inv.funs (I:Inv X pins σ H s):s.heap.FunFrames X.base X.outer:=by
 have all:∀(l:List Env),(∀b∈frs l,b∈X.fs)->X.s₀.heap.FunFrames X.base l->s.heap.FunFrames X.base l:=by
  intro l
  induction l with
  |nil=>intro _ _;trivial
  |cons env r ih=>
   intro hs hl
   obtain⟨hk,⟨L,o,hf,hn,ho,hd⟩,hr⟩:=hl
   have hL:L∈X.fs:=hs L (by unfold frs;rw [List.filterMap_cons,hf];exact zL)
   obtain⟨sl,e⟩:=I.base.slot L o ho (I.ok.frf L hL) hL fun z=>I.ok.exfs L z hL
   exact⟨hk,⟨L,_,hf,hn,e,hd⟩,ih (fun b hb=>hs b (by unfold frs;rw [List.filterMap_cons,hf];exact zF _ hb)) hr⟩
 exact all X.outer (fun _ hb=>hb) I.ok.funs
theorem Inv.stack (I:Inv X pins σ H s):s.heap.FunFrames X.base X.stack:=by
 rcases I.ok.stk with e|⟨e,hf⟩
 .rw [e];exact I.funs
 .rw [e]
  obtain⟨m,hn,_⟩:=I.loc
  refine .cons (by rw [I.ok.kind];decide) hf hn ?_ I.funs
  exact Heap.get?_none_of_le (Nat.le_trans I.ok.bsz I.ok.above)
theorem Inv.stkSub (I:Inv X pins σ H s):∀b∈frs X.stack,b∈X.env.locals :: X.fs:=fun b hb=>by
 rcases I.ok.stk with e|⟨e,hf⟩
 .rw [e] at hb;exact zF _ hb
 .rw [e] at hb
  unfold frs at hb
  rw [List.filterMap_cons,hf] at hb
  exact hb
theorem Inv.stkFree (I:Inv X pins σ H s):∀b∈frs X.stack,H b=none:=fun b hb=>by
 rcases zK.mp (I.stkSub b hb) with e|hb
 .rw [e];exact I.free
 .obtain⟨_,o,ho,_⟩:=I.ok.funs.mem hb
  exact I.base.free b o ho (I.ok.frf b hb) fun z=>I.ok.exfs b z hb
theorem Inv.step {g':Array GenState} {t':Nat} {d':Drawn} {ch:List Addr} (I:Inv X pins σ H s)
  (hch:∀b∈ch,(b∈X.ex\/X.s₀.heap.objs.size<=b)/\b≠X.env.locals/\(∀x c,X.env.cells.lookup x=some c->c≠b)/\∀p∈X.pn++pins,p.1≠b)
  (keep:∀b o,b≠X.env.locals->b∉X.fs->b∉ch->s.heap.get? b=some o->H b=none->h'.get? b=some o)
  (slot:∀b o,b≠X.env.locals->b∈X.fs->b∉ch->s.heap.get? b=some o->H b=none->∃sl,h'.get? b=some {o with slots:=sl}) (free:∀b o,b∉ch->s.heap.get? b=some o->H b=none->H' b=none)
  (there:∀b o,b∉ch->s.heap.get? b=some o->∃o',h'.get? b=some o')
  (tups:∀b xs,H b=some (.tup xs)->H' b=some (.tup xs)) (frzs:∀b o u,H b=some (.frz o u)->H' b=some (.frz o u)) (tbls:∀b ps,H b=some (.tbl ps)->∃more,H' b=some (.tbl (ps++more)))
  (ns:∀m,s.heap.Ns X.env.locals m->h'.Ns X.env.locals m) (hok:HOk X.prog X.w H' h') (hg:AllBare g'):
  Inv X pins σ H' {s with heap:=h',gens:=g',drawn:=d',toks:=t'}:=by
 have neL:∀b o,X.s₀.heap.get? b=some o->b≠X.env.locals:=fun b o e=>Nat.ne_of_lt (Nat.lt_of_lt_of_le (Heap.lt_size e) I.ok.above)
 have neC:∀b o,X.s₀.heap.get? b=some o->b∉X.ex->b∉ch:=fun b o e hx hb=>by
  rcases(hch b hb).1 with z|z
  .exact hx z
  .exact absurd (Nat.lt_of_lt_of_le (Heap.lt_size e) z) (Nat.lt_irrefl _)
 have cellK:∀x c,X.env.cells.lookup x=some c->∀v,s.heap.IsCell c v->h'.IsCell c v:=fun x c e v ⟨o,ho,hd⟩=>by
  have nch:c∉ch:=fun z=>(hch c z).2.2.1 x c e rfl
  by_cases hc:c∈X.fs
  .obtain⟨sl,q⟩:=slot c o (I.cne x c e) hc nch ho (I.freeC x c e)
   exact⟨_,q,hd⟩
  .exact⟨o,keep c o (I.cne x c e) hc nch ho (I.freeC x c e),hd⟩
 refine⟨I.ok,I.os,hg,⟨fun b o e n hb hx=>?_,fun b o e n hb hx=>?_,fun b o e n hx=>?_,fun b o e hx=>?_,fun b xs e=>tups b xs (I.base.tups b xs e),fun b o xs e=>frzs b o xs (I.base.frzs b o xs e),fun b ps e=>?_⟩,?_,fun x c e=>?_,?_,fun x c e=>?_,fun p hp=>?_,hok,I.len⟩
 .exact keep b o (neL b o e) hb (neC b o e hx) (I.base.keep b o e n hb hx) (I.base.free b o e n hx)
 .obtain⟨sl,e1⟩:=I.base.slot b o e n hb hx
  obtain⟨sl',e2⟩:=slot b _ (neL b o e) hb (neC b o e hx) e1 (I.base.free b o e n hx)
  exact⟨sl',e2⟩
 .obtain⟨o',e1⟩:=I.base.there b o e hx
  exact free b o' (neC b o e hx) e1 (I.base.free b o e n hx)
 .obtain⟨o',e1⟩:=I.base.there b o e hx
  exact there b o' (neC b o e hx) e1
 .obtain⟨m1,e1⟩:=I.base.tbls b ps e
  obtain⟨m2,e2⟩:=tbls b _ e1
  exact⟨m1++m2,by rw [e2,Array.append_assoc]⟩
 .obtain⟨m,hn,hl⟩:=I.loc
  refine⟨m,ns m hn,fun i x v e1 e2 e3=>?_⟩
  obtain⟨u,r,l⟩:=hl i x v e1 e2 e3
  refine⟨u,r,?_⟩
  rcases l with l|⟨k,c,e,z⟩
  .exact .inl l
  .exact .inr ⟨k,c,e,cellK x c e _ z⟩
 .obtain⟨v,z⟩:=I.cell x c e
  exact⟨v,cellK x c e v z⟩
 .obtain⟨m,⟨o,_,_,ho,_⟩,_⟩:=I.loc
  exact free _ o (fun z=>(hch _ z).2.1 rfl) ho I.free
 .obtain⟨v,o,ho,hd⟩:=I.cell x c e
  exact free c o (fun z=>(hch c z).2.2.1 x c e rfl) ho (I.freeC x c e)
 .obtain⟨e,n,ne,nf,d⟩:=I.pin p hp
  have nch:p.1∉ch:=fun z=>(hch p.1 z).2.2.2 p hp rfl
  exact⟨keep p.1 p.2 ne nf nch e n,free p.1 p.2 nch e n,ne,nf,d⟩
theorem Inv.un {t':Nat} (I:Inv X pins σ H s) (u:Un X.fs [] H H' s.heap h') (hok:HOk X.prog X.w H' h'):Inv X pins σ H' {s with heap:=h',toks:=t'}:=by
 obtain⟨m,⟨o,es,ep,ho,r⟩,_⟩:=id I.loc
 obtain⟨sl,hL⟩:=u.any ho I.free (by simp)
 exact I.step (g':=s.gens) (d':=s.drawn) (ch:=[]) (fun _ z=>nomatch z) (fun b o _ hb _ e n=>u.keep b o e n hb (by simp)) (fun b o _ hb _ e n=>u.slot b o e n hb (by simp)) (fun b o _ e n=>u.free b o e n (by simp)) (fun b o _ e=>u.there b o e (by simp)) u.tups u.frzs u.tbls (fun m' hm=>by
  obtain⟨o',es',ep',ho',r'⟩:=hm
  rw [ho] at ho';cases ho'
  exact⟨_,es',ep',hL,r'⟩) hok I.bare
theorem Inv.call {g':Array GenState} {t':Nat} {d':Drawn} {ch:List Addr} (I:Inv X pins σ H s) (u:Un (frs X.stack) ch H H' s.heap h') (hok:HOk X.prog X.w H' h') (hg:AllBare g')
  (hch:∀b∈ch,(b∈X.ex\/X.s₀.heap.objs.size<=b)/\b≠X.env.locals/\(∀x c,X.env.cells.lookup x=some c->c≠b)/\∀p∈X.pn++pins,p.1≠b):
  Inv X pins σ H' {s with heap:=h',gens:=g',drawn:=d',toks:=t'}:=by
 obtain⟨m,⟨o,es,ep,ho,r⟩,_⟩:=id I.loc
 obtain⟨sl,hL⟩:=u.any ho I.free fun z=>(hch _ z).2.1 rfl
 exact I.step (ch:=ch) hch (fun b o hL hb hc e n=>u.keep b o e n (fun z=>(zK.mp (I.stkSub b z)).elim hL hb) hc) (fun b o _ _ hc e n=>u.any e n hc) (fun b o hc e n=>u.free b o e n hc) (fun b o hc e=>u.there b o e hc) u.tups u.frzs u.tbls (fun m' hm=>by
  obtain⟨o',es',ep',ho',r'⟩:=hm
  rw [ho] at ho';cases ho'
  exact⟨_,es',ep',hL,r'⟩) hok hg
theorem Inv.turned {t':Nat} {it:Addr} (I:Inv X pins σ H s) (k:∀b o,b≠it->s.heap.get? b=some o->h'.get? b=some o) (hn:H it=none) (hL:it≠X.env.locals)
  (h1:it∈X.ex\/X.s₀.heap.objs.size<=it) (h2:∀x c,X.env.cells.lookup x=some c->c≠it) (h3:∀p∈X.pn++pins,p.1≠it):Inv X pins σ H {s with heap:=h',toks:=t'}:=by
 have nit:∀b u,H b=some u->b≠it:=fun b u e z=>by rw [z,hn] at e;cases e
 refine I.step (g':=s.gens) (d':=s.drawn) (ch:=[it]) (fun b hb=>?_) (fun b o _ _ hc e _=>k b o (fun z=>hc (by simp [z])) e) (fun b o _ _ hc e _=>⟨o.slots,k b o (fun z=>hc (by simp [z])) e⟩) (fun _ _ _ _ n=>n)
  (fun b o hc e=>⟨o,k b o (fun z=>hc (by simp [z])) e⟩) (fun _ _ e=>e) (fun _ _ _ e=>e) (fun b ps e=>⟨#[],by rw [e];simp⟩) (fun m hm=>?_) (fun b u e=>?_) I.bare
 .have e:b=it:=by simpa using hb
  subst e
  exact⟨h1,hL,h2,h3⟩
 .obtain⟨o,es,ep,ho,r⟩:=hm
  exact⟨o,es,ep,k _ o (Ne.symm hL) ho,r⟩
 .refine(I.hok b u e).stay (fun c v hc q=>k c v ?_ q) (fun _ q=>q) fun _ _ q=>q
  rcases hc with z|z
  .rw [z];exact nit b u e
  .exact nit c _ z
theorem Inv.tok (I:Inv X pins σ H s) (t:Nat):Inv X pins σ H {s with toks:=t}:=I.un (h':=s.heap) (t':=t) Un.refl I.hok
theorem Inv.kept {t':Nat} (I:Inv X pins σ H s) (k:∀b u,s.heap.get? b=some u->h'.get? b=some u):Inv X pins σ H {s with heap:=h',toks:=t'}:=I.un (Un.kept k) (I.hok.kept k)
theorem Inv.laid {a:Addr} {o:HO} {t':Nat} (I:Inv X pins σ H s) (k:∀b u,s.heap.get? b=some u->h'.get? b=some u) (hp:s.heap.objs.size<=a) (new:qbh X.prog X.w (upd H a o) h' a o):
  Inv X pins σ (upd H a o) {s with heap:=h',toks:=t'}:=I.un (Un.laid k hp (I.hok.fresh hp)) (I.hok.laid k hp new)
theorem Inv.write {x e:Addr} {o:HO} {t':Nat} (I:Inv X pins σ H s) (mu:Mut (H x)) (he:e=x\/H e=some (.own x)) (k:∀b u,b≠e->s.heap.get? b=some u->h'.get? b=some u) (heo:∃u,h'.get? e=some u)
  (new:qbh X.prog X.w (upd H x o) h' x o):Inv X pins σ (upd H x o) {s with heap:=h',toks:=t'}:=I.un (Un.write mu he k heo) (I.hok.write mu he k heo new)
theorem Inv.pins_of {pins':List (Addr × Obj)} (I:Inv X pins σ H s) (h:∀p∈pins',s.heap.get? p.1=some p.2/\H p.1=none/\p.1≠X.env.locals/\p.1∉X.fs/\∀v,p.2.data≠ .cell v):Inv X pins' σ H s:=
 ⟨I.ok,I.os,I.bare,I.base,I.loc,I.cell,I.free,I.freeC,fun p hp=>(zV.mp hp).elim (fun z=>I.pin p (yH _ z)) (h p),I.hok,I.len⟩
theorem nodup_ix {N:List Str} (hN:N.Nodup) {i j:Nat} {x:Str} (a:N[i]?=some x) (b:N[j]?=some x):i=j:=by
 obtain⟨h1,e1⟩:=List.getElem?_eq_some_iff.mp a
 obtain⟨h2,e2⟩:=List.getElem?_eq_some_iff.mp b
 exact(List.getElem_inj hN).mp (e1.trans e2.symm)
theorem qen {M:Model} {A:Around} {E:Value->Shared->Prop} {i:Nat} {x:Str} {v:V} {u:Value} {Q:Unit->Shared->Prop} (I:Inv X pins σ H s) (hN:X.N.Nodup) (hi:X.N[i]?=some x) (hx:Loc X.env.scope x) (r:qbe v u)
  (h:∀s',Inv X pins (σ.set i (some v)) H s'->(∃a,Heap.SameBut a s.heap s'.heap/\(a=X.env.locals\/X.env.cells.lookup x=some a))->Q () s') (hf:X.fn x=true\/X.env.scope.names.lookup x=some .local:=by first|exact .inl rfl|exact .inr rfl|assumption):wpAny M A (storeName X.env x u) Q E s:=by
 obtain⟨m,hn,hl⟩:=id I.loc
 have hcls:(X.env.scope.kind==.class ||(X.env.scope.kind==.module && X.env.locals !=X.env.globals))=false:=by rw [I.ok.kind];rfl
 have hiσ:i < σ.length:=by rw [I.len];exact(List.getElem?_eq_some_iff.mp hi).1
 have cne:=I.cne
 have tracked:∀{a:Addr} {h':Heap},(∃o,s.heap.get? a=some o/\H a=none)->Heap.SameBut a s.heap h'->HOk X.prog X.w H h':=fun {a h'} ha hs b ob e=>by
  obtain⟨_,_,hfree⟩:=ha
  refine(I.hok b ob e).stay (fun c w' hc q=>(hs.2 c ?_).trans q) (fun _ q=>q) fun _ _ q=>q
  rintro rfl
  rcases hc with rfl|hc
  .rw [hfree] at e;cases e
  .rw [hfree] at hc;cases hc
 rcases hx with hk|hk
 .refine wpAny_storeName_local hk hn (fun h' hn' hs=>?_) hcls
  obtain⟨oL,_,_,hoL,_⟩:=id hn
  refine h _ ⟨I.ok,I.os,I.bare,⟨fun b o e n hb hx=>?_,fun b o e n hb hx=>?_,I.base.free,fun b o e hx=>?_,I.base.tups,I.base.frzs,I.base.tbls⟩,⟨_,hn',fun j y v' e1 e2 e3=>?_⟩,fun y c e=>?_,I.free,I.freeC,fun p hp=>?_,tracked ⟨oL,hoL,I.free⟩ hs,by simpa using I.len⟩ ⟨_,hs,.inl rfl⟩
  .exact(hs.2 b (Nat.ne_of_lt (Nat.lt_of_lt_of_le (Heap.lt_size e) I.ok.above))).trans (I.base.keep b o e n hb hx)
  .obtain⟨sl,e1⟩:=I.base.slot b o e n hb hx
   exact⟨sl,(hs.2 b (Nat.ne_of_lt (Nat.lt_of_lt_of_le (Heap.lt_size e) I.ok.above))).trans e1⟩
  .obtain⟨o',e1⟩:=I.base.there b o e hx
   exact⟨o',(hs.2 b (Nat.ne_of_lt (Nat.lt_of_lt_of_le (Heap.lt_size e) I.ok.above))).trans e1⟩
  .by_cases hj:j=i
   .subst hj
    rw [hi] at e1;cases e1
    rw [List.getElem?_set_self hiσ] at e2
    cases e2
    exact⟨u,r,.inl ⟨hk,by simp⟩⟩
   .rw [List.getElem?_set_ne (Ne.symm hj)] at e2
    obtain⟨u',r',q⟩:=hl j y v' e1 e2 e3
    refine⟨u',r',?_⟩
    rcases q with ⟨k,e⟩ |⟨k,c,e,z⟩
    .refine .inl ⟨k,?_⟩
     have:y≠x:=fun e=>hj (nodup_ix hN e1 (e ▸ hi))
     simp [this,e]
    .exact .inr ⟨k,c,e,z.sameBut hs (cne y c e)⟩
  .obtain⟨w',z⟩:=I.cell y c e
   exact⟨w',z.sameBut hs (cne y c e)⟩
  .obtain⟨e,n,ne,nf,d⟩:=I.pin p hp
   exact⟨(hs.2 p.1 ne).trans e,n,ne,nf,d⟩
 .have hfn:X.fn x=true:=by
   rcases hf with z|z
   .exact z
   .rw [z] at hk;cases hk
  obtain⟨c,hc⟩:=I.ok.has x (.inl hk)
  obtain⟨w',z⟩:=I.cell x c hc
  refine wpAny_storeName_cell I.ok.kind hk hc z (fun h' hc' hs=>?_)
  obtain⟨oc,hoc,hocd⟩:=id z
  refine h {s with heap:=h'} ⟨I.ok,I.os,I.bare,⟨fun b o e n hb hx=>?_,fun b o e n hb hx=>?_,I.base.free,fun b o e hx=>?_,I.base.tups,I.base.frzs,I.base.tbls⟩,⟨m,hn.sameBut hs (Ne.symm (cne x c hc)),fun j y v' e1 e2 e3=>?_⟩,fun y c' e=>?_,I.free,I.freeC,fun p hp=>?_,tracked ⟨oc,hoc,I.freeC x c hc⟩ hs,by simpa using I.len⟩ ⟨c,hs,.inr hc⟩
  .exact(hs.2 b (Nat.ne_of_lt (Nat.lt_of_lt_of_le (Heap.lt_size e) (I.ok.cab x c hfn hc)))).trans (I.base.keep b o e n hb hx)
  .obtain⟨sl,e1⟩:=I.base.slot b o e n hb hx
   exact⟨sl,(hs.2 b (Nat.ne_of_lt (Nat.lt_of_lt_of_le (Heap.lt_size e) (I.ok.cab x c hfn hc)))).trans e1⟩
  .obtain⟨o',e1⟩:=I.base.there b o e hx
   exact⟨o',(hs.2 b (Nat.ne_of_lt (Nat.lt_of_lt_of_le (Heap.lt_size e) (I.ok.cab x c hfn hc)))).trans e1⟩
  .by_cases hj:j=i
   .subst hj
    rw [hi] at e1;cases e1
    rw [List.getElem?_set_self hiσ] at e2
    cases e2
    exact⟨u,r,.inr ⟨.inl hk,c,hc,hc'⟩⟩
   .rw [List.getElem?_set_ne (Ne.symm hj)] at e2
    obtain⟨u',r',q⟩:=hl j y v' e1 e2 e3
    refine⟨u',r',?_⟩
    rcases q with q|⟨k,c',e,z'⟩
    .exact .inl q
    .refine .inr ⟨k,c',e,z'.sameBut hs ?_⟩
     rintro rfl
     exact hj (nodup_ix hN e1 (I.ok.inj _ _ _ e hc ▸ hi))
  .by_cases hcc:c'=c
   .subst hcc;exact⟨_,hc'⟩
   .obtain⟨w2,z2⟩:=I.cell y c' e
    exact⟨w2,z2.sameBut hs hcc⟩
  .obtain⟨e,n,ne,nf,d⟩:=I.pin p hp
   refine⟨(hs.2 p.1 ?_).trans e,n,ne,nf,d⟩
   intro q
   rw [q,hoc] at e
   have q':oc=p.2:=Option.some.inj e
   exact d w' (by rw [<-q'];exact hocd)
theorem qee {M:Model} {A:Around} {E:Value->Shared->Prop} {i:Nat} {x:Str} {v:V} {u:Value} {Q:Unit->Shared->Prop} (I:Inv X pins σ H s) (hN:X.N.Nodup) (hi:X.N[i]?=some x) (hx:Loc X.env.scope x) (r:qbe v u)
  (h:∀s',Inv X pins (σ.set i (some v)) H s'->Q () s') (hf:X.fn x=true\/X.env.scope.names.lookup x=some .local:=by first|exact .inl rfl|exact .inr rfl|assumption):wpAny M A (storeName X.env x u) Q E s:=
 qen I hN hi hx r (fun s' I' _=>h s' I') hf
theorem Inv.call' {s':Shared} {ch:List Addr} (I:Inv X pins σ H s) (ho:s'.os=s.os) (u:Un (frs X.stack) ch H H' s.heap s'.heap) (hok:HOk X.prog X.w H' s'.heap) (hg:AllBare s'.gens)
  (hch:∀b∈ch,(b∈X.ex\/X.s₀.heap.objs.size<=b)/\b≠X.env.locals/\(∀x c,X.env.cells.lookup x=some c->c≠b)/\∀p∈X.pn++pins,p.1≠b):Inv X pins σ H' s':=by
 obtain⟨h',g',d',t',o'⟩:=s'
 have e:o'=s.os:=ho
 subst e
 exact I.call (g':=g') (t':=t') (d':=d') u hok hg hch
end
abbrev XK:=Value->Option Addr->Hp->Prop
abbrev St:=List (Option V)
abbrev VK:=V->Hp->Prop
abbrev TE:=St->Hp->VK->Prop
abbrev TT:=St->Hp->(Bool->Hp->Prop)->Prop
abbrev TA:=St->Hp->(List V->Hp->Prop)->Prop
structure Ends where
 nx:St->Hp->Prop
 rt:VK
 bk:St->Hp->Prop:=fun _ _=>False
 ct:St->Hp->Prop:=fun _ _=>False
abbrev TS:=Ends->St->Hp->Prop
def EP (X:Cx) (pins:List (Addr × Obj)) (σ:St) (Q:VK) (u:Value) (s':Shared):Prop:=∃v H',Inv X pins σ H' s'/\qbe v u/\Q v H'
def TP (X:Cx) (pins:List (Addr × Obj)) (σ:St) (Q:Bool->Hp->Prop) (b:Bool) (s':Shared):Prop:=∃H',Inv X pins σ H' s'/\Q b H'
def AP (X:Cx) (pins:List (Addr × Obj)) (σ:St) (Q:List V->Hp->Prop) (us:List Value) (s':Shared):Prop:=∃vs H',Inv X pins σ H' s'/\qbd vs us/\Q vs H'
def SP (X:Cx) (pins:List (Addr × Obj)) (D:Ends) (f:Flow) (s':Shared):Prop:=
 match f with
 | .next=>∃σ' H',Inv X pins σ' H' s'/\D.nx σ' H'
 | .brk=>∃σ' H',Inv X pins σ' H' s'/\D.bk σ' H'
 | .cont=>∃σ' H',Inv X pins σ' H' s'/\D.ct σ' H'
 | .ret u=>∃v σ' H',Inv X pins σ' H' s'/\qbe v u/\D.rt v H'
def PE (X:Cx) (e:Expr) (t:TE):Prop:=
 ∀(pins:List (Addr × Obj)) (s:Shared) (σ:St) (H:Hp) (Q:VK),Inv X pins σ H s->t σ H Q->wpAny (model X.prog X.w) X.A (eval e X.env) (EP X pins σ Q) X.xe s
def PT (X:Cx) (e:Expr) (t:TT):Prop:=
 ∀(pins:List (Addr × Obj)) (s:Shared) (σ:St) (H:Hp) (Q:Bool->Hp->Prop),Inv X pins σ H s->t σ H Q->wpAny (model X.prog X.w) X.A (isTrue e X.env (eval e X.env)) (TP X pins σ Q) X.xe s
def PW (X:Cx) (e:Expr) (t:TT):Prop:=
 ∀(whole:Sem Value) (pins:List (Addr × Obj)) (s:Shared) (σ:St) (H:Hp) (Q:Bool->Hp->Prop),Inv X pins σ H s->t σ H Q->wpAny (model X.prog X.w) X.A (isTrue e X.env whole) (TP X pins σ Q) X.xe s
theorem PW.pt {X:Cx} {e:Expr} {t:TT} (h:PW X e t):PT X e t:=h _
def PA (X:Cx) (es:List Expr) (t:TA):Prop:=
 ∀(pos:Pos) (pins:List (Addr × Obj)) (s:Shared) (σ:St) (H:Hp) (Q:List V->Hp->Prop),Inv X pins σ H s->t σ H Q->wpAny (model X.prog X.w) X.A (spliced (backTo pos (starEach es X.env))) (AP X pins σ Q) X.xe s
def PS (X:Cx) (st:Stmt) (t:TS):Prop:=
 ∀(pins:List (Addr × Obj)) (s:Shared) (σ:St) (H:Hp) (D:Ends),Inv X pins σ H s->t D σ H->wpAny (model X.prog X.w) X.A (exec st X.env) (SP X pins D) X.xe s
def PSs (X:Cx) (st:List Stmt) (t:TS):Prop:=
 ∀(pins:List (Addr × Obj)) (s:Shared) (σ:St) (H:Hp) (D:Ends),Inv X pins σ H s->t D σ H->wpAny (model X.prog X.w) X.A (execs st X.env) (SP X pins D) X.xe s
theorem thn {α:Type} {t:Sem α} {Q Q':α->Shared->Prop} {M:Model} {A:Around} {E:Value->Shared->Prop} {s:Shared} (h:wpAny M A t Q E s) (hQ:∀a s,Q a s->Q' a s):wpAny M A t Q' E s:=wpAny_mono h hQ fun _ _ x=>x
section
variable {X: Cx}
theorem bin {a b:Expr} {ta tb:TE} (ha:PE X a ta) (hb:PE X b tb) {pins:List (Addr × Obj)} {s:Shared} {σ:St} {H:Hp} {R:V->V->Hp->Prop} (I:Inv X pins σ H s) (h:ta σ H fun x H1=>tb σ H1 fun y H2=>R x y H2)
  {α:Type} {Q:α->Shared->Prop} {f:Value->Value->Sem α}
  (hf:∀v u s2 x y H2,Inv X pins σ H2 s2->qbe x v->qbe y u->R x y H2->wpAny (model X.prog X.w) X.A (f v u) Q X.xe s2):
  wpAny (model X.prog X.w) X.A (eval a X.env) (fun v s₁=>wpAny (model X.prog X.w) X.A (eval b X.env) (fun u s₂=>wpAny (model X.prog X.w) X.A (f v u) Q X.xe s₂) X.xe s₁) X.xe s:=by
 refine thn (ha pins s σ H _ I h) fun v s1 ⟨x,H1,I1,r1,q1⟩=>?_
 refine thn (hb pins s1 σ H1 _ I1 q1) fun u s2 ⟨y,H2,I2,r2,q2⟩=>?_
 exact hf v u s2 x y H2 I2 r1 r2 q2
def tVar (i:Nat):TE:=fun σ H Q=>∃v,σ[i]?=some (some v)/\Q v H
def tC (v:V):TE:=fun _ H Q=>Q v H
theorem pe_var {i:Nat} {x:Str} {pos:Pos} (hN:X.N[i]?=some x) (hv:Vis X.env.scope x) (hd:(x==("__debug__" :Str))=false:=by decide) (hcd:(x==("__classdict__" :Str))=false:=by decide):PE X (.Name x pos) (tVar i):=by
 intro pins s σ H Q I h
 obtain⟨v,e,h⟩:=h
 obtain⟨m,hn,hl⟩:=I.loc
 obtain⟨u,r,l⟩:=hl i x v hN e hv
 have fin:EP X pins σ Q u s:=⟨v,H,I,r,h⟩
 rcases l with ⟨hk,hm⟩ |⟨hk,c,hc,hcell⟩
 .exact wpAny_Name (wpAny_loadName_local I.ok.kind hk hn hm fin) hd
 .rcases hk with hk|hk
  .exact wpAny_Name (wpAny_loadName_cell I.ok.kind hk hc hcell fin) hd
  .exact wpAny_Name (wpAny_loadName_free I.ok.kind hk hc hcell fin hcd) hd
theorem qa4 {i j pos}:PE X (.Constant (.int i) j pos) (tC (.int i)):=fun _ _ _ H _ I h=>wpAny_Constant_int ⟨.int i,H,I.tok _,⟨_,rfl⟩,h⟩
theorem qdw {b j pos}:PE X (.Constant (.bool b) j pos) (tC (.bl b)):=fun _ _ _ H _ I h=>Constant_bool ⟨.bl b,H,I,rfl,h⟩
theorem qca {j pos}:PE X (.Constant .none j pos) (tC .non):=fun _ _ _ H _ I h=>Constant_none ⟨.non,H,I,rfl,h⟩
theorem qcl {x j pos}:PE X (.Constant (.str x) j pos) (tC (.str x)):=fun _ _ _ H _ I h=>Calls.Constant_str ⟨.str x,H,I.tok _,⟨_,rfl⟩,h⟩
def Gl (X:Cx) (x:Str):Prop:=X.env.kindOf x=some .globalImplicit
theorem qdc {E:Value->Shared->Prop} {pins:List (Addr × Obj)} {s:Shared} {σ:St} {H:Hp} {x:Str} {u:Value} {pos:Pos} {Q:Value->Shared->Prop} (I:Inv X pins σ H s) (hg:Gl X x) (hm:X.mg x=some u) (h:Q u s)
  (hd:(x==("__debug__" :Str))=false:=by decide):wpAny (model X.prog X.w) X.A (eval (.Name x pos) X.env) Q E s:=
 Calls.Name_function_global I.ok.kind hg (Calls.loadGlobal_global (by rw [I.ok.glob];exact I.mod.glob.keeps I.bk) hm h) hd
theorem qe0 {E:Value->Shared->Prop} {pins:List (Addr × Obj)} {s:Shared} {σ:St} {H:Hp} {x:Str} {u:Value} {pos:Pos} {Q:Value->Shared->Prop} (I:Inv X pins σ H s) (hg:Gl X x) (hm:X.mg x=none) (hv:bootBuiltins x=some u) (h:Q u s)
  (hn:x≠"__name__":=by decide) (hd:(x==("__debug__" :Str))=false:=by decide):wpAny (model X.prog X.w) X.A (eval (.Name x pos) X.env) Q E s:=by
 obtain⟨mb,h1,h2⟩:=I.mod.blt
 exact Calls.Name_function_global I.ok.kind hg (Calls.loadGlobal_builtin (by rw [I.ok.glob];exact I.mod.glob.keeps I.bk) hm (by rw [I.ok.blt];exact h1.keeps I.bk) ((h2 x hn).trans hv) h) hd
theorem qe7 {x:Str} {v:V} {u:Value} {pos:Pos} (hg:Gl X x) (hm:X.mg x=some u) (r:qbe v u) (hd:(x==("__debug__" :Str))=false:=by decide):PE X (.Name x pos) (tC v):=
 fun _ _ _ H _ I h=>qdc I hg hm ⟨v,H,I,r,h⟩ hd
theorem qcq {x:Str} {v:V} {u:Value} {pos:Pos} (hg:Gl X x) (hm:X.mg x=none) (hv:bootBuiltins x=some u) (r:qbe v u) (hn:x≠"__name__":=by decide) (hd:(x==("__debug__" :Str))=false:=by decide):PE X (.Name x pos) (tC v):=
 fun _ _ _ H _ I h=>qe0 I hg hm hv ⟨v,H,I,r,h⟩ hn hd
variable {a b: Expr} {ta tb: TE} {pos: Pos}
def PC (X:Cx) (op:CmpOp) (a b:Expr) (t:TE):Prop:=
 ∀(pins:List (Addr × Obj)) (s:Shared) (σ:St) (H:Hp) (Q:VK),Inv X pins σ H s->t σ H Q->
  wpAny (model X.prog X.w) X.A (eval a X.env) (fun v s₁=>wpAny (model X.prog X.w) X.A (eval b X.env) (fun u s₂=>wpAny (model X.prog X.w) X.A (compareOp op v u) (EP X pins σ Q) X.xe s₂) X.xe s₁) X.xe s
def tB (t:TE):TT:=fun σ H Q=>t σ H fun x H1=>∃c,x=.bl c/\Q c H1
theorem pe_cmp {op:CmpOp} {t:TE} (h:PC X op a b t) (h1:behindInMarks op b=false:=by first|exact nobehind _ (by decide) (by decide) |rfl):PE X (.Compare a [op] [b] pos) t:=fun pins s σ H Q I hw=>wpAny_Compare1 (h pins s σ H Q I hw) h1
theorem pt_cmp {op:CmpOp} {t:TE} (h:PC X op a b t) (h1:behindInMarks op b=false:=by first|exact nobehind _ (by decide) (by decide) |rfl):PT X (.Compare a [op] [b] pos) (tB t):=by
 intro pins s σ H Q I hw
 refine wpAny_isTrue_Compare1 (thn (h pins s σ H _ I hw) fun v s1 h1=>thn h1 fun u s2 h2=>thn h2 fun c s3 ⟨x,H1,I1,r1,q1⟩=>?_) h1
 obtain⟨d,rfl,q⟩:=q1
 cases r1
 exact wpAny_truthy_bool ⟨H1,I1,q⟩
theorem qbq {e:Expr} {t:TE} (h:PE X e t) (he:∀whole,isTrue e X.env whole=(do let v<-whole;standAt e.pos;holding [v] (truthy v)):=by intro _;rfl):PT X e (tB t):=by
 intro pins s σ H Q I hw
 refine isTrue_plain (thn (h pins s σ H _ I hw) fun v s1 ⟨x,H1,I1,r1,q1⟩=>?_) (he _)
 obtain⟨d,rfl,q⟩:=q1
 cases r1
 exact wpAny_truthy_bool ⟨H1,I1,q⟩
variable {tA tB': TT} {rest: List Expr}
def tAnd (t u:TT):TT:=fun σ H Q=>t σ H fun c H1=>if c=true then u σ H1 Q else Q false H1
def tOr (t u:TT):TT:=fun σ H Q=>t σ H fun c H1=>if c=true then Q true H1 else u σ H1 Q
def tNot (t:TT):TT:=fun σ H Q=>t σ H fun c H1=>Q (!c) H1
theorem pw_and1 (ha:PT X a tA):PW X (.BoolOp .And [a] pos) tA:=by
 intro wh pins s σ H Q I h
 refine isTrue_and (thn (ha pins s σ H Q I h) fun c s1 e=>?_)
 cases c with
 |true=>exact isTrue_and_nil e
 |false=>exact e
theorem pw_or1 (ha:PT X a tA):PW X (.BoolOp .Or [a] pos) tA:=by
 intro wh pins s σ H Q I h
 refine isTrue_or (thn (ha pins s σ H Q I h) fun c s1 e=>?_)
 cases c with
 |false=>exact isTrue_or_nil e
 |true=>exact e
theorem pw_and (ha:PT X a tA) (hb:PW X (.BoolOp .And (b :: rest) pos) tB'):PW X (.BoolOp .And (a :: b :: rest) pos) (tAnd tA tB'):=by
 intro wh pins s σ H Q I h
 refine isTrue_and (thn (ha pins s σ H _ I h) fun c s1 ⟨H1,I1,q1⟩=>?_)
 cases c with
 |true=>exact hb wh pins s1 σ H1 Q I1 q1
 |false=>exact⟨H1,I1,q1⟩
theorem pw_or (ha:PT X a tA) (hb:PW X (.BoolOp .Or (b :: rest) pos) tB'):PW X (.BoolOp .Or (a :: b :: rest) pos) (tOr tA tB'):=by
 intro wh pins s σ H Q I h
 refine isTrue_or (thn (ha pins s σ H _ I h) fun c s1 ⟨H1,I1,q1⟩=>?_)
 cases c with
 |true=>exact⟨H1,I1,q1⟩
 |false=>exact hb wh pins s1 σ H1 Q I1 q1
theorem qc8 (ha:PT X a tA):PT X (.UnaryOp .Not a pos) (tNot tA):=by
 intro pins s σ H Q I h
 exact isTrue_not (ha pins s σ H (fun c H1=>Q (!c) H1) I h)
def tAndV (ta tb:TE):TE:=fun σ H Q=>ta σ H fun x H1=>∃c,x=.bl c/\if c=true then tb σ H1 Q else Q (.bl false) H1
def tOrV (ta tb:TE):TE:=fun σ H Q=>ta σ H fun x H1=>∃c,x=.bl c/\if c=true then Q (.bl true) H1 else tb σ H1 Q
def tNotV (ta:TE):TE:=fun σ H Q=>ta σ H fun x H1=>∃c,x=.bl c/\Q (.bl (!c)) H1
theorem qdv {op} {t:TE} (h:PE X a t):PE X (.BoolOp op [a] pos) t:=fun pins s σ H Q I hw=>BoolOp_one (h pins s σ H Q I hw)
theorem qes (ha:PE X a ta) (hb:PE X (.BoolOp .And (b :: rest) pos) tb):PE X (.BoolOp .And (a :: b :: rest) pos) (tAndV ta tb):=by
 intro pins s σ H Q I h
 refine BoolOp_and (thn (ha pins s σ H _ I h) fun v s1 ⟨x,H1,I1,r1,q1⟩=>?_)
 obtain⟨c,rfl,q1⟩:=q1
 cases r1
 refine wpAny_truthy_bool ?_
 cases c with
 |true=>exact hb pins s1 σ H1 Q I1 q1
 |false=>exact⟨.bl false,H1,I1,rfl,q1⟩
theorem pe_or (ha:PE X a ta) (hb:PE X (.BoolOp .Or (b :: rest) pos) tb):PE X (.BoolOp .Or (a :: b :: rest) pos) (tOrV ta tb):=by
 intro pins s σ H Q I h
 refine BoolOp_or (thn (ha pins s σ H _ I h) fun v s1 ⟨x,H1,I1,r1,q1⟩=>?_)
 obtain⟨c,rfl,q1⟩:=q1
 cases r1
 refine wpAny_truthy_bool ?_
 cases c with
 |false=>exact hb pins s1 σ H1 Q I1 q1
 |true=>exact⟨.bl true,H1,I1,rfl,q1⟩
theorem pe_not (ha:PE X a ta):PE X (.UnaryOp .Not a pos) (tNotV ta):=by
 intro pins s σ H Q I h
 refine UnaryOp_ (thn (ha pins s σ H _ I h) fun v s1 ⟨x,H1,I1,r1,q1⟩=>?_)
 obtain⟨c,rfl,q1⟩:=q1
 cases r1
 exact not_of (wpAny_truthy_bool ⟨.bl (!c),H1,I1,rfl,q1⟩)
def tIf (t:TT) (ta tb:TE):TE:=fun σ H Q=>t σ H fun c H1=>if c=true then ta σ H1 Q else tb σ H1 Q
theorem pe_ifExp {c:Expr} (hc:PT X c tA) (ha:PE X a ta) (hb:PE X b tb):PE X (.IfExp c a b pos) (tIf tA ta tb):=by
 intro pins s σ H Q I h
 refine wpAny_IfExp (thn (hc pins s σ H _ I h) fun d s1 ⟨H1,I1,q1⟩=>?_)
 cases d with
 |true=>exact ha pins s1 σ H1 Q I1 q1
 |false=>exact hb pins s1 σ H1 Q I1 q1
end
def SqL (K:Frag) (H:Hp) (a:Addr) (xs:List V):Prop:=
 Rd H a (.lst xs)\/
  ∃(o:Obj) (its:Array Value) (n:Nat),K.lookup a=some o/\o.cls=.type "list"/\o.dict=none/\o.data=.seq its n/\its.size<=sizeLine/\qbd xs its.toList
def SqT (K:Frag) (H:Hp) (a:Addr) (xs:List V):Prop:=
 Rd H a (.tup xs)\/
  ∃(o:Obj) (its:Array Value) (n:Nat),K.lookup a=some o/\o.cls=.type "tuple"/\o.data=.seq its n/\its.size<=sizeLine/\qbd xs its.toList
def absV:Value->Option V
 | .none=>some .non
 | .bool b=>some (.bl b)
 | .int i _=>some (.int i)
 | .str x _=>some (.str x)
 | .bytes b _=>some (.byt b)
 | .float b _=>some (.flt b)
 | .ref a=>some (.ref a)
 | .type n=>some (.ty n)
 |_=>none
theorem qbe.abs {x:V} {u:Value} (r:qbe x u):absV u=some x:=by
 cases x with
 |non=>cases r;rfl
 |bl _=>cases r;rfl
 |int _=>obtain⟨t,rfl⟩:=r;rfl
 |str _=>obtain⟨t,rfl⟩:=r;rfl
 |byt _=>obtain⟨t,rfl⟩:=r;rfl
 |flt _=>obtain⟨t,rfl⟩:=r;rfl
 |ref _=>cases r;rfl
 |ty _=>cases r;rfl
theorem qbe.inj {x y:V} {u:Value} (r:qbe x u) (q:qbe y u):x=y:=Option.some.inj (r.abs.symm.trans q.abs)
theorem qbd.inj:∀{xs ys:List V} {us:List Value},qbd xs us->qbd ys us->xs=ys
 |_,_,_,.nil,.nil=>rfl
 |_,_,_,.cons r t,.cons r' t'=>by rw [r.inj r',qbd.inj t t']
section
variable {X: Cx} {pins: List (Addr × Obj)} {σ: St} {H: Hp} {s: Shared} {a: Addr} {xs ys: List V}
theorem SqL.of {K:Frag} (h:H a=some (.lst xs)):SqL K H a xs:=.inl (.inl h)
theorem SqT.of {K:Frag} (h:H a=some (.tup xs)):SqT K H a xs:=.inl (.inl h)
theorem Inv.list (I:Inv X pins σ H s) (h:SqL X.K H a xs):∃its:List Value,qbd xs its/\PlainL s.heap a its.toArray/\xs.length<=sizeLine:=by
 rcases h with h|⟨o,its,n,hk,hc,hd,hs,hz,r⟩
 .obtain⟨z,its,n,r,e⟩:=h.ok I.hok
  exact⟨its,r,⟨_,n,e,rfl,rfl,rfl⟩,z⟩
 .refine⟨its.toList,r,⟨o,n,I.kIn a o hk,hc,hd,by simpa using hs⟩,?_⟩
  have e:=r.length
  simp only [Array.length_toList] at e
  omega
theorem Inv.tuple (I:Inv X pins σ H s) (h:SqT X.K H a xs):∃its:List Value,qbd xs its/\IsTup s.heap a its.toArray/\xs.length<=sizeLine:=by
 rcases h with h|⟨o,its,n,hk,hc,hs,hz,r⟩
 .obtain⟨z,its,r,p⟩:=h.ok I.hok
  exact⟨its,r,p,z⟩
 .refine⟨its.toList,r,⟨o,I.kIn a o hk,hc,n,by simpa using hs⟩,?_⟩
  have e:=r.length
  simp only [Array.length_toList] at e
  omega
theorem Inv.list_inj (I:Inv X pins σ H s) (h:SqL X.K H a xs) (h':SqL X.K H a ys):xs=ys:=by
 obtain⟨its,r,⟨o,n,e,_,_,d⟩,_⟩:=I.list h
 obtain⟨its',r',⟨o',n',e',_,_,d'⟩,_⟩:=I.list h'
 rw [e] at e';cases e'
 rw [d] at d'
 injection d' with d1 _
 have:its=its':=by simpa using congrArg Array.toList d1
 subst this
 exact r.inj r'
end
abbrev Cx.wish (X:Cx) (E:Value->Shared->Prop):Cx:={X with xe:=E}
abbrev Cx.nox (X:Cx):Cx:=X.wish fun _ _=>False
theorem Cx.Ok.wish {X:Cx} (ok:X.Ok) (E:Value->Shared->Prop):(X.wish E).Ok:=
 ⟨ok.mod,ok.kind,ok.glob,ok.blt,ok.above,ok.inj,ok.has,ok.cab,ok.hd,ok.frames,ok.stk,ok.exf,ok.bs,ok.bsz,ok.noex,ok.exfs,ok.funs,ok.frf⟩
theorem Cx.Ok.unwish {X:Cx} {E:Value->Shared->Prop} (ok:(X.wish E).Ok):X.Ok:=
 ⟨ok.mod,ok.kind,ok.glob,ok.blt,ok.above,ok.inj,ok.has,ok.cab,ok.hd,ok.frames,ok.stk,ok.exf,ok.bs,ok.bsz,ok.noex,ok.exfs,ok.funs,ok.frf⟩
section
variable {X: Cx} {pins: List (Addr × Obj)} {σ: St} {H: Hp} {s: Shared} {E: Value -> Shared -> Prop}
theorem Inv.wish (I:Inv X pins σ H s) (E:Value->Shared->Prop):Inv (X.wish E) pins σ H s:=⟨I.ok.wish E,I.os,I.bare,I.base,I.loc,I.cell,I.free,I.freeC,I.pin,I.hok,I.len⟩
theorem Inv.unwish (I:Inv (X.wish E) pins σ H s):Inv X pins σ H s:=⟨I.ok.unwish,I.os,I.bare,I.base,I.loc,I.cell,I.free,I.freeC,I.pin,I.hok,I.len⟩
theorem SP.unwish {D:Ends} {f:Flow} {s':Shared} (h:SP (X.wish E) pins D f s'):SP X pins D f s':=by
 cases f with
 |next=>obtain⟨σ',H',I,q⟩:=h;exact⟨σ',H',I.unwish,q⟩
 |brk=>obtain⟨σ',H',I,q⟩:=h;exact⟨σ',H',I.unwish,q⟩
 |cont=>obtain⟨σ',H',I,q⟩:=h;exact⟨σ',H',I.unwish,q⟩
 |ret u=>obtain⟨v,σ',H',I,r,q⟩:=h;exact⟨v,σ',H',I.unwish,r,q⟩
theorem PSs.nox {st:List Stmt} {t:TS} (h:PSs X.nox st t):PSs X st t:=fun pins s σ H D I hw=>
 wpAny_mono (h pins s σ H D (I.wish _) hw) (fun _ _ q=>q.unwish) fun _ _ z=>False.elim z
end
section
variable {X: Cx} {st: Stmt} {rest: List Stmt} {t u: TS} {e: Expr} {te: TE} {pos: Pos}
def tNext:TS:=fun D σ H=>D.nx σ H
def tSeq (t u:TS):TS:=fun D σ H=>t {D with nx:=u D} σ H
theorem qao:PSs X [] tNext:=fun _ _ σ H _ I h=>wpAny_execs_nil ⟨σ,H,I,h⟩
theorem qa3 (h1:PS X st t) (h2:PSs X rest u):PSs X (st :: rest) (tSeq t u):=by
 intro pins s σ H D I h
 refine wpAny_execs_cons (thn (h1 pins s σ H {D with nx:=u D} I h) fun f s1 q=>?_)
 cases f with
 |next=>
  obtain⟨σ',H',I',q⟩:=q
  exact h2 pins s1 σ' H' D I' q
 |ret v=>exact q
 |brk=>exact q
 |cont=>exact q
theorem qa5 (h1:PS X st t):PSs X [st] t:=by
 intro pins s σ H D I h
 refine wpAny_execs_cons (thn (h1 pins s σ H D I h) fun f s1 q=>?_)
 cases f with
 |next=>exact wpAny_execs_nil q
 |ret v=>exact q
 |brk=>exact q
 |cont=>exact q
theorem Inv.quiet {pins:List (Addr × Obj)} {σ:St} {H:Hp} {s:Shared} (I:Inv X pins σ H s):interactive X.env=false:=by simp [interactive,I.ok.kind]
def tDrop (te:TE):TS:=fun D σ H=>te σ H fun _ H1=>D.nx σ H1
theorem qb2 (he:PE X e te) (hs:swapsWith e none pos.line X.env=pure false:=by rfl):PS X (.Expr e pos) (tDrop te):=by
 intro pins s σ H D I h
 exact wpAny_Expr_any (thn (he pins s σ H _ I h) fun v s1 ⟨x,H1,I1,r1,q1⟩=>⟨σ,H1,I1,q1⟩) I.quiet hs
def tRet (te:TE):TS:=fun D σ H=>te σ H D.rt
theorem qai (he:PE X e te):PS X (.Return (some e) pos) (tRet te):=by
 intro pins s σ H D I h
 exact wpAny_Return_some (thn (he pins s σ H _ I h) fun v s1 ⟨x,H1,I1,r1,q1⟩=>⟨x,σ,H1,I1,r1,q1⟩)
def tIfS (c:TT) (t u:TS):TS:=fun D σ H=>c σ H fun b H1=>if b=true then t D σ H1 else u D σ H1
theorem qbk {c:Expr} {a b:List Stmt} {tc:TT} (hc:PT X c tc) (ha:PSs X a t) (hb:PSs X b u):PS X (.If c a b pos) (tIfS tc t u):=by
 intro pins s σ H D I h
 refine wpAny_If (thn (hc pins s σ H _ I h) fun d s1 ⟨H1,I1,q1⟩=>?_)
 cases d with
 |true=>exact ha pins s1 σ H1 D I1 q1
 |false=>exact hb pins s1 σ H1 D I1 q1
end
abbrev TG:=V->St->Hp->(St->Hp->Prop)->Prop
abbrev TGs:=List V->St->Hp->(St->Hp->Prop)->Prop
def PG (X:Cx) (target:Expr) (t:TG):Prop:=
 ∀(pins:List (Addr × Obj)) (s:Shared) (σ:St) (H:Hp) (v:V) (u:Value) (Q:St->Hp->Prop),Inv X pins σ H s->qbe v u->t v σ H Q->
  wpAny (model X.prog X.w) X.A (assign target X.env u) (fun _ s'=>∃σ' H',Inv X pins σ' H' s'/\Q σ' H') X.xe s
def PGs (X:Cx) (ts:List Expr) (t:TGs):Prop:=
 ∀(pins:List (Addr × Obj)) (s:Shared) (σ:St) (H:Hp) (vs:List V) (us:List Value) (Q:St->Hp->Prop),Inv X pins σ H s->qbd vs us->t vs σ H Q->
  wpAny (model X.prog X.w) X.A (assignInOrder ((assignEach ts X.env).map (·.2)) us) (fun _ s'=>∃σ' H',Inv X pins σ' H' s'/\Q σ' H') X.xe s
section
variable {X: Cx} {pos: Pos}
def qfz (i:Nat):TG:=fun v σ H Q=>Q (σ.set i (some v)) H
theorem qac {i:Nat} {x:Str} (hN:X.N.Nodup) (hi:X.N[i]?=some x) (hx:Loc X.env.scope x) (hf:X.fn x=true\/X.env.scope.names.lookup x=some .local:=by first|exact .inl rfl|exact .inr rfl|assumption):PG X (.Name x pos) (qfz i):=by
 intro pins s σ H v u Q I r h
 exact wpAny_assign_Name (qee I hN hi hx r (fun s' I'=>⟨_,H,I',h⟩) hf)
def gNil:TGs:=fun vs σ H Q=>vs=[]/\Q σ H
def gCons (t:TG) (u:TGs):TGs:=fun vs σ H Q=>∃v r,vs=v :: r/\t v σ H fun σ' H'=>u r σ' H' Q
theorem qch:PGs X [] gNil:=by
 intro pins s σ H vs us Q I r h
 obtain⟨e,h⟩:=h
 subst e
 cases r
 exact assignInOrder_nil ⟨σ,H,I,h⟩
theorem qag {e:Expr} {es:List Expr} {t:TG} {u:TGs} (h1:PG X e t) (h2:PGs X es u)
  (hs:(assignEach (e :: es) X.env).map (·.2)=assign e X.env ::(assignEach es X.env).map (·.2):=by rfl):PGs X (e :: es) (gCons t u):=by
 intro pins s σ H vs us Q I r h
 obtain⟨v,vr,e1,h⟩:=h
 subst e1
 cases r with
 |cons r rr=>
  rw [hs]
  refine assignInOrder_cons (thn (h1 pins s σ H _ _ _ I r h) fun _ s1 ⟨σ1,H1,I1,q1⟩=>?_)
  exact h2 pins s1 σ1 H1 _ _ Q I1 rr q1
def gTup (K:Frag) (n:Nat) (t:TGs):TG:=fun v σ H Q=>∃a xs,v=.ref a/\SqT K H a xs/\xs.length=n/\t xs σ H Q
theorem qdm {es:List Expr} {k:Nat} {t:TGs} {n:Nat} (hc:X.calm=true) (h:PGs X es t)
  (hn:(assignEach es X.env).length=n:=by rfl) (hst:(assignEach es X.env).findIdx? (·.1)=none:=by rfl):PG X (.Tuple es k pos) (gTup X.K n t):=by
 intro pins s σ H v u Q I r hw
 obtain⟨a,xs,e1,hq,hl,hw⟩:=hw
 subst e1
 cases r
 obtain⟨its,rv,ht,hz⟩:=I.tuple hq
 refine assign_Tuple_tuple (I.ok.hd hc) ht (by simp [hn,<-hl,rv.length]) hst fun h' hx=>?_
 have I1:Inv X pins σ H {s with heap:=h'}:=I.kept (t':=s.toks) fun b o e=>hx b o (Nat.ne_of_lt (Heap.lt_size e)) e
 exact h pins _ σ H xs _ Q I1 (by simpa using rv) hw
def tAsg (te:TE) (g:TG):TS:=fun D σ H=>te σ H fun x H1=>g x σ H1 D.nx
theorem qfb {tg e:Expr} {te:TE} {g:TG} (he:PE X e te) (hg:PG X tg g) (hs:swapsWithSole [tg] e pos.line X.env=pure false:=by rfl) (hw:swappedStores [tg] e X.env=pure none:=by rfl)
  (h1:(assignEach [tg] X.env).map (·.2)=[assign tg X.env]:=by rfl):PS X (.Assign [tg] e pos) (tAsg te g):=by
 intro pins s σ H D I h
 refine wpAny_Assign_stores (thn (he pins s σ H _ I h) fun v s1 ⟨x,H1,I1,r1,q1⟩=>?_) hs hw
 rw [h1]
 exact thn (hg pins s1 σ H1 x v _ I1 r1 q1) fun _ s2 q=>q
theorem qaf {i:Nat} {x:Str} {e:Expr} {te:TE} {pos':Pos} (hN:X.N.Nodup) (hi:X.N[i]?=some x) (hx:Loc X.env.scope x) (he:PE X e te) (hs:swapsWith e (some (.Name x pos')) pos.line X.env=pure false:=by rfl) (hf:X.fn x=true\/X.env.scope.names.lookup x=some .local:=by first|exact .inl rfl|exact .inr rfl|assumption):
  PS X (.Assign [.Name x pos'] e pos) (tAsg te (qfz i)):=by
 intro pins s σ H D I h
 refine wpAny_Assign_Name (thn (he pins s σ H _ I h) fun v s1 ⟨y,H1,I1,r1,q1⟩=>?_) hs
 exact qee I1 hN hi hx r1 (fun s2 I2=>⟨_,H1,I2,q1⟩) hf
end
section
variable {X: Cx} {pos: Pos}
def tWhile (c:TT) (tb:TS):TS:=fun D σ H=>∃W:Nat->St->Hp->Prop,(∃m,W m σ H)/\∀m σ H,W m σ H->
 c σ H fun b H1=>if b=true then ∃N:St->Hp->Prop,(∀σ' H',N σ' H'->∃m',m' < m/\W m' σ' H')/\tb {D with nx:=N,ct:=N,bk:=D.nx} σ H1 else D.nx σ H1
theorem ps_while {c:Expr} {body:List Stmt} {tc:TT} {tb:TS} (hp:PassesOwn (model X.prog X.w) X.A X.env X.xe) (hc:PT X c tc) (hb:PSs X body tb):PS X (.While c body [] pos) (tWhile tc tb):=by
 intro pins s σ H D I h
 obtain⟨W,⟨m0,w0⟩,turn⟩:=h
 refine wpAny_While (codeAny_whileLoop (fun n s'=>∃σ' H',Inv X pins σ' H' s'/\W n σ' H') ?_ m0 ⟨σ,H,I,w0⟩)
 rintro n s1 ⟨σ1,H1,I1,w1⟩
 refine wpAny_passesOwn hp (thn (hc pins s1 σ1 H1 _ I1 (turn n σ1 H1 w1)) fun b s2 ⟨H2,I2,q2⟩=>?_)
 cases b with
 |true=>
  obtain⟨N,hN,q2⟩:=q2
  rw [if_pos rfl]
  refine wpAny_passesOwn hp (thn (hb pins s2 σ1 H2 _ I2 q2) fun f s3 q3=>?_)
  cases f with
  |next=>
   obtain⟨σ3,H3,I3,n3⟩:=q3
   obtain⟨m',hm,w3⟩:=hN σ3 H3 n3
   exact⟨m',hm,σ3,H3,I3,w3⟩
  |cont=>
   obtain⟨σ3,H3,I3,n3⟩:=q3
   obtain⟨m',hm,w3⟩:=hN σ3 H3 n3
   exact⟨m',hm,σ3,H3,I3,w3⟩
  |brk=>exact q3
  |ret v=>exact q3
 |false=>
  rw [if_neg Bool.false_ne_true]
  exact wpAny_execs_nil ⟨σ1,H2,I2,q2⟩
end
structure It where
 go:Nat->Hp->Prop
 yld:Nat->Hp->V->Hp->Prop
 stop:Nat->Hp->Prop
def qf4 (X:Cx) (pins:List (Addr × Obj)) (H:Hp) (b:Addr):Prop:=
 H b=none/\b≠X.env.locals/\b∉X.fs/\(b∈X.ex\/X.s₀.heap.objs.size<=b)/\(∀x c,X.env.cells.lookup x=some c->c≠b)/\∀p∈X.pn++pins,p.1≠b
theorem Inv.fpOk {X:Cx} {pins:List (Addr × Obj)} {σ:St} {H H':Hp} {s:Shared} {b:Addr} (I:Inv X pins σ H s) (hb:s.heap.objs.size<=b) (hn:H' b=none):qf4 X pins H' b:=by
 refine⟨hn,Nat.ne_of_gt (Nat.lt_of_lt_of_le I.lt hb),I.nofs hb,.inr (Nat.le_trans I.sz hb),fun x c e z=>?_,fun p hp z=>?_⟩
 .obtain⟨v,q⟩:=I.cell x c e
  exact absurd (Nat.lt_of_lt_of_le q.lt (by rw [z];exact hb)) (Nat.lt_irrefl _)
 .exact absurd (Nat.lt_of_lt_of_le (Heap.lt_size (I.pin p hp).1) (by rw [z];exact hb)) (Nat.lt_irrefl _)
structure Turn (P:Program) (w:World) (K:Frag) (tg:Expr) (J:It) (fp:List Addr) (it:Addr) (tn:Nat->Heap->Prop):Prop where
 mem:it∈fp
 obj:∀i h,tn i h->∀b∈fp,∃o,h.get? b=some o/\∀v,o.data≠ .cell v
 keep:∀i h h',tn i h->(∀b∈fp,∀o,h.get? b=some o->h'.get? b=some o)->tn i h'
 item:∀(X:Cx),X.prog=P->X.w=w->X.K=K->X.calm=true->∀(i:Nat) (pins:List (Addr × Obj)) (s:Shared) (σ:St) (H:Hp) (E:Value->Shared->Prop),Inv X pins σ H s->(∀b∈fp,qf4 X pins H b)->tn i s.heap->J.go i H->
  wpAny (model P w) X.A (pyNext (.ref it)) (fun r s1=>∃u,r=some u/\
   wpAny (model P w) X.A (letOwnedTupleGo tg (.ref it) u) (fun _ s2=>∃x H',Inv X pins σ H' s2/\qbe x u/\J.yld i H x H'/\tn (i+1) s2.heap/\∀b∈fp,H' b=none) E s1) E s
 done:∀(X:Cx),X.prog=P->X.w=w->X.K=K->X.calm=true->∀(i:Nat) (pins:List (Addr × Obj)) (s:Shared) (σ:St) (H:Hp) (E:Value->Shared->Prop),Inv X pins σ H s->(∀b∈fp,qf4 X pins H b)->tn i s.heap->J.stop i H->
  wpAny (model P w) X.A (pyNext (.ref it)) (fun r s1=>r=none/\Inv X pins σ H s1) E s
 self:∀(A:Around) (i:Nat) (s:Shared) (Q:Value->Shared->Prop) (E:Value->Shared->Prop),tn i s.heap->Q (.ref it) s->wpAny (model P w) A (pyIter (.ref it)) Q E s
abbrev TI:=St->Hp->(It->Hp->Prop)->Prop
def PIE (X:Cx) (pins:List (Addr × Obj)) (σ:St) (tg:Expr) (R:It->Hp->Prop) (itv:Value) (s2:Shared):Prop:=
 ∃(it:Addr) (fp:List Addr) (tn:Nat->Heap->Prop) (J:It) (H':Hp),itv=.ref it/\Inv X pins σ H' s2/\Turn X.prog X.w X.K tg J fp it tn/\tn 0 s2.heap/\(∀b∈fp,qf4 X pins H' b)/\R J H'
def PI (X:Cx) (tg iter:Expr) (wi:TI):Prop:=
 ∀(pins:List (Addr × Obj)) (s:Shared) (σ:St) (H:Hp) (R:It->Hp->Prop),Inv X pins σ H s->wi σ H R->
  wpAny (model X.prog X.w) X.A (eval iter X.env) (fun v s1=>wpAny (model X.prog X.w) X.A (pyIter v) (PIE X pins σ tg R) X.xe s1) X.xe s
theorem go_of {M:Model} {A:Around} {E:Value->Shared->Prop} {s:Shared} {tg:Expr} {it:Addr} {u:Value} {o:Obj} {n:String} {vs:Array Value} {Q:Unit->Shared->Prop} (ho:s.heap.get? it=some o) (hc:o.cls=.type n) (hd:o.data=.fields vs)
  (hn: ["enumerate","zip","dict_itemiterator","dict_reverseitemiterator","odict_iterator","itertools.zip_longest","itertools.pairwise"].contains n=false) (hQ:Q () s):wpAny M A (letOwnedTupleGo tg (.ref it) u) Q E s:=by
 unfold letOwnedTupleGo
 cases tg <;> first
  |exact wpAny_pure hQ
  |(cases u <;> first
    |exact wpAny_pure hQ
    |(refine wpAny_bind (wpAny_load ho ?_)
      rw [hc,hd]
      show wpAny M A (if (["enumerate","zip","dict_itemiterator","dict_reverseitemiterator","odict_iterator","itertools.zip_longest","itertools.pairwise"].contains n && vs[0]?==some (rawInt _))=true then _ else _) Q E s
      rw [if_neg (by intro h;rw [hn,Bool.false_and] at h;cases h)]
      exact wpAny_pure hQ))
def Itl (K:Frag) (a:Addr):It:=
 ⟨fun i H=>∃xs x,SqL K H a xs/\xs[i]?=some x,fun i H x H'=>H'=H/\∀xs,SqL K H a xs->xs[i]?=some x,fun i H=>∃xs,SqL K H a xs/\xs.length<=i⟩
def Itr (lo:Int) (n:Nat):It:=⟨fun i _=>i < n,fun i H x H'=>H'=H/\x=.int (lo+i),fun i _=>n<=i⟩
theorem turn_list {P:Program} {w:World} {K:Frag} {tg:Expr} (a it:Addr):Turn P w K tg (Itl K a) [it] it (fun i h=>h.IsListIter it a i) where
 mem:=by simp
 obj:=fun i h st b hb=>by
  have e:b=it:=by simpa using hb
  subst e
  obtain⟨o,e,c,d⟩:=st
  exact⟨o,e,fun v z=>by rw [d] at z;cases z⟩
 keep:=fun i h h' st k=>st.at fun o e=>k it (by simp) o e
 item:=by
  intro X hP hw hK hc i pins s σ H E I hf st hg
  subst hP hw hK
  obtain⟨xs,x,hq,hx⟩:=hg
  obtain⟨its,rv,p,hz⟩:=I.list hq
  obtain⟨u,hu,ru⟩:=rv.get hx
  obtain⟨f0,f1,f2,f3,f4,f5⟩:=hf it (by simp)
  refine wpAny_pyNext_list_item st p.isList (x:=u) (by simpa using hu) fun h' st' sb=>?_
  have I1:Inv X pins σ H {s with heap:=h'}:=I.turned (t':=s.toks) (fun b o hb e=>(sb.2 b hb).trans e) f0 f1 f3 f4 f5
  obtain⟨o,e,c,d⟩:=id st'
  exact⟨u,rfl,go_of (s:={s with heap:=h'}) e c d (by decide) ⟨x,H,I1,ru,⟨rfl,fun ys hy=>by rw [I.list_inj hy hq];exact hx⟩,st',fun b hb=>(hf b hb).1⟩⟩
 done:=by
  intro X hP hw hK hc i pins s σ H E I hf st hg
  subst hP hw hK
  obtain⟨xs,hq,hx⟩:=hg
  obtain⟨its,rv,p,hz⟩:=I.list hq
  obtain⟨f0,f1,f2,f3,f4,f5⟩:=hf it (by simp)
  have hl:=rv.length
  exact wpAny_pyNext_list_end (I.ok.hd hc) st p.isList (by simp;omega) fun h' eb=>⟨rfl,I.turned (t':=s.toks) (fun b o hb e=>eb b o hb e) f0 f1 f3 f4 f5⟩
 self:=fun _ _ _ _ _ st h=>wpAny_pyIter_listiter st h
theorem turn_range {P:Program} {w:World} {K:Frag} {tg:Expr} (it:Addr) (lo:Int) (n:Nat):Turn P w K tg (Itr lo n) [it] it (fun i h=>IsRangeIter h it (lo+(i:Nat)*1) ((n:Int) - (i:Nat)) 1) where
 mem:=by simp
 obj:=fun i h st b hb=>by
  have e:b=it:=by simpa using hb
  subst e
  exact⟨_,st,fun v z=>by
   have z':Data.fields _=Data.cell v:=z
   cases z'⟩
 keep:=fun i h h' st k=>k it (by simp) _ st
 item:=by
  intro X hP hw hK hc i pins s σ H E I hf st hg
  subst hP hw hK
  obtain⟨f0,f1,f2,f3,f4,f5⟩:=hf it (by simp)
  have W:=Walks.range (prog:=X.prog) (w:=X.w) (I.ok.hd hc) it lo 1 n
  refine W.item i s _ _ hg st fun v h' tk hv st' kk=>?_
  obtain⟨t,rfl⟩:=hv
  have I1:Inv X pins σ H {s with heap:=h',toks:=tk}:=I.turned (fun b o hb e=>kk b o (by simpa using hb) e) f0 f1 f3 f4 f5
  refine⟨_,rfl,go_of (s:={s with heap:=h',toks:=tk}) (n:="range_iterator") st' rfl rfl (by decide) ⟨.int (lo+i),H,I1,⟨t,?_⟩,⟨rfl,rfl⟩,st',fun b hb=>(hf b hb).1⟩⟩
  rw [Int.mul_one]
 done:=by
  intro X hP hw hK hc i pins s σ H E I hf st hg
  subst hP hw hK
  obtain⟨f0,f1,f2,f3,f4,f5⟩:=hf it (by simp)
  exact wpAny_pyNext_range_end (I.ok.hd hc) st (by have:n<=i:=hg;omega) fun h' eb=>⟨rfl,I.turned (t':=s.toks) (fun b o hb e=>eb b o hb e) f0 f1 f3 f4 f5⟩
 self:=fun _ _ _ _ _ st h=>wpAny_pyIter_rangeiter st h
section
variable {X: Cx} {tg: Expr}
def iList (K:Frag) (tl:TE):TI:=fun σ H R=>tl σ H fun x H1=>∃a,x=.ref a/\(∃xs,SqL K H1 a xs)/\R (Itl K a) H1
theorem qau {l:Expr} {tl:TE} (hl:PE X l tl):PI X tg l (iList X.K tl):=by
 intro pins s σ H R I h
 refine thn (hl pins s σ H _ I h) fun v s1 ⟨x,H1,I1,r1,q1⟩=>?_
 obtain⟨a,e,⟨xs,hq⟩,q⟩:=q1
 subst e
 cases r1
 obtain⟨its,rv,p,hz⟩:=I1.list hq
 refine wpAny_pyIter_list p.isList ?_
 refine⟨s1.heap.objs.size, [s1.heap.objs.size],_,_,H1,rfl,I1.kept (t':=s1.toks) fun b o e=>Heap.get?_push_of_some _ e,turn_list a _,⟨_,Heap.get?_push_size _ rfl,rfl,rfl⟩,fun b hb=>?_,q⟩
 have e:b=s1.heap.objs.size:=by simpa using hb
 subst e
 exact I1.fpOk (Nat.le_refl _) (I1.hok.fresh (Nat.le_refl _))
theorem range_it {pins:List (Addr × Obj)} {σ:St} {H:Hp} {s:Shared} {R:It->Hp->Prop} {E:Value->Shared->Prop} {lo hi:Int} {t u v:Tok} {tk:Nat} (I:Inv X pins σ H s) (h1: -(2^62)<=lo) (h2:lo < 2^62) (h3: -(2^62)<=hi) (h4:hi < 2^62)
  (q:R (Itr lo (hi - lo).toNat) H):wpAny (model X.prog X.w) X.A (pyIter (.ref s.heap.objs.size)) (PIE X pins σ tg R) E {s with heap:=s.heap.push {cls:=.type "range",data:=.fields #[.int lo t,.int hi u,.int 1 v]},toks:=tk}:=by
 refine wpAny_pyIter_range (IsRange.new ..) (small_one h1 h2 h3 h4) ?_
 have I1:Inv X pins σ H {s with heap:=s.heap.push {cls:=.type "range",data:=.fields #[.int lo t,.int hi u,.int 1 v]},toks:=tk}:=I.kept fun b o e=>Heap.get?_push_of_some _ e
 refine⟨(s.heap.push {cls:=.type "range",data:=.fields #[.int lo t,.int hi u,.int 1 v]}).objs.size, [(s.heap.push {cls:=.type "range",data:=.fields #[.int lo t,.int hi u,.int 1 v]}).objs.size],_,_,H,rfl,
  I1.kept (t':=tk) fun b o e=>Heap.get?_push_of_some _ e,turn_range _ lo (hi - lo).toNat,?_,fun b hb=>?_,q⟩
 .have e1:lo+((0:Nat):Int)*1=lo:=by simp
  have e2:(((hi - lo).toNat:Nat):Int) - ((0:Nat):Int)=Builtin.Range.rangeSize lo hi 1:=by rw [rangeSize_one];split <;> omega
  show IsRangeIter _ _ (lo+((0:Nat):Int)*1) ((((hi - lo).toNat:Nat):Int) - ((0:Nat):Int)) 1
  rw [e1,e2]
  exact Heap.get?_push_size _ rfl
 .have e:b=(s.heap.push {cls:=.type "range",data:=.fields #[.int lo t,.int hi u,.int 1 v]}).objs.size:=by simpa using hb
  subst e
  exact I1.fpOk (Nat.le_refl _) (I1.hok.fresh (Nat.le_refl _))
def iRng1 (ta:TA):TI:=fun σ H R=>ta σ H fun vs H1=>∃j:Int,vs=[.int j]/\-(2^62)<=j/\j < 2^62/\R (Itr 0 j.toNat) H1
def iRng2 (ta:TA):TI:=fun σ H R=>ta σ H fun vs H1=>∃i j:Int,vs=[.int i,.int j]/\(-(2^62)<=i/\i < 2^62/\-(2^62)<=j/\j < 2^62)/\R (Itr i (j - i).toNat) H1
theorem qbv {a:Expr} {ta:TA} {p pos:Pos} (hg:Gl X "range") (hm:X.mg "range" =none) (ha:PA X [a] ta) (hs:starEach [a] X.env=[(false,eval a X.env)]:=by rfl):PI X tg (.Call (.Name "range" p) [a] [] pos) (iRng1 ta):=by
 intro pins s σ H R I h
 refine Call_ (qe0 I hg hm boot_range (PyProof.Rows.callWith_type1 (thn (ha pos pins s σ H _ I h) fun us s1 ⟨vs,H1,I1,r1,q1⟩=>?_) hs rfl))
 obtain⟨j,e,q1,q2,q⟩:=q1
 subst e
 cases r1 with
 |cons r rr=>
  cases rr
  obtain⟨t,rfl⟩:=r
  exact call_range_1 (range_it I1 (by omega) (by omega) q1 q2 (by simpa using q))
theorem pi_range2 {a b:Expr} {ta:TA} {p pos:Pos} (hg:Gl X "range") (hm:X.mg "range" =none) (ha:PA X [a,b] ta) (hs:starEach [a,b] X.env=[(false,eval a X.env),(false,eval b X.env)]:=by rfl) (hs2:starEach [b] X.env=[(false,eval b X.env)]:=by rfl):
  PI X tg (.Call (.Name "range" p) [a,b] [] pos) (iRng2 ta):=by
 intro pins s σ H R I h
 refine Call_ (qe0 I hg hm boot_range (PyProof.Rows.callWith_type1 (thn (ha pos pins s σ H _ I h) fun us s1 ⟨vs,H1,I1,r1,q1⟩=>?_) (by rw [hs,hs2]) (by rw [hs2];rfl)))
 obtain⟨i,j,e,⟨q1,q2,q3,q4⟩,q⟩:=q1
 subst e
 cases r1 with
 |cons r rr=>
  cases rr with
  |cons r' rr=>
   cases rr
   obtain⟨t,rfl⟩:=r
   obtain⟨t',rfl⟩:=r'
   exact call_range_2 (range_it I1 q1 q2 q3 q4 q)
def tFor (wi:TI) (g:TG) (tb:TS):TS:=fun D σ H=>wi σ H fun J H1=>∃W:Nat->Nat->St->Hp->Prop,(∃m,W 0 m σ H1)/\∀i m σ H,W i m σ H->
 (J.stop i H/\D.nx σ H)\/(J.go i H/\∃N:St->Hp->Prop,(∀σ' H',N σ' H'->∃m',m' < m/\W (i+1) m' σ' H')/\∀x H',J.yld i H x H'->g x σ H' fun σ2 H2=>tb {D with nx:=N,ct:=N,bk:=D.nx} σ2 H2)
def qbl (fp:List Addr) (h:Heap):List (Addr × Obj):=fp.filterMap fun b=>(h.get? b).map fun o=>(b,o)
theorem qbi {fp:List Addr} {h:Heap} {b:Addr} {o:Obj} (hb:b∈fp) (e:h.get? b=some o):(b,o)∈qbl fp h:=List.mem_filterMap.mpr ⟨b,hb,by rw [e];rfl⟩
theorem of_pinsAt {fp:List Addr} {h:Heap} {p:Addr × Obj} (hp:p∈qbl fp h):p.1∈fp/\h.get? p.1=some p.2:=by
 obtain⟨b,hb,e⟩:=List.mem_filterMap.mp hp
 cases q:h.get? b with
 |none=>rw [q] at e;cases e
 |some o=>
  rw [q] at e
  have e':(b,o)=p:=Option.some.inj e
  subst e'
  exact⟨hb,q⟩
theorem Inv.pinned {pins:List (Addr × Obj)} {σ:St} {H:Hp} {s:Shared} {fp:List Addr} (I:Inv X pins σ H s) (hf:∀b∈fp,qf4 X pins H b) (ho:∀b∈fp,∃o,s.heap.get? b=some o/\∀v,o.data≠ .cell v):Inv X (pins++qbl fp s.heap) σ H s:=
 I.pins_of fun p hp=>(zV.mp hp).elim (fun z=>I.pin p (zJ _ z)) fun z=>by
  obtain⟨hb,e⟩:=of_pinsAt z
  obtain⟨f0,f1,f2,_⟩:=hf p.1 hb
  obtain⟨o,e',d⟩:=ho p.1 hb
  rw [e] at e';cases e'
  exact⟨e,f0,f1,f2,d⟩
theorem Inv.unpinned {pins pl:List (Addr × Obj)} {σ:St} {H:Hp} {s:Shared} (I:Inv X (pins++pl) σ H s):Inv X pins σ H s:=I.pins_of fun p hp=>I.pin p (zJ _ (yH _ hp))
theorem qb7 {iter:Expr} {body:List Stmt} {wi:TI} {g:TG} {tb:TS} {pos:Pos} (hp:PassesOwn (model X.prog X.w) X.A X.env X.xe) (hc:X.calm=true) (hi:PI X tg iter wi) (hg:PG X tg g) (hb:PSs X body tb)
  (hs:∀x,foldedSetIterable iter X.env x=pure x:=by intro _;rfl):PS X (.For tg iter body [] pos) (tFor wi g tb):=by
 intro pins s σ H D I h
 refine wpAny_For (thn (hi pins s σ H _ I h) fun v s1 h1=>thn h1 fun itv s2 h2=>?_) hs
 obtain⟨it,fp,tn,J,H2,e,I2,T,st2,f2,W,⟨m0,w0⟩,turn⟩:=h2
 subst e
 have stat:∀{H':Hp},(∀b∈fp,H' b=none)->∀b∈fp,qf4 X pins H' b:=fun hn b hb=>⟨hn b hb,(f2 b hb).2⟩
 refine codeAny_forLoop_any (fun n s'=>∃i σ' H',Inv X pins σ' H' s'/\tn i s'.heap/\(∀b∈fp,H' b=none)/\W i n σ' H') ?_ m0 ⟨0,σ,H2,I2,st2,fun b hb=>(f2 b hb).1,w0⟩
 rintro n s3 ⟨i,σ3,H3,I3,st3,fr3,w3⟩
 rcases turn i n σ3 H3 w3 with ⟨stop,qn⟩ |⟨go,N,hN,step⟩
 .refine wpAny_passesOwn hp (thn (T.done X rfl rfl rfl hc i pins s3 σ3 H3 X.xe I3 (stat fr3) st3 stop) fun r s4 ⟨hr,I4⟩=>?_)
  subst hr
  exact wpAny_execs_nil ⟨σ3,H3,I4,qn⟩
 .refine wpAny_passesOwn hp (thn (T.item X rfl rfl rfl hc i pins s3 σ3 H3 X.xe I3 (stat fr3) st3 go) fun r s4 ⟨u,hr,h4⟩=>?_)
  subst hr
  refine wpAny_passesOwn hp (thn h4 fun _ s5 ⟨x,H5,I5,r5,y5,st5,fr5⟩=>?_)
  have I5':=I5.pinned (stat fr5) (T.obj _ _ st5)
  refine wpAny_passesOwn hp (thn (hg _ s5 σ3 H5 x u _ I5' r5 (step x H5 y5)) fun _ s6 ⟨σ6,H6,I6,q6⟩=>?_)
  refine wpAny_passesOwn hp (thn (hb _ s6 σ6 H6 _ I6 q6) fun f s7 q7=>?_)
  have again:∀{σ7:St} {H7:Hp},Inv X (pins++qbl fp s5.heap) σ7 H7 s7->N σ7 H7->∃m,m < n/\∃i σ' H',Inv X pins σ' H' s7/\tn i s7.heap/\(∀b∈fp,H' b=none)/\W i m σ' H':=fun {σ7 H7} I7 n7=>by
   obtain⟨m',hm,w7⟩:=hN σ7 H7 n7
   refine⟨m',hm,i+1,σ7,H7,I7.unpinned,T.keep _ _ _ st5 fun b hb o e=>(I7.pin (b,o) (zJ _ (zJ _ (qbi hb e)))).1,fun b hb=>?_,w7⟩
   obtain⟨o,e,d⟩:=T.obj _ _ st5 b hb
   exact(I7.pin (b,o) (zJ _ (zJ _ (qbi hb e)))).2.1
  cases f with
  |next=>obtain⟨σ7,H7,I7,n7⟩:=q7;exact again I7 n7
  |cont=>obtain⟨σ7,H7,I7,n7⟩:=q7;exact again I7 n7
  |brk=>obtain⟨σ7,H7,I7,q7⟩:=q7;exact⟨σ7,H7,I7.unpinned,q7⟩
  |ret v=>obtain⟨x7,σ7,H7,I7,r7,q7⟩:=q7;exact⟨x7,σ7,H7,I7.unpinned,r7,q7⟩
end
theorem for_list {K:Frag} {a:Addr} {xs:List V} {g:TG} {tb:TS} {D:Ends} {σ:St} {H:Hp} (Pv:Nat->St->Hp->Prop) (h0:Pv 0 σ H) (hl:∀i σ H,i<=xs.length->Pv i σ H->SqL K H a xs)
  (hs:∀i x σ H,xs[i]?=some x->Pv i σ H->g x σ H fun σ2 H2=>tb {D with nx:=Pv (i+1),ct:=Pv (i+1),bk:=D.nx} σ2 H2) (hd:∀σ H,Pv xs.length σ H->D.nx σ H):
  ∃W:Nat->Nat->St->Hp->Prop,(∃m,W 0 m σ H)/\∀i m σ H,W i m σ H->
   ((Itl K a).stop i H/\D.nx σ H)\/((Itl K a).go i H/\∃N:St->Hp->Prop,(∀σ' H',N σ' H'->∃m',m' < m/\W (i+1) m' σ' H')/\∀x H',(Itl K a).yld i H x H'->g x σ H' fun σ2 H2=>tb {D with nx:=N,ct:=N,bk:=D.nx} σ2 H2):=by
 refine⟨fun i m σ H=>m=xs.length - i/\i<=xs.length/\Pv i σ H,⟨xs.length,by simp,Nat.zero_le _,h0⟩,?_⟩
 rintro i m σ H ⟨rfl,hi,p⟩
 have q:=hl i σ H hi p
 by_cases hlt:i < xs.length
 .refine .inr ⟨⟨xs,xs[i],q,by simp [hlt]⟩,Pv (i+1),fun σ' H' p'=>⟨xs.length - (i+1),by omega,rfl,hlt,p'⟩,fun x H' y=>?_⟩
  obtain⟨e,y⟩:=y
  subst e
  exact hs i x σ _ (y xs q) p
 .have e:i=xs.length:=by omega
  subst e
  exact .inl ⟨⟨xs,q,Nat.le_refl _⟩,hd σ H p⟩
theorem for_range {lo:Int} {n:Nat} {g:TG} {tb:TS} {D:Ends} {σ:St} {H:Hp} (Pv:Nat->St->Hp->Prop) (h0:Pv 0 σ H)
  (hs:∀i σ H,i < n->Pv i σ H->g (.int (lo+i)) σ H fun σ2 H2=>tb {D with nx:=Pv (i+1),ct:=Pv (i+1),bk:=D.nx} σ2 H2) (hd:∀σ H,Pv n σ H->D.nx σ H):
  ∃W:Nat->Nat->St->Hp->Prop,(∃m,W 0 m σ H)/\∀i m σ H,W i m σ H->
   ((Itr lo n).stop i H/\D.nx σ H)\/((Itr lo n).go i H/\∃N:St->Hp->Prop,(∀σ' H',N σ' H'->∃m',m' < m/\W (i+1) m' σ' H')/\∀x H',(Itr lo n).yld i H x H'->g x σ H' fun σ2 H2=>tb {D with nx:=N,ct:=N,bk:=D.nx} σ2 H2):=by
 refine⟨fun i m σ H=>m=n - i/\i<=n/\Pv i σ H,⟨n,by simp,Nat.zero_le _,h0⟩,?_⟩
 rintro i m σ H ⟨rfl,hi,p⟩
 by_cases hlt:i < n
 .refine .inr ⟨hlt,Pv (i+1),fun σ' H' p'=>⟨n - (i+1),by omega,rfl,hlt,p'⟩,fun x H' y=>?_⟩
  obtain⟨e,y⟩:=y
  subst e y
  exact hs i σ _ hlt p
 .have e:i=n:=by omega
  subst e
  exact .inl ⟨Nat.le_refl _,hd σ H p⟩
theorem while_by {c:TT} {tb:TS} {D:Ends} {σ:St} {H:Hp} (Pv:St->Hp->Prop) (μ:St->Hp->Nat) (h0:Pv σ H)
  (hs:∀σ H,Pv σ H->c σ H fun b H1=>if b=true then tb {D with nx:=fun σ' H'=>Pv σ' H'/\μ σ' H' < μ σ H,ct:=fun σ' H'=>Pv σ' H'/\μ σ' H' < μ σ H,bk:=D.nx} σ H1 else D.nx σ H1)
  (mono:∀σ H Q Q',(∀b H1,Q b H1->Q' b H1)->c σ H Q->c σ H Q'):tWhile c tb D σ H:=by
 refine⟨fun m σ H=>m=μ σ H/\Pv σ H,⟨_,rfl,h0⟩,?_⟩
 rintro m σ H ⟨rfl,p⟩
 refine mono σ H _ _ (fun b H1 q=>?_) (hs σ H p)
 cases b with
 |true=>exact⟨_,fun σ' H' ⟨p',l⟩=>⟨_,l,rfl,p'⟩,q⟩
 |false=>exact q
abbrev R2:=V->V->Hp->VK->Prop
def OpR (X:Cx) (f:Value->Value->Sem Value) (r:R2):Prop:=
 ∀(pins:List (Addr × Obj)) (s:Shared) (σ:St) (H:Hp) (x y:V) (v u:Value) (Q:VK),Inv X pins σ H s->qbe x v->qbe y u->r x y H Q->
  wpAny (model X.prog X.w) X.A (f v u) (EP X pins σ Q) X.xe s
def qc7 (X:Cx) (f:Value) (r:List V->Hp->VK->Prop):Prop:=
 ∀(pins:List (Addr × Obj)) (s:Shared) (σ:St) (H:Hp) (xs:List V) (us:List Value) (Q:VK),Inv X pins σ H s->qbd xs us->r xs H Q->
  wpAny (model X.prog X.w) X.A (call f us) (EP X pins σ Q) X.xe s
def tOp (r:R2) (ta tb:TE):TE:=fun σ H Q=>ta σ H fun x H1=>tb σ H1 fun y H2=>r x y H2 Q
def rI (C:Int->Int->Prop) (g:Int->Int->V):R2:=fun x y H Q=>∃i j,x=.int i/\y=.int j/\C i j/\Q (g i j) H
def rI0 (g:Int->Int->V):R2:=fun x y H Q=>∃i j,x=.int i/\y=.int j/\Q (g i j) H
section
variable {X: Cx} {a b: Expr} {ta tb: TE} {pos: Pos}
theorem binT (ha:PE X a ta) (hb:PE X b tb) {pins:List (Addr × Obj)} {s:Shared} {σ:St} {H:Hp} {R:V->V->Hp->Prop} (I:Inv X pins σ H s)
  (h:ta σ H fun x H1=>tb σ H1 fun y H2=>R x y H2) {Q:Value->Shared->Prop} {f:Value->Value->Sem Value}
  (hf:∀v u s2 x y H2,Inv X pins σ H2 s2->qbe x v->qbe y u->R x y H2->wpAny (model X.prog X.w) X.A (f v u) Q X.xe s2):
  wpAny (model X.prog X.w) X.A (eval a X.env) (fun v s₁=>wpAny (model X.prog X.w) X.A (eval b X.env) (fun u s₂=>wpAny (model X.prog X.w) X.A (f v u) Q X.xe s₂) X.xe s₁) X.xe s:=by
 refine thn (ha pins s σ H _ I h) fun v s1 ⟨x,H1,I1,r1,q1⟩=>?_
 refine thn (hb pins s1 σ H1 _ I1 q1) fun u s2 ⟨y,H2,I2,r2,q2⟩=>?_
 exact hf v u s2 x y H2 I2 r1 r2 q2
theorem qal {op:Operator} {r:R2} (ho:OpR X (binaryOp op) r) (ha:PE X a ta) (hb:PE X b tb):PE X (.BinOp a op b pos) (tOp r ta tb):=by
 intro pins s σ H Q I h
 exact wpAny_BinOp (binT ha hb I h fun v u s2 x y H2 I2 rx ry q=>ho pins s2 σ H2 x y v u Q I2 rx ry q)
theorem opI {f:Value->Value->Sem Value} {C:Int->Int->Prop} {g:Int->Int->Int}
  (rule:∀(i j:Int) (t u:Tok) (s:Shared) (Q:Value->Shared->Prop) (E:Value->Shared->Prop),C i j->Q (.int (g i j) s.toks) {s with toks:=s.toks+1}->wpAny (model X.prog X.w) X.A (f (.int i t) (.int j u)) Q E s):
  OpR X f (rI C fun i j=> .int (g i j)):=by
 intro pins s σ H x y v u Q I rx ry h
 obtain⟨i,j,rfl,rfl,hc,q⟩:=h
 obtain⟨t,rfl⟩:=rx
 obtain⟨t',rfl⟩:=ry
 exact rule i j t t' s _ _ hc ⟨.int (g i j),H,I.tok _,⟨_,rfl⟩,q⟩
theorem opI0 {f:Value->Value->Sem Value} {g:Int->Int->Int}
  (rule:∀(i j:Int) (t u:Tok) (s:Shared) (Q:Value->Shared->Prop) (E:Value->Shared->Prop),Q (.int (g i j) s.toks) {s with toks:=s.toks+1}->wpAny (model X.prog X.w) X.A (f (.int i t) (.int j u)) Q E s):
  OpR X f (rI0 fun i j=> .int (g i j)):=by
 intro pins s σ H x y v u Q I rx ry h
 obtain⟨i,j,rfl,rfl,q⟩:=h
 obtain⟨t,rfl⟩:=rx
 obtain⟨t',rfl⟩:=ry
 exact rule i j t t' s _ _ ⟨.int (g i j),H,I.tok _,⟨_,rfl⟩,q⟩
theorem opB0 {f:Value->Value->Sem Value} {g:Int->Int->Bool}
  (rule:∀(i j:Int) (t u:Tok) (s:Shared) (Q:Value->Shared->Prop) (E:Value->Shared->Prop),Q (.bool (g i j)) s->wpAny (model X.prog X.w) X.A (f (.int i t) (.int j u)) Q E s):
  OpR X f (rI0 fun i j=> .bl (g i j)):=by
 intro pins s σ H x y v u Q I rx ry h
 obtain⟨i,j,rfl,rfl,q⟩:=h
 obtain⟨t,rfl⟩:=rx
 obtain⟨t',rfl⟩:=ry
 exact rule i j t t' s _ _ ⟨.bl (g i j),H,I,rfl,q⟩
def CPow (i j:Int):Prop:=0<=j/\j<=1000000/\i.natAbs < 2^64
theorem qax:OpR X (binaryOp .Add) (rI0 fun i j=> .int (i+j)):=opI0 fun _ _ _ _ _ _ _ q=>add_int q
theorem qeu:OpR X (binaryOp .Sub) (rI0 fun i j=> .int (i - j)):=opI0 fun _ _ _ _ _ _ _ q=>sub_int q
theorem qc5:OpR X (binaryOp .Mod) (rI (fun _ j=>0 < j) fun i j=> .int (i%j)):=opI fun i j _ _ _ _ _ hc q=>by
 have h1:(0:Int) < j:=hc
 exact mod_int' (by omega) (by rw [Int.fmod_eq_emod_of_nonneg i (by omega)];exact q)
theorem op_pow:OpR X (binaryOp .Pow) (rI CPow fun i j=> .int (i^j.toNat)):=opI fun _ _ _ _ _ _ _ hc q=>pow_int_small hc.1 hc.2.1 hc.2.2 q
end
def scal:V->V->Bool
 | .non,.non=>true| .non,.int _=>true| .int _,.non=>true| .non,.bl _=>true| .bl _,.non=>true| .non,.str _=>true| .str _,.non=>true
 | .int _,.int _=>true| .bl _,.bl _=>true| .str _,.str _=>true| .byt _,.byt _=>true
 | .int _,.str _=>true| .str _,.int _=>true| .bl _,.str _=>true| .str _,.bl _=>true
 |_,_=>false
def rEq:R2:=fun x y H Q=>scal x y=true/\Q (.bl (decide (x=y))) H
def rNe:R2:=fun x y H Q=>scal x y=true/\Q (.bl (!decide (x=y))) H
theorem dec_int {i j:Int}:decide (V.int i=V.int j)=(i==j):=by
 rw [Bool.eq_iff_iff]
 simp
theorem dec_bl {i j:Bool}:decide (V.bl i=V.bl j)=(i==j):=by
 rw [Bool.eq_iff_iff]
 simp
theorem dec_str {i j:Str}:decide (V.str i=V.str j)=(i==j):=by
 rw [Bool.eq_iff_iff]
 simp
theorem dec_byt {i j:Array UInt8}:decide (V.byt i=V.byt j)=(i.toList==j.toList):=by
 rw [Bool.eq_iff_iff]
 cases i
 cases j
 simp
section
variable {X: Cx} {a b c: Expr} {ta tb tc: TE} {pos: Pos}
theorem qb5 {pins:List (Addr × Obj)} {σ:St} {H:Hp} {s:Shared} {Q:VK} {k k':Bool} (I:Inv X pins σ H s) (q:Q (.bl k) H) (e:k=k'):EP X pins σ Q (.bool k') s:=by
 subst e
 exact⟨.bl k,H,I,rfl,q⟩
theorem qdk:OpR X (compareOp .Eq) rEq:=by
 intro pins s σ H x y v u Q I rx ry h
 obtain⟨hs,q⟩:=h
 cases x with
 |non=>
  cases rx
  cases y with
  |non=>cases ry;exact PySem.EqNone.eq_none_none (qb5 I q (by simp))
  |bl j=>cases ry;exact PySem.EqNone.eq_none_bool (qb5 I q (by simp))
  |int j=>obtain⟨t',rfl⟩:=ry;exact PySem.EqNone.eq_none_int (qb5 I q (by simp))
  |str j=>obtain⟨t',rfl⟩:=ry;exact PySem.EqNone.eq_none_str (qb5 I q (by simp))
  |_=>exact absurd (show false=true from hs) Bool.false_ne_true
 |bl i=>
  cases rx
  cases y with
  |non=>cases ry;exact PySem.EqNone.eq_bool_none (qb5 I q (by simp))
  |bl j=>cases ry;exact eq_bool (qb5 I q dec_bl)
  |str j=>obtain⟨t',rfl⟩:=ry;exact PySem.EqMixed.eq_bool_str (qb5 I q (by simp))
  |_=>exact absurd (show false=true from hs) Bool.false_ne_true
 |int i=>
  obtain⟨t,rfl⟩:=rx
  cases y with
  |non=>cases ry;exact PySem.EqNone.eq_int_none (qb5 I q (by simp))
  |int j=>obtain⟨t',rfl⟩:=ry;exact eq_int (qb5 I q dec_int)
  |str j=>obtain⟨t',rfl⟩:=ry;exact PySem.EqMixed.eq_int_str (qb5 I q (by simp))
  |_=>exact absurd (show false=true from hs) Bool.false_ne_true
 |str i=>
  obtain⟨t,rfl⟩:=rx
  cases y with
  |non=>cases ry;exact PySem.EqNone.eq_str_none (qb5 I q (by simp))
  |bl j=>cases ry;exact PySem.EqMixed.eq_str_bool (qb5 I q (by simp))
  |int j=>obtain⟨t',rfl⟩:=ry;exact PySem.EqMixed.eq_str_int (qb5 I q (by simp))
  |str j=>obtain⟨t',rfl⟩:=ry;exact eq_str (qb5 I q dec_str)
  |_=>exact absurd (show false=true from hs) Bool.false_ne_true
 |byt i=>
  obtain⟨t,rfl⟩:=rx
  cases y with
  |byt j=>obtain⟨t',rfl⟩:=ry;exact PySem.W.eq_bytes (qb5 I q dec_byt)
  |_=>exact absurd (show false=true from hs) Bool.false_ne_true
 |_=>cases y <;> exact absurd (show false=true from hs) Bool.false_ne_true
theorem op_ne:OpR X (compareOp .NotEq) rNe:=by
 intro pins s σ H x y v u Q I rx ry h
 obtain⟨hs,q⟩:=h
 cases x with
 |non=>
  cases rx
  cases y with
  |non=>cases ry;exact PySem.EqNone.ne_none_none (qb5 I q (by simp))
  |bl j=>cases ry;exact PySem.EqNone.ne_none_bool (qb5 I q (by simp))
  |int j=>obtain⟨t',rfl⟩:=ry;exact PySem.EqNone.ne_none_int (qb5 I q (by simp))
  |str j=>obtain⟨t',rfl⟩:=ry;exact PySem.EqNone.ne_none_str (qb5 I q (by simp))
  |_=>exact absurd (show false=true from hs) Bool.false_ne_true
 |bl i=>
  cases rx
  cases y with
  |non=>cases ry;exact PySem.EqNone.ne_bool_none (qb5 I q (by simp))
  |bl j=>cases ry;exact ne_bool (qb5 I q (congrArg not dec_bl))
  |str j=>obtain⟨t',rfl⟩:=ry;exact PySem.EqMixed.ne_bool_str (qb5 I q (by simp))
  |_=>exact absurd (show false=true from hs) Bool.false_ne_true
 |int i=>
  obtain⟨t,rfl⟩:=rx
  cases y with
  |non=>cases ry;exact PySem.EqNone.ne_int_none (qb5 I q (by simp))
  |int j=>obtain⟨t',rfl⟩:=ry;exact ne_int (qb5 I q (congrArg not dec_int))
  |str j=>obtain⟨t',rfl⟩:=ry;exact PySem.EqMixed.ne_int_str (qb5 I q (by simp))
  |_=>exact absurd (show false=true from hs) Bool.false_ne_true
 |str i=>
  obtain⟨t,rfl⟩:=rx
  cases y with
  |non=>cases ry;exact PySem.EqNone.ne_str_none (qb5 I q (by simp))
  |bl j=>cases ry;exact PySem.EqMixed.ne_str_bool (qb5 I q (by simp))
  |int j=>obtain⟨t',rfl⟩:=ry;exact PySem.EqMixed.ne_str_int (qb5 I q (by simp))
  |str j=>obtain⟨t',rfl⟩:=ry;exact ne_str (qb5 I q (congrArg not dec_str))
  |_=>exact absurd (show false=true from hs) Bool.false_ne_true
 |byt i=>
  obtain⟨t,rfl⟩:=rx
  cases y with
  |byt j=>obtain⟨t',rfl⟩:=ry;exact PySem.W.ne_bytes (qb5 I q (congrArg not dec_byt))
  |_=>exact absurd (show false=true from hs) Bool.false_ne_true
 |_=>cases y <;> exact absurd (show false=true from hs) Bool.false_ne_true
theorem op_lt:OpR X (compareOp .Lt) (rI0 fun i j=> .bl (decide (i < j))):=opB0 fun _ _ _ _ _ _ _ q=>lt_int q
theorem op_le:OpR X (compareOp .LtE) (rI0 fun i j=> .bl (decide (i<=j))):=opB0 fun _ _ _ _ _ _ _ q=>le_int q
theorem qf6:OpR X (compareOp .Gt) (rI0 fun i j=> .bl (decide (j < i))):=opB0 fun _ _ _ _ _ _ _ q=>gt_int q
theorem op_ge:OpR X (compareOp .GtE) (rI0 fun i j=> .bl (decide (j<=i))):=opB0 fun _ _ _ _ _ _ _ q=>ge_int q
theorem op_in_str:OpR X (compareOp .In) (fun x y H Q=>∃i j,x=.str i/\y=.str j/\Q (.bl (!(Builtin.Str.occurrences j i 0 j.length 1).isEmpty)) H):=by
 intro pins s σ H x y v u Q I rx ry h
 obtain⟨i,j,rfl,rfl,q⟩:=h
 obtain⟨t,rfl⟩:=rx
 obtain⟨t',rfl⟩:=ry
 exact in_str (qb5 I q rfl)
theorem op_isN:OpR X (compareOp .Is) (fun x y H Q=>y=.non/\Q (.bl (decide (x=.non))) H):=by
 intro pins s σ H x y v u Q I rx ry h
 obtain⟨rfl,q⟩:=h
 cases ry
 refine is_none_gen (qb5 I q ?_)
 cases x <;> first
  |(cases rx;rfl)
  |(obtain⟨t,rfl⟩:=rx;rfl)
theorem op_notN:OpR X (compareOp .IsNot) (fun x y H Q=>y=.non/\Q (.bl (!decide (x=.non))) H):=by
 intro pins s σ H x y v u Q I rx ry h
 obtain⟨rfl,q⟩:=h
 cases ry
 refine isnot_none_gen (qb5 I q ?_)
 cases x <;> first
  |(cases rx;rfl)
  |(obtain⟨t,rfl⟩:=rx;rfl)
theorem qar (b:Expr) {op:CmpOp} (h:op≠ .In:=by decide) (h2:op≠ .NotIn:=by decide):behindInMarks op b=false:=by
 have e1:(op==CmpOp.In)=false:=by cases op <;> first|rfl|exact absurd rfl h
 have e2:(op==CmpOp.NotIn)=false:=by cases op <;> first|rfl|exact absurd rfl h2
 cases b <;> simp [behindInMarks,e1,e2]
theorem qbn {op:CmpOp} {r:R2} (ho:OpR X (compareOp op) r) (ha:PE X a ta) (hb:PE X b tb) (hm:behindInMarks op b=false):PE X (.Compare a [op] [b] pos) (tOp r ta tb):=by
 intro pins s σ H Q I h
 exact wpAny_Compare1 (binT ha hb I h fun v u s2 x y H2 I2 rx ry q=>ho pins s2 σ H2 x y v u Q I2 rx ry q) hm
def tTest (t:TE):TT:=fun σ H Q=>t σ H fun x H'=>∃k,x=.bl k/\Q k H'
theorem qap {op:CmpOp} {r:R2} (ho:OpR X (compareOp op) r) (ha:PE X a ta) (hb:PE X b tb) (hm:behindInMarks op b=false):PT X (.Compare a [op] [b] pos) (tTest (tOp r ta tb)):=by
 intro pins s σ H Q I h
 refine wpAny_isTrue_Compare1 (thn (ha pins s σ H _ I h) fun v s1 ⟨x,H1,I1,r1,q1⟩=>thn (hb pins s1 σ H1 _ I1 q1) fun u s2 ⟨y,H2,I2,r2,q2⟩=>
  thn (ho pins s2 σ H2 x y v u _ I2 r1 r2 q2) fun c s3 ⟨z,H3,I3,r3,k,e,q3⟩=>?_) hm
 subst e
 cases r3
 exact wpAny_truthy_bool ⟨H3,I3,q3⟩
def tChain (r r':R2) (ta tb tc:TE):TE:=fun σ H Q=>ta σ H fun x H1=>tb σ H1 fun y H2=>r x y H2 fun z H3=>∃k,z=.bl k/\
 (if k=true then tc σ H3 fun w' H4=>r' y w' H4 Q else Q (.bl false) H3)
theorem pe_chain {op op':CmpOp} {r r':R2} (ho:OpR X (compareOp op) r) (ho':OpR X (compareOp op') r') (ha:PE X a ta) (hb:PE X b tb) (hc:PE X c tc)
  (hm:lastMarks [op,op'] [b,c]=false:=by with_unfolding_all rfl):PE X (.Compare a [op,op'] [b,c] pos) (tChain r r' ta tb tc):=by
 intro pins s σ H Q I h
 refine Compare_chain (thn (ha pins s σ H _ I h) fun v s1 ⟨x,H1,I1,r1,q1⟩=>chain_link (thn (hb pins s1 σ H1 _ I1 q1) fun u s2 ⟨y,H2,I2,r2,q2⟩=>
  thn (ho pins s2 σ H2 x y v u _ I2 r1 r2 q2) fun d s3 ⟨z,H3,I3,r3,k,e,q3⟩=>?_)) hm
 subst e
 cases r3
 refine wpAny_truthy_bool ?_
 cases k with
 |false=>exact ite_ff ⟨.bl false,H3,I3,rfl,q3⟩
 |true=>exact ite_tt (chain_last (thn (hc pins s3 σ H3 _ I3 q3) fun w' s4 ⟨z',H4,I4,r4,q4⟩=>ho' pins s4 σ H4 y z' u w' Q I4 r2 r4 q4))
theorem line63:(sizeLine:Nat) < 2^63:=by rw [sizeLine_eq];decide
theorem op_add_str:OpR X (binaryOp .Add) (fun x y H Q=>∃i j,x=.str i/\y=.str j/\i.length+j.length<=sizeLine/\Q (.str (i++j)) H):=by
 intro pins s σ H x y v u Q I rx ry h
 obtain⟨i,j,rfl,rfl,hz,q⟩:=h
 obtain⟨t,rfl⟩:=rx
 obtain⟨t',rfl⟩:=ry
 exact add_str (fun t' tk=>⟨.str (i++j),H,I.tok _,⟨_,rfl⟩,q⟩) hz
theorem vals1 {x:V} {us:List Value} (r:qbd [x] us):∃u,us=[u]/\qbe x u:=by
 cases r with
 |cons r1 r2=>cases r2;exact⟨_,rfl,r1⟩
theorem vals2 {x y:V} {us:List Value} (r:qbd [x,y] us):∃u w',us=[u,w']/\qbe x u/\qbe y w':=by
 cases r with
 |cons r1 r2=>
  cases r2 with
  |cons r3 r4=>cases r4;exact⟨_,_,rfl,r1,r3⟩
theorem call_max2 (hc:X.calm=true):qc7 X (.builtin "max") (fun xs H Q=>∃i j,xs=[.int i,.int j]/\Q (.int (if j > i then j else i)) H):=by
 intro pins s σ H xs us Q I r h
 obtain⟨i,j,rfl,q⟩:=h
 obtain⟨u,w',rfl,⟨t,rfl⟩,⟨t',rfl⟩⟩:=vals2 r
 refine max_two_ints (I.ok.hd hc) fun h' tk k=>⟨_,H,I.kept k,?_,q⟩
 by_cases hj:j > i
 .rw [if_pos hj,if_pos hj];exact⟨_,rfl⟩
 .rw [if_neg hj,if_neg hj];exact⟨_,rfl⟩
theorem call_min2 (hc:X.calm=true):qc7 X (.builtin "min") (fun xs H Q=>∃i j,xs=[.int i,.int j]/\Q (.int (if j < i then j else i)) H):=by
 intro pins s σ H xs us Q I r h
 obtain⟨i,j,rfl,q⟩:=h
 obtain⟨u,w',rfl,⟨t,rfl⟩,⟨t',rfl⟩⟩:=vals2 r
 refine min_two_ints (I.ok.hd hc) fun h' tk k=>⟨_,H,I.kept k,?_,q⟩
 by_cases hj:j < i
 .rw [if_pos hj,if_pos hj];exact⟨_,rfl⟩
 .rw [if_neg hj,if_neg hj];exact⟨_,rfl⟩
end
structure ObjM (h:Heap) (x dx C:Addr) (mA:Str->Option Value):Prop where
 obj:h.get? x=some (instObj C dx)
 ns:h.Ns1 dx mA
 ne:dx≠x
theorem lookIn_ns {h:Heap} {dx:Addr} {mA:Str->Option Value} (n:h.Ns1 dx mA):∃od,h.get? dx=some od/\∀name,lookIn name od=some (mA name):=by
 obtain⟨o,es,ep,ho,hd,hk,_,hm⟩:=n
 refine⟨o,ho,fun name=>?_⟩
 have e:=hm name
 unfold nsFind findBy at e
 rw [<-Array.find?_toList] at e
 unfold lookIn
 rw [hd]
 dsimp only
 split
 .rename_i y q
  rw [q] at e
  exact congrArg some e
 .rename_i q
  rw [q] at e
  have a:es.toList.any (·.refKey)=false:=by
   rw [List.any_eq_false]
   intro y hy
   obtain⟨z,t,hkey⟩:=hk y (Array.mem_toList_iff.mp hy)
   simp [DictEntry.refKey,hkey]
  have a':¬es.toList.any (·.refKey)=true:=by rw [a];exact Bool.false_ne_true
  rw [if_neg a']
  exact congrArg some e
theorem ObjM.look {h:Heap} {x dx C:Addr} {mA:Str->Option Value} (I:ObjM h x dx C mA):∃od,PySem.W.InstAt h x (instObj C dx) C (some od)/\∀name,lookIn name od=some (mA name):=
 let ⟨od,ho,hl⟩:=lookIn_ns I.ns
 ⟨od,⟨I.obj,rfl,rfl,ho⟩,hl⟩
section
variable {prog: Program} {w: World} {A: Around} {E: Value -> Shared -> Prop} {s: Shared} {K: Frag} {x dx C f: Addr} {mA: Str -> Option Value} {name: Str} {v: Value}
theorem get_map {expr:Bool} {Q:Value->Shared->Prop} (X:K.In s.heap) (I:ObjM s.heap x dx C mA) (hg:plainGet K C name=true) (hh:hasDictIn K C=true)
  (ha:findIn K (.ref C) name=some none) (hv:mA name=some v) (hv':PySem.W.handedIn v=true) (h:Q v {s with toks:=s.toks+1}):
  wpAny (model prog w) A (getAttr (.ref x) name expr) Q E s:=by
 obtain⟨od,J,hl⟩:=I.look
 exact PySem.W.get_value X J (PySem.W.plainGet_of hg).1 (PySem.W.findObj_own hh ha rfl (by rw [hl,hv])) hv' h
theorem get_meth {pl:Sem Bool} {Q:Value × List Value->Shared->Prop} (X:K.In s.heap) (I:ObjM s.heap x dx C mA) (hg:plainGet K C name=true)
  (hf:findIn K (.ref C) name=some (some (.ref f))) (ht:isFn K (.ref f)=true) (hv:mA name=none) (h:Q (.ref f, [.ref x]) s):
  wpAny (model prog w) A (getMethod (.ref x) name pl) Q E s:=by
 obtain⟨od,J,hl⟩:=I.look
 exact PySem.W.method_fn X J (PySem.W.plainGet_of hg).1 (PySem.W.plainGet_of hg).2 hf (beq_iff_eq.mp ht) (by show (lookIn name od).map (·.isSome)=some false;rw [hl,hv];rfl) h
theorem set_map {ns:List Str} {Q:Unit->Shared->Prop} (X:K.In s.heap) (I:ObjM s.heap x dx C mA)
  (hs:findIn K (.ref C) "__setattr__" =some (some (.builtin "object.__setattr__"))) (hp:PySem.W.plainOver K C=true) (ht:PySem.W.takerIn K C name=some none) (hh:hasDictIn K C=true)
  (hw:PySem.Within mA ns) (hsz:ns.length<=sizeLine)
  (h:∀h',ObjM h' x dx C (fun y=>if y=name then some v else mA y)->Heap.SameBut dx s.heap h'->Q () {s with heap:=h',toks:=s.toks+2}):
  wpAny (model prog w) A (setAttr (.ref x) name v) Q E s:=by
 obtain⟨od,J,hl⟩:=I.look
 refine PySem.W.set_plain X J hs (PySem.W.osa_open (s:={s with toks:=s.toks+1}) (r:=none) X J hp ht fun b=>?_)
 obtain⟨cd,hc,hd'⟩:=PySem.W.any_some hh
 have hx:s.heap.get? x=some ⟨.ref C,some dx,.plain,#[]⟩:=I.obj
 refine wpAny_bind (wpAny_pure (wpAny_bind (wpAny_bind (wpAny_loadPart hx (wpAny_bind (PySem.W.Looks.here (s:={s with toks:=s.toks+1}) (PySem.W.looks_clsIn X hc) ?_))))))
 rw [hd']
 refine wpAny_pure (a:=some dx) (wpAny_bind (wpAny_pure (wpAny_bind ?_)))
 refine wpAny_nsSet1 (s:={s with toks:=s.toks+1}) I.ns fun h' hn2 hs2=>?_
 obtain⟨oD,esD,epD,hoD,hdD,hcD⟩:=hn2.count (PySem.Within.cons name v hw)
 refine wpAny_bind (wpAny_lookBehind hoD (by rw [hdD];exact pastItsLine_dict (Nat.le_trans hcD (by rw [zP];omega))) ?_)
 exact wpAny_pure (h _ ⟨(hs2.2 _ (Ne.symm I.ne)).trans I.obj,hn2,I.ne⟩ hs2)
theorem make_map {R:Result->Shared->Prop} {vs:List Value} {kw:List (Str × Value)} (X:K.In s.heap) (hm:PySem.W.makesIn K C=true)
  (hi:findIn K (.ref C) "__init__" =some (some (.ref f))) (hf:PySem.W.typeIn K (.ref f)=some (.type "function"))
  (h:codeAny (model prog w) (A.under (.builtin "type.__call__" ⟨.ref C :: vs,kw⟩)) (.call (.ref f) ⟨.ref (s.heap.objs.size+1) :: vs,kw⟩) (PySem.W.InitBack (s.heap.objs.size+1) R)
   {s with heap:=(s.heap.push emptyDict).push (instObj C s.heap.objs.size)}):
  codeAny (model prog w) A (.call (.ref C) ⟨vs,kw⟩) R s:=by
 obtain⟨hh,g,d,t,os⟩:=s
 exact PySem.W.make_core (PySem.W.makes_of X hm) (PySem.W.looks_findIn X hi) (fun self=>PySem.W.bind_fn X self hf) (.inl rfl) h
end
def qep (f:Str) (v:V):List (Str × V)->List (Str × V)
 | []=> [(f,v)]
 |(g,x) :: r=>if g=f then (g,v) :: r else (g,x) :: qep f v r
theorem qev (f g:Str) (v:V):∀fs:List (Str × V),(qep f v fs).lookup g=if g=f then some v else fs.lookup g
 | []=>by
  show List.lookup g [(f,v)]=_
  by_cases h:g=f
  .have hb:(g==f)=true:=beq_iff_eq.mpr h
   simp only [List.lookup,hb,if_pos h]
  .have hb:(g==f)=false:=beq_eq_false_iff_ne.mpr h
   simp only [List.lookup,hb,if_neg h]
 |(k,x) :: r=>by
  have ih:=qev f g v r
  rw [show qep f v ((k,x) :: r)=(if k=f then (k,v) :: r else (k,x) :: qep f v r) from rfl]
  by_cases hk:k=f
  .rw [if_pos hk]
   by_cases h:g=k
   .have hb:(g==k)=true:=beq_iff_eq.mpr h
    simp only [List.lookup,hb,if_pos (h.trans hk)]
   .have hb:(g==k)=false:=beq_eq_false_iff_ne.mpr h
    simp only [List.lookup,hb,if_neg (fun e:g=f=>h (e.trans hk.symm))]
  .rw [if_neg hk]
   by_cases h:g=k
   .have hb:(g==k)=true:=beq_iff_eq.mpr h
    simp only [List.lookup,hb,if_neg (fun e:g=f=>hk (h.symm.trans e))]
   .have hb:(g==k)=false:=beq_eq_false_iff_ne.mpr h
    simp only [List.lookup,hb]
    exact ih
theorem qex (f:Str) (v:V):∀fs:List (Str × V),f∈(qep f v fs).map (·.1)/\∀g,g∈fs.map (·.1)->g∈(qep f v fs).map (·.1)
 | []=>⟨by simp [qep],fun g h=>by simp at h⟩
 |(k,x) :: r=>by
  obtain⟨i1,i2⟩:=qex f v r
  rw [show qep f v ((k,x) :: r)=(if k=f then (k,v) :: r else (k,x) :: qep f v r) from rfl]
  by_cases hk:k=f
  .rw [if_pos hk]
   subst hk
   exact⟨by simp,fun g h=>by simpa using h⟩
  .rw [if_neg hk]
   refine⟨?_,fun g h=>?_⟩
   .rw [zS]
    exact zF _ i1
   .rw [zS] at h ⊢
    rcases zK.mp h with e|e
    .exact zK.mpr (.inl e)
    .exact zF _ (i2 g e)
theorem qew (f:Str) (v:V):∀fs:List (Str × V),(qep f v fs).length<=fs.length+1
 | []=>by simp [qep]
 |(k,x) :: r=>by
  have ih:=qew f v r
  rw [show qep f v ((k,x) :: r)=(if k=f then (k,v) :: r else (k,x) :: qep f v r) from rfl]
  by_cases hk:k=f
  .rw [if_pos hk,zP,zP];omega
  .rw [if_neg hk,zP,zP];omega
theorem qg3.some_of {v:V} {o:Option Value} (r:qg3 (some v) o):∃u,o=some u/\qbe v u:=by
 cases o with
 |none=>exact(show False from r).elim
 |some u=>exact⟨u,rfl,r⟩
theorem qg3.none_of {o:Option Value} (r:qg3 none o):o=none:=by
 cases o with
 |none=>rfl
 |some u=>exact(show False from r).elim
theorem handed_of {v:V} {u:Value} (r:qbe v u):PySem.W.handedIn u=true:=by
 cases v with
 |non=>cases (show u=Value.none from r);rfl
 |bl b=>cases (show u=Value.bool b from r);rfl
 |int i=>obtain⟨t,e⟩:=(show ∃t,u=Value.int i t from r);cases e;rfl
 |str x=>obtain⟨t,e⟩:=(show ∃t,u=Value.str x t from r);cases e;rfl
 |byt b=>obtain⟨t,e⟩:=(show ∃t,u=Value.bytes b t from r);cases e;rfl
 |flt b=>obtain⟨t,e⟩:=(show ∃t,u=Value.float b t from r);cases e;rfl
 |ref a=>cases (show u=Value.ref a from r);rfl
 |ty n=>cases (show u=Value.type n from r);rfl
section
variable {P: Program} {w: World} {H: Hp} {h: Heap} {a C dx: Addr} {fs: List (Str × V)}
theorem qfw (hok:HOk P w H h) (e:H a=some (.ins C dx fs)):∃mA,ObjM h a dx C mA/\(∀f,qg3 (fs.lookup f) (mA f))/\PySem.Within mA (fs.map (·.1))/\fs.length<=1000/\H dx=some (.own a):=by
 obtain⟨d,z,ne,ob,mA,n,r,q⟩:=(show qbh P w H h a (.ins C dx fs) from hok a _ e)
 exact⟨mA,⟨ob,n,ne⟩,r,q,z,d⟩
end
structure Cls (K:Frag) (C:Addr):Prop where
 pg:plainGet K C Str.empty=true
 hd:hasDictIn K C=true
 po:PySem.W.plainOver K C=true
 sa:findIn K (.ref C) "__setattr__" =some (some (.builtin "object.__setattr__"))
theorem Cls.get {K:Frag} {C:Addr} (c:Cls K C) (f:Str):plainGet K C f=true:=c.pg
def qav (K:Frag) (C:Addr) (f:Str):Prop:=findIn K (.ref C) f=some none
theorem qav.taker {K:Frag} {C:Addr} {f:Str} (n:qav K C f):PySem.W.takerIn K C f=some none:=by
 unfold PySem.W.takerIn
 rw [show findIn K (.ref C) f=some none from n]
 rfl
structure Con (K:Frag) (C:Addr) (f:Str) (v:V) (u:Value):Prop where
 at_:findIn K (.ref C) f=some (some u)
 rel:qbe v u
 get:specialIn K u "__get__" =some none
 cp:PySem.W.copiedNames.contains f=false
structure Meth (K:Frag) (C:Addr) (m:Str) (f:Addr):Prop where
 at_:findIn K (.ref C) m=some (some (.ref f))
 fn:isFn K (.ref f)=true
 kp:keepIn K (.ref f)=true
section
variable {X: Cx} {pins: List (Addr × Obj)} {σ: St} {H: Hp} {s: Shared} {a C dx: Addr} {fs: List (Str × V)} {f: Str} {v: V} {A: Around} {E: Value -> Shared -> Prop}
theorem getattr_ok {b:Bool} {Q:Value->Shared->Prop} (I:Inv X pins σ H s) (e:H a=some (.ins C dx fs)) (c:Cls X.K C) (n:qav X.K C f) (l:fs.lookup f=some v)
  (h:∀u s',Inv X pins σ H s'->qbe v u->Q u s'):wpAny (model X.prog X.w) A (getAttr (.ref a) f b) Q E s:=by
 obtain⟨mA,O,r,_,_,_⟩:=qfw I.hok e
 obtain⟨u,hu,ru⟩:=qg3.some_of (v:=v) (o:=mA f) (by rw [<-l];exact r f)
 exact get_map I.kIn O (c.get f) c.hd n hu (handed_of ru) (h u _ (I.tok _) ru)
theorem qdi {m:Str} {g:Addr} {pl:Sem Bool} {Q:Value × List Value->Shared->Prop} (I:Inv X pins σ H s) (e:H a=some (.ins C dx fs)) (c:Cls X.K C) (k:Meth X.K C m g) (l:fs.lookup m=none)
  (h:Q (.ref g, [.ref a]) s):wpAny (model X.prog X.w) A (getMethod (.ref a) m pl) Q E s:=by
 obtain⟨mA,O,r,_,_,_⟩:=qfw I.hok e
 have hn:mA m=none:=qg3.none_of (by rw [<-l];exact r m)
 exact get_meth I.kIn O (c.get m) k.at_ k.fn hn h
theorem setattr_ok {y:V} {u:Value} {Q:Unit->Shared->Prop} (I:Inv X pins σ H s) (e:H a=some (.ins C dx fs)) (c:Cls X.K C) (n:qav X.K C f) (hl:fs.length < 1000) (ry:qbe y u)
  (h:∀s',Inv X pins σ (upd H a (.ins C dx (qep f y fs))) s'->Q () s'):wpAny (model X.prog X.w) A (setAttr (.ref a) f u) Q E s:=by
 obtain⟨mA,O,r,wi,_,ho⟩:=qfw I.hok e
 have hz:(fs.map (·.1)).length<=sizeLine:=by rw [zB,sizeLine_eq];omega
 refine set_map I.kIn O c.sa c.po n.taker c.hd wi hz fun h' O' sb=>h _ ?_
 have hd:∃o,h'.get? dx=some o:=let ⟨o,_,_,e',_⟩:=O'.ns;⟨o,e'⟩
 refine I.write (x:=a) (e:=dx) (by rw [e];exact True.intro) (.inr ho) (fun b q hb z=>(sb.2 b hb).trans z) hd ?_
 refine⟨by rw [qa7 O.ne];exact ho,?_,O.ne,O'.obj,_,O'.ns,fun g=>?_,fun g hg=>?_⟩
 .have:=qew f y fs;omega
 .show qg3 ((qep f y fs).lookup g) (if g=f then some u else mA g)
  rw [qev]
  by_cases q:g=f
  .rw [if_pos q,if_pos q];exact ry
  .rw [if_neg q,if_neg q];exact r g
 .by_cases q:g=f
  .rw [q];exact(qex f y fs).1
  .refine(qex f y fs).2 g (wi g fun z=>hg ?_)
   show (if g=f then some u else mA g)=none
   rw [if_neg q];exact z
theorem Inv.made (I:Inv X pins σ H s):Inv X pins σ (upd (upd H s.heap.objs.size (.own (s.heap.objs.size+1))) (s.heap.objs.size+1) (.ins C s.heap.objs.size []))
  {s with heap:=(s.heap.push emptyDict).push (instObj C s.heap.objs.size)}:=by
 have e1:(s.heap.push emptyDict).get? s.heap.objs.size=some emptyDict:=Heap.get?_push_size s.heap rfl
 have e2:((s.heap.push emptyDict).push (instObj C s.heap.objs.size)).get? (s.heap.objs.size+1)=some (instObj C s.heap.objs.size):=by
  have:=Heap.get?_push_size (s.heap.push emptyDict) (o:=instObj C s.heap.objs.size) rfl
  rwa [Heap.size_push] at this
 have e3:(s.heap.push emptyDict).Ns s.heap.objs.size (fun _=>none):=⟨emptyDict,#[],_,e1,rfl,(fun e he=>absurd he (by simp)),fun _=>rfl⟩
 have I1:=I.laid (a:=s.heap.objs.size) (o:=.own (s.heap.objs.size+1)) (h':=s.heap.push emptyDict) (t':=s.toks) (fun b u q=>Heap.get?_push_of_some _ q) (Nat.le_refl _) ⟨_,e1⟩
 refine I1.laid (a:=s.heap.objs.size+1) (o:=.ins C s.heap.objs.size []) (t':=s.toks) (fun b u q=>Heap.get?_push_of_some _ q) (Nat.le_of_eq (Heap.size_push _ _)) ?_
 have ne:s.heap.objs.size≠s.heap.objs.size+1:=Nat.ne_of_lt (Nat.lt_succ_self _)
 refine⟨by rw [qa7 ne,qa2],Nat.zero_le _,ne,e2,fun _=>none,(Heap.Ns1.of_empty e3).at fun o q=>Heap.get?_push_of_some _ q,fun _=>True.intro,fun y hy=>absurd rfl hy⟩
theorem attr_of {prog:Program} {w:World} {env:Env} {e:Expr} {f:Str} {pos:Pos} {s:Shared} {Q:Value->Shared->Prop} (hb:attributeBase e f env (eval e env)=eval e env)
  (h:wpAny (model prog w) A (eval e env) (fun o s₁=>wpAny (model prog w) A (getAttr o f true) Q E s₁) E s):wpAny (model prog w) A (eval (.Attribute e f pos) env) Q E s:=
 Attribute_any_ h (by rw [arm_eval_Attribute,hb])
end
def tFld (K:Frag) (ta:TE) (f:Str):TE:=fun σ H Q=>ta σ H fun x H1=>∃a C dx fs v,x=.ref a/\H1 a=some (.ins C dx fs)/\Cls K C/\qav K C f/\fs.lookup f=some v/\Q v H1
def sFld (K:Frag) (ta tv:TE) (f:Str):TS:=fun D σ H=>tv σ H fun y H1=>ta σ H1 fun x H2=>∃a C dx fs,x=.ref a/\H2 a=some (.ins C dx fs)/\Cls K C/\qav K C f/\fs.length < 1000/\
 D.nx σ (upd H2 a (.ins C dx (qep f y fs)))
def InOp (X:Cx) (op:Operator) (rd:V->V->Hp->VK->Prop):Prop:=
 ∀(pins:List (Addr × Obj)) (s:Shared) (σ:St) (H:Hp) (x y:V) (u v:Value) (Q:VK),Inv X pins σ H s->qbe x u->qbe y v->rd x y H Q->wpAny (model X.prog X.w) X.A (inplaceOp op u v) (EP X pins σ Q) X.xe s
section
variable {X: Cx} {o e value: Expr} {f: Str} {pos pos': Pos} {ta tv: TE}
theorem qaz (he:PE X e ta) (hb:attributeBase e f X.env (eval e X.env)=eval e X.env):PE X (.Attribute e f pos) (tFld X.K ta f):=by
 intro pins s σ H Q I h
 refine attr_of hb (thn (he pins s σ H _ I h) fun u s1 ⟨x,H1,I1,rx,a,C,dx,fs,v,ex,ea,c,n,l,q⟩=>?_)
 subst ex
 obtain rfl:u=Value.ref a:=rx
 exact getattr_ok I1 ea c n l fun u' s2 I2 ru=>⟨v,H1,I2,ru,q⟩
theorem qd4 (ha:PE X o ta) (hv:PE X value tv) (hs:swapsWith value (some (.Attribute o f pos')) pos.line X.env=pure false):PS X (.Assign [.Attribute o f pos'] value pos) (sFld X.K ta tv f):=by
 intro pins s σ H D I h
 refine plainObj_wpAny_Assign_Attribute (thn (hv pins s σ H _ I h) fun u s1 ⟨y,H1,I1,ry,q⟩=>thn (ha pins s1 σ H1 _ I1 q) fun ov s2 ⟨x,H2,I2,rx,a,C,dx,fs,ex,ea,c,n,l,q2⟩=>?_) hs
 subst ex
 obtain rfl:ov=Value.ref a:=rx
 exact setattr_ok I2 ea c n l ry fun s3 I3=>⟨σ,_,I3,q2⟩
def rSub:V->V->Hp->VK->Prop:=fun x y H Q=>∃i j,x=.int i/\y=.int j/\Q (.int (i - j)) H
theorem in_sub:InOp X .Sub rSub:=by
 rintro pins s σ H x y u v Q I rx ry ⟨i,j,rfl,rfl,q⟩
 obtain⟨t,rfl⟩:=(show ∃t,u=Value.int i t from rx)
 obtain⟨t',rfl⟩:=(show ∃t',v=Value.int j t' from ry)
 exact PyProof.Rows.isub_int ⟨.int (i - j),H,I.tok _,⟨_,rfl⟩,q⟩
theorem methcall_of {pl:Sem Bool} {m:Str} {apos:Pos} {args:List Expr} {pins:List (Addr × Obj)} {s:Shared} {σ:St} {H:Hp} {Q:Value->Shared->Prop} {te:TE} (he:PE X e te) (I:Inv X pins σ H s)
  (h:te σ H fun x H1=>∃a C dx fs g,x=.ref a/\H1 a=some (.ins C dx fs)/\Cls X.K C/\Meth X.K C m g/\fs.lookup m=none/\
   ∀s1,Inv X pins σ H1 s1->wpAny (model X.prog X.w) X.A (callWith pos (.ref g) [.ref a] (backTo pos (starEach args X.env)) (backToKw pos (keywordEach [] X.env))) Q X.xe s1)
  (ht:eval (.Call (.Attribute e m apos) args [] pos) X.env=(do
   let ov<-eval e X.env
   standAt apos.atName
   let (f,first)<-holding [ov] (getMethod ov m pl)
   callWith pos f first (backTo pos (starEach args X.env)) (backToKw pos (keywordEach [] X.env)))):
  wpAny (model X.prog X.w) X.A (eval (.Call (.Attribute e m apos) args [] pos) X.env) Q X.xe s:=by
 refine PySem.W.methodCall_KW (pl:=pl) (thn (he pins s σ H _ I h) fun u s1 ⟨x,H1,I1,rx,a,C,dx,fs,g,ex,ea,c,k,l,q⟩=>?_) ht
 subst ex
 obtain rfl:u=Value.ref a:=rx
 exact qdi I1 ea c k l (q s1 I1)
end
section
variable {X: Cx} {pins: List (Addr × Obj)} {σ: St} {H: Hp} {s: Shared} {A: Around} {E: Value -> Shared -> Prop} {Q: Value -> Shared -> Prop} {c: Value} {b: Bool}
inductive TyOf (K:Frag) (H:Hp):V->Value->Prop where
 |non:TyOf K H .non (.type "NoneType")
 |bl (x:Bool):TyOf K H (.bl x) (.type "bool")
 |int (i:Int):TyOf K H (.int i) (.type "int")
 |str (x:Str):TyOf K H (.str x) (.type "str")
 |flt (x:UInt64):TyOf K H (.flt x) (.type "float")
 |lst {a:Addr} {xs:List V} (e:H a=some (.lst xs)):TyOf K H (.ref a) (.type "list")
 |frz {a:Addr} {o:Obj} {xs:List V} (e:H a=some (.frz o (.lst xs))):TyOf K H (.ref a) (.type "list")
 |tup {a:Addr} {xs:List V} (e:H a=some (.tup xs)):TyOf K H (.ref a) (.type "tuple")
 |dK {a:Addr} {kvs:List (Key × V)} (e:H a=some (.dK kvs)):TyOf K H (.ref a) (.type "dict")
 |dT {a:Addr} {kvs:List (List Key × V)} (e:H a=some (.dT kvs)):TyOf K H (.ref a) (.type "dict")
 |ins {a C dx:Addr} {fs:List (Str × V)} (e:H a=some (.ins C dx fs)) (cl:Cls K C) (ha:findIn K (.ref C) "__class__" =some (some (.builtin "object.__class__")))
   (hn:specialIn K (.builtin "object.__class__") "__get__" =some (some (.builtin "getset_descriptor.__get__"))) (htk:PySem.W.takesIn K (.builtin "object.__class__")=some true)
   (hm:mroIn K C (.type "object")=some true):TyOf K H (.ref a) (.ref C)
theorem isinst_ok {x:V} {u t:Value} (I:Inv X pins σ H s) (rx:qbe x u) (ty:TyOf X.K H x t) (e:kitOne X.K t c=some b) (h:∀tk,Q (.bool b) {s with toks:=tk}):
  wpAny (model X.prog X.w) A (call (.builtin "isinstance") [u,c]) Q E s:=by
 cases ty with
 |non=>cases (show u=Value.none from rx);exact PySem.W.kia_one PySem.W.kitx_none I.kIn True.intro e (fun z=>nomatch z) h
 |bl y=>cases (show u=Value.bool y from rx);exact PySem.W.kia_one PySem.W.kitx_bool I.kIn True.intro e (fun z=>nomatch z) h
 |int i=>obtain⟨t,q⟩:=(show ∃t,u=Value.int i t from rx);cases q;exact PySem.W.kia_one PySem.W.kitx_int I.kIn True.intro e (fun z=>nomatch z) h
 |str y=>obtain⟨t,q⟩:=(show ∃t,u=Value.str y t from rx);cases q;exact PySem.W.kia_one PySem.W.kitx_str I.kIn True.intro e (fun z=>nomatch z) h
 |flt y=>obtain⟨t,q⟩:=(show ∃t,u=Value.float y t from rx);cases q;exact PySem.W.kia_one PySem.W.kitx_float I.kIn True.intro e (fun z=>nomatch z) h
 | @lst a xs ea=>
  cases (show u=Value.ref a from rx)
  obtain⟨_,_,n,_,h1⟩:=(show qbh X.prog X.w H s.heap a (.lst xs) from I.hok a _ ea)
  exact PySem.W.kia_one PySem.W.kitx_list I.kIn ⟨_,h1,rfl⟩ e (fun z=>nomatch z) h
 | @frz a ob xs ea=>
  cases (show u=Value.ref a from rx)
  obtain⟨_,_,_,n,_,h1⟩:=(show qbh X.prog X.w H s.heap a (.frz ob (.lst xs)) from I.hok a _ ea)
  exact PySem.W.kia_one PySem.W.kitx_list I.kIn ⟨_,h1,rfl⟩ e (fun z=>nomatch z) h
 | @tup a xs ea=>
  cases (show u=Value.ref a from rx)
  obtain⟨_,_,_,p⟩:=(show qbh X.prog X.w H s.heap a (.tup xs) from I.hok a _ ea)
  obtain⟨o,h1,h2,_⟩:=p
  exact PySem.W.kia_one PySem.W.kitx_tuple I.kIn ⟨o,h1,h2⟩ e (fun z=>nomatch z) h
 | @dK a kvs ea=>
  cases (show u=Value.ref a from rx)
  obtain⟨_,_,vs,_,p⟩:=(show qbh X.prog X.w H s.heap a (.dK kvs) from I.hok a _ ea)
  obtain⟨o,es,ep,h1,h2,_⟩:=p
  exact PySem.W.kia_one PySem.W.kitx_dict I.kIn ⟨o,h1,h2.1⟩ e (fun z=>nomatch z) h
 | @dT a kvs ea=>
  cases (show u=Value.ref a from rx)
  obtain⟨_,_,xs,_,o,es,ep,h1,h2,_⟩:=(show qbh X.prog X.w H s.heap a (.dT kvs) from I.hok a _ ea)
  exact PySem.W.kia_one PySem.W.kitx_dict I.kIn ⟨o,h1,h2.1⟩ e (fun z=>nomatch z) h
 | @ins a C dx fs ea cl ha hn htk hm=>
  cases (show u=Value.ref a from rx)
  obtain⟨mA,O,_⟩:=qfw I.hok ea
  obtain⟨od,J,_⟩:=O.look
  exact PySem.W.kia_one (PySem.W.kitx_own (cl.get _) cl.hd ha hn htk hm) I.kIn J e (fun z=>nomatch z) h
end
structure Room (k:Nat) (A:Around):Prop where
 hd:A.handled=none
 dp:A.depth+3*k+5 < recursionLimit
 un:A.units+16*k+200 < cLine
theorem Room.mono {j k:Nat} {A:Around} (r:Room k A) (h:j<=k):Room j A:=⟨r.hd,by have:=r.dp;omega,by have:=r.un;omega⟩
theorem Room.deeper {k:Nat} {A:Around} (r:Room (k+1) A) (env:Env):Room k (A.deeper env):=
 ⟨r.hd,by have:=r.dp;show A.depth+1+3*k+5 < _;omega,by have:=r.un;show A.units+3+16*k+200 < _;omega⟩
theorem make_depth {A:Around} {C:Addr} {us:List Value} {kw:List (Str × Value)}:(A.under (.builtin "type.__call__" ⟨.ref C :: us,kw⟩)).depth=A.depth+1:=by
 first|rfl|simp [Around.under,Code.weight,Code.isCreation,Code.isGuard,Code.isCaller,Code.frames,Code.isFrame,guardIds]
theorem make_units {A:Around} {C:Addr} {us:List Value} {kw:List (Str × Value)}:(A.under (.builtin "type.__call__" ⟨.ref C :: us,kw⟩)).units=A.units+1:=by
 first|rfl|simp [Around.under,Code.cUnits,Code.frames,Code.isFrame]
theorem Room.make {k:Nat} {A:Around} (r:Room (k+1) A) (C:Addr) (us:List Value) (kw:List (Str × Value)):Room k (A.under (.builtin "type.__call__" ⟨.ref C :: us,kw⟩)):=
 ⟨r.hd,by have:=r.dp;rw [make_depth];omega,by have:=r.un;rw [make_units];omega⟩
theorem Room.depth {k:Nat} {A:Around} (r:Room k A):A.depth < recursionLimit:=by have:=r.dp;omega
theorem Room.units {k:Nat} {A:Around} (r:Room k A):A.units+64 < cLine:=by have:=r.un;omega
def tNil:TA:=fun _ H Q=>Q [] H
def tCons (ta:TE) (tr:TA):TA:=fun σ H Q=>ta σ H fun x H1=>tr σ H1 fun xs H2=>Q (x :: xs) H2
section
variable {X: Cx} {e: Expr} {es: List Expr} {te: TE} {t: TA} {pos: Pos}
theorem qa1:PA X [] tNil:=fun _ _ _ _ H Q I h=>Calls.spliced_nil ⟨[],H,I,.nil,h⟩
theorem qa0 (ha:PE X e te) (hr:PA X es t) (hs:starEach (e :: es) X.env=(false,eval e X.env) :: starEach es X.env:=by rfl):PA X (e :: es) (tCons te t):=by
 intro pos pins s σ H Q I h
 rw [hs]
 show wpAny _ _ (spliced ((false,eval e X.env) :: backTo pos (starEach es X.env))) _ _ s
 refine Calls.spliced_cons (thn (ha pins s σ H _ I h) fun u s1 ⟨x,H1,I1,r1,q1⟩=>?_)
 exact thn (hr pos pins s1 σ H1 _ I1 q1) fun us s2 ⟨xs,H2,I2,r2,q2⟩=>⟨x :: xs,H2,I2,.cons r1 r2,q2⟩
def tTup (t:TA):TE:=fun σ H Q=>t σ H fun xs H1=>xs.length<=sizeLine/\∀p,H1 p=none->Q (.ref p) (upd H1 p (.tup xs))
def tLst (t:TA):TE:=fun σ H Q=>t σ H fun xs H1=>xs.length<=sizeLine/\∀p,H1 p=none->Q (.ref p) (upd H1 p (.lst xs))
theorem qcv {x1} (h:PA X es t):PE X (.Tuple es x1 pos) (tTup t):=by
 intro pins s σ H Q I hq
 refine wpAny_Tuple_spliced (thn (h pos pins s σ H _ I hq) fun us s1 ⟨xs,H1,I1,r,z,q⟩=>⟨by rw [<-r.length];exact z,?_⟩)
 have hf:H1 s1.heap.objs.size=none:=I1.hok.fresh (Nat.le_refl _)
 refine⟨.ref s1.heap.objs.size,upd H1 s1.heap.objs.size (.tup xs),I1.laid (t':=s1.toks) (fun b u e=>Heap.get?_push_of_some _ e) (Nat.le_refl _) ?_,rfl,q _ hf⟩
 exact⟨z,us,r,⟨_,Heap.get?_push_size _ rfl,rfl,_,rfl⟩⟩
theorem qbm (h:PA X es t):PE X (.List es pos) (tLst t):=by
 intro pins s σ H Q I hq
 refine wpAny_List_spliced (thn (h pos pins s σ H _ I hq) fun us s1 ⟨xs,H1,I1,r,z,q⟩=>⟨by rw [<-r.length];exact z,?_⟩)
 have hf:H1 s1.heap.objs.size=none:=I1.hok.fresh (Nat.le_refl _)
 refine⟨.ref s1.heap.objs.size,upd H1 s1.heap.objs.size (.lst xs),I1.laid (t':=s1.toks) (fun b u e=>Heap.get?_push_of_some _ e) (Nat.le_refl _) ?_,rfl,q _ hf⟩
 exact⟨z,us,0,r,Heap.get?_push_size _ rfl⟩
end
abbrev Sp:=List V->Hp->VK->XK->Prop
abbrev CXT:=List Env->Hp->Shared->XK->Value->Shared->Prop
structure Env0 (P:Program) (w:World) (K:Frag) (mg:Str->Option Value) (base:Heap) (A:Around) (outer:List Env) (s:Shared) (H:Hp):Prop where
 frames:A.frames=some outer
 mod:Mod K mg base
 bs:∀b o,base.get? b=some o->s.heap.get? b=some o/\H b=none
 bsz:base.objs.size<=s.heap.objs.size
 funs:s.heap.FunFrames base outer
 frf:∀b∈frs outer,H b=none
 hok:HOk P w H s.heap
 bare:AllBare s.gens
def CE (outer:List Env) (P:Program) (w:World) (H:Hp) (s:Shared) (Q:VK) (u:Value) (s':Shared):Prop:=
 ∃v H',s'.os=s.os/\AllBare s'.gens/\Un (frs outer) [] H H' s.heap s'.heap/\HOk P w H' s'.heap/\qbe v u/\Q v H'
def CR (CX:CXT) (outer:List Env) (P:Program) (w:World) (H:Hp) (s:Shared) (Q:VK) (E:XK) (r:Result) (s':Shared):Prop:=
 match r with
 | .ok (.ret u)=>CE outer P w H s Q u s'
 | .ok _=>False
 | .error e=>CX outer H s E e s'
structure FnOk (P:Program) (w:World) (K:Frag) (mg:Str->Option Value) (base:Heap) (CX:CXT) (k:Nat) (f:Addr) (fd:FuncData) (ps:List Str) (sp:Sp):Prop where
 len:∀vs H Q E,sp vs H Q E->vs.length=ps.length
 run:∀(A:Around) (outer:List Env) (s:Shared) (H:Hp) (args:Args) (us:List Value) (vs:List V) (Q:VK) (E:XK),Room k A->Env0 P w K mg base A outer s H->BindsTo s fd args (ps.zip us)->qbd vs us->sp vs H Q E->
  codeAny (model P w) A (.call (.ref f) args) (CR CX outer P w H s Q E) s
theorem FnOk.mono {P:Program} {w:World} {K:Frag} {mg:Str->Option Value} {base:Heap} {CX:CXT} {j k:Nat} {f:Addr} {fd:FuncData} {ps:List Str} {sp:Sp} (F:FnOk P w K mg base CX j f fd ps sp) (h:j<=k):
  FnOk P w K mg base CX k f fd ps sp:=⟨F.len,fun A outer s H args us vs Q E hr=>F.run A outer s H args us vs Q E (hr.mono h)⟩
theorem FnOk.imp {P:Program} {w:World} {K:Frag} {mg:Str->Option Value} {base:Heap} {CX:CXT} {k:Nat} {f:Addr} {fd:FuncData} {ps:List Str} {sp sp':Sp} (F:FnOk P w K mg base CX k f fd ps sp)
  (h:∀vs H Q E,sp' vs H Q E->sp vs H Q E):FnOk P w K mg base CX k f fd ps sp':=
 ⟨fun vs H Q E q=>F.len vs H Q E (h _ _ _ _ q),fun A outer s H args us vs Q E hr he hb hv hs=>F.run A outer s H args us vs Q E hr he hb hv (h _ _ _ _ hs)⟩
theorem Env0.make {P:Program} {w:World} {K:Frag} {mg:Str->Option Value} {base:Heap} {A:Around} {outer:List Env} {s:Shared} {H:Hp} (e:Env0 P w K mg base A outer s H) (C:Addr) (us:List Value) (kw:List (Str × Value)):
  Env0 P w K mg base (A.under (.builtin "type.__call__" ⟨.ref C :: us,kw⟩)) outer s H:=⟨by first|exact e.frames|(simpa [Around.under,Code.envs,Code.isFrame,pushEnvs] using e.frames),e.mod,e.bs,e.bsz,e.funs,e.frf,e.hok,e.bare⟩
section
variable {X: Cx} {pins: List (Addr × Obj)} {σ: St} {H: Hp} {s s': Shared}
theorem Inv.env0 (I:Inv X pins σ H s):Env0 X.prog X.w X.K X.mg X.base X.A X.stack s H:=
 ⟨I.ok.frames,I.ok.mod,I.bs,Nat.le_trans I.ok.bsz I.sz,I.stack,I.stkFree,I.hok,I.bare⟩
theorem Inv.after {Q:VK} {u:Value} (I:Inv X pins σ H s) (h:CE X.stack X.prog X.w H s Q u s'):EP X pins σ Q u s':=by
 obtain⟨v,H',os,bare,un,hok,r,q⟩:=h
 obtain⟨hh,g,d,t,os'⟩:=s'
 obtain rfl:os'=s.os:=os
 exact⟨v,H',I.call (h':=hh) (g':=g) (d':=d) (t':=t) (ch:=[]) un hok bare (fun b z=>absurd z (by simp)),r,q⟩
end
def tCall (sp:Sp) (dvs:List V) (E:XK) (t:TA):TE:=fun σ H Q=>t σ H fun vs H1=>sp (vs++dvs) H1 Q E
def tMeth (C:Addr) (m:Str) (sp:Sp) (dvs:List V) (E:XK) (ta:TE) (t:TA):TE:=fun σ H Q=>ta σ H fun x H1=>∃a dx fs,x=.ref a/\H1 a=some (.ins C dx fs)/\fs.lookup m=none/\
 t σ H1 fun vs H2=>sp (x ::(vs++dvs)) H2 Q E
def tMake (C:Addr) (sp:Sp) (dvs:List V) (E:XK) (t:TA):TE:=fun σ H Q=>t σ H fun vs H1=>∀x dx,H1 x=none->H1 dx=none->dx≠x->
 sp (.ref x ::(vs++dvs)) (upd (upd H1 dx (.own x)) x (.ins C dx [])) (fun v H2=>v=.non/\Q (.ref x) H2) E
def qam (K:Frag) (fd:FuncData) (ps:List Str) (ds:List Value):Prop:=
 ∀(s:Shared) (us:List Value),K.In s.heap->(us++ds).length=ps.length->BindsTo s fd ⟨us, []⟩ (ps.zip (us++ds))
theorem qam.all {K:Frag} {fd:FuncData} {ps:List Str} (h:∀us:List Value,us.length=ps.length->bindArgs fd ⟨us, []⟩=pure (ps.zip us)):qam K fd ps []:=fun s us _ hl=>by
 rw [zZ] at hl ⊢
 exact .of_eq (h us hl)
def qf3 (CX:CXT) (X:Cx) (E:XK):Prop:=∀(pins:List (Addr × Obj)) (σ:St) (H:Hp) (s:Shared) (e:Value) (s':Shared),Inv X pins σ H s->CX X.stack H s E e s'->X.xe e s'
section
variable {X: Cx} {CX: CXT} {k: Nat} {f C: Addr} {fd: FuncData} {ps: List Str} {sp: Sp} {dvs: List V} {ds: List Value} {E: XK} {x m: Str} {p pos apos: Pos} {e o: Expr} {es: List Expr} {ta: TE} {t: TA}
theorem run_fn {pins:List (Addr × Obj)} {σ:St} {H:Hp} {s:Shared} {Q:VK} {us:List Value} {vs:List V} (F:FnOk X.prog X.w X.K X.mg X.base CX k f fd ps sp) (hr:Room k X.A) (hb:qam X.K fd ps ds) (hd:qbd dvs ds) (hx:qf3 CX X E)
  (I:Inv X pins σ H s) (r:qbd vs us) (h:sp (vs++dvs) H Q E):wpAny (model X.prog X.w) X.A (call (.ref f) us) (EP X pins σ Q) X.xe s:=by
 have r2:qbd (vs++dvs) (us++ds):=r.append hd
 have hl:(us++ds).length=ps.length:=by rw [<-r2.length];exact F.len _ _ _ _ h
 refine wpAny_call (codeAny_mono (F.run X.A X.stack s H ⟨us, []⟩ (us++ds) (vs++dvs) Q E hr I.env0 (hb s us I.kIn hl) r2 h) fun r s' hq=>?_)
 cases r with
 |error e=>exact hx pins σ H s e s' I hq
 |ok fl=>
  cases fl with
  |ret u=>exact I.after hq
  |next=>exact False.elim hq
  |brk=>exact False.elim hq
  |cont=>exact False.elim hq
theorem qa9 (F:FnOk X.prog X.w X.K X.mg X.base CX k f fd ps sp) (hr:Room k X.A) (hg:Gl X x) (hm:X.mg x=some (.ref f)) (hk:keepIn X.K (.ref f)=true) (hb:qam X.K fd ps ds) (hd:qbd dvs ds) (hx:qf3 CX X E)
  (ha:PA X (e :: es) t) (hdb:(x==("__debug__" :Str))=false:=by decide) (he:starEach (e :: es) X.env=(false,eval e X.env) :: starEach es X.env:=by rfl) (hpl:(backTo pos (starEach es X.env)).any (·.1)=false:=by rfl):
  PE X (.Call (.Name x p) (e :: es) [] pos) (tCall sp dvs E t):=by
 intro pins s σ H Q I h
 refine wpAny_Call_Name_kw (qdc I hg hm ?_ hdb)
 refine PySem.W.callWith_K (h₀:=X.base) I.ok.mod.kin hk (thn (ha pos pins s σ H _ I h) fun us s1 ⟨vs,H1,I1,r,q⟩=>⟨I1.kIn,?_⟩) he hpl
 exact run_fn F hr hb hd hx I1 r q
theorem qe6 {pl:Sem Bool} (he:PE X o ta) (c:Cls X.K C) (hm:Meth X.K C m f) (F:FnOk X.prog X.w X.K X.mg X.base CX k f fd ps sp) (hr:Room k X.A) (hb:qam X.K fd ps ds) (hd:qbd dvs ds) (hx:qf3 CX X E) (ha:PA X (e :: es) t)
  (hst:starEach (e :: es) X.env=(false,eval e X.env) :: starEach es X.env:=by rfl) (hpl:(backTo pos (starEach es X.env)).any (·.1)=false:=by rfl)
  (ht:eval (.Call (.Attribute o m apos) (e :: es) [] pos) X.env=(do
   let ov<-eval o X.env
   standAt apos.atName
   let (f,first)<-holding [ov] (getMethod ov m pl)
   callWith pos f first (backTo pos (starEach (e :: es) X.env)) (backToKw pos (keywordEach [] X.env))):=by rfl):
  PE X (.Call (.Attribute o m apos) (e :: es) [] pos) (tMeth C m sp dvs E ta t):=by
 intro pins s σ H Q I h
 refine PySem.W.methodCall_KW (pl:=pl) (thn (he pins s σ H _ I h) fun u s1 ⟨x,H1,I1,rx,a,dx,fs,ex,ea,l,q⟩=>?_) ht
 subst ex
 obtain rfl:u=Value.ref a:=rx
 refine qdi I1 ea c hm l ?_
 refine PySem.W.callWith_K (first:=[.ref a]) (h₀:=X.base) I.ok.mod.kin hm.kp (thn (ha pos pins s1 σ H1 _ I1 q) fun us s2 ⟨vs,H2,I2,r,q2⟩=>⟨I2.kIn,?_⟩) hst hpl
 exact run_fn (us:=.ref a :: us) (vs:=.ref a :: vs) F hr hb hd hx I2 (.cons rfl r) q2
theorem qeh {pl:Sem Bool} (he:PE X o ta) (c:Cls X.K C) (hm:Meth X.K C m f) (F:FnOk X.prog X.w X.K X.mg X.base CX k f fd ps sp) (hr:Room k X.A) (hb:qam X.K fd ps ds) (hd:qbd dvs ds) (hx:qf3 CX X E)
  (ht:eval (.Call (.Attribute o m apos) [] [] pos) X.env=(do
   let ov<-eval o X.env
   standAt apos.atName
   let (f,first)<-holding [ov] (getMethod ov m pl)
   callWith pos f first (backTo pos (starEach [] X.env)) (backToKw pos (keywordEach [] X.env))):=by rfl):
  PE X (.Call (.Attribute o m apos) [] [] pos) (tMeth C m sp dvs E ta tNil):=by
 intro pins s σ H Q I h
 refine PySem.W.methodCall_KW (pl:=pl) (thn (he pins s σ H _ I h) fun u s1 ⟨x,H1,I1,rx,a,dx,fs,ex,ea,l,q⟩=>?_) ht
 subst ex
 obtain rfl:u=Value.ref a:=rx
 refine qdi I1 ea c hm l ?_
 exact PySem.W.callWith_K0 (first:=[.ref a]) I1.kIn hm.kp (run_fn (us:=[.ref a]) (vs:=[.ref a]) F hr hb hd hx I1 (.cons rfl .nil) q)
structure Mk (K:Frag) (C f:Addr):Prop where
 makes:PySem.W.makesIn K C=true
 init:findIn K (.ref C) "__init__" =some (some (.ref f))
 fn:isFn K (.ref f)=true
 kp:keepIn K (.ref C)=true
theorem run_make {pins:List (Addr × Obj)} {σ:St} {H:Hp} {s:Shared} {Q:VK} {us:List Value} {vs:List V} (M:Mk X.K C f) (F:FnOk X.prog X.w X.K X.mg X.base CX k f fd ps sp) (hr:Room (k+1) X.A) (hb:qam X.K fd ps ds) (hd:qbd dvs ds)
  (hx:qf3 CX X E) (I:Inv X pins σ H s) (r:qbd vs us)
  (h:∀x dx,H x=none->H dx=none->dx≠x->sp (.ref x ::(vs++dvs)) (upd (upd H dx (.own x)) x (.ins C dx [])) (fun v H2=>v=.non/\Q (.ref x) H2) E):
  wpAny (model X.prog X.w) X.A (call (.ref C) us) (EP X pins σ Q) X.xe s:=by
 have hq:=h (s.heap.objs.size+1) s.heap.objs.size (I.hok.fresh (Nat.le_succ _)) (I.hok.fresh (Nat.le_refl _)) (Nat.ne_of_lt (Nat.lt_succ_self _))
 have I2:=Inv.made (C:=C) I
 have r2:qbd (V.ref (s.heap.objs.size+1) ::(vs++dvs)) (Value.ref (s.heap.objs.size+1) ::(us++ds)):=.cons rfl (r.append hd)
 have hl:(Value.ref (s.heap.objs.size+1) :: us++ds).length=ps.length:=by
  have e:=r2.length
  rw [F.len _ _ _ _ hq] at e
  exact e.symm
 refine wpAny_call (make_map (f:=f) I.kIn M.makes M.init (beq_iff_eq.mp M.fn) (codeAny_mono (F.run _ X.stack _ _ ⟨Value.ref (s.heap.objs.size+1) :: us, []⟩ (Value.ref (s.heap.objs.size+1) ::(us++ds)) _ _ E (hr.make C us [])
  (I2.env0.make C us []) (hb _ (Value.ref (s.heap.objs.size+1) :: us) I2.kIn hl) r2 hq) fun r s' hq'=>?_))
 cases r with
 |error e=>exact hx pins σ _ _ e s' I2 hq'
 |ok fl=>
  cases fl with
  |ret u=>
   obtain⟨v,H',I3,rv,ev,q3⟩:=I2.after hq'
   subst ev
   exact⟨rv,⟨V.ref (s.heap.objs.size+1),H',I3,rfl,q3⟩⟩
  |next=>exact False.elim hq'
  |brk=>exact False.elim hq'
  |cont=>exact False.elim hq'
theorem pe_make (M:Mk X.K C f) (F:FnOk X.prog X.w X.K X.mg X.base CX k f fd ps sp) (hr:Room (k+1) X.A) (hg:Gl X x) (hm:X.mg x=some (.ref C)) (hb:qam X.K fd ps ds) (hd:qbd dvs ds) (hx:qf3 CX X E)
  (ha:PA X (e :: es) t) (hdb:(x==("__debug__" :Str))=false:=by decide) (he:starEach (e :: es) X.env=(false,eval e X.env) :: starEach es X.env:=by rfl) (hpl:(backTo pos (starEach es X.env)).any (·.1)=false:=by rfl):
  PE X (.Call (.Name x p) (e :: es) [] pos) (tMake C sp dvs E t):=by
 intro pins s σ H Q I h
 refine wpAny_Call_Name_kw (qdc I hg hm ?_ hdb)
 refine PySem.W.callWith_K (h₀:=X.base) I.ok.mod.kin M.kp (thn (ha pos pins s σ H _ I h) fun us s1 ⟨vs,H1,I1,r,q⟩=>⟨I1.kIn,?_⟩) he hpl
 exact run_make M F hr hb hd hx I1 r q
end
section
variable {fd: FuncData} {ps ks: List Str}
structure KBinds (K:Frag) (fd:FuncData) (ps ks:List Str) (g:List Value->List Value->List Value) (gV:List V->List V->List V):Prop where
 to:∀(s:Shared) (us ws:List Value),K.In s.heap->(g us ws).length=ps.length->BindsTo s fd ⟨us,ks.zip ws⟩ (ps.zip (g us ws))
 rel:∀{vs:List V} {us:List Value} {zs:List V} {ws:List Value},qbd vs us->qbd zs ws->qbd (gV vs zs) (g us ws)
end
structure FnScope (N P:List Str) (sc:Scope):Prop where
 kind:sc.kind=.function
 co:sc.isCoroutine=false
 gen:sc.isGenerator=false
 nd:N.Nodup
 pre:N.take P.length=P
 par:∀x∈P,sc.names.lookup x=some .local\/sc.names.lookup x=some .cell
 nofree:∀y∈sc.names,y.2≠ .free
theorem bindL_out {kindOf:Str->Option NameKind} {x:Str}:∀{binds:List (Str × Value)} {m:Str->Option Value},(∀v,(x,v)∉binds)->bindL kindOf binds m x=m x
 | [],_,_=>rfl
 |(n,v) :: r,m,h=>by
  unfold bindL
  rw [bindL_out fun w hw=>h w (zF _ hw)]
  split
  .have:x≠n:=by rintro rfl;exact h v zL
   simp [this]
  .rfl
theorem bindC_out {kindOf:Str->Option NameKind} {x:Str}:∀{binds:List (Str × Value)} {m:Str->Option Value},(∀v,(x,v)∉binds)->bindC kindOf binds m x=m x
 | [],_,_=>rfl
 |(n,v) :: r,m,h=>by
  unfold bindC
  rw [bindC_out fun w hw=>h w (zF _ hw)]
  split
  .rfl
  .have:x≠n:=by rintro rfl;exact h v zL
   simp [this]
theorem bindL_get {kindOf:Str->Option NameKind} {x:Str} {v:Value}:∀{P:List Str} {vs:List Value} {i:Nat} {m:Str->Option Value},P.Nodup->P[i]?=some x->vs[i]?=some v->kindOf x=some .local->
  bindL kindOf (P.zip vs) m x=some v
 | [],_,_,_,_,h,_,_=>by simp at h
 |_ :: _, [],_,_,_,_,h,_=>by simp at h
 |p :: P,w :: vs,0,m,nd,h1,h2,hk=>by
  simp at h1 h2;subst h1;subst h2
  show bindL kindOf ((p,w) :: P.zip vs) m p=_
  unfold bindL
  rw [bindL_out fun v hv=>(yA.mp nd).1 (List.of_mem_zip hv).1,if_pos hk]
  simp
 |p :: P,w :: vs,i+1,m,nd,h1,h2,hk=>by
  show bindL kindOf ((p,w) :: P.zip vs) m x=_
  unfold bindL
  exact bindL_get (i:=i) (yA.mp nd).2 (by simpa using h1) (by simpa using h2) hk
theorem bindC_get {kindOf:Str->Option NameKind} {x:Str} {v:Value}:∀{P:List Str} {vs:List Value} {i:Nat} {m:Str->Option Value},P.Nodup->P[i]?=some x->vs[i]?=some v->kindOf x≠some .local->
  bindC kindOf (P.zip vs) m x=some v
 | [],_,_,_,_,h,_,_=>by simp at h
 |_ :: _, [],_,_,_,_,h,_=>by simp at h
 |p :: P,w :: vs,0,m,nd,h1,h2,hk=>by
  simp at h1 h2;subst h1;subst h2
  show bindC kindOf ((p,w) :: P.zip vs) m p=_
  unfold bindC
  rw [bindC_out fun v hv=>(yA.mp nd).1 (List.of_mem_zip hv).1,if_neg hk]
  simp
 |p :: P,w :: vs,i+1,m,nd,h1,h2,hk=>by
  show bindC kindOf ((p,w) :: P.zip vs) m x=_
  unfold bindC
  exact bindC_get (i:=i) (yA.mp nd).2 (by simpa using h1) (by simpa using h2) hk
def qeb (N:List Str) (vs:List V):St:=vs.map some++List.replicate (N.length - vs.length) none
def cxOf (CX:CXT) (P:Program) (w:World) (K:Frag) (mg:Str->Option Value) (base:Heap) (N:List Str) (qual:Str) (scope:Scope) (f:Addr) (cd:Value) (A:Around) (outer:List Env) (s:Shared) (H:Hp) (E:XK):Cx where
 prog:=P
 w:=w
 K:=K
 mg:=mg
 base:=base
 A:=A.deeper (envOfC qual scope s.heap.objs.size f cd)
 N:=N
 s₀:=s
 H₀:=H
 env:=envOfC qual scope s.heap.objs.size f cd
 outer:=outer
 stack:=envOfC qual scope s.heap.objs.size f cd :: outer
 ex:=[]
 calm:=true
 fn:=fun _=>true
 pn:=[]
 xe:=fun e s'=>wpAny (model P w) (A.deeper (envOfC qual scope s.heap.objs.size f cd)) (leaving (envOfC qual scope s.heap.objs.size f cd) e) (fun _ s''=>CX outer H s E e s'') (fun e' s''=>CX outer H s E e' s'') s'
theorem cell_has {sc:Scope} {n:Nat} {x:Str} (h:sc.names.lookup x=some .cell):∃c,(cellsFrom n sc.names []).lookup x=some c:=by
 have q:=PySem.W.cellsFrom_some sc.names n [] (.inl h)
 exact Option.isSome_iff_exists.mp q
theorem inv_start {CX:CXT} {P:Program} {w:World} {K:Frag} {mg:Str->Option Value} {base:Heap} {N ps:List Str} {qual:Str} {scope:Scope} {f:Addr} {cd:Value} {A:Around} {outer:List Env} {s s1:Shared} {H:Hp} {E:XK} {us:List Value} {vs:List V}
  (S:FnScope N ps scope) (hd:A.handled=none) (e0:Env0 P w K mg base A outer s H) (hl:vs.length=ps.length) (r:qbd vs us)
  (x:InCallC s s.heap.objs.size (bindL (envOfC qual scope s.heap.objs.size f cd).kindOf (ps.zip us) fun _=>none) (cellsFrom (s.heap.objs.size+1) scope.names []) (bindC (envOfC qual scope s.heap.objs.size f cd).kindOf (ps.zip us) fun _=>none) s1):
  Inv (cxOf CX P w K mg base N qual scope f cd A outer s H E) [] (qeb N vs) H s1:=by
 have hpl:ps.length<=N.length:=by have:=congrArg List.length S.pre;rw [zU] at this;omega
 obtain⟨h1,tk,rfl,hk⟩:=x.done
 have noA:∀b:Addr,b∉(cxOf CX P w K mg base N qual scope f cd A outer s H E).ex:=fun b z=>absurd (show b∈([]:List Addr) from z) (by simp)
 refine⟨⟨e0.mod,S.kind,rfl,rfl,Nat.le_refl _,fun y z c h1 h2=>?_,fun y hy=>?_,fun y c _ h=>?_,fun _=>hd,Around.frames_deeper e0.frames,.inr ⟨rfl,rfl⟩,fun b z=>absurd z (noA b),e0.bs,e0.bsz,fun b _ _=>noA b,fun b z=>absurd z (noA b),e0.funs,e0.frf⟩,
  rfl,e0.bare,Un.kept hk,⟨_,x.toInCall.ns,fun i y v h1 h2 h3=>?_⟩,fun y c h=>⟨_,x.cell y c h⟩,e0.hok.fresh (Nat.le_refl _),fun y c h=>?_,fun p hp=>absurd (show p∈([]:List (Addr × Obj)) from hp) (by simp),e0.hok.kept hk,?_⟩
 .exact name_of_addr x.apart (PySem.mem_of_lookup h1) (PySem.mem_of_lookup h2)
 .have hy:scope.names.lookup y=some .cell\/scope.names.lookup y=some .free:=hy
  rcases hy with hy|hy
  .exact cell_has hy
  .exact absurd rfl (S.nofree _ (PySem.mem_of_lookup hy))
 .exact Nat.le_of_lt (x.above y c (PySem.mem_of_lookup h))
 .have hi:i < vs.length:=by
   unfold qeb at h2
   by_cases hi:i < vs.length
   .exact hi
   .rw [yC (by simpa using hi)] at h2
    rw [List.getElem?_replicate] at h2
    split at h2 <;> cases h2
  have ha:vs[i]?=some v:=by
   unfold qeb at h2
   rw [yF (by simpa using hi),zC] at h2
   cases e:vs[i]? with
   |none=>rw [e] at h2;cases h2
   |some a=>rw [e] at h2;cases h2;rfl
  obtain⟨u,hu,rv⟩:=r.get ha
  have hp:ps[i]?=some y:=by
   rw [<-S.pre,List.getElem?_take_of_lt (by omega)];exact h1
  have ndP:ps.Nodup:=by rw [<-S.pre];exact S.nd.sublist (List.take_sublist _ _)
  refine⟨u,rv,?_⟩
  rcases S.par y (zD hp) with k|k
  .exact .inl ⟨k,bindL_get ndP hp hu k⟩
  .obtain⟨c,e⟩:=cell_has (n:=s.heap.objs.size+1) k
   refine .inr ⟨.inl k,c,e,?_⟩
   have q:=x.cell y c e
   rw [bindC_get ndP hp hu (by show scope.names.lookup y≠_;rw [k];decide)] at q
   exact q
 .exact e0.hok.fresh (Nat.le_of_lt (x.above y c (PySem.mem_of_lookup h)))
 .unfold qeb
  show _=N.length
  rw [zH,zB,List.length_replicate]
  omega
theorem fn_of {CX:CXT} {P:Program} {w:World} {K:Frag} {mg:Str->Option Value} {base:Heap} {k:Nat} {f:Addr} {name qual:Str} {params:Arguments} {body:List Stmt} {scope:Scope} {dV kV doc pm cdv ct oc:Value} {an od:Option Addr}
  {osl:Array (Option Value)} {N ps:List Str} {sp:Sp} (lk:K.lookup f=some ⟨oc,od,.func (fnOf name qual params body scope dV kV doc pm an cdv ct),osl⟩) (hcd:codeIn K cdv qual=true) (S:FnScope N ps scope)
  (len:∀vs H Q E,sp vs H Q E->vs.length=ps.length)
  (hbody:∀(A:Around) (outer:List Env) (s:Shared) (H:Hp) (vs:List V) (Q:VK) (E:XK),Room k (A.deeper (envOfC qual scope s.heap.objs.size f cdv))->sp vs H Q E->
   ∃t,PSs (cxOf CX P w K mg base N qual scope f cdv A outer s H E) body t/\t {nx:=fun _ H'=>Q .non H',rt:=Q} (qeb N vs) H):
  FnOk P w K mg base CX (k+1) f (fnOf name qual params body scope dV kV doc pm an cdv ct) ps sp:=by
 refine⟨len,fun A outer s H args us vs Q E hr e0 hb r hsp=>?_⟩
 have hl:=len _ _ _ _ hsp
 have KX:K.In s.heap:=e0.mod.kin.keeps fun b o e=>(e0.bs b o e).1
 have lim:s.heap.NoLimit:=e0.mod.nolimit.keeps fun b o e=>(e0.bs b o e).1
 have hkind:∀y∈ps.zip us,scope.names.lookup y.1=some .local\/(scope.names.lookup y.1=some .cell/\((cellsFrom (s.heap.objs.size+1) scope.names []).lookup y.1).isSome=true):=fun⟨n,v⟩ hy=>by
  rcases S.par n (List.of_mem_zip hy).1 with q|q
  .exact .inl q
  .exact .inr ⟨q,PySem.W.cellsFrom_some _ _ _ (.inl q)⟩
 refine codeAny_call_function hr.depth (KX _ _ lk) rfl S.co S.gen rfl (PySem.W.codeRec_of KX hcd) (hb _ _ _ _ ?_)
 refine wpAny_newFunctionEnv_cells S.kind hkind fun env he s1 x=>?_
 subst he
 refine⟨lim.keeps x.toInCall.keep,codeAny_func ?_⟩
 obtain⟨t,ht,hq⟩:=hbody A outer s H vs Q E (hr.deeper _) hsp
 have I:Inv (cxOf CX P w K mg base N qual scope f cdv A outer s H E) [] (qeb N vs) H s1:=inv_start S hr.hd e0 hl r x
 refine wpAny_mono (ht [] s1 (qeb N vs) H _ I hq) (fun fl s' hs=>?_) fun e s' hs=>hs
 have fin:∀{σ':St} {H':Hp} {v:V} {u:Value},Inv (cxOf CX P w K mg base N qual scope f cdv A outer s H E) [] σ' H' s'->qbe v u->Q v H'->CE outer P w H s Q u s':=
  fun {σ' H' v u} J rv q=>⟨v,H',J.os,J.bare,J.base,J.hok,rv,q⟩
 cases fl with
 |ret u=>
  obtain⟨v,σ',H',J,rv,q⟩:=hs
  exact fin J rv q
 |next=>
  obtain⟨σ',H',J,q⟩:=hs
  exact fin (v:=V.non) (u:=Value.none) J rfl q
 |brk=>
  obtain⟨_,_,_,q⟩:=hs
  exact False.elim q
 |cont=>
  obtain⟨_,_,_,q⟩:=hs
  exact False.elim q
section
variable {X: Cx} {x: Str} {p pos: Pos} {e: Expr} {es: List Expr} {t: TA} {id T: String} {r: List V -> Hp -> VK -> Prop}
def tCB (r:List V->Hp->VK->Prop) (t:TA):TE:=fun σ H Q=>t σ H fun vs H1=>r vs H1 Q
theorem qaj (hc:qc7 X (.builtin id) r) (hg:Gl X x) (hm:X.mg x=none) (hv:bootBuiltins x=some (.builtin id)) (ha:PA X (e :: es) t) (hn:x≠"__name__":=by decide) (hdb:(x==("__debug__" :Str))=false:=by decide)
  (he:starEach (e :: es) X.env=(false,eval e X.env) :: starEach es X.env:=by rfl) (hpl:(backTo pos (starEach es X.env)).any (·.1)=false:=by rfl):PE X (.Call (.Name x p) (e :: es) [] pos) (tCB r t):=by
 intro pins s σ H Q I h
 refine wpAny_Call_Name_kw (qe0 I hg hm hv ?_ hn hdb)
 exact PyProof.Rows.callWith_builtin1 (thn (ha pos pins s σ H _ I h) fun us s1 ⟨vs,H1,I1,r1,q1⟩=>hc pins s1 σ H1 vs us Q I1 r1 q1) he hpl
theorem qb8 (hc:qc7 X (.type T) r) (hg:Gl X x) (hm:X.mg x=none) (hv:bootBuiltins x=some (.type T)) (ha:PA X (e :: es) t) (hn:x≠"__name__":=by decide) (hdb:(x==("__debug__" :Str))=false:=by decide)
  (he:starEach (e :: es) X.env=(false,eval e X.env) :: starEach es X.env:=by rfl) (hpl:(backTo pos (starEach es X.env)).any (·.1)=false:=by rfl):PE X (.Call (.Name x p) (e :: es) [] pos) (tCB r t):=by
 intro pins s σ H Q I h
 refine wpAny_Call_Name_kw (qe0 I hg hm hv ?_ hn hdb)
 exact PyProof.Rows.callWith_type1 (thn (ha pos pins s σ H _ I h) fun us s1 ⟨vs,H1,I1,r1,q1⟩=>hc pins s1 σ H1 vs us Q I1 r1 q1) he hpl
end
end L2
namespace HT
open PySem PyProof.Rows
section
def sIx (n d:Nat):Option Int->Nat
 |none=>d
 |some v=>if v < 0 then (v+(n:Int)).toNat else min v.toNat n
theorem sIx_none (n d:Nat):sIx n d none=d:=rfl
theorem sIx_nat (n d k:Nat):sIx n d (some (k:Int))=min k n:=by
 show (if (k:Int) < 0 then ((k:Int)+(n:Int)).toNat else min (k:Int).toNat n)=min k n
 rw [if_neg (by omega),Int.toNat_natCast]
end
end HT
namespace L2
open PySem PySem.Spec PyProof.Rows
abbrev TO:=St->Hp->(Option Int->Hp->Prop)->Prop
def PO (X:Cx) (e:Option Expr) (t:TO):Prop:=
 ∀(pins:List (Addr × Obj)) (s:Shared) (σ:St) (H:Hp) (Q:Option Int->Hp->Prop),Inv X pins σ H s->t σ H Q->
  wpAny (model X.prog X.w) X.A (evalPart e X.env) (fun u s'=>∃o H',Inv X pins σ H' s'/\IsPart u o/\Q o H') X.xe s
def tNoPart:TO:=fun _ H Q=>Q none H
def tPart (t:TE):TO:=fun σ H Q=>t σ H fun x H1=>∃i,x=.int i/\Q (some i) H1
section
variable {X: Cx} {e: Expr} {te: TE} {lo hi: Option Expr} {tl th: TO} {pos p2: Pos}
theorem po_none:PO X none tNoPart:=by
 intro pins s σ H Q I h
 rw [evalPart_none]
 exact wpAny_pure ⟨none,H,I,.none,h⟩
theorem po_some (h:PE X e te):PO X (some e) (tPart te):=by
 intro pins s σ H Q I hw
 rw [evalPart_some]
 refine thn (h pins s σ H _ I hw) fun u s1 ⟨x,H1,I1,r1,q1⟩=>?_
 obtain⟨i,rfl,q⟩:=q1
 obtain⟨t,rfl⟩:=r1
 exact⟨some i,H1,I1,.int i t,q⟩
def SlR (X:Cx) (r:V->Option Int->Option Int->Hp->VK->Prop):Prop:=
 ∀(pins:List (Addr × Obj)) (s:Shared) (σ:St) (H:Hp) (x:V) (v vl vu:Value) (lo hi:Option Int) (sl:Addr) (Q:VK),Inv X pins σ H s->qbe x v->s.heap.IsSliceOf sl vl vu .none->IsPart vl lo->IsPart vu hi->r x lo hi H Q->
  ∃T id,typeLookup (.type T) "__getitem__" =pure (some (.builtin id))/\s.TypeIs v T/\wpAny (model X.prog X.w) X.A (getItem v (.ref sl)) (EP X pins σ Q) X.xe s
def tSl (r:V->Option Int->Option Int->Hp->VK->Prop) (te:TE) (tl th:TO):TE:=fun σ H Q=>te σ H fun x H1=>tl σ H1 fun l H2=>th σ H2 fun u H3=>r x l u H3 Q
theorem pe_slice {r:V->Option Int->Option Int->Hp->VK->Prop} (hr:SlR X r) (he:PE X e te) (hl:PO X lo tl) (hu:PO X hi th):PE X (.Subscript e (.Slice lo hi none p2) pos) (tSl r te tl th):=by
 intro pins s σ H Q I h
 refine Subscript_ (thn (he pins s σ H _ I h) fun v s1 ⟨x,H1,I1,r1,q1⟩=>?_)
 refine wpAny_Slice (thn (hl pins s1 σ H1 _ I1 q1) fun vl s2 ⟨l,H2,I2,pl,q2⟩=>thn (hu pins s2 σ H2 _ I2 q2) fun vu s3 ⟨u,H3,I3,pu,q3⟩=>?_)
 rw [evalPart_none]
 refine wpAny_pure ?_
 have I4:Inv X pins σ H3 {s3 with heap:=s3.heap.push {cls:=.type "slice",data:=.fields #[vl,vu,.none]}}:=I3.kept (t':=s3.toks) fun b ob q=>Heap.get?_push_of_some _ q
 obtain⟨T,id,hT,ht,hg⟩:=hr pins {s3 with heap:=s3.heap.push {cls:=.type "slice",data:=.fields #[vl,vu,.none]}} σ H3 x v vl vu l u s3.heap.objs.size Q I4 r1 (Heap.IsSliceOf.new ..) pl pu q3
 show wpAny (model X.prog X.w) X.A (subscriptTail e (.Slice lo hi none p2) v (.ref s3.heap.objs.size)) (EP X pins σ Q) X.xe {s3 with heap:=s3.heap.push {cls:=.type "slice",data:=.fields #[vl,vu,.none]}}
 exact tail_any (ops:=[.ref s3.heap.objs.size,v]) ht hT hg (by with_unfolding_all rfl)
def cutV (xs:List V) (lo hi:Option Int):List V:=(xs.drop (HT.sIx xs.length 0 lo)).take (HT.sIx xs.length xs.length hi - HT.sIx xs.length 0 lo)
theorem cutV_length (xs:List V) (lo hi:Option Int):(cutV xs lo hi).length<=xs.length:=by
 unfold cutV
 rw [zU,List.length_drop]
 omega
end
def ixN (n:Nat) (i:Int):Option Nat:=if 0<=i then (if i < n then some i.toNat else none) else if -(n:Int)<=i then some (i+n).toNat else none
def atI {α:Type} (xs:List α) (i:Int):Option α:=(ixN xs.length i).bind fun j=>xs[j]?
theorem ixN_seq {n:Nat} {i:Int} {j:Nat} (h:ixN n i=some j):seqIndex? i n=some j/\j < n/\-(n:Int)<=i/\i < n:=by
 unfold ixN at h
 by_cases h0:0<=i
 .rw [if_pos h0] at h
  by_cases h1:i < n
  .rw [if_pos h1] at h
   have e:i.toNat=j:=Option.some.inj h
   exact⟨by rw [seqIndex_of h0 h1,e],by omega,by omega,h1⟩
  .rw [if_neg h1] at h;cases h
 .rw [if_neg h0] at h
  by_cases h1: -(n:Int)<=i
  .rw [if_pos h1] at h
   have e:(i+n).toNat=j:=Option.some.inj h
   exact⟨by rw [seqIndex_neg (by omega) h1,e],by omega,h1,by omega⟩
  .rw [if_neg h1] at h;cases h
theorem atI_get {α:Type} {xs:List α} {i:Int} {v:α} (h:atI xs i=some v):∃j,seqIndex? i xs.length=some j/\xs[j]?=some v/\j < xs.length/\-(xs.length:Int)<=i/\i < xs.length:=by
 unfold atI at h
 cases e:ixN xs.length i with
 |none=>rw [e] at h;cases h
 |some j=>
  rw [e] at h
  obtain⟨h1,h2,h3,h4⟩:=ixN_seq e
  exact⟨j,h1,h,h2,h3,h4⟩
theorem qaw {α:Type} {xs:List α} {j:Nat} {v:α} (h:xs[j]?=some v):atI xs (j:Int)=some v:=by
 have hj:j < xs.length:=(List.getElem?_eq_some_iff.mp h).1
 have e:ixN xs.length (j:Int)=some j:=by
  unfold ixN
  rw [if_pos (by omega),if_pos (by omega)];simp
 unfold atI;rw [e];exact h
def PlainIx (b:Expr):Prop:=∀o i,subscripted b false o i=operate [o,i] (getItem o i)
def IxR (X:Cx) (r:R2):Prop:=
 ∀(value slice:Expr) (pins:List (Addr × Obj)) (s:Shared) (σ:St) (H:Hp) (x y:V) (v u:Value) (Q:VK),Inv X pins σ H s->qbe x v->qbe y u->r x y H Q->
  subscripted slice false v u=operate [v,u] (getItem v u)->wpAny (model X.prog X.w) X.A (subscriptTail value slice v u) (EP X pins σ Q) X.xe s
def MtR (X:Cx) (id:String) (r:V->List V->Hp->VK->Prop):Prop:=
 ∀(pins:List (Addr × Obj)) (s:Shared) (σ:St) (H:Hp) (x:V) (xs:List V) (v:Value) (us:List Value) (Q:VK),Inv X pins σ H s->qbe x v->qbd xs us->r x xs H Q->
  wpAny (model X.prog X.w) X.A (call (.builtin id) (v :: us)) (EP X pins σ Q) X.xe s
section
variable {X: Cx} {a b: Expr} {ta tb: TE} {pos: Pos}
theorem qan {r:R2} (hr:IxR X r) (ha:PE X a ta) (hb:PE X b tb) (hs:PlainIx b):PE X (.Subscript a b pos) (tOp r ta tb):=by
 intro pins s σ H Q I h
 exact Subscript_ (binT ha hb I h fun v u s2 x y H2 I2 rx ry q=>hr a b pins s2 σ H2 x y v u Q I2 rx ry q (hs _ _))
def rIxL (K:Frag):R2:=fun x y H Q=>∃p xs i v,x=.ref p/\y=.int i/\SqL K H p xs/\atI xs i=some v/\Q v H
def rIxT (K:Frag):R2:=fun x y H Q=>∃p xs i v,x=.ref p/\y=.int i/\SqT K H p xs/\atI xs i=some v/\Q v H
def rIxS:R2:=fun x y H Q=>∃z i c,x=.str z/\y=.int i/\z.length<=sizeLine/\atI z.cps.toList i=some c/\Q (.str ⟨#[c]⟩) H
theorem qak:IxR X (rIxL X.K):=by
 intro value slice pins s σ H x y v u Q I rx ry h hs
 obtain⟨p,xs,i,z,rfl,rfl,hq,he,q⟩:=h
 cases rx
 obtain⟨t,rfl⟩:=ry
 obtain⟨its,r,pl,hz⟩:=I.list hq
 obtain⟨j,h1,h2,h3,h4,h5⟩:=atI_get he
 obtain⟨w,ew,rw'⟩:=r.get h2
 have hl:=r.length
 have hn:=line63
 have fin:EP X pins σ Q w s:=⟨z,H,I,rw',q⟩
 by_cases h0:0<=i
 .have hj:i.toNat=j:=by
   rw [seqIndex_of h0 h5] at h1
   exact Option.some.inj h1
  exact item_listR pl.isList h0 (by omega) (by rw [hj];simpa using ew) fin hs
 .have hj:(i+(its.toArray.size:Int)).toNat=j:=by
   rw [seqIndex_neg (by omega) h4] at h1
   rw [zN,<-hl]
   exact Option.some.inj h1
  exact subscriptTail_builtinR (x:=w) pl.isList.typeIs slot_list_getitem.lookup
   (wpAny_getItem_list_neg (Q:=fun r s'=>r=w/\EP X pins σ Q r s') pl.isList (by omega) (by rw [zN] <;> omega) (by omega) (by rw [hj];simpa using ew) ⟨rfl,fin⟩) hs
theorem qb3:IxR X (rIxT X.K):=by
 intro value slice pins s σ H x y v u Q I rx ry h hs
 obtain⟨p,xs,i,z,rfl,rfl,hq,he,q⟩:=h
 cases rx
 obtain⟨t,rfl⟩:=ry
 obtain⟨its,r,pl,hz⟩:=I.tuple hq
 obtain⟨j,h1,h2,h3,h4,h5⟩:=atI_get he
 obtain⟨w,ew,rw'⟩:=r.get h2
 have hl:=r.length
 have hn:=line63
 have fin:EP X pins σ Q w s:=⟨z,H,I,rw',q⟩
 exact subscriptTail_builtinR (x:=w) pl.typeIs slot_tuple_getitem.lookup
  (getItem_tuple (j:=j) (Q:=fun r s'=>r=w/\EP X pins σ Q r s') pl (by omega) (by omega) (by rw [zN,<-hl];exact h1) (by simpa using ew) ⟨rfl,fin⟩) hs
theorem ix_str:IxR X rIxS:=by
 intro value slice pins s σ H x y v u Q I rx ry h hs
 obtain⟨z,i,c,rfl,rfl,hz,he,q⟩:=h
 obtain⟨t,rfl⟩:=rx
 obtain⟨t',rfl⟩:=ry
 obtain⟨j,h1,h2,h3,h4,h5⟩:=atI_get he
 have hl:z.cps.toList.length=z.length:=by simp [Str.length]
 rw [hl] at h1 h4 h5
 have hn:=line63
 exact tail_any (typeIs_str s z t) slot_str_getitem.lookup (getItem_str (c:=c) (by
  have e1:decide (i < -(2^63:Int))=false:=decide_eq_false (by omega)
  have e2:decide (i≥2^63)=false:=decide_eq_false (by omega)
  rw [e1,e2,Bool.or_false]) (by rw [h1];simpa using h2) ⟨.str ⟨#[c]⟩,H,I.tok _,⟨_,rfl⟩,q⟩) hs
theorem slice_bounds (lo hi:Option Int) (n:Nat):(sliceBounds lo hi none n).1=((HT.sIx n 0 lo:Nat):Int)/\(sliceBounds lo hi none n).2.1=((HT.sIx n n hi:Nat):Int)/\(sliceBounds lo hi none n).2.2=1:=by
 refine⟨?_,?_,rfl⟩
 .cases lo with
  |none=>simp [sliceBounds,HT.sIx]
  |some i=>
   simp only [sliceBounds,HT.sIx,Option.getD_none,show (1:Int) > 0 by decide,if_true]
   by_cases h:i < 0
   .simp only [h,if_true] <;> omega
   .simp only [h,if_false] <;> omega
 .cases hi with
  |none=>simp [sliceBounds,HT.sIx]
  |some i=>
   simp only [sliceBounds,HT.sIx,Option.getD_none,show (1:Int) > 0 by decide,if_true]
   by_cases h:i < 0
   .simp only [h,if_true] <;> omega
   .simp only [h,if_false] <;> omega
theorem qfn (its:List Value) (lo hi:Option Int):slicePick its.toArray lo hi none=((its.drop (HT.sIx its.length 0 lo)).take (HT.sIx its.length its.length hi - HT.sIx its.length 0 lo)).toArray:=by
 obtain⟨h1,h2,h3⟩:=slice_bounds lo hi its.toArray.size
 unfold slicePick
 rw [h1,h2,h3]
 simp only [sliceRange_one,pick_run,zN] <;> rfl
def rSlL (K:Frag):V->Option Int->Option Int->Hp->VK->Prop:=fun x lo hi H Q=>∃a xs,x=.ref a/\SqL K H a xs/\∀p,H p=none->Q (.ref p) (upd H p (.lst (cutV xs lo hi)))
theorem sl_list:SlR X (rSlL X.K):=by
 intro pins s σ H x v vl vu lo hi sl Q I rx hs pl pu h
 obtain⟨a,xs,rfl,hx,q⟩:=h
 cases rx
 obtain⟨its,r,ht,hz⟩:=I.list hx
 have hlen:=r.length
 refine⟨"list",_,slot_list_getitem.lookup,ht.isList.typeIs,?_⟩
 refine wpAny_getItem_list_slice ht.isList hs pl pu .none (by simp) ?_ (by rw [zN] <;> omega)
 rw [qfn,<-hlen]
 refine⟨.ref s.heap.objs.size,_,I.laid (t':=s.toks) (o:=.lst (cutV xs lo hi)) (fun b ob q=>Heap.get?_push_of_some _ q) (Nat.le_refl _) ?_,rfl,q _ (I.hok.fresh (Nat.le_refl _))⟩
 exact⟨Nat.le_trans (cutV_length xs lo hi) hz,_,0,(r.drop (HT.sIx xs.length 0 lo)).take (HT.sIx xs.length xs.length hi - HT.sIx xs.length 0 lo),Heap.get?_push_size _ rfl⟩
def qcz:V->Bool
 | .non=>true
 | .bl _=>true
 | .int _=>true
 | .str _=>true
 |_=>false
def eqV:V->V->Bool
 | .non,.non=>true
 | .bl a,.bl b=>a==b
 | .bl a,.int b=>(if a then 1 else 0)==b
 | .int a,.bl b=>a==(if b then 1 else 0)
 | .int a,.int b=>a==b
 | .str a,.str b=>a==b
 |_,_=>false
theorem eqAt_V {A:Around} {s:Shared} {y x:V} {u v:Value} (ry:qbe y u) (rx:qbe x v) (fy:qcz y=true) (fx:qcz x=true):SeqAt.EqAt A s u v (eqV y x):=by
 cases y with
 |non=>
  cases ry
  cases x with
  |non=>cases rx;exact SeqAt.EqAt.same _
  |bl b=>cases rx;exact SeqAt.EqAt.none_bool b
  |int b=>obtain⟨t,rfl⟩:=rx;exact SeqAt.EqAt.none_int b t
  |str b=>obtain⟨t,rfl⟩:=rx;exact SeqAt.EqAt.none_str b t
  |_=>exact absurd (show false=true from fx) Bool.false_ne_true
 |bl a=>
  cases ry
  cases x with
  |non=>cases rx;exact SeqAt.EqAt.bool_none a
  |bl b=>cases rx;exact SeqAt.EqAt.bool_bool a b
  |int b=>obtain⟨t,rfl⟩:=rx;exact SeqAt.EqAt.bool_int a b t
  |str b=>obtain⟨t,rfl⟩:=rx;exact SeqAt.EqAt.bool_str a b t
  |_=>exact absurd (show false=true from fx) Bool.false_ne_true
 |int a=>
  obtain⟨t',rfl⟩:=ry
  cases x with
  |non=>cases rx;exact SeqAt.EqAt.int_none a t'
  |bl b=>cases rx;exact SeqAt.EqAt.int_bool a t' b
  |int b=>obtain⟨t,rfl⟩:=rx;exact SeqAt.EqAt.int_int a t' b t
  |str b=>obtain⟨t,rfl⟩:=rx;exact SeqAt.EqAt.int_str a t' b t
  |_=>exact absurd (show false=true from fx) Bool.false_ne_true
 |str a=>
  obtain⟨t',rfl⟩:=ry
  cases x with
  |non=>cases rx;exact SeqAt.EqAt.str_none a t'
  |bl b=>cases rx;exact SeqAt.EqAt.str_bool a t' b
  |int b=>obtain⟨t,rfl⟩:=rx;exact SeqAt.EqAt.str_int a t' b t
  |str b=>obtain⟨t,rfl⟩:=rx;exact SeqAt.EqAt.str_str a t' b t
  |_=>exact absurd (show false=true from fx) Bool.false_ne_true
 |_=>exact absurd (show false=true from fy) Bool.false_ne_true
def eqU (x:V) (u:Value):Bool:=match u with
 | .none=>eqV .non x
 | .bool b=>eqV (.bl b) x
 | .int i _=>eqV (.int i) x
 | .str z _=>eqV (.str z) x
 |_=>false
theorem eqU_of {x y:V} {u:Value} (r:qbe y u) (f:qcz y=true):eqU x u=eqV y x:=by
 cases y with
 |non=>cases r;rfl
 |bl b=>cases r;rfl
 |int i=>obtain⟨t,rfl⟩:=r;rfl
 |str z=>obtain⟨t,rfl⟩:=r;rfl
 |_=>exact absurd (show false=true from f) Bool.false_ne_true
theorem qf1 {x:V}:∀{xs:List V} {us:List Value},qbd xs us->xs.all qcz=true->us.any (eqU x)=xs.any fun y=>eqV y x
 |_,_,.nil,_=>rfl
 |y :: xs,u :: us,.cons r t,f=>by
  rw [yX,Bool.and_eq_true] at f
  rw [yV,yV,eqU_of r f.1,qf1 t f.2]
theorem qdy {A:Around} {s:Shared} {x:V} {v:Value} (rx:qbe x v) (fx:qcz x=true):∀{xs:List V} {us:List Value},qbd xs us->xs.all qcz=true->∀u∈us,SeqAt.EqAt A s u v (eqU x u)
 |_,_,.nil,_=>fun u hu=>by cases hu
 |y :: xs,u :: us,.cons r t,f=>fun u' hu=>by
  rw [yX,Bool.and_eq_true] at f
  rcases zK.mp hu with rfl|hu
  .rw [eqU_of r f.1];exact eqAt_V r rx f.1 fx
  .exact qdy rx fx t f.2 u' hu
def inV (x:V) (xs:List V):Bool:=xs.any fun y=>eqV y x
def rIn (K:Frag) (neg:Bool):R2:=fun x y H Q=>∃p xs,y=.ref p/\(SqL K H p xs\/SqT K H p xs)/\qcz x=true/\xs.all qcz=true/\Q (.bl (if neg then !inV x xs else inV x xs)) H
theorem qd8:OpR X (compareOp .In) (rIn X.K false):=by
 intro pins s σ H x y v u Q I rx ry h
 obtain⟨p,xs,rfl,hq,fx,fs,q⟩:=h
 cases ry
 rcases hq with hq|hq
 .obtain⟨its,r,pl,hz⟩:=I.list hq
  refine SeqAt.in_listAt (eqU x) pl.isList (fun w hw=>qdy rx fx r fs w (by simpa using hw)) ⟨.bl _,H,I,rfl,?_⟩
  rw [show its.toArray.any (eqU x)=its.any (eqU x) by simp,qf1 r fs]
  exact q
 .obtain⟨its,r,pl,hz⟩:=I.tuple hq
  refine SeqAt.in_tupleAt (eqU x) pl (fun w hw=>qdy rx fx r fs w (by simpa using hw)) ⟨.bl _,H,I,rfl,?_⟩
  rw [show its.toArray.any (eqU x)=its.any (eqU x) by simp,qf1 r fs]
  exact q
theorem qd7:OpR X (compareOp .NotIn) (rIn X.K true):=by
 intro pins s σ H x y v u Q I rx ry h
 obtain⟨p,xs,rfl,hq,fx,fs,q⟩:=h
 cases ry
 rcases hq with hq|hq
 .obtain⟨its,r,pl,hz⟩:=I.list hq
  refine SeqAt.notIn_listAt (eqU x) pl.isList (fun w hw=>qdy rx fx r fs w (by simpa using hw)) ⟨.bl _,H,I,rfl,?_⟩
  rw [show its.toArray.any (eqU x)=its.any (eqU x) by simp,qf1 r fs]
  exact q
 .obtain⟨its,r,pl,hz⟩:=I.tuple hq
  refine SeqAt.notIn_tupleAt (eqU x) pl (fun w hw=>qdy rx fx r fs w (by simpa using hw)) ⟨.bl _,H,I,rfl,?_⟩
  rw [show its.toArray.any (eqU x)=its.any (eqU x) by simp,qf1 r fs]
  exact q
theorem call_len_seq:qc7 X (.builtin "len") (fun xs H Q=>∃p ys,xs=[.ref p]/\(SqL X.K H p ys\/SqT X.K H p ys)/\Q (.int ys.length) H):=by
 intro pins s σ H xs us Q I r h
 obtain⟨p,ys,rfl,hq,q⟩:=h
 obtain⟨u,rfl,rx⟩:=vals1 r
 cases rx
 have hn:=line63
 rcases hq with hq|hq
 .obtain⟨its,r',pl,hz⟩:=I.list hq
  have hlen:=r'.length
  exact Calls.call_len_list pl.isList (by simp only [zN] <;> omega) ⟨.int ys.length,H,I.tok _,⟨s.toks+1,by rw [zN,hlen]⟩,q⟩
 .obtain⟨its,r',pl,hz⟩:=I.tuple hq
  have hlen:=r'.length
  exact len_tuple pl (by simp only [zN] <;> omega) ⟨.int ys.length,H,I.tok _,⟨s.toks+1,by rw [zN,hlen]⟩,q⟩
theorem call_len_str:qc7 X (.builtin "len") (fun xs H Q=>∃z,xs=[.str z]/\z.length<=sizeLine/\Q (.int z.length) H):=by
 intro pins s σ H xs us Q I r h
 obtain⟨z,rfl,hz,q⟩:=h
 obtain⟨u,rfl,t,rfl⟩:=vals1 r
 have hn:=line63
 exact len_str (by omega) ⟨.int z.length,H,I.tok _,⟨_,rfl⟩,q⟩
theorem call_list_of:qc7 X (.type "list") (fun xs H Q=>∃p ys,xs=[.ref p]/\(SqL X.K H p ys\/SqT X.K H p ys)/\∀l,H l=none->Q (.ref l) (upd H l (.lst ys))):=by
 intro pins s σ H xs us Q I r h
 obtain⟨p,ys,rfl,hq,q⟩:=h
 obtain⟨u,rfl,rx⟩:=vals1 r
 cases rx
 have fin:∀(its:List Value),qbd ys its->ys.length<=sizeLine->∀(h':Heap) (c':Nat),(∀b o',s.heap.get? b=some o'->h'.get? b=some o')->
   h'.get? s.heap.objs.size=some {cls:=.type "list",dict:=none,data:=.seq its.toArray c',slots:=#[]}->EP X pins σ Q (.ref s.heap.objs.size) {s with heap:=h'}:=fun its r' hz h' c' kp e=>
  ⟨.ref s.heap.objs.size,_,I.laid (t':=s.toks) kp (Nat.le_refl _) (show qbh X.prog X.w _ h' _ (.lst ys) from⟨hz,its,c',r',e⟩),rfl,q _ (I.hok.fresh (Nat.le_refl _))⟩
 rcases hq with hq|hq
 .obtain⟨its,r',pl,hz⟩:=I.list hq
  have hlen:=r'.length
  obtain⟨o,ho,hc,n,hd⟩:=pl.isList
  exact call_list_seq p (.inl rfl) ho hc hd (fun h' c' kp e=>fin its r' hz h' c' kp e) (by simp only [zN] <;> omega)
 .obtain⟨its,r',pl,hz⟩:=I.tuple hq
  have hlen:=r'.length
  obtain⟨o,ho,hc,n,hd⟩:=pl
  exact call_list_seq p (.inr rfl) ho hc hd (fun h' c' kp e=>fin its r' hz h' c' kp e) (by simp only [zN] <;> omega)
def tyV (K:Frag) (T:String) (x:V) (H:Hp):Prop:=match x with
 | .str _=>T= "str"
 | .int _=>T= "int"
 | .ref p=>(T= "list"/\∃xs,SqL K H p xs)\/(T= "tuple"/\∃o,K.lookup p=some o/\o.cls=.type "tuple"/\o.dict=none)\/
   (T= "dict"/\((∃kvs,H p=some (.dK kvs))\/∃kvs,H p=some (.dT kvs)))\/(T= "set"/\∃S n,H p=some (.set S n))
 |_=>False
theorem tyV_is {pins:List (Addr × Obj)} {σ:St} {H:Hp} {s:Shared} {T:String} {x:V} {v:Value} (I:Inv X pins σ H s) (r:qbe x v) (ty:tyV X.K T x H):
  s.TypeIs v T/\∀a,v=.ref a->∃ob,s.heap.get? a=some ob/\ob.dict=none:=by
 cases x with
 |str z=>
  obtain⟨t,rfl⟩:=r
  cases (show T= "str" from ty)
  exact⟨typeIs_str s z t,fun _ e=>nomatch e⟩
 |int i=>
  obtain⟨t,rfl⟩:=r
  cases (show T= "int" from ty)
  exact⟨typeIs_int s i t,fun _ e=>nomatch e⟩
 |ref p=>
  cases r
  rcases ty with ⟨rfl,xs,hq⟩ |⟨rfl,o,hk,hc,hd⟩ |⟨rfl,hk⟩ |⟨rfl,S,n,hk⟩
  .obtain⟨its,_,pl,_⟩:=I.list hq
   refine⟨pl.isList.typeIs,fun a e=>?_⟩
   cases e
   obtain⟨o,n,e,c,hd,_⟩:=pl
   exact⟨o,e,hd⟩
  .refine⟨⟨o,I.kIn p o hk,hc⟩,fun a e=>?_⟩
   cases e
   exact⟨o,I.kIn _ o hk,hd⟩
  .have z:∃o,s.heap.get? p=some o/\o.ExactDict:=by
    rcases hk with ⟨kvs,hk⟩ |⟨kvs,hk⟩
    .obtain⟨_,_,_,_,o,_,_,e,ex,_⟩:=I.hok p _ hk
     exact⟨o,e,ex⟩
    .obtain⟨_,_,_,_,o,_,_,e,ex,_⟩:=I.hok p _ hk
     exact⟨o,e,ex⟩
   obtain⟨o,e,ex⟩:=z
   refine⟨⟨o,e,ex.1⟩,fun a e2=>?_⟩
   cases e2
   exact⟨o,e,ex.2.1⟩
  .obtain⟨o,_,_,_,e,ex,_⟩:=I.hok p _ hk
   refine⟨⟨o,e,ex.1⟩,fun a e2=>?_⟩
   cases e2
   exact⟨o,e,ex.2.1⟩
 |_=>exact False.elim ty
def tBM0 (K:Frag) (T:String) (r:V->List V->Hp->VK->Prop) (to:TE):TE:=fun σ H Q=>to σ H fun x H1=>tyV K T x H1/\r x [] H1 Q
def tBM (K:Frag) (T:String) (r:V->List V->Hp->VK->Prop) (to:TE) (t:TA):TE:=fun σ H Q=>to σ H fun x H1=>tyV K T x H1/\t σ H1 fun xs H2=>r x xs H2 Q
variable {o e: Expr} {es: List Expr} {to: TE} {t: TA} {name: Str} {apos cpos: Pos} {T id: String} {r: V -> List V -> Hp -> VK -> Prop}
theorem pe_bm0 (pa:PlainAttrs T) (slot:Slot T name id) (hty:typeOf (.builtin id)=pure (.type "method_descriptor")) (hm:MtR X id r) (ho:PE X o to)
  (hbase:attributeBase o name X.env (eval o X.env)=eval o X.env:=by rfl) (hline:(apos.endLine==cpos.line)=true:=by rfl):PE X (.Call (.Attribute o name apos) [] [] cpos) (tBM0 X.K T r to):=by
 intro pins s σ H Q I h
 refine wpAny_Call_method0_late hbase hline (thn (ho pins s σ H _ I h) fun v s1 ⟨x,H1,I1,r1,ty,q1⟩=>?_)
 obtain⟨h1,h2⟩:=tyV_is I1 r1 ty
 exact⟨T,id,pa,slot,hty,h1,h2,Calls.callWith_builtin rfl (PySem.evalArgs_none (hm pins s1 σ H1 x [] v [] Q I1 r1 .nil q1))⟩
theorem qe8 (pa:PlainAttrs T) (slot:Slot T name id) (hty:typeOf (.builtin id)=pure (.type "method_descriptor")) (hm:MtR X id r) (ho:PE X o to) (ha:PA X (e :: es) t)
  (hbase:attributeBase o name X.env (eval o X.env)=eval o X.env:=by rfl)
  (hfew:((backTo cpos (starEach (e :: es) X.env)).all (fun x=>!x.1) && (backToKw cpos (keywordEach [] X.env)).all (fun x=>x.1.isSome)
   && decide ((e :: es).length+([]:List Keyword).length+(if ([]:List Keyword).isEmpty then 0 else 1) < 30))=true:=by rfl)
  (hline:(apos.endLine==cpos.line)=true:=by rfl) (hs:starEach (e :: es) X.env=(false,eval e X.env) :: starEach es X.env:=by rfl) (hplain:(backTo cpos (starEach es X.env)).any (·.1)=false:=by rfl):
  PE X (.Call (.Attribute o name apos) (e :: es) [] cpos) (tBM X.K T r to t):=by
 intro pins s σ H Q I h
 refine wpAny_Call_method_late hbase hfew hline rfl (thn (ho pins s σ H _ I h) fun v s1 ⟨x,H1,I1,r1,ty,q1⟩=>?_)
 obtain⟨h1,h2⟩:=tyV_is I1 r1 ty
 refine⟨T,id,pa,slot,hty,h1,h2,?_⟩
 have hA:=ha cpos pins s1 σ H1 _ I1 q1
 rw [hs] at hA ⊢
 refine Calls.callWith_builtin (by show (false ||(backTo cpos (starEach es X.env)).any (·.1))=false;rw [hplain] <;> rfl) (Calls.evalArgs_plain ?_)
 exact thn hA fun us s2 ⟨vs,H2,I2,r2,q2⟩=>hm pins s2 σ H2 x vs v us Q I2 r1 r2 q2
end
def MtM (X:Cx) (id:String) (r:V->List V->Hp->VK->Prop):Prop:=
 ∀(pins:List (Addr × Obj)) (s:Shared) (σ:St) (H:Hp) (x:V) (xs:List V) (v:Value) (us:List Value) (Q:VK),Inv X pins σ H s->qbe x v->qbd xs us->r x xs H Q->
  wpAny (model X.prog X.w) X.A (call (.builtin id) (v :: us)) (EP X pins σ Q) X.xe s
theorem qbd.one:∀{x:V} {us:List Value},qbd [x] us->∃u,us=[u]/\qbe x u
 |_,_,.cons r .nil=>⟨_,rfl,r⟩
theorem qbd.zero:∀{us:List Value},qbd [] us->us=[]
 |_,.nil=>rfl
theorem qbd.reverse {xs:List V} {us:List Value} (h:qbd xs us):qbd xs.reverse us.reverse:=by
 induction h with
 |nil=>exact .nil
 |cons r t ih=>rw [List.reverse_cons,List.reverse_cons];exact qbd.append ih (.cons r .nil)
section
variable {X: Cx} {pins: List (Addr × Obj)} {σ: St} {H: Hp} {s: Shared} {l: Addr} {xs ys: List V}
theorem Inv.lset {its its':List Value} {n:Nat} {f:Array Value->Array Value} {t':Nat} (I:Inv X pins σ H s) (hH:H l=some (.lst xs))
  (e:s.heap.get? l=some {cls:=.type "list",data:=.seq its.toArray n}) (hf:f its.toArray=its'.toArray) (hv:qbd ys its') (hz:ys.length<=sizeLine):
  Inv X pins σ (upd H l (.lst ys)) {s with heap:=s.heap.update l (Obj.mapSeq f),toks:=t'}:=by
 have q:=PySem.IsL.update e f
 rw [hf] at q
 refine I.write (x:=l) (e:=l) (by rw [hH];exact trivial) (.inl rfl) (fun b' u hb hu=>(Heap.get?_update_other s.heap (Obj.mapSeq f) (Ne.symm hb)).trans hu) ⟨_,q⟩ ?_
 exact⟨hz,its',_,hv,q⟩
theorem Inv.lnew {its:List Value} {t':Nat} (I:Inv X pins σ H s) (hv:qbd ys its) (hz:ys.length<=sizeLine):
  Inv X pins σ (upd H s.heap.objs.size (.lst ys)) {s with heap:=s.heap.push {cls:=.type "list",data:=.seq its.toArray},toks:=t'}:=
 I.laid (fun _ _ q=>Heap.get?_push_of_some _ q) (Nat.le_refl _) ⟨hz,its,0,hv,Heap.get?_push_size _ rfl⟩
theorem Inv.fresh (I:Inv X pins σ H s):H s.heap.objs.size=none:=I.hok.fresh (Nat.le_refl _)
theorem Inv.lstM (I:Inv X pins σ H s) (hH:H l=some (.lst xs)):xs.length<=sizeLine/\∃(its:List Value) (n:Nat),qbd xs its/\xs.length=its.length/\s.heap.get? l=some {cls:=.type "list",data:=.seq its.toArray n}:=by
 obtain⟨z,its,n,r,e⟩:=I.hok l _ hH
 exact⟨z,its,n,r,r.length,e⟩
theorem notLongL {n:Nat} (h:n<=sizeLine):Builtin.List.listTooLong n=false:=by
 unfold Builtin.List.listTooLong
 exact decide_eq_false (by omega)
end
section
variable {X: Cx}
def rAppend:V->List V->Hp->VK->Prop:=fun x vs H Q=>∃l xs y,x=.ref l/\vs=[y]/\H l=some (.lst xs)/\xs.length < sizeLine/\Q .non (upd H l (.lst (xs++ [y])))
theorem qb9:MtM X "list.append" rAppend:=by
 intro pins s σ H x vs v us Q I rx rv h
 obtain⟨l,xs,y,rfl,rfl,hH,hz,q⟩:=h
 cases rx
 obtain⟨u,rfl,ru⟩:=rv.one
 obtain⟨z,its,n,r,hl,e⟩:=I.lstM hH
 refine call_meets F.slot_list_append ⟨_,e,rfl⟩ F.entry_list_append (F.args_list_append_2 _ _) (PySem.list_append l its.toArray n u (by rw [zN];omega)) ⟨e,?_⟩
 refine⟨.non,_,I.lset (its':=its++ [u]) hH e (by simp) (r.append (.cons ru .nil)) ?_,rfl,q⟩
 rw [zH,yB]
 omega
def rExtend:V->List V->Hp->VK->Prop:=fun x vs H Q=>∃l b xs zs,x=.ref l/\vs=[.ref b]/\H l=some (.lst xs)/\H b=some (.lst zs)/\xs.length+zs.length<=sizeLine/\Q .non (upd H l (.lst (xs++zs)))
theorem mt_extend:MtM X "list.extend" rExtend:=by
 intro pins s σ H x vs v us Q I rx rv h
 obtain⟨l,b,xs,zs,rfl,rfl,hH,hB,hz,q⟩:=h
 cases rx
 obtain⟨u,rfl,ru⟩:=rv.one
 cases ru
 obtain⟨z,its,n,r,hl,e⟩:=I.lstM hH
 obtain⟨z2,its2,n2,r2,hl2,e2⟩:=I.lstM hB
 have hsz:its.toArray.size+its2.toArray.size<=sizeLine:=by rw [zN,zN];omega
 have hlong:¬(!its.toArray.isEmpty && Builtin.List.listTooLong (its.toArray.size+its2.toArray.size))=true:=by
  rw [notLongL hsz,Bool.and_false]
  exact Bool.false_ne_true
 refine call_meets F.slot_list_extend ⟨_,e,rfl⟩ F.entry_list_extend (F.args_list_extend_2 _ _)
  (AutoSeq1.list_extend_list_list_0 l its.toArray n b its2.toArray n2 hlong (by rw [zN];omega) (by omega)) ⟨e,e2,?_⟩
 refine⟨.non,_,I.lset (its':=its++its2) hH e (by simp) (r.append r2) ?_,rfl,q⟩
 rw [zH]
 omega
def rClear:V->List V->Hp->VK->Prop:=fun x vs H Q=>∃l xs,x=.ref l/\vs=[]/\H l=some (.lst xs)/\Q .non (upd H l (.lst []))
theorem mt_clear:MtM X "list.clear" rClear:=by
 intro pins s σ H x vs v us Q I rx rv h
 obtain⟨l,xs,rfl,rfl,hH,q⟩:=h
 cases rx
 have hus:=rv.zero
 subst hus
 obtain⟨z,its,n,r,hl,e⟩:=I.lstM hH
 refine call_meets F.slot_list_clear ⟨_,e,rfl⟩ F.entry_list_clear (F.args_list_clear_1 _) (AutoSeq1.list_clear_list_0 l its.toArray n (by rw [zN];omega)) ⟨e,?_⟩
 exact⟨.non,_,I.lset (its':=[]) (ys:=[]) hH e rfl .nil (Nat.zero_le _),rfl,q⟩
def rCat:R2:=fun x y H Q=>∃l b xs zs,x=.ref l/\y=.ref b/\H l=some (.lst xs)/\H b=some (.lst zs)/\xs.length+zs.length<=sizeLine/\∀p,H p=none->Q (.ref p) (upd H p (.lst (xs++zs)))
theorem op_cat:OpR X (binaryOp .Add) rCat:=by
 intro pins s σ H x y v u Q I rx ry h
 obtain⟨l,b,xs,zs,rfl,rfl,hH,hB,hz,q⟩:=h
 cases rx
 cases ry
 obtain⟨z,its,n,r,hl,e⟩:=I.lstM hH
 obtain⟨z2,its2,n2,r2,hl2,e2⟩:=I.lstM hB
 refine PySem.P.add_list e e2 ?_ (by rw [zN,zN];omega)
 have ea:its.toArray++its2.toArray=(its++its2).toArray:=by simp
 rw [ea]
 exact⟨.ref _,_,I.lnew (t':=s.toks) (r.append r2) (by rw [zH];omega),rfl,q _ I.fresh⟩
def rRep:R2:=fun x y H Q=>∃l k xs,x=.ref l/\y=.int k/\H l=some (.lst xs)/\-(2^63)<=k/\k < 2^63/\xs.length*k.toNat<=sizeLine/\
 ∀p,H p=none->Q (.ref p) (upd H p (.lst (List.replicate k.toNat xs).flatten))
end
end L2
namespace Att
open PySem PySem.W PySem.Calls PyProof.Rows
theorem qey {P:Params} {h:Heap}:∀(ns:List Int) (vs:List Value),WellAll P h vs (ns.map WData.int)->IntsAre vs ns:=by
 intro ns
 induction ns with
 |nil=>
  intro vs w
  rw [List.map_nil] at w
  cases w
  exact .nil
 |cons n ns ih=>
  intro vs w
  rw [zS] at w
  cases w with
  |cons a b=>
   cases a
   exact .cons _ _ (ih _ b)
theorem script_of {l:OpenLaw} {n:Nat} (hn:l.most=some n) {P:Params} {h:Heap} {args:List WData} {vals:List Value}
  (hpre:l.row.toRowW.claim.pre args=true) (hwl:WellAll P h vals args):
  ∃a vs ns,vals=[Value.ref a]/\args=[WData.list (ns.map WData.int)]/\h.get? a=some {cls:=.type "list",data:=.seq vs.toArray}/\IntsAre vs ns/\ns.length<=n:=by
 have hsh:WShape.hasAll [] args [.list .int]=true:=(pre_splitW hpre).1
 have hc:l.pre.holds [] {args:=args}=true:=(pre_splitW hpre).2
 obtain⟨d,r,rfl,h1,h2⟩:=hasAllW_cons hsh
 obtain rfl:=hasAllW_nil h2
 obtain⟨xs,rfl,h3⟩:=hasW_list h1
 obtain⟨ns,rfl⟩:=items_int h3
 have hlen:ns.length<=n:=by
  unfold OpenLaw.pre at hc
  have h4:(WTm.not (.lt (.lit (.int (n:Int))) (.len (.arg 0)))).holds [] {args:=[.list (ns.map .int)]}=true:=by
   have h4:=(holds_andW hc).1
   rw [hn] at h4
   exact h4
  have h5:=condW_of h4 (w_not (w_lt w_lit (w_len_list (w_arg rfl))))
  rw [zB] at h5
  refine Nat.le_of_not_lt fun q=>?_
  have q':(n:Int) <((ns.length:Nat):Int):=by omega
  first
   |(rw [decide_eq_true q'] at h5;exact absurd h5 (by decide))
   |(simp at h5;omega)
 cases hwl with
 |cons w1 w2=>
  cases w2
  cases w1 with
  |list ho hall=>exact⟨_,_,ns,rfl,rfl,ho,qey ns _ hall,hlen⟩
theorem post_true (l:OpenLaw) (args:List WData):l.row.toRowW.claim.post args (.bool true) args=true:=
 postW_of (r:=l.row.toRowW) (X:=(true==true))
  (show WShape.has [] (.bool true) .bool=true by first|rfl|decide|simp [WShape.has,WShape.arms,WShape.armsAll])
  (show (WTm.eq .res (.lit (.bool true))).value [] {args:=args,res:=some (.bool true),after:=args}=some (.bool (true==true)) from w_eq_bool (w_res rfl) w_lit) rfl
theorem attach_call {l:OpenLaw} {n:Nat} {q:Program} {loose:List Str} {XP:(Str->Option Value)->Heap->Prop} {YP:World->Heap->Prop} {d:DefRec}
  (hn:l.most=some n) (hdf:d.params.defaults=[])
  (call:∀(w:World) (s₀ s₁:Shared) (mg mb:Str->Option Value) (fa:Addr) (o:Obj) (pm cd doc:Value) (a:Addr) (vs:List Value) (ns:List Int),
   Ground q loose [] XP w s₀ mg mb s₁.heap->YP w s₁.heap->
   s₁.heap.get? fa=some o->o.data=.func (docDef d.name d.params d.body d.scope pm cd doc)->s₁.heap.CodeRec cd d.name->mg d.name=some (.ref fa)->
   s₁.heap.get? a=some {cls:=.type "list",data:=.seq vs.toArray}->IntsAre vs ns->ns.length<=n->s₁.gens= #[]->
   codeAny (model l.prog w) callerA (.call (.ref fa) ⟨[.ref a], []⟩) (fun r s'=>r=.ok (.ret (.bool true))/\OldK s₁.heap s'.heap/\s'.os=s₁.os/\AllBare s'.gens) s₁):
  WalkO q loose XP YP l.row.toRowW d [] (fun f vs=>PySem.call f vs):=by
 intro w s₀ s₁ mg mb G Y fa o pm cd doc dV kV ho hd hcd hD hmg hg args vals as hpre hlay hrd hwl hlo
 obtain rfl:dV=.none:=Dflts.none hD hdf
 obtain rfl:kV=.none:=Dflts.noKw hD
 obtain⟨a,vs,ns,rfl,rfl,hobj,hints,hlen⟩:=script_of hn hpre hwl
 refine enter_call (codeAny_mono (call w s₀ s₁ mg mb fa o pm cd doc a vs ns G Y ho (fd_plain hd) hcd hmg hobj hints hlen hg) fun r s' hq=>?_)
 obtain⟨rfl,h2,h3,h4⟩:=hq
 exact⟨.inl ⟨.bool true,.bool true, [],rfl,fun _=>rfl,.bool true,post_true l _,fun _=>⟨List.Pairwise.nil,fun _ hm=>(nomatch hm)⟩⟩,h2,h3,h4⟩
end Att
namespace L2
open PySem PySem.Spec PyProof.Rows
theorem vals_ints:∀{vs:List Value} {ns:List Int},IntsAre vs ns->qbd (ns.map V.int) vs
 |_,_,.nil=> .nil
 |_,_,.cons n t h=> .cons ⟨t,rfl⟩ (vals_ints h)
def Only (H:Hp):Prop:=∀b,H b=none\/∃o xs,H b=some (.frz o (.lst xs))
theorem law_call {P:Program} {w:World} {K:Frag} {mg mb:Str->Option Value} {CX:CXT} {k:Nat} {fa a:Addr} {fd:FuncData} {x:Str} {sp:Sp} {s₁:Shared} {vs:List Value} {ns:List Int}
  (KX:K.In s₁.heap) (hns:s₁.heap.Ns mainGlobals mg) (hb:s₁.heap.Ns builtinsNs mb) (hbb:∀x:Str,x≠"__name__"->mb x=bootBuiltins x) (hlim:s₁.heap.NoLimit) (hg:s₁.gens= #[])
  (ha:s₁.heap.get? a=some {cls:=.type "list",data:=.seq vs.toArray}) (hi:IntsAre vs ns) (hl:ns.length<=sizeLine) (hr:Room k callerA)
  (F:∀base:Heap,K.In base->base.Ns mainGlobals mg->FnOk P w K mg base CX k fa fd [x] sp) (hbind:∀(s:Shared) (u:Value),BindsTo s fd ⟨[u], []⟩ [(x,u)])
  (hsp:∀H:Hp,Only H->SqL K H a (ns.map V.int)->sp [.ref a] H (fun v _=>v=.bl true) fun _ _ _=>False)
  (hCX:∀H e s',CX [] H s₁ (fun _ _ _=>False) e s'->False):
  codeAny (model P w) callerA (.call (.ref fa) ⟨[.ref a], []⟩) (fun r s'=>r=.ok (.ret (.bool true))/\OldK s₁.heap s'.heap/\s'.os=s₁.os/\AllBare s'.gens) s₁:=by
 have rv:=vals_ints hi
 have lenV:=hi.length
 have core:∀H:Hp,Only H->SqL K H a (ns.map V.int)->HOk P w H s₁.heap->(∀b,H b≠none->b=a)->(H a≠none->K.lookup a=none)->
   codeAny (model P w) callerA (.call (.ref fa) ⟨[.ref a], []⟩) (fun r s'=>r=.ok (.ret (.bool true))/\OldK s₁.heap s'.heap/\s'.os=s₁.os/\AllBare s'.gens) s₁:=by
  intro H hO hS hok hA hK
  have base_of:∀{b:Addr} {o:Obj},s₁.heap.get? b=some o->H b=none->(hidT s₁.heap H).get? b=some o:=fun e n=>hidT_get e n
  have noA:∀{b:Addr} {o:Obj} {es:Array DictEntry} {ep:Nat},s₁.heap.get? b=some o->o.data=.dict es ep->H b=none:=fun {b o es ep} e d=>by
   cases q:H b with
   |none=>rfl
   |some u=>
    have e':b=a:=hA b (by rw [q];simp)
    subst e'
    rw [ha] at e;cases e
    have d':Data.seq vs.toArray _=Data.dict es ep:=d
    cases d'
  have nsK:∀{b:Addr} {m:Str->Option Value},s₁.heap.Ns b m->(hidT s₁.heap H).Ns b m:=fun {b m} ⟨o,es,ep,e,d,r⟩=>⟨o,es,ep,base_of e (noA e d),d,r⟩
  have hKb:K.In (hidT s₁.heap H):=fun b o e=>base_of (KX b o e) (by
   cases q:H b with
   |none=>rfl
   |some u=>
    have e':b=a:=hA b (by rw [q];simp)
    subst e'
    rw [hK (by rw [q];simp)] at e;cases e)
  have hM:Mod K mg (hidT s₁.heap H):=⟨hKb,nsK hns,⟨mb,nsK hb,hbb⟩,let ⟨mc,h1,h2⟩:=hlim;⟨mc,nsK h1,h2⟩⟩
  have e0:Env0 P w K mg (hidT s₁.heap H) callerA [] s₁ H:=⟨rfl,hM,fun b o e=>of_hidT e,Nat.le_of_eq (hidT_size _ _),trivial,fun b hb=>absurd (show b∈([]:List Addr) from hb) (by simp),hok,.of_eq hg⟩
  refine codeAny_mono ((F _ hKb (nsK hns)).run callerA [] s₁ H ⟨[.ref a], []⟩ [.ref a] [.ref a] _ _ hr e0 (hbind s₁ (.ref a)) (.cons rfl .nil) (hsp H hO hS)) fun r s' h=>?_
  cases r with
  |error e=>exact(hCX H e s' h).elim
  |ok fl=>
   cases fl with
   |next=>exact False.elim h
   |brk=>exact False.elim h
   |cont=>exact False.elim h
   |ret u=>
    obtain⟨v,H',os,bare,un,hok',r',q⟩:=h
    have q':v=.bl true:=q
    subst q'
    obtain rfl:u=Value.bool true:=r'
    refine⟨rfl,OldK.of_keep fun b o e=>?_,os,bare⟩
    cases q:H b with
    |none=>exact un.keep b o e q (by intro z;exact absurd (show b∈([]:List Addr) from z) (by simp)) (by simp)
    |some u=>
     rcases hO b with z|⟨ob,xs,z⟩
     .rw [q] at z;cases z
     .have z2:=un.frzs b ob _ z
      obtain⟨e1,_⟩:=hok b _ z
      obtain⟨e2,_⟩:=hok' b _ z2
      rw [e] at e1;cases e1
      exact e2
 cases hk:K.lookup a with
 |some o=>
  have e:=KX a o hk
  rw [ha] at e
  cases e
  refine core (fun _=>none) (fun _=> .inl rfl) (.inr ⟨_,vs.toArray,_,hk,rfl,rfl,rfl,by rw [zN,lenV];exact hl,by simpa using rv⟩) (fun b u z=>by have z':(none:Option HO)=some u:=z;cases z') (fun b z=>absurd rfl z) fun z=>absurd rfl z
 |none=>
  refine core (fun b=>if b=a then some (.frz {cls:=.type "list",data:=.seq vs.toArray} (.lst (ns.map V.int))) else none) (fun b=>?_) (.inl (.inr ⟨{cls:=.type "list",data:=.seq vs.toArray},if_pos rfl⟩)) (fun b u z=>?_) (fun b z=>?_) fun _=>hk
  .by_cases hb:b=a
   .exact .inr ⟨_,_,if_pos hb⟩
   .exact .inl (if_neg hb)
  .by_cases hb:b=a
   .have z':=(if_pos hb).symm.trans z
    cases z'
    subst hb
    exact⟨ha,by rw [zB];exact hl,vs,_,rv,ha⟩
   .have z':=(if_neg hb).symm.trans z
    cases z'
  .by_cases hb:b=a
   .exact hb
   .exact absurd (if_neg hb) z
theorem walk_of {l:PySem.W.OpenLaw} {n k:Nat} {q:Program} {loose:List Str} {XP:(Str->Option Value)->Heap->Prop} {YP:World->Heap->Prop} {d:DefRec} {K:Params->Frag} {CX:World->CXT} {sp:World->Sp} {x:Str}
  (hn:l.most=some n) (hn2:n<=sizeLine) (hdf:d.params.defaults=[]) (hr:Room k callerA)
  (hY:∀(w:World) (h:Heap),YP w h->(K w.params).In h)
  (F:∀(w:World) (mg:Str->Option Value) (fa:Addr) (h:Heap),(K w.params).In h->h.Ns mainGlobals mg->mg d.name=some (.ref fa)->
   ∃fd:FuncData,(∀(s:Shared) (u:Value),BindsTo s fd ⟨[u], []⟩ [(x,u)])/\
    ∀base:Heap,(K w.params).In base->base.Ns mainGlobals mg->FnOk l.prog w (K w.params) mg base (CX w) k fa fd [x] (sp w))
  (hsp:∀(w:World) (H:Hp) (a:Addr) (ns:List Int),ns.length<=n->Only H->SqL (K w.params) H a (ns.map V.int)->sp w [.ref a] H (fun v _=>v=.bl true) fun _ _ _=>False)
  (hCX:∀(w:World) (H:Hp) (s:Shared) (e:Value) (s':Shared),CX w [] H s (fun _ _ _=>False) e s'->False):
  PySem.W.WalkO q loose XP YP l.row.toRowW d [] (fun f vs=>PySem.call f vs):=by
 refine Att.attach_call hn hdf fun w s₀ s₁ mg mb fa o pm cd doc a vs ns G Y ho hd hcd hmg hobj hints hlen hg=>?_
 have KX:=hY w _ Y
 obtain⟨fd,hb,hF⟩:=F w mg fa _ KX G.T.g hmg
 exact law_call KX G.T.g G.T.b G.T.builtins G.T.nolimit hg hobj hints (Nat.le_trans hlen hn2) hr hF hb (fun H hO hS=>hsp w H a ns hlen hO hS) fun H e s'=>hCX w H s₁ e s'
def qcc (s:Stmt):Arguments:=match s with
 | .FunctionDef _ a _ _ _ _ _ _ _ _=>a
 |_=>{posonlyargs:=[],args:=[],vararg:=none,kwonlyargs:=[],kw_defaults:=[],kwarg:=none,defaults:=[]}
def qbx (s:Stmt):List Stmt:=match s with
 | .FunctionDef _ _ b _ _ _ _ _ _ _=>b
 |_=> []
def qa8 (s:Stmt):Scope:=match s with
 | .FunctionDef _ _ _ _ _ _ sc _ _ _=>sc
 |_=>{kind:=.function,names:=[],isGenerator:=false,isCoroutine:=false}
abbrev CX0:CXT:=fun _ _ _ _ _ _=>False
abbrev E0:XK:=fun _ _ _=>False
theorem qah {X:Cx}:qf3 CX0 X E0:=fun _ _ _ _ _ _ _ h=>h.elim
structure Fun (K:Frag) (x qual:Str) (st:Stmt) (f:Addr) (fd:FuncData):Prop where
 ex:∃(oc:Value) (od:Option Addr) (kV doc pm:Value) (an:Option Addr) (cdv ct:Value) (osl:Array (Option Value)),
  fd=fnOf x qual (qcc st) (qbx st) (qa8 st) .none kV doc pm an cdv ct/\K.lookup f=some ⟨oc,od,.func fd,osl⟩/\codeIn K cdv qual=true
 kp:keepIn K (.ref f)=true
section
variable {P: Program} {w: World} {K: Frag} {mg: Str -> Option Value} {base: Heap}
theorem Fun.ok {x qual:Str} {st:Stmt} {f:Addr} {fd:FuncData} {N ps:List Str} {k:Nat} {sp:Sp} (F:Fun K x qual st f fd) (S:FnScope N ps (qa8 st)) (len:∀vs H Q E,sp vs H Q E->vs.length=ps.length)
  (hbody:∀(cdv:Value) (A:Around) (outer:List Env) (s:Shared) (H:Hp) (vs:List V) (Q:VK) (E:XK),Room k (A.deeper (envOfC qual (qa8 st) s.heap.objs.size f cdv))->sp vs H Q E->
   ∃t,PSs (cxOf CX0 P w K mg base N qual (qa8 st) f cdv A outer s H E).nox (qbx st) t/\t {nx:=fun _ H'=>Q .non H',rt:=Q} (qeb N vs) H):FnOk P w K mg base CX0 (k+1) f fd ps sp:=by
 obtain⟨oc,od,kV,doc,pm,an,cdv,ct,osl,rfl,lk,hcd⟩:=F.ex
 refine fn_of lk hcd S len fun A outer s H vs Q E hr hsp=>?_
 obtain⟨t,h,q⟩:=hbody cdv A outer s H vs Q E hr hsp
 exact⟨t,h.nox,q⟩
theorem Fun.binds {x qual:Str} {st:Stmt} {f:Addr} {fd:FuncData} {ps:List Str} (F:Fun K x qual st f fd)
  (h:∀(kV doc pm:Value) (an:Option Addr) (cdv ct:Value) (us:List Value),us.length=ps.length->bindArgs (fnOf x qual (qcc st) (qbx st) (qa8 st) .none kV doc pm an cdv ct) ⟨us, []⟩=pure (ps.zip us)):qam K fd ps []:=by
 obtain⟨oc,od,kV,doc,pm,an,cdv,ct,osl,rfl,lk,hcd⟩:=F.ex
 exact .all (h kV doc pm an cdv ct)
theorem fun_mk {x qual:Str} {st:Stmt} {f:Addr} {oc:Value} {od an:Option Addr} {osl:Array (Option Value)} {kV doc pm cdv ct:Value} (l:K.lookup f=some ⟨oc,od,.func (fnOf x qual (qcc st) (qbx st) (qa8 st) .none kV doc pm an cdv ct),osl⟩)
  (c:codeIn K cdv qual=true) (k:keepIn K (.ref f)=true):Fun K x qual st f (fnOf x qual (qcc st) (qbx st) (qa8 st) .none kV doc pm an cdv ct):=⟨⟨oc,od,kV,doc,pm,an,cdv,ct,osl,rfl,l,c⟩,k⟩
end
theorem qc9 {A:Around} {k:Nat} (hr:Room k A):A.units+1 < cLine:=Nat.lt_of_le_of_lt (Nat.add_le_add_left (by decide:1<=64) _) hr.units
section
variable {X: Cx}
theorem pv (i:Nat) {x:Str} {pos:Pos} (hN:X.N[i]?=some x:=by rfl) (hv:Vis X.env.scope x:=by first|exact Or.inl rfl|exact Or.inr (Or.inl rfl) |exact Or.inr (Or.inr rfl)) (hd:(x==("__debug__" :Str))=false:=by decide)
  (hcd:(x==("__classdict__" :Str))=false:=by decide):PE X (.Name x pos) (tVar i):=pe_var hN hv hd hcd
end
theorem iteF {A B:Prop} (h:B):if false=true then A else B:=by
 rw [if_neg Bool.false_ne_true]
 exact h
theorem iteT {A B:Prop} (h:A):if true=true then A else B:=by
 rw [if_pos rfl]
 exact h
def qaq (H H':Hp):Prop:=∀b o,H b=some o->H' b=some o
theorem qaq.refl (H:Hp):qaq H H:=fun _ _ h=>h
theorem qaq.trans {H H1 H2:Hp} (a:qaq H H1) (b:qaq H1 H2):qaq H H2:=fun c o h=>b c o (a c o h)
theorem qaq.free {H H':Hp} (e:qaq H H') {l:Addr} (h:H' l=Option.none):H l=Option.none:=by
 cases q:H l with
 |none=>rfl
 |some o=>
  rw [e l o q] at h
  cases h
theorem qaq.seq {K:Frag} {H H':Hp} {a:Addr} {xs:List V} (e:qaq H H') (h:SqL K H a xs):SqL K H' a xs:=by
 rcases h with (h|⟨o,h⟩) |h
 .exact .inl (.inl (e _ _ h))
 .exact .inl (.inr ⟨o,e _ _ h⟩)
 .exact .inr h
end L2
namespace My
open PySem PySem.Spec PyProof.Rows L2
section
variable {X: Cx}
theorem bits600 {k:Int} (h:k.natAbs < 2^600):Builtin.Int.intBits k<=2^20:=
 Nat.le_trans (PyProof.Rows.intBits_le (k:=600) h) (by decide)
def CBig (i j:Int):Prop:=i.natAbs < 2^600/\j.natAbs < 2^600
theorem qbw:OpR X (binaryOp .Mult) (rI CBig fun i j=> .int (i*j)):=opI fun _ _ _ _ _ _ _ hc q=>mul_int q (IntMulOk.of_bits (bits600 hc.1) (bits600 hc.2))
def CDivB (i j:Int):Prop:=j≠0/\j.natAbs < 2^600
theorem noPy {x y:Int} (h:y.natAbs < 2^600):Builtin.divisionGoesByPylong x y=false:=by
 refine PyProof.noPylong_of_log2 ?_
 by_cases h0:y.natAbs=0
 .rw [h0];decide+kernel
 .have h30:y.natAbs.log2 < 600:=(Nat.log2_lt h0).mpr h
  omega
theorem qcg:OpR X (binaryOp .FloorDiv) (rI CDivB fun i j=> .int (i.fdiv j)):=opI fun _ _ _ _ _ _ _ hc q=>floordiv_int hc.1 q (.inl (noPy hc.2))
end
theorem qa6 {H:Hp} {p:Addr} (h:H p=none) (o:HO):qaq H (upd H p o):=fun b u q=>by rw [qa7 (qaa q h)];exact q
theorem same_tup {K:Frag} {H H':Hp} {a:Addr} {xs:List V} (e:qaq H H') (h:SqT K H a xs):SqT K H' a xs:=by
 rcases h with (h|⟨o,h⟩) |h
 .exact .inl (.inl (e _ _ h))
 .exact .inl (.inr ⟨o,e _ _ h⟩)
 .exact .inr h
def cell (ns:List Int) (k:Int):Int:=(ns[k.toNat]?).getD 0
theorem cell_at {ns:List Int} {k:Int} (h0:0<=k) (h:k <(ns.length:Int)):atI (ns.map V.int) k=some (.int (cell ns k)):=by
 have hk:k.toNat < ns.length:=by omega
 have ek:k=((k.toNat:Nat):Int):=by omega
 have q:atI (ns.map V.int) ((k.toNat:Nat):Int)=some (.int ns[k.toNat]):=qaw (by rw [zC,zA hk] <;> rfl)
 rw [<-ek] at q
 rw [q]
 unfold cell
 rw [zA hk]
 rfl
end My
set_option maxHeartbeats 1000000
namespace My
open PySem PySem.Spec PyProof.Rows L2
section
variable {X: Cx} {pins: List (Addr × Obj)} {σ: L2.St} {H: Hp} {s: Shared} {h': Heap}
structure Rec (X:Cx) (pins:List (Addr × Obj)) (H:Hp) (h:Heap) (b:Addr):Prop where
 nw:X.s₀.heap.get? b=none
 un:H b=none
 pin:∀p∈X.pn++pins,p.1≠b
 ob:∃o vs,h.get? b=some o/\o.data=.fields vs
theorem Rec.loc (I:Inv X pins σ H s) {b:Addr} (r:Rec X pins H s.heap b):b≠X.env.locals:=fun z=>by
 obtain⟨o,vs,e,d⟩:=r.ob
 obtain⟨m,⟨o',es,ep,e',d',_⟩,_⟩:=I.loc
 rw [z,e'] at e;cases e;rw [d'] at d;cases d
theorem Rec.cel (I:Inv X pins σ H s) {b:Addr} (r:Rec X pins H s.heap b):∀x c,X.env.cells.lookup x=some c->c≠b:=fun x c hc z=>by
 obtain⟨o,vs,e,d⟩:=r.ob
 obtain⟨v,o',e',d'⟩:=I.cell x c hc
 rw [z,e] at e';cases e';rw [d] at d';cases d'
theorem Rec.frs (I:Inv X pins σ H s) {b:Addr} (r:Rec X pins H s.heap b):b∉frs X.stack:=fun z=>by
 obtain⟨o,vs,e,d⟩:=r.ob
 obtain⟨_,o',e',d'⟩:=I.stack.mem z
 rw [e] at e';cases e';exact d' vs d
theorem Inv.marks {ch:List Addr} {t':Nat} (I:Inv X pins σ H s) (hch:∀b∈ch,Rec X pins H s.heap b)
  (k1:∀b o,b∉frs X.stack->b∉ch->s.heap.get? b=some o->h'.get? b=some o)
  (k2:∀b o,b∉ch->s.heap.get? b=some o->∃sl,h'.get? b=some {o with slots:=sl}):Inv X pins σ H {s with heap:=h',toks:=t'}:=by
 have sub:∀b,b≠X.env.locals->b∉X.fs->b∉frs X.stack:=fun b h1 h2 z=>(zK.mp (I.stkSub b z)).elim h1 h2
 have neL:∀b o,X.s₀.heap.get? b=some o->b≠X.env.locals:=fun b o e=>Nat.ne_of_lt (Nat.lt_of_lt_of_le (Heap.lt_size e) I.ok.above)
 have neC:∀b o,X.s₀.heap.get? b=some o->b∉ch:=fun b o e z=>by rw [(hch b z).nw] at e;cases e
 have cel:∀x c,X.env.cells.lookup x=some c->∀v,s.heap.IsCell c v->h'.IsCell c v:=fun x c e v ⟨o,ho,hd⟩=>by
  obtain⟨sl,q⟩:=k2 c o (fun z=>(hch c z).cel I x c e rfl) ho
  exact⟨_,q,hd⟩
 refine⟨I.ok,I.os,I.bare,⟨fun b o e n hb hx=>k1 b o (sub b (neL b o e) hb) (neC b o e) (I.base.keep b o e n hb hx),fun b o e n hb hx=>?_,I.base.free,fun b o e hx=>?_,I.base.tups,I.base.frzs,I.base.tbls⟩,
  ?_,fun x c e=>?_,I.free,I.freeC,fun p hp=>?_,fun a o e=>?_,I.len⟩
 .obtain⟨sl,e1⟩:=I.base.slot b o e n hb hx
  obtain⟨sl',e2⟩:=k2 b _ (neC b o e) e1
  exact⟨sl',e2⟩
 .obtain⟨o',e1⟩:=I.base.there b o e hx
  obtain⟨sl',e2⟩:=k2 b _ (neC b o e) e1
  exact⟨_,e2⟩
 .obtain⟨m,hm,hl⟩:=I.loc
  have hm':h'.Ns X.env.locals m:=by
   obtain⟨o,es,ep,e,r⟩:=hm
   obtain⟨sl,q⟩:=k2 _ o (fun z=>(hch _ z).loc I rfl) e
   exact⟨_,es,ep,q,r⟩
  refine⟨m,hm',fun i x v e1 e2 e3=>?_⟩
  obtain⟨u,r,l⟩:=hl i x v e1 e2 e3
  refine⟨u,r,?_⟩
  rcases l with l|⟨k,c,e,z⟩
  .exact .inl l
  .exact .inr ⟨k,c,e,cel x c e _ z⟩
 .obtain⟨v,z⟩:=I.cell x c e
  exact⟨v,cel x c e v z⟩
 .obtain⟨e,n,ne,nf,d⟩:=I.pin p hp
  exact⟨k1 p.1 p.2 (sub p.1 ne nf) (fun z=>(hch p.1 z).pin p hp rfl) e,n,ne,nf,d⟩
 .refine(I.hok a o e).stay (fun b u hb q=>k1 b u ?_ ?_ q) (fun _ q=>q) fun _ _ q=>q
  .intro z
   have n:=I.stkFree b z
   rcases hb with rfl|hb
   .rw [n] at e;cases e
   .rw [n] at hb;cases hb
  .intro z
   have n:=(hch b z).un
   rcases hb with rfl|hb
   .rw [n] at e;cases e
   .rw [n] at hb;cases hb
theorem obj_there {P:Program} {w:World} {H:Hp} {h:Heap} {a:Addr} {o:HO} (x:qbh P w H h a o):∃ob,h.get? a=some ob:=by
 cases o with
 |lst xs=>obtain⟨_,_,_,_,e⟩:=x;exact⟨_,e⟩
 |tup xs=>obtain⟨_,_,_,ob,e,_⟩:=x;exact⟨_,e⟩
 |dK kvs=>obtain⟨_,_,_,_,o,_,_,e,_⟩:=x;exact⟨_,e⟩
 |dT kvs=>obtain⟨_,_,_,_,o,_,_,e,_⟩:=x;exact⟨_,e⟩
 |set S n=>obtain⟨o,_,_,_,e,_⟩:=x;exact⟨_,e⟩
 |ins C dx fs=>obtain⟨_,_,_,e,_⟩:=x;exact⟨_,e⟩
 |own y=>exact x
 |xd fs=>obtain⟨_,⟨_,_,_,e,_⟩,_⟩:=x;exact⟨_,e⟩
 |rng lo hi=>obtain⟨_,_,_,e⟩:=x;exact⟨_,e⟩
 |frz ob u=>obtain⟨e,_⟩:=x;exact⟨_,e⟩
 |tbl ps=>exact⟨_,(show h.get? a=some _ from x)⟩
 |met f y=>exact⟨_,(show h.get? a=some _ from x)⟩
 |ext φ=>obtain⟨_,e,_⟩:=x;exact e
theorem un_of {P:Program} {w:World} {H:Hp} {h:Heap} {a:Addr} (x:HOk P w H h) (e:h.get? a=none):H a=none:=by
 cases q:H a with
 |none=>rfl
 |some o=>obtain⟨ob,z⟩:=obj_there (x a o q);rw [e] at z;cases z
theorem new_of (I:Inv X pins σ H s) (hex:X.ex=[]) {b:Addr} (e:s.heap.get? b=none):X.s₀.heap.get? b=none:=by
 cases q:X.s₀.heap.get? b with
 |none=>rfl
 |some o=>obtain⟨o',z⟩:=I.base.there b o q (by rw [hex];simp);rw [e] at z;cases z
def XNew (h:Heap) (e:Addr) (C:Value) (d:Option Addr):Prop:=
 ∃oe vs,h.get? e=some oe/\oe.cls=C/\oe.dict=d/\oe.data=.fields vs/\vs[1]?=some .none
def XTr (h:Heap) (e:Addr) (C:Value) (d:Option Addr) (fl:Value) (T:Addr):Prop:=
 ∃oe vs oT ts,h.get? e=some oe/\oe.cls=C/\oe.dict=d/\oe.data=.fields vs/\vs[1]?=some (.ref T)/\T≠e/\h.get? T=some oT/\oT.data=.fields ts/\ts[3]?=some fl
def XIn (X:Cx) (pins:List (Addr × Obj)) (H:Hp) (h:Heap) (e:Addr) (C:Value) (d:Option Addr):Prop:=
 Rec X pins H h e/\(XNew h e C d\/∃T,Rec X pins H h T/\∃fl,XTr h e C d fl T)
def qec (X:Cx) (pins:List (Addr × Obj)) (H:Hp) (h:Heap) (e:Addr) (C:Value) (d:Option Addr) (fl:Value):Prop:=
 Rec X pins H h e/\∃T,Rec X pins H h T/\XTr h e C d fl T
theorem dict_mapF (f:Array Value->Array Value) (o:Obj):(o.mapFields f).dict=o.dict:=by
 obtain⟨c,d,dt,sl⟩:=o
 cases dt <;> rfl
theorem entry_x {M:Model} {A:Around} {E:Value->Shared->Prop} {e:Addr} {C:Value} {d:Option Addr} {head:Value} {hadNext:Bool} {Q:Unit->Shared->Prop}
  (I:Inv X pins σ H s) (hA:A.frames=some X.stack) (hst:X.stack=X.env :: X.outer) (hf:X.env.frame=some X.env.locals) (r:Rec X pins H s.heap e)
  (ho:∃oe vs,s.heap.get? e=some oe/\oe.cls=C/\oe.dict=d/\oe.data=.fields vs/\1 < vs.size)
  (h:∀s',Inv X pins σ H s'->qec X pins H s'.heap e C d (rawInt X.env.locals)->Q () s'):
  wpAny M A (do let a<-frameOf X.env;let pl<-entryPlaceOf X.env.locals hadNext;let b<-EntryCells.newEntry head a .none (rawInt X.env.locals) .none pl;setField (.ref e) 1 b) Q E s:=by
 obtain⟨oe,vs,he,hc,hdd,hd,hsz⟩:=ho
 have hl:=I.stack
 rw [hst] at hl hA
 have ne:e∉L2.frs X.stack:=r.frs I
 refine wpAny_bind (wpAny_frameOf_fun hA hl hf fun h₁ hs₁=>wpAny_bind (wpAny_entryPlaceOf fun pl hpl=>?_))
 unfold EntryCells.newEntry newFields
 refine wpAny_bind (wpAny_newObj_type ?_ (hpl.sizeOk5 _ _ _ _ _))
 rw [<-hst] at hs₁
 have he1:h₁.get? e=some oe:=(hs₁.2.1 e ne).trans he
 generalize hN:({cls:=.type "traceback",dict:=none,data:=.fields ([head,.ref X.env.locals,.none,rawInt X.env.locals,.none]++(if pl.isEmpty then List.replicate 6 Value.none else pl)).toArray}:Obj)=N
 have he2:(h₁.push N).get? e=some oe:=Heap.get?_push_of_some _ he1
 refine wpAny_setField he2 hd hsz (h _ ?_ ?_)
 .refine Inv.marks (s:=s) (ch:=[e]) (t':=s.toks) I (fun b hb=>by rw [zG.mp hb];exact r) (fun b o h1 h2 q=>?_) fun b o h2 q=>?_
  .have hb:b≠e:=fun z=>h2 (by simp [z])
   rw [Heap.get?_update_other _ _ (Ne.symm hb)]
   exact Heap.get?_push_of_some _ ((hs₁.2.1 b h1).trans q)
  .have hb:b≠e:=fun z=>h2 (by simp [z])
   obtain⟨sl,q1⟩:=hs₁.2.2 b o q
   exact⟨sl,by rw [Heap.get?_update_other _ _ (Ne.symm hb)];exact Heap.get?_push_of_some _ q1⟩
 .have sz1:h₁.objs.size=s.heap.objs.size:=hs₁.1
  have hTe:h₁.objs.size≠e:=Nat.ne_of_gt (Heap.lt_size he1)
  have d3:=Obj.data_mapFields hd (·.setIfInBounds 1 (Value.ref h₁.objs.size))
  have e3:=Heap.get?_update_self (Obj.mapFields (·.setIfInBounds 1 (Value.ref h₁.objs.size))) he2 (Obj.isFreed_of_fields d3)
  have nf:N.isFreed=false:=by rw [<-hN];rfl
  have t3:=(Heap.get?_update_other (h₁.push N) (Obj.mapFields (·.setIfInBounds 1 (Value.ref h₁.objs.size))) (Ne.symm hTe)).trans (Heap.get?_push_size h₁ nf)
  have rT:Rec X pins H ((h₁.push N).update e (Obj.mapFields (·.setIfInBounds 1 (Value.ref h₁.objs.size)))) h₁.objs.size:=by
   refine⟨Heap.get?_none_of_le (by rw [sz1];exact I.sz),I.hok.fresh (by rw [sz1];exact Nat.le_refl _),fun p hp z=>?_,⟨N,_,t3,by rw [<-hN]⟩⟩
   obtain⟨q,_⟩:=I.pin p hp
   have w:=Heap.lt_size q
   rw [z,sz1] at w
   exact absurd w (Nat.lt_irrefl _)
  refine⟨⟨r.nw,r.un,r.pin,⟨_,_,e3,d3⟩⟩,h₁.objs.size,rT,_,_,N,_,e3,(Obj.cls_mapFields _ _).trans hc,?_,d3,by simp [hsz],hTe,t3,by rw [<-hN],?_⟩
  .rw [<-hdd];exact dict_mapF _ _
  .first|(simp;done) |(rcases hpl with rfl|⟨_,_,_,_,_,_,_,rfl⟩ <;> simp)
theorem note_x {M:Model} {A:Around} {E:Value->Shared->Prop} {e:Addr} {C:Value} {d:Option Addr} {Q:Unit->Shared->Prop}
  (I:Inv X pins σ H s) (hA:A.frames=some X.stack) (hst:X.stack=X.env :: X.outer) (hf:X.env.frame=some X.env.locals) (x:XIn X pins H s.heap e C d)
  (h:∀s',Inv X pins σ H s'->qec X pins H s'.heap e C d (rawInt X.env.locals)->Q () s'):wpAny M A (noteFrame (.ref e) X.env) Q E s:=by
 obtain⟨r,x⟩:=x
 unfold noteFrame
 simp only [hf]
 rcases x with ⟨oe,vs,he,hc,hdd,hd,h1⟩ |⟨T,rT,fl,oe,vs,oT,ts,he,hc,hdd,hd,h1,hTe,hT,hdT,h3⟩
 .refine wpAny_bind (wpAny_field he hd h1 ?_)
  rw [if_neg (by decide)]
  exact entry_x I hA hst hf r ⟨oe,vs,he,hc,hdd,hd,(Array.getElem?_eq_some_iff.mp h1).1⟩ h
 .refine wpAny_bind (wpAny_field he hd h1 ?_)
  rw [if_pos (show (Value.ref T !=Value.none)=true from by simp)]
  refine wpAny_bind (wpAny_field hT hdT h3 ?_)
  by_cases qf:(fl==rawInt X.env.locals)=true
  .rw [if_pos qf]
   have ef:fl=rawInt X.env.locals:=eq_of_beq qf
   rw [ef] at h3
   exact wpAny_pure (h s I ⟨r,T,rT,oe,vs,oT,ts,he,hc,hdd,hd,h1,hTe,hT,hdT,h3⟩)
  .rw [if_neg qf]
   refine wpAny_bind (wpAny_setField hT hdT (Array.getElem?_eq_some_iff.mp h3).1 ?_)
   have oth:∀b,b≠T->(s.heap.update T (Obj.mapFields (·.setIfInBounds 3 Value.none))).get? b=s.heap.get? b:=fun b hb=>Heap.get?_update_other _ _ (Ne.symm hb)
   have J:Inv X pins σ H {s with heap:=s.heap.update T (Obj.mapFields (·.setIfInBounds 3 Value.none))}:=
    Inv.marks (s:=s) (ch:=[T]) (t':=s.toks) I (fun b hb=>by rw [zG.mp hb];exact rT) (fun b o _ h2 q=>(oth b fun z=>h2 (by simp [z])).trans q) fun b o h2 q=>⟨o.slots,(oth b fun z=>h2 (by simp [z])).trans q⟩
   have he':=(oth e (Ne.symm hTe)).trans he
   exact entry_x J hA hst hf ⟨r.nw,r.un,r.pin,⟨oe,vs,he',hd⟩⟩ ⟨oe,vs,he',hc,hdd,hd,(Array.getElem?_eq_some_iff.mp h1).1⟩ h
theorem flight_g (fr:Option Addr) {M:Model} {A:Around} {E:Value->Shared->Prop} {e:Addr} {C fl:Value} {d:Option Addr} {Q:Unit->Shared->Prop}
  (I:Inv X pins σ H s) (x:qec X pins H s.heap e C d fl)
  (h:∀s',Inv X pins σ H s'->qec X pins H s'.heap e C d (fr.elim Value.none fun f=>rawInt f)->Q () s'):wpAny M A (setFlight (.ref e) fr) Q E s:=by
 obtain⟨r,T,rT,oe,vs,oT,ts,he,hc,hdd,hd,h1,hTe,hT,hdT,h3⟩:=x
 have hsz:=(Array.getElem?_eq_some_iff.mp h3).1
 unfold setFlight
 refine wpAny_bind (wpAny_field he hd h1 ?_)
 rw [if_pos (show (Value.ref T !=Value.none)=true from by simp)]
 refine wpAny_setField hT hdT hsz (h _ ?_ ?_)
 all_goals have oth:∀b,b≠T->(s.heap.update T (Obj.mapFields (·.setIfInBounds 3 (fr.elim Value.none fun f=>rawInt f)))).get? b=s.heap.get? b:=fun b hb=>Heap.get?_update_other _ _ (Ne.symm hb)
 .exact Inv.marks (s:=s) (ch:=[T]) (t':=s.toks) I (fun b hb=>by rw [zG.mp hb];exact rT) (fun b o _ h2 q=>(oth b fun z=>h2 (by simp [z])).trans q) fun b o h2 q=>⟨o.slots,(oth b fun z=>h2 (by simp [z])).trans q⟩
 .have he':=(oth e (Ne.symm hTe)).trans he
  have d3:=Obj.data_mapFields hdT (·.setIfInBounds 3 (fr.elim Value.none fun f=>rawInt f))
  have hT':=Heap.get?_update_self (Obj.mapFields (·.setIfInBounds 3 (fr.elim Value.none fun f=>rawInt f))) hT (Obj.isFreed_of_fields d3)
  exact⟨⟨r.nw,r.un,r.pin,⟨oe,vs,he',hd⟩⟩,T,⟨rT.nw,rT.un,rT.pin,⟨_,_,hT',d3⟩⟩,oe,vs,_,_,he',hc,hdd,hd,h1,hTe,hT',d3,by simp [hsz]⟩
theorem qg0 {M:Model} {A:Around} {E:Value->Shared->Prop} {e:Addr} {C fl:Value} {d:Option Addr} {Q:Unit->Shared->Prop}
  (I:Inv X pins σ H s) (x:qec X pins H s.heap e C d fl)
  (h:∀s',Inv X pins σ H s'->qec X pins H s'.heap e C d .none->Q () s'):wpAny M A (setFlight (.ref e) none) Q E s:=flight_g none I x h
theorem qec.xin {h:Heap} {e:Addr} {C fl:Value} {d:Option Addr} (x:qec X pins H h e C d fl):XIn X pins H h e C d:=
 let ⟨r,T,rT,q⟩:=x
 ⟨r,.inr ⟨T,rT,_,q⟩⟩
theorem qec.xinL {h:Heap} {e:Addr} {C:Value} {d:Option Addr} (x:qec X pins H h e C d (rawInt X.env.locals)):XIn X pins H h e C d:=x.xin
def CX1 (P:Program) (w:World):CXT:=fun outer H s E e s'=>∃(a:Addr) (C:Value) (d:Option Addr) (H':Hp),e=.ref a/\s'.os=s.os/\AllBare s'.gens/\Un (L2.frs outer) [] H H' s.heap s'.heap/\HOk P w H' s'.heap/\
 s.heap.get? a=none/\H' a=none/\(∃T,s.heap.get? T=none/\H' T=none/\XTr s'.heap a C d .none T)/\E C d H'
def Xes (X:Cx) (W:L2.St->XK):Prop:=∀(pins:List (Addr × Obj)) (σ:L2.St) (H:Hp) (s:Shared) (a:Addr) (C:Value) (d:Option Addr),Inv X pins σ H s->XIn X pins H s.heap a C d->W σ C d H->X.xe (.ref a) s
theorem xes_call {W:L2.St->XK} (h:Xes X W) (hex:X.ex=[]) {e:Value} {s':Shared} (I:Inv X pins σ H s) (q:CX1 X.prog X.w X.stack H s (W σ) e s'):X.xe e s':=by
 obtain⟨a,C,d,H',rfl,os,bare,un,hok,la,na,⟨T,lT,nT,x⟩,w⟩:=q
 have J:Inv X pins σ H' s':=I.call' (ch:=[]) os un hok bare (fun b z=>absurd z (by simp))
 have pn:∀b,s.heap.get? b=none->∀p∈X.pn++pins,p.1≠b:=fun b lb p hp z=>by
  have w:=(I.pin p hp).1
  rw [z,lb] at w
  cases w
 obtain⟨oe,vs,oT,ts,he,hc,hdd,hd,h1,hTe,hT,hdT,h3⟩:=id x
 exact h pins σ H' s' a C d J ⟨⟨new_of I hex la,na,pn a la,⟨oe,vs,he,hd⟩⟩,.inr ⟨T,⟨new_of I hex lT,nT,pn T lT,⟨oT,ts,hT,hdT⟩⟩,_,x⟩⟩ w
end
section
variable {X: Cx} {pins: List (Addr × Obj)} {σ: L2.St} {H: Hp} {s: Shared} {W: L2.St -> XK}
def XSt (X:Cx) (W:L2.St->XK) (e:Value) (s:Shared):Prop:=∃(a:Addr) (C:Value) (d:Option Addr) (σ:L2.St) (H:Hp),e=.ref a/\Inv X [] σ H s/\XIn X [] H s.heap a C d/\W σ C d H
abbrev xw (X:Cx) (W:L2.St->XK):Cx:=X.wish (XSt X W)
theorem Rec.less {h:Heap} {b:Addr} (r:Rec X pins H h b):Rec X [] H h b:=⟨r.nw,r.un,fun p hp=>r.pin p (by rw [zZ] at hp;exact yH _ hp),r.ob⟩
theorem XIn.less {h:Heap} {a:Addr} {C:Value} {d:Option Addr} (x:XIn X pins H h a C d):XIn X [] H h a C d:=by
 obtain⟨r,x⟩:=x
 rcases x with x|⟨T,rT,x⟩
 .exact⟨r.less,.inl x⟩
 .exact⟨r.less,.inr ⟨T,rT.less,x⟩⟩
theorem Rec.unwish {E:Value->Shared->Prop} {h:Heap} {b:Addr} (r:Rec (X.wish E) pins H h b):Rec X pins H h b:=⟨r.nw,r.un,r.pin,r.ob⟩
theorem XIn.unwish {E:Value->Shared->Prop} {h:Heap} {a:Addr} {C:Value} {d:Option Addr} (x:XIn (X.wish E) pins H h a C d):XIn X pins H h a C d:=by
 obtain⟨r,x⟩:=x
 rcases x with x|⟨T,rT,x⟩
 .exact⟨r.unwish,.inl x⟩
 .exact⟨r.unwish,.inr ⟨T,rT.unwish,x⟩⟩
theorem qas:Xes (xw X W) W:=fun pins σ H s a C d I x w=>⟨a,C,d,σ,H,rfl,I.unwish.pins_of (fun _ z=>nomatch z),x.unwish.less,w⟩
theorem qdp (hst:X.stack=X.env :: X.outer) (hf:X.env.frame=some X.env.locals):PassesOwn (model X.prog X.w) X.A X.env (XSt X W):=by
 rintro e s' ⟨a,C,d,σ,H,rfl,I,x,w⟩
 show wpAny _ _ (noteFrame (.ref a) X.env) _ _ s'
 refine note_x I I.ok.frames hst hf x fun s2 I2 x2=>?_
 obtain⟨r,T,rT,oe,vs,oT,ts,he,hc,hdd,hd,h1,r2⟩:=id x2
 unfold cameBackBy
 refine wpAny_bind (wpAny_field he hd h1 ?_)
 have fin:wpAny (model X.prog X.w) X.A (setFlight (.ref a) X.env.frame) (fun _ s''=>XSt X W (.ref a) s'') (XSt X W) s2:=by
  rw [hf]
  exact flight_g (some X.env.locals) I2 x2 fun s3 I3 x3=>⟨a,C,d,σ,H,rfl,I3,qec.xinL x3,w⟩
 first
  |(rw [if_neg (show ¬((Value.ref T==Value.none)=true) from by simp)];exact fin)
  |(rw [if_neg (show ¬((Value.ref T==Value.none)=true) from by simp)];exact wpAny_bind (wpAny_pure fin))
  |(refine wpAny_bind ?_;rw [if_neg (show ¬((Value.ref T==Value.none)=true) from by simp)];exact wpAny_pure fin)
theorem PSs.xes {st:List Stmt} {t:TS} (hx:Xes X W) (h:PSs (xw X W) st t):PSs X st t:=fun pins s σ H D I hw=>
 wpAny_mono (h pins s σ H D (I.wish _) hw) (fun _ _ q=>q.unwish) fun _ _ ⟨a,C,d,σ',H',e,I',x,w⟩=>by subst e;exact hx [] σ' H' _ a C d I' x w
end
section
variable {P: Program} {w: World} {K: Frag} {mg: Str -> Option Value} {base: Heap}
theorem xes_fn {N:List Str} {qual:Str} {scope:Scope} {f:Addr} {cd:Value} {A:Around} {outer:List Env} {s:Shared} {H:Hp} {E:XK}:
  Xes (cxOf (CX1 P w) P w K mg base N qual scope f cd A outer s H E) (fun _=>E):=by
 intro pins σ H1 s1 a C d I x wE
 show wpAny _ _ (leaving _ _) _ _ s1
 unfold leaving
 refine wpAny_bind (note_x I I.ok.frames rfl rfl x fun s2 I2 x2=>qg0 I2 x2 fun s3 I3 x3=>?_)
 obtain⟨r,T,rT,xt⟩:=x3
 exact⟨a,C,d,H1,rfl,I3.os,I3.bare,I3.base,I3.hok,r.nw,r.un,⟨T,rT.nw,rT.un,xt⟩,wE⟩
theorem okX {x qual:Str} {st:Stmt} {f:Addr} {fd:FuncData} {N ps:List Str} {k:Nat} {sp:Sp} (F:Fun K x qual st f fd) (S:FnScope N ps (qa8 st)) (len:∀vs H Q E,sp vs H Q E->vs.length=ps.length)
  (hbody:∀(cdv:Value) (A:Around) (outer:List Env) (s:Shared) (H:Hp) (vs:List V) (Q:VK) (E:XK),Room k (A.deeper (envOfC qual (qa8 st) s.heap.objs.size f cdv))->sp vs H Q E->
   ∃t,PSs (xw (cxOf (CX1 P w) P w K mg base N qual (qa8 st) f cdv A outer s H E) (fun _=>E)) (qbx st) t/\t {nx:=fun _ H'=>Q .non H',rt:=Q} (qeb N vs) H):FnOk P w K mg base (CX1 P w) (k+1) f fd ps sp:=by
 obtain⟨oc,od,kV,doc,pm,an,cdv,ct,osl,rfl,lk,hcd⟩:=F.ex
 refine fn_of lk hcd S len fun A outer s H vs Q E hr hsp=>?_
 obtain⟨t,ht,q⟩:=hbody cdv A outer s H vs Q E hr hsp
 exact⟨t,PSs.xes xes_fn ht,q⟩
end
section
variable {X: Cx} {k: Nat} {f: Addr} {fd: FuncData} {ps: List Str} {sp: Sp} {dvs: List V} {ds: List Value} {W: L2.St -> XK} {x: Str} {p pos: Pos} {e: Expr} {es: List Expr} {t: TA}
def tCallX (sp:Sp) (dvs:List V) (W:L2.St->XK) (t:TA):TE:=fun σ H Q=>t σ H fun vs H1=>sp (vs++dvs) H1 Q (W σ)
theorem run_fnX {pins:List (Addr × Obj)} {σ:L2.St} {H:Hp} {s:Shared} {Q:VK} {us:List Value} {vs:List V} (F:FnOk X.prog X.w X.K X.mg X.base (CX1 X.prog X.w) k f fd ps sp) (hr:Room k X.A) (hb:qam X.K fd ps ds) (hd:qbd dvs ds) (hx:Xes X W) (hex:X.ex=[])
  (I:Inv X pins σ H s) (r:qbd vs us) (h:sp (vs++dvs) H Q (W σ)):wpAny (model X.prog X.w) X.A (call (.ref f) us) (EP X pins σ Q) X.xe s:=by
 have r2:qbd (vs++dvs) (us++ds):=r.append hd
 have hl:(us++ds).length=ps.length:=by rw [<-r2.length];exact F.len _ _ _ _ h
 refine wpAny_call (codeAny_mono (F.run X.A X.stack s H ⟨us, []⟩ (us++ds) (vs++dvs) Q (W σ) hr I.env0 (hb s us I.kIn hl) r2 h) fun r s' hq=>?_)
 match r,hq with
 | .error e,hq=>exact xes_call hx hex I hq
 | .ok (.ret u),hq=>exact I.after hq
 | .ok .next,hq=>exact False.elim hq
 | .ok .brk,hq=>exact False.elim hq
 | .ok .cont,hq=>exact False.elim hq
theorem qbb (F:FnOk X.prog X.w X.K X.mg X.base (CX1 X.prog X.w) k f fd ps sp) (hr:Room k X.A) (hg:Gl X x) (hm:X.mg x=some (.ref f)) (hk:keepIn X.K (.ref f)=true) (hb:qam X.K fd ps ds) (hd:qbd dvs ds) (hx:Xes X W)
  (ha:PA X (e :: es) t) (hex:X.ex=[]:=by rfl) (hdb:(x==("__debug__" :Str))=false:=by decide) (he:starEach (e :: es) X.env=(false,eval e X.env) :: starEach es X.env:=by rfl) (hpl:(backTo pos (starEach es X.env)).any (·.1)=false:=by rfl):
  PE X (.Call (.Name x p) (e :: es) [] pos) (tCallX sp dvs W t):=by
 intro pins s σ H Q I h
 refine wpAny_Call_Name_kw (qdc I hg hm ?_ hdb)
 refine PySem.W.callWith_K (h₀:=X.base) I.ok.mod.kin hk (thn (ha pos pins s σ H _ I h) fun us s1 ⟨vs,H1,I1,r,q⟩=>⟨I1.kIn,?_⟩) he hpl
 exact run_fnX F hr hb hd hx hex I1 r q
end
structure XCls (K:Frag) (C:Addr):Prop where
 ob:∃(nm q:Str) (N:Addr) (bs bm:List Value) (hdct:Bool) (sn:List Str) (sub:List Value) (ab:Bool) (col:Option Bool) (dd:Option Addr) (k0 k1 k2 k3 k5:Option Value) (mN:Str->Option Value),
  K.lookup C=some (excClassObj nm q C N bs bm hdct sn sub ab col dd k0 k1 k2 k3 k5 "ValueError.__new__")/\(∀h:Heap,K.In h->h.Ns N mN)/\mN "__init__" =none/\
  ∀h:Heap,K.In h->OwnTail h [.type "ValueError",.type "Exception",.type "BaseException",.type "object"] bm
section
variable {X: Cx} {x: Str} {C: Addr} {W: L2.St -> XK} {np cpos pos: Pos} {e: Expr} {es: List Expr} {t: TA}
def tRaise (t:TA) (C:Addr) (W:L2.St->XK):TS:=fun _ σ H=>t σ H fun xs H1=>xs.length<=sizeLine/\W σ (.ref C) none H1
theorem qc2 (hc:X.calm=true) (M:XCls X.K C) (hg:Gl X x) (hm:X.mg x=some (.ref C)) (hx:Xes X W) (ha:PA X (e :: es) t) (hex:X.ex=[]:=by rfl) (hdb:(x==("__debug__" :Str))=false:=by decide)
  (he:starEach (e :: es) X.env=(false,eval e X.env) :: starEach es X.env:=by rfl) (hpl:(backTo cpos (starEach es X.env)).any (·.1)=false:=by rfl):
  PS X (.Raise (some (.Call (.Name x np) (e :: es) [] cpos)) none pos) (tRaise t C W):=by
 intro pins s σ H D I h
 obtain⟨nm,q,N,bs,bm,hdct,sn,sub,ab,col,dd,k0,k1,k2,k3,k5,mN,hC,hN,hni,T⟩:=M.ob
 refine wpAny_Raise_call_subU (C:=C) (nm:=nm) (q:=q) (N:=N) (bs:=bs) (bm:=bm) (hdct:=hdct) (sn:=sn) (sub:=sub) (ab:=ab) (col:=col) (dd:=dd) (k0:=k0) (k1:=k1) (k2:=k2) (k3:=k3) (k5:=k5)
  PySem.F.excBase_ValueError (by decide) PySem.F.excBase_ValueError (mN:=mN) ((T _ I.kIn).hasType PySem.F.excBase_ValueError.hasBase) (I.ok.hd hc) ?_ hni ?_
 .rw [he];show (false ||(backTo cpos (starEach es X.env)).any (·.1))=false;rw [hpl];rfl
 .refine qdc I hg hm ⟨rfl,?_⟩ hdb
  have z:=ha cpos pins s σ H _ I h
  rw [he] at z ⊢
  refine Calls.evalArgs_plain (wpAny_mono z (fun us s2 ⟨vs,H2,I2,r,hl,q⟩=>⟨rfl,by rw [<-r.length];exact hl,I2.kIn _ _ hC,hN _ I2.kIn,T _ I2.kIn,fun h' a m=>?_⟩) fun _ _ y=>y)
  obtain⟨tp,ea,_,_⟩:=m.there
  have J:Inv X pins σ H2 {s2 with heap:=h'}:=I2.kept (t':=s2.toks) m.keeps
  refine hx pins σ H2 _ a (.ref C) none J ⟨⟨new_of I2 hex m.new,un_of I2.hok m.new,fun p hp y=>?_,⟨_,_,ea,rfl⟩⟩,.inl ⟨_,_,ea,rfl,rfl,rfl,rfl⟩⟩ q
  have w:=(I2.pin p hp).1
  rw [y,m.new] at w
  cases w
end
section
variable {X: Cx} {pins: List (Addr × Obj)} {σ: L2.St} {H: Hp} {s: Shared}
abbrev pnd (X:Cx) (pins:List (Addr × Obj)):Cx:={X with pn:=X.pn++pins}
theorem Inv.pnd (I:Inv X pins σ H s):Inv (pnd X pins) [] σ H s:=
 ⟨⟨I.ok.mod,I.ok.kind,I.ok.glob,I.ok.blt,I.ok.above,I.ok.inj,I.ok.has,I.ok.cab,I.ok.hd,I.ok.frames,I.ok.stk,I.ok.exf,I.ok.bs,I.ok.bsz,I.ok.noex,I.ok.exfs,I.ok.funs,I.ok.frf⟩,I.os,I.bare,I.base,I.loc,I.cell,I.free,I.freeC,fun p hp=>I.pin p (by rw [zZ] at hp;exact hp),I.hok,I.len⟩
theorem Inv.unpnd {pins':List (Addr × Obj)} (I:Inv (My.pnd X pins) pins' σ H s):Inv X pins σ H s:=
 ⟨⟨I.ok.mod,I.ok.kind,I.ok.glob,I.ok.blt,I.ok.above,I.ok.inj,I.ok.has,I.ok.cab,I.ok.hd,I.ok.frames,I.ok.stk,I.ok.exf,I.ok.bs,I.ok.bsz,I.ok.noex,I.ok.exfs,I.ok.funs,I.ok.frf⟩,I.os,I.bare,I.base,I.loc,I.cell,I.free,I.freeC,fun p hp=>I.pin p (yH _ hp),I.hok,I.len⟩
theorem Rec.unpnd {h:Heap} {b:Addr} (r:Rec (My.pnd X pins) [] H h b):Rec X pins H h b:=⟨r.nw,r.un,fun p hp=>r.pin p (by rw [zZ];exact hp),r.ob⟩
theorem XIn.unpnd {h:Heap} {a:Addr} {C:Value} {d:Option Addr} (x:XIn (My.pnd X pins) [] H h a C d):XIn X pins H h a C d:=by
 obtain⟨r,x⟩:=x
 rcases x with x|⟨T,rT,x⟩
 .exact⟨r.unpnd,.inl x⟩
 .exact⟨r.unpnd,.inr ⟨T,rT.unpnd,x⟩⟩
abbrev suite (X:Cx) (a:Addr):Cx:={X with A:=X.A.mark (some (.ref a)),calm:=false,xe:=fun _ _=>False}
theorem Inv.suite (I:Inv X pins σ H s) (a:Addr):Inv (suite X a) pins σ H s:=
 ⟨⟨I.ok.mod,I.ok.kind,I.ok.glob,I.ok.blt,I.ok.above,I.ok.inj,I.ok.has,I.ok.cab,fun z=>(Bool.false_ne_true z).elim,I.ok.frames,I.ok.stk,I.ok.exf,I.ok.bs,I.ok.bsz,I.ok.noex,I.ok.exfs,I.ok.funs,I.ok.frf⟩,I.os,I.bare,I.base,I.loc,I.cell,I.free,I.freeC,I.pin,I.hok,I.len⟩
theorem Inv.unsuite {a:Addr} (I:Inv (My.suite X a) pins σ H s) (ok:X.Ok):Inv X pins σ H s:=
 ⟨ok,I.os,I.bare,I.base,I.loc,I.cell,I.free,I.freeC,I.pin,I.hok,I.len⟩
theorem SP.unsuite {a:Addr} {D:Ends} {f:Flow} {s':Shared} (ok:X.Ok) (h:SP (My.suite X a) pins D f s'):SP X pins D f s':=by
 cases f with
 |next=>obtain⟨σ',H',I,q⟩:=h;exact⟨σ',H',Inv.unsuite I ok,q⟩
 |brk=>obtain⟨σ',H',I,q⟩:=h;exact⟨σ',H',Inv.unsuite I ok,q⟩
 |cont=>obtain⟨σ',H',I,q⟩:=h;exact⟨σ',H',Inv.unsuite I ok,q⟩
 |ret u=>obtain⟨v,σ',H',I,r,q⟩:=h;exact⟨v,σ',H',Inv.unsuite I ok,r,q⟩
def XO (a:Addr) (C:Value) (d:Option Addr):HO:=.ext fun h=>∃(oe:Obj) (vs:Array Value),h.get? a=some oe/\oe.cls=C/\oe.dict=d/\oe.data=.fields vs
end
section
variable {X: Cx}
def tCut (t:TS):TS:=fun D σ H=>∃J:L2.St->Hp->Prop,t {D with nx:=J} σ H/\∀σ' H',J σ' H'->D.nx σ' H'
theorem qd5 {st:Stmt} {t:TS} (h:PS X st t):PS X st (tCut t):=by
 intro pins s σ H D I ⟨J,hw,k⟩
 refine wpAny_mono (h pins s σ H _ I hw) (fun f s' q=>?_) fun _ _ z=>z
 cases f with
 |next=>obtain⟨σ',H',I',z⟩:=q;exact⟨σ',H',I',k _ _ z⟩
 |brk=>exact q
 |cont=>exact q
 |ret u=>exact q
end
section
variable {X: Cx}
def PH (X:Cx) (hs:List ExceptHandler) (th:Ends->L2.St->XK):Prop:=
 ∀(pins:List (Addr × Obj)) (s:Shared) (σ:L2.St) (H:Hp) (D:Ends) (a:Addr) (C:Value) (d:Option Addr),Inv X pins σ H s->qec X pins H s.heap a C d .none->th D σ C d H->
  wpAny (model X.prog X.w) X.A (handleBy (.ref a) X.env hs) (SP X pins D) X.xe s
def tTry (tb:List (Addr × Obj)->Ends->TS) (to:TS):TS:=fun D σ H=>∀pins,tb pins D {D with nx:=to D} σ H
theorem ps_try {body orelse:List Stmt} {h₀:ExceptHandler} {hs:List ExceptHandler} {pos:Pos} {tb:List (Addr × Obj)->Ends->TS} {th:Ends->L2.St->XK} {to:TS} (hst:X.stack=X.env :: X.outer) (hf:X.env.frame=some X.env.locals)
  (hb:∀(pins:List (Addr × Obj)) (D:Ends),PSs (xw (pnd X pins) (th D)) body (tb pins D)) (hh:PH X (h₀ :: hs) th) (ho:PSs X orelse to):PS X (.Try body (h₀ :: hs) orelse [] pos) (tTry tb to):=by
 intro pins s σ H D I h
 refine wpAny_Try_except (wpAny_mono (hb pins D [] s σ H {D with nx:=to D} ((Inv.pnd I).wish _) (h pins)) (fun f s1 q=>?_) fun e s1 q=>?_)
 .cases f with
  |next=>obtain⟨σ',H',J,z⟩:=q;exact ho pins s1 σ' H' D (Inv.unpnd J.unwish) z
  |brk=>obtain⟨σ',H',J,z⟩:=q;exact⟨σ',H',Inv.unpnd J.unwish,z⟩
  |cont=>obtain⟨σ',H',J,z⟩:=q;exact⟨σ',H',Inv.unpnd J.unwish,z⟩
  |ret u=>obtain⟨v,σ',H',J,r,z⟩:=q;exact⟨v,σ',H',Inv.unpnd J.unwish,r,z⟩
 .obtain⟨a,C,d,σ',H',rfl,J,x,w⟩:=q
  have J':Inv X pins σ' H' s1:=Inv.unpnd J
  exact note_x J' J'.ok.frames hst hf (XIn.unpnd x) fun s2 I2 x2=>qg0 I2 x2 fun s3 I3 x3=>hh pins s3 σ' H' D a C d I3 x3 w
theorem ph_none:PH X [] (fun _ _ _ _ _=>False):=fun _ _ _ _ _ _ _ _ _ _ w=>False.elim w
theorem matches_own {M:Model} {A:Around} {E:Value->Shared->Prop} {K:Frag} {s:Shared} {e:Addr} {oe:Obj} {C c:Addr} {b:Bool} {Q:Bool->Shared->Prop} (KX:K.In s.heap) (he:s.heap.get? e=some oe) (hcls:oe.cls=.ref C)
  (hC:kitCls K (.ref C) (.ref c)=some b) (hc:kitCls K (.ref c) (.type "BaseException")=some true) (hq:Q b s):wpAny M A (excMatches (.ref e) (.ref c)) Q E s:=by
 obtain⟨h,g,d,t,os⟩:=s
 obtain⟨L1,L2',L3⟩:=PySem.W.kit_cls (M:=M) KX hC
 obtain⟨_,_,L4⟩:=PySem.W.kit_cls (M:=M) KX hc
 have f:=tc_notTuple
 have LT:PySem.W.Looks M h (typeOf (.ref e)) (.ref C):=hcls ▸ (PySem.W.Looks.ld he).andThen .now
 have LI:PySem.W.Looks M h (isInstance (.ref c) (.type "tuple")) false:=L1.andThen (PySem.W.Looks.of_pure f)
 have LE:PySem.W.Looks M h (isExcClass (.ref c)) true:=L2'.andThen L4
 unfold excMatches
 refine wpAny_bind (LI.at ?_)
 simp only [Bool.false_eq_true,if_false]
 refine wpAny_bind (wpAny_pure ?_)
 refine wpAny_bind ?_
 rw [List.forIn_cons]
 refine wpAny_bind (wpAny_bind (LE.at ?_))
 simp only [Bool.not_true,Bool.false_eq_true,if_false]
 refine wpAny_pure ?_
 dsimp only
 rw [List.forIn_nil]
 refine wpAny_pure (wpAny_bind (LT.at (wpAny_bind ?_)))
 rw [List.forIn_cons]
 refine wpAny_bind (wpAny_bind (L3.at ?_))
 cases b with
 |true=>exact wpAny_pure (wpAny_pure (wpAny_pure hq))
 |false=>exact wpAny_pure (wpAny_pure (wpAny_pure hq))
def tCl (K:Frag) (c:Addr) (hit miss:Ends->L2.St->XK):Ends->L2.St->XK:=fun D σ C d H=>∃(C':Addr) (b:Bool),C=.ref C'/\kitCls K (.ref C') (.ref c)=some b/\if b=true then hit D σ C d H else miss D σ C d H
theorem ph_own {x:Str} {c:Addr} {np hpos:Pos} {b₀:Stmt} {body:List Stmt} {rest:List ExceptHandler} {ts:Addr->TS} {tr:Ends->L2.St->XK} (hc:kitCls X.K (.ref c) (.type "BaseException")=some true) (hg:Gl X x) (hm:X.mg x=some (.ref c))
  (hs:∀a,PSs (suite X a) (b₀ :: body) (ts a)) (hr:PH X rest tr) (hdb:(x==("__debug__" :Str))=false:=by decide):
  PH X (.ExceptHandler (some (.Name x np)) none (b₀ :: body) hpos :: rest) (tCl X.K c (fun D σ _ _ H=>∀a,H a=none->ts a D σ H) tr):=by
 intro pins s σ H D a C d I x h
 obtain⟨C',b,rfl,hb,h⟩:=h
 obtain⟨r,T,rT,oe,vs,oT,ts',he,hcl,r2⟩:=id x
 refine wpAny_handleBy_cons (codeAny_handlers_test ?_) (by intro q;cases q)
 refine qdc (X:=suite X a) (Inv.suite I a) hg hm ?_ hdb
 refine matches_own I.kIn he hcl hb hc ?_
 cases b with
 |false=>exact hr pins s σ H D a _ d I x h
 |true=>
  refine codeAny_handlers_suite (qg0 I x fun s2 I2 x2=>?_)
  exact wpAny_mono (hs a pins s2 σ H D (Inv.suite I2 a) (h a r.un)) (fun f s3 q=>SP.unsuite I.ok q) (fun _ _ z=>z.elim)
end
theorem qd0 {K:Frag} {C:Addr} (q:excIn K C [.type "ValueError",.type "Exception",.type "BaseException",.type "object"] "ValueError.__new__" =true):XCls K C:=by
 unfold excIn at q
 split at q
 .rename_i dd cd sl ho
  split at q
  .rename_i C' bm k0 k1 k2 k3 n k5 hm hs
   simp only [Bool.and_eq_true,beq_iff_eq,Bool.not_eq_true'] at q
   obtain⟨⟨⟨⟨⟨rfl,rfl⟩,hdel⟩,ht⟩,hok⟩,hni⟩:=q
   obtain⟨nm,bs,mro,ns,qn,hd,sn,sub,ab,col,del⟩:=cd
   dsimp only at hm hdel hok hni
   subst hm hdel
   have hsl:sl= #[k0,k1,k2,k3,some (.builtin "ValueError.__new__"),k5]:=by
    obtain⟨l⟩:=sl
    simp only at hs
    rw [hs]
   subst hsl
   unfold PySem.W.nsOkIn at hok
   split at hok
   .rename_i c1 d1 es ep sl1 hN
    have hSK:StrKeys es:=fun e he=>by
     have z:=Array.all_eq_true_iff_forall_mem.mp hok e he
     split at z
     .rename_i n t q;exact⟨n,t,q⟩
     .cases z
    have hNs:∀h:Heap,K.In h->h.Ns ns (fun x=>nsFind es x):=fun h X=>⟨_,es,ep,X _ _ hN,rfl,hSK,fun _=>rfl⟩
    refine⟨nm,qn,ns,bs,bm,hd,sn,sub,ab,col,dd,k0,k1,k2,k3,k5,fun x=>nsFind es x,ho,hNs,?_,fun h X=>PySem.W.tail_of_in X ht⟩
    unfold nsIn at hni
    rw [hN] at hni
    dsimp only at hni
    split at hni
    .cases hni
    .rename_i hf
     show nsFind es "__init__" =none
     unfold nsFind findBy
     rw [<-Array.find?_toList,hf]
     rfl
   .cases hok
  .cases q
 .cases q
def TyX (K:Frag) (H:Hp) (x:V) (t:Value) (b:Bool):Prop:=TyOf K H x t\/∃(a:Addr) (d:Option Addr),x=.ref a/\H a=some (XO a t d)/\b=true
def rIsi (K:Frag):List V->Hp->VK->Prop:=fun xs H Q=>∃(x c:V) (u t:Value) (b:Bool),xs=[x,c]/\qbe c u/\(∀u',qbe c u'->u'=u)/\TyX K H x t b/\kitOne K t u=some b/\Q (.bl b) H
theorem isi_yes {prog:Program} {w:World} {A:Around} {E:Value->Shared->Prop} {s:Shared} {Q:Value->Shared->Prop} {K:Frag} {a:Addr} {t c:Value} (KX:K.In s.heap) (hp:∃o,s.heap.get? a=some o/\o.cls=t) (e:kitOne K t c=some true)
  (h:Q (.bool true) s):wpAny (model prog w) A (call (.builtin "isinstance") [.ref a,c]) Q E s:=by
 refine call_isinstance_of ?_ (by intro q;cases q)
 obtain⟨h0,g,d,tt,os⟩:=s
 obtain⟨o,ho,hc⟩:=hp
 have LT:PySem.W.Looks (model prog w) h0 (typeOf (.ref a)) t:=hc ▸ (PySem.W.Looks.ld ho).andThen .now
 unfold kitOne at e
 unfold Builtin.«isinstance.nested»
 refine wpAny_bind (LT.at ?_)
 by_cases q:(t==c)=true
 .rw [if_pos q]
  first
   |exact wpAny_bind (wpAny_rule (wpAny_pure h))
   |exact wpAny_bind (wpAny_rule h)
 .rw [if_neg q] at e
  rw [if_neg q]
  obtain⟨hty,his,hsub⟩:=PySem.W.kit_cls (M:=model prog w) KX e
  have LI:PySem.W.Looks (model prog w) h0 (isInstance (.ref a) c) true:=LT.andThen hsub
  refine wpAny_bind (hty.at ?_)
  rw [if_pos (by decide)]
  k_delta "plainIsInstance"
  refine wpAny_bind (wpAny_bind (his.at ?_))
  simp only [Bool.not_true,Bool.false_eq_true,if_false]
  refine wpAny_bind (LI.at ?_)
  first
   |exact wpAny_pure (wpAny_pure h)
   |(simp only [if_true];first|exact wpAny_pure (wpAny_pure h) |exact wpAny_pure h|exact wpAny_bind (wpAny_pure (wpAny_pure h)))
theorem qej {X:Cx}:Xes X (fun _ _ _ _=>False):=fun _ _ _ _ _ _ _ _ _ w=>w.elim
section
variable {X: Cx}
theorem qby:qc7 X (.builtin "isinstance") (rIsi X.K):=by
 intro pins s σ H xs us Q I hv h
 obtain⟨x,c,u,t,b,rfl,hu,hu',ty,e,q⟩:=h
 cases hv with
 |cons r1 hv=>
  cases hv with
  |cons r2 hv=>
   cases hv
   rename_i v1 v2
   rw [hu' v2 r2]
   rcases ty with ty|⟨a,d,rfl,ea,rfl⟩
   .exact isinst_ok I r1 ty e fun tk=>⟨.bl b,H,I.tok tk,rfl,q⟩
   .cases r1
    obtain⟨⟨oe,vs,h1,h2,_⟩,_⟩:=(show qbh X.prog X.w H s.heap a (XO a t d) from I.hok a _ ea)
    exact isi_yes I.kIn ⟨oe,h1,h2⟩ e ⟨.bl true,H,I,rfl,q⟩
def rIsN:R2:=fun x y H Q=>y=.non/\Q (.bl (decide (x=.non))) H
def rNotN:R2:=fun x y H Q=>y=.non/\Q (.bl (!decide (x=.non))) H
def rLen (K:Frag):List V->Hp->VK->Prop:=fun xs H Q=>∃p ys,xs=[.ref p]/\(SqL K H p ys\/SqT K H p ys)/\Q (.int ys.length) H
theorem qb0:qc7 X (.builtin "len") (rLen X.K):=call_len_seq
theorem qfs:OpR X (compareOp .Is) rIsN:=op_isN
theorem op_notNN:OpR X (compareOp .IsNot) rNotN:=op_notN
end
section
variable {K: Frag} {H: Hp} {Q: VK}
theorem r_isi {x:V} {T:String} {t:Value} {b:Bool} (ty:TyOf K H x t) (e:kitOne K t (.type T)=some b) (h:Q (.bl b) H):rIsi K [x,.ty T] H Q:=⟨x,_,_,t,b,rfl,rfl,fun _ z=>z,.inl ty,e,h⟩
end
section
variable {K: Frag}
theorem kit_int_int:kitOne K (.type "int") (.type "int")=some true:=by rfl
theorem kit_int_bool:kitOne K (.type "int") (.type "bool")=some false:=by rfl
theorem qfv:kitOne K (.type "bool") (.type "bool")=some true:=by rfl
theorem kit_str_str:kitOne K (.type "str") (.type "str")=some true:=by rfl
theorem kit_lst_lst:kitOne K (.type "list") (.type "list")=some true:=by rfl
theorem kit_dct_dct:kitOne K (.type "dict") (.type "dict")=some true:=by rfl
end
section
variable {K: Frag} {σ σ': L2.St} {H H1: Hp} {Q: VK} {D: Ends} {ta tb te: TE} {t u: TS} {c c': TT} {ar: TA} {v x y: V} {i j: Nat}
theorem qae {N:List Str} {vs:List V} (e:qeb N vs=σ) (h:t D σ H):t D (qeb N vs) H:=e ▸ h
theorem r_var (e:σ[i]?=some (some v)) (h:Q v H):tVar i σ H Q:=⟨v,e,h⟩
theorem r_c (h:Q v H):tC v σ H Q:=h
theorem r_op {r:R2} (h:ta σ H fun x H1=>tb σ H1 fun y H2=>r x y H2 Q):tOp r ta tb σ H Q:=h
theorem r_I0 {g:Int->Int->V} {i j:Int} (h:Q (g i j) H):rI0 g (.int i) (.int j) H Q:=⟨i,j,rfl,rfl,h⟩
theorem r_I {C:Int->Int->Prop} {g:Int->Int->V} {i j:Int} (hc:C i j) (h:Q (g i j) H):rI C g (.int i) (.int j) H Q:=⟨i,j,rfl,rfl,hc,h⟩
theorem r_eqI {i j:Int} (h:Q (.bl (decide (i=j))) H):rEq (.int i) (.int j) H Q:=⟨rfl,by
 have e:decide (V.int i=V.int j)=decide (i=j):=by by_cases z:i=j <;> simp [z]
 rw [e];exact h⟩
theorem r_neI {i j:Int} (h:Q (.bl (!decide (i=j))) H):rNe (.int i) (.int j) H Q:=⟨rfl,by
 have e:decide (V.int i=V.int j)=decide (i=j):=by by_cases z:i=j <;> simp [z]
 rw [e];exact h⟩
theorem r_eqB {i j:Bool} (h:Q (.bl (decide (i=j))) H):rEq (.bl i) (.bl j) H Q:=⟨rfl,by
 have e:decide (V.bl i=V.bl j)=decide (i=j):=by by_cases z:i=j <;> simp [z]
 rw [e];exact h⟩
theorem r_exb {b:Bool} {Q:Bool->Prop} (h:Q b):∃k,V.bl b=.bl k/\Q k:=⟨b,rfl,h⟩
theorem r_test {Q:Bool->Hp->Prop} (h:te σ H fun x H'=>∃k,x=.bl k/\Q k H'):tTest te σ H Q:=h
theorem r_tB {Q:Bool->Hp->Prop} (h:te σ H fun x H'=>∃k,x=.bl k/\Q k H'):tB te σ H Q:=h
theorem r_and {Q:Bool->Hp->Prop} (h:c σ H fun b H1=>if b=true then c' σ H1 Q else Q false H1):tAnd c c' σ H Q:=h
theorem r_or {Q:Bool->Hp->Prop} (h:c σ H fun b H1=>if b=true then Q true H1 else c' σ H1 Q):tOr c c' σ H Q:=h
theorem r_not {Q:Bool->Hp->Prop} (h:c σ H fun b H1=>Q (!b) H1):tNot c σ H Q:=h
theorem r_andV (h:ta σ H fun x H1=>∃k,x=.bl k/\if k=true then tb σ H1 Q else Q (.bl false) H1):tAndV ta tb σ H Q:=h
theorem r_orV (h:ta σ H fun x H1=>∃k,x=.bl k/\if k=true then Q (.bl true) H1 else tb σ H1 Q):tOrV ta tb σ H Q:=h
theorem r_notV (h:ta σ H fun x H1=>∃k,x=.bl k/\Q (.bl (!k)) H1):tNotV ta σ H Q:=h
theorem r_ifE (h:c σ H fun b H1=>if b=true then ta σ H1 Q else tb σ H1 Q):tIf c ta tb σ H Q:=h
theorem r_next (h:D.nx σ H):tNext D σ H:=h
theorem r_seq (h:t {nx:=u D,rt:=D.rt,bk:=D.bk,ct:=D.ct} σ H):tSeq t u D σ H:=h
theorem r_drop (h:te σ H fun _ H1=>D.nx σ H1):tDrop te D σ H:=h
theorem r_ret (h:te σ H D.rt):tRet te D σ H:=h
theorem r_if (h:c σ H fun b H1=>if b=true then t D σ H1 else u D σ H1):tIfS c t u D σ H:=h
theorem r_asg {g:TG} (h:te σ H fun x H1=>g x σ H1 D.nx):tAsg te g D σ H:=h
theorem r_name {Q:L2.St->Hp->Prop} (e:σ.set i (some v)=σ') (h:Q σ' H):qfz i v σ H Q:=by subst e;exact h
theorem r_gnil {Q:L2.St->Hp->Prop} (h:Q σ H):gNil [] σ H Q:=⟨rfl,h⟩
theorem r_gcons {g:TG} {gs:TGs} {vs:List V} {Q:L2.St->Hp->Prop} (h:g v σ H fun σ' H'=>gs vs σ' H' Q):gCons g gs (v :: vs) σ H Q:=⟨v,vs,rfl,h⟩
theorem r_gtup {n:Nat} {gs:TGs} {a:Addr} {xs:List V} {Q:L2.St->Hp->Prop} (hS:SqT K H a xs) (hn:xs.length=n) (h:gs xs σ H Q):gTup K n gs (.ref a) σ H Q:=⟨a,xs,rfl,hS,hn,h⟩
theorem r_nx {f b c:L2.St->Hp->Prop} {r:VK} (h:f σ H):Ends.nx {nx:=f,rt:=r,bk:=b,ct:=c} σ H:=h
theorem r_rt {f b c:L2.St->Hp->Prop} {r:VK} (h:r v H):Ends.rt {nx:=f,rt:=r,bk:=b,ct:=c} v H:=h
theorem r_nil {Q:List V->Hp->Prop} (h:Q [] H):tNil σ H Q:=h
theorem r_cons {Q:List V->Hp->Prop} (h:te σ H fun x H1=>ar σ H1 fun xs H2=>Q (x :: xs) H2):tCons te ar σ H Q:=h
theorem r_tup (h:ar σ H fun xs H1=>xs.length<=sizeLine/\∀p,H1 p=none->Q (.ref p) (upd H1 p (.tup xs))):tTup ar σ H Q:=h
theorem r_lst (h:ar σ H fun xs H1=>xs.length<=sizeLine/\∀p,H1 p=none->Q (.ref p) (upd H1 p (.lst xs))):tLst ar σ H Q:=h
theorem r_new {xs:List V} {A:Prop} (hn:xs.length<=sizeLine) (h:A):xs.length<=sizeLine/\A:=⟨hn,h⟩
theorem r_call {sp:Sp} {E:XK} (h:ar σ H fun vs H1=>sp vs H1 Q E):tCall sp [] E ar σ H Q:=by
 have e:(fun vs H1=>sp (vs++ []) H1 Q E)=fun vs H1=>sp vs H1 Q E:=by funext vs H1;rw [zZ]
 show ar σ H fun vs H1=>sp (vs++ []) H1 Q E
 rw [e];exact h
theorem r_callX {sp:Sp} {W:L2.St->XK} (h:ar σ H fun vs H1=>sp vs H1 Q (W σ)):tCallX sp [] W ar σ H Q:=by
 have e:(fun vs H1=>sp (vs++ []) H1 Q (W σ))=fun vs H1=>sp vs H1 Q (W σ):=by funext vs H1;rw [zZ]
 show ar σ H fun vs H1=>sp (vs++ []) H1 Q (W σ)
 rw [e];exact h
theorem r_cb {r:List V->Hp->VK->Prop} (h:ar σ H fun vs H1=>r vs H1 Q):tCB r ar σ H Q:=h
theorem r_try {tb:List (Addr × Obj)->Ends->TS} {to:TS} (h:∀pins,tb pins D {nx:=to D,rt:=D.rt,bk:=D.bk,ct:=D.ct} σ H):tTry tb to D σ H:=h
theorem r_raise {C:Addr} {W:L2.St->XK} (h:ar σ H fun xs H1=>xs.length<=sizeLine/\W σ (.ref C) none H1):tRaise ar C W D σ H:=h
theorem qb6 {p:Addr} {xs:List V} {k:Int} (hS:SqL K H p xs) (e:atI xs k=some v) (h:Q v H):rIxL K (.ref p) (.int k) H Q:=⟨p,xs,k,v,rfl,rfl,hS,e,h⟩
theorem r_ixT {p:Addr} {xs:List V} {k:Int} (hS:SqT K H p xs) (e:atI xs k=some v) (h:Q v H):rIxT K (.ref p) (.int k) H Q:=⟨p,xs,k,v,rfl,rfl,hS,e,h⟩
theorem r_fresh {R:Addr->Prop} (h:∀p,H p=none->R p):∀p,H p=none->R p:=h
theorem r_cl {c C':Addr} {b:Bool} {d:Option Addr} {hit miss:Ends->L2.St->XK} (k:kitCls K (.ref C') (.ref c)=some b) (h:if b=true then hit D σ (.ref C') d H else miss D σ (.ref C') d H):tCl K c hit miss D σ (.ref C') d H:=⟨C',b,rfl,k,h⟩
theorem r_menu {p:Addr} {xs:List Int} {r:Int} (hS:SqL K H p (xs.map V.int)) (h0:0<=r) (h1:r < xs.length) (h:∀m,m∈xs->Q (.int m) H):rIxL K (.ref p) (.int r) H Q:=by
 have hk:r.toNat < xs.length:=by omega
 have ek:r=((r.toNat:Nat):Int):=by omega
 have q:atI (xs.map V.int) ((r.toNat:Nat):Int)=some (.int xs[r.toNat]):=qaw (by rw [zC,zA hk] <;> rfl)
 rw [<-ek] at q
 exact⟨p,_,r,_,rfl,rfl,hS,q,h _ (zO hk)⟩
theorem r_cut0 (h:t {nx:=D.nx,rt:=D.rt,bk:=D.bk,ct:=D.ct} σ H):tCut t D σ H:=⟨D.nx,h,fun _ _ z=>z⟩
theorem r_cut (J:L2.St->Hp->Prop) (h:t {nx:=J,rt:=D.rt,bk:=D.bk,ct:=D.ct} σ H) (k:∀σ' H',J σ' H'->D.nx σ' H'):tCut t D σ H:=⟨J,h,k⟩
theorem r_lenL {p:Addr} {ys:List V} (hS:SqL K H p ys) (h:Q (.int ys.length) H):rLen K [.ref p] H Q:=⟨p,ys,rfl,.inl hS,h⟩
theorem r_isNn (h:Q (.bl true) H):rIsN .non .non H Q:=⟨rfl,h⟩
theorem r_isNr {a:Addr} (h:Q (.bl false) H):rIsN (.ref a) .non H Q:=⟨rfl,h⟩
theorem r_notNn (h:Q (.bl false) H):rNotN .non .non H Q:=⟨rfl,h⟩
end
section
variable {K: Frag} {σ: L2.St} {H: Hp} {D: Ends} {wi: TI} {g: TG} {tb: TS} {tl: TE} {ta: TA}
def FOR (J:It) (g:TG) (tb:TS) (D:Ends) (σ:L2.St) (H:Hp):Prop:=∃W:Nat->Nat->L2.St->Hp->Prop,(∃m,W 0 m σ H)/\∀i m σ H,W i m σ H->
 (J.stop i H/\D.nx σ H)\/(J.go i H/\∃N:L2.St->Hp->Prop,(∀σ' H',N σ' H'->∃m',m' < m/\W (i+1) m' σ' H')/\∀x H',J.yld i H x H'->g x σ H' fun σ2 H2=>tb {D with nx:=N,ct:=N,bk:=D.nx} σ2 H2)
def rItL (K:Frag) (x:V) (H:Hp) (R:It->Hp->Prop):Prop:=∃a,x=.ref a/\(∃xs,SqL K H a xs)/\R (Itl K a) H
def rItR (vs:List V) (H:Hp) (R:It->Hp->Prop):Prop:=∃j:Int,vs=[.int j]/\-(2^62)<=j/\j < 2^62/\R (Itr 0 j.toNat) H
theorem r_for (h:wi σ H fun J H1=>FOR J g tb D σ H1):tFor wi g tb D σ H:=h
theorem r_iL {R:It->Hp->Prop} (h:tl σ H fun x H1=>rItL K x H1 R):iList K tl σ H R:=h
theorem r_iR {R:It->Hp->Prop} (h:ta σ H fun vs H1=>rItR vs H1 R):iRng1 ta σ H R:=h
theorem r_itL {a:Addr} {xs:List V} {R:It->Hp->Prop} (hS:SqL K H a xs) (h:R (Itl K a) H):rItL K (.ref a) H R:=⟨a,rfl,⟨xs,hS⟩,h⟩
theorem r_itR {j:Int} {R:It->Hp->Prop} (h0: -(2^62)<=j) (h1:j < 2^62) (h:R (Itr 0 j.toNat) H):rItR [.int j] H R:=⟨j,rfl,h0,h1,h⟩
theorem qde {a:Addr} {xs:List V} (Pv:Nat->L2.St->Hp->Prop) (h0:Pv 0 σ H) (hl:∀i σ H,i<=xs.length->Pv i σ H->SqL K H a xs)
  (hs:∀i x σ H,xs[i]?=some x->Pv i σ H->g x σ H fun σ2 H2=>tb {nx:=Pv (i+1),rt:=D.rt,bk:=D.nx,ct:=Pv (i+1)} σ2 H2) (hd:∀σ H,Pv xs.length σ H->D.nx σ H):FOR (Itl K a) g tb D σ H:=for_list Pv h0 hl hs hd
theorem qcs {lo:Int} {n:Nat} (Pv:Nat->L2.St->Hp->Prop) (h0:Pv 0 σ H)
  (hs:∀(i:Nat) σ H,i < n->Pv i σ H->g (.int (lo+i)) σ H fun σ2 H2=>tb {nx:=Pv (i+1),rt:=D.rt,bk:=D.nx,ct:=Pv (i+1)} σ2 H2) (hd:∀σ H,Pv n σ H->D.nx σ H):FOR (Itr lo n) g tb D σ H:=for_range Pv h0 hs hd
end
theorem qab {H:Hp} {a p:Addr} {o o':HO} (h:H a=some o) (n:H p=none):upd H p o' a=some o:=by rw [qa7 (qaa h n)];exact h
theorem sqL_new {K:Frag} {H:Hp} {a p:Addr} {o:HO} {xs:List V} (h:SqL K H a xs) (n:H p=none):SqL K (upd H p o) a xs:=(qa6 n o).seq h
theorem sqT_new {K:Frag} {H:Hp} {a p:Addr} {o:HO} {xs:List V} (h:SqT K H a xs) (n:H p=none):SqT K (upd H p o) a xs:=same_tup (qa6 n o) h
theorem qdu {H0 H:Hp} {p:Addr} {o:HO} (h:qaq H0 H) (n:H p=none):qaq H0 (upd H p o):=h.trans (qa6 n o)
theorem i_t {c A B:Prop} [Decidable c] (h:c) (hA:A):if decide c=true then A else B:=by rw [decide_eq_true h];exact iteT hA
theorem i_f {c A B:Prop} [Decidable c] (h:¬c) (hB:B):if decide c=true then A else B:=by rw [decide_eq_false h];exact iteF hB
theorem i_2 {c A B:Prop} [Decidable c] (h1:c->A) (h2:¬c->B):if decide c=true then A else B:=by
 by_cases h:c
 .exact i_t h (h1 h)
 .exact i_f h (h2 h)
theorem i_nf {c A B:Prop} [Decidable c] (h:c) (hB:B):if (!decide c)=true then A else B:=by rw [decide_eq_true h];exact iteF hB
theorem i_nT {A B:Prop} (h:B):if (!true)=true then A else B:=h
theorem i_nF {A B:Prop} (h:A):if (!false)=true then A else B:=iteT h
theorem i_b2 {b:Bool} {A B:Prop} (h1:b=true->A) (h2:b=false->B):if b=true then A else B:=by
 cases b
 .exact iteF (h2 rfl)
 .exact iteT (h1 rfl)
def AllC {α:Type} (f:α->Prop):List α->Prop
 | []=>True
 |a :: l=>f a/\AllC f l
theorem AllC.mem {α:Type} {f:α->Prop}:∀{l:List α},AllC f l->∀a∈l,f a
 | [],_,_,h=>absurd h (by simp)
 |b :: l,h,a,m=>by
  rcases zK.mp m with rfl|m
  .exact h.1
  .exact AllC.mem h.2 a m
def qat (caps:List Nat) (σ:L2.St):L2.St:=caps.map fun j=>(σ[j]?).getD none
def rApp (acc:Addr) (N:Hp->Prop) (y:V) (H:Hp):Prop:=∃ys,H acc=some (.lst ys)/\ys.length < sizeLine/\N (upd H acc (.lst (ys++ [y])))
def COMP (J:It) (caps:List Nat) (tt:TT) (te:TE) (acc:Addr) (σ:L2.St) (H:Hp) (Q:VK):Prop:=∃W:Nat->Nat->Hp->Prop,(∃m,W 0 m H)/\∀i m H,W i m H->
 (J.stop i H/\Q (.ref acc) H)\/(J.go i H/\∃N:Hp->Prop,(∀H',N H'->∃m',m' < m/\W (i+1) m' H')/\∀v H',J.yld i H v H'->tt (some v :: qat caps σ) H' fun b H2=>
  if b=true then te (some v :: qat caps σ) H2 fun y H3=>rApp acc N y H3 else N H2)
abbrev CT (α:Type):=Addr->Shared->Hp->List Addr->α
def tComp (wi:TI) (caps:List Nat) (tt:CT TT) (te:CT TE):TE:=fun σ H Q=>wi σ H fun J H1=>∀(C:Addr) (s:Shared) (H0:Hp) (fp:List Addr) (acc:Addr),H1 acc=none->COMP J caps (tt C s H0 fp) (te C s H0 fp) acc σ (upd H1 acc (.lst [])) Q
def tTrue:TT:=fun _ H Q=>Q true H
def PIfs (X:Cx) (ifs:List Expr) (t:TT):Prop:=
 ∀(pins:List (Addr × Obj)) (s:Shared) (σ:L2.St) (H:Hp) (Q:Bool->Hp->Prop),Inv X pins σ H s->t σ H Q->
  wpAny (model X.prog X.w) X.A (forIn ifs true fun c r=>if r=true then do let ok<-isTrue c X.env (eval c X.env);pure (ForInStep.yield ok) else pure (ForInStep.yield r)) (TP X pins σ Q) X.xe s
theorem qck {X:Cx}:PIfs X [] tTrue:=fun pins s σ H Q I h=>wpAny_tests_nil ⟨H,I,h⟩
theorem qcu {X:Cx} {c:Expr} {t:TT} (h:PT X c t):PIfs X [c] t:=fun pins s σ H Q I hw=>wpAny_tests_one (h pins s σ H Q I hw)
def cxC (X:Cx) (N:List Str) (scope:Scope) (cl:List (Str × Addr)) (C:Addr) (s:Shared) (H:Hp) (fp:List Addr):Cx where
 prog:=X.prog
 w:=X.w
 K:=X.K
 mg:=X.mg
 base:=X.base
 A:=X.A
 N:=N
 s₀:=s
 H₀:=H
 env:=compEnvC scope cl C X.env
 outer:=X.stack
 stack:=X.stack
 ex:=fp
 fn:=fun _=>false
 calm:=X.calm
 pn:=[]
 xe:=fun _ _=>False
structure Caps (X:Cx) (x:Str) (scope:Scope) (cl:List (Str × Addr)) (caps:List Nat) (cn:List Str):Prop where
 clos:closureFor scope X.env=pure cl
 kind:scope.kind=.function
 cell:∀y∈scope.names,y.2≠ .cell
 names:∀y∈scope.names,y.2=.local->scope.names.lookup y.1=some .local
 tg:scope.names.lookup x=some .local
 sub:∀y c,cl.lookup y=some c->X.env.cells.lookup y=some c
 has:∀y,((relabel scope X.env).names.lookup y=some .cell\/(relabel scope X.env).names.lookup y=some .free)->∃c,cl.lookup y=some c
 len:caps.length=cn.length
 cap:∀(k:Nat) (y:Str) (j:Nat),cn[k]?=some y->caps[k]?=some j->X.N[j]?=some y/\X.env.kindOf y=some .cell/\(relabel scope X.env).names.lookup y=some .cell/\X.env.scope.names.lookup y=some .cell/\∃c,cl.lookup y=some c
 nd:(x :: cn).Nodup
section
variable {X: Cx} {pins: List (Addr × Obj)} {σ: L2.St} {H: Hp} {s: Shared}
theorem Inv.comp {x:Str} {scope:Scope} {cl:List (Str × Addr)} {caps:List Nat} {cn:List Str} (Cp:Caps X x scope cl caps cn) (I:Inv X pins σ H s) {fp:List Addr} (hf:∀b∈fp,qf4 X pins H b) (hlt:∀b∈fp,b < s.heap.objs.size) {h₁:Heap} {t':Nat}
  (hns:h₁.Ns s.heap.objs.size (fun _=>none)) (k:∀b o,s.heap.get? b=some o->h₁.get? b=some o):
  Inv (cxC X (x :: cn) scope cl s.heap.objs.size s H fp) [] (none :: qat caps σ) H {s with heap:=h₁,toks:=t'}:=by
 have cne:∀y c,cl.lookup y=some c->∃v,s.heap.IsCell c v:=fun y c e=>I.cell y c (Cp.sub y c e)
 have ltC:∀y c,cl.lookup y=some c->c < s.heap.objs.size:=fun y c e=>let ⟨v,q⟩:=cne y c e;q.lt
 have isC:∀c v,s.heap.IsCell c v->h₁.IsCell c v:=fun c v ⟨o,e,d⟩=>⟨o,k c o e,d⟩
 refine⟨⟨I.ok.mod,Cp.kind,I.ok.glob,I.ok.blt,Nat.le_refl _,fun y z c e1 e2=>I.ok.inj y z c (Cp.sub y c e1) (Cp.sub z c e2),fun y hy=>Cp.has y hy,fun y c z=>(Bool.false_ne_true z).elim,I.ok.hd,I.ok.frames,.inl rfl,
  fun b hb=>⟨Nat.ne_of_lt (hlt b hb),fun y c e z=>?_⟩,I.bs,Nat.le_trans I.ok.bsz I.sz,fun b o e hb=>?_,fun b hb z=>?_,I.stack,I.stkFree⟩,
  rfl,I.bare,Un.kept k,⟨_,hns,fun i y v e1 e2 e3=>?_⟩,fun y c e=>?_,I.hok.fresh (Nat.le_refl _),fun y c e=>I.freeC y c (Cp.sub y c e),fun p hp=>absurd (show p∈([]:List (Addr × Obj)) from hp) (by simp),I.hok.kept k,?_⟩
 .exact(hf b hb).2.2.2.2.1 y c (Cp.sub y c e) z
 .rcases(hf b hb).2.2.2.1 with z|z
  .exact I.ok.noex b o e z
  .exact absurd (Nat.lt_of_lt_of_le (Heap.lt_size e) (Nat.le_trans I.ok.bsz z)) (Nat.lt_irrefl _)
 .rcases zK.mp (I.stkSub b z) with z|z
  .exact(hf b hb).2.1 z
  .exact(hf b hb).2.2.1 z
 .cases i with
  |zero=>cases e2
  |succ i=>
   have e1':cn[i]?=some y:=by simpa [cxC] using e1
   have e2':(qat caps σ)[i]?=some (some v):=by simpa using e2
   unfold qat at e2'
   rw [zC] at e2'
   obtain⟨j,hj,ej⟩:=Option.map_eq_some_iff.mp e2'
   obtain⟨c1,c2,c3,c5,c,c4⟩:=Cp.cap i y j e1' hj
   cases hs:σ[j]? with
   |none=>rw [hs] at ej;cases ej
   |some w=>
    rw [hs] at ej
    have ej':w=some v:=ej
    subst ej'
    obtain⟨m,hn,hl⟩:=I.loc
    obtain⟨u,r,l⟩:=hl j y v c1 hs (.inr (.inl c5))
    refine⟨u,r,.inr ⟨.inl c3,c,c4,?_⟩⟩
    rcases l with ⟨l,_⟩ |⟨_,c',e',q⟩
    .rw [c2] at l;cases l
    .rw [Cp.sub y c c4] at e'
     cases e'
     exact isC _ _ q
 .obtain⟨v,q⟩:=cne y c e
  exact⟨v,isC c v q⟩
 .show (none :: qat caps σ).length=(x :: cn).length
  rw [zP,zP]
  unfold qat
  rw [zB,Cp.len]
theorem Inv.uncomp {N:List Str} {scope:Scope} {cl:List (Str × Addr)} {C:Addr} {σ':L2.St} {H':Hp} {s':Shared} {fp:List Addr} (I:Inv X pins σ H s) (hf:∀b∈fp,qf4 X pins H b) (hC:C=s.heap.objs.size)
  (J:Inv (cxC X N scope cl C s H fp) [] σ' H' s') {h':Heap} (sb:Heap.SameBut C s'.heap h'):Inv X pins σ H' {s' with heap:=h'}:=by
 have ne:∀b o,s.heap.get? b=some o->b≠C:=fun b o e=>by rw [hC];exact Nat.ne_of_lt (Heap.lt_size e)
 have u:Un (frs X.stack) fp H H' s.heap s'.heap:=J.base
 have hok:HOk X.prog X.w H' h':=fun b o e=>by
  refine(J.hok b o e).stay (fun c u' hc q=>(sb.2 c ?_).trans q) (fun _ q=>q) fun _ _ q=>q
  intro z
  have n:H' C=none:=J.free
  rcases hc with hc|hc
  .rw [<-hc,z,n] at e;cases e
  .rw [z,n] at hc;cases hc
 refine I.call' (s':={s' with heap:=h'}) (ch:=fp) J.os ⟨fun b o e n hb hx=>(sb.2 b (ne b o e)).trans (u.keep b o e n hb hx),fun b o e n hb hx=>?_,u.free,fun b o e hx=>?_,u.tups,u.frzs,u.tbls⟩ hok J.bare fun b hb=>?_
 .obtain⟨sl,q⟩:=u.slot b o e n hb hx
  exact⟨sl,(sb.2 b (ne b o e)).trans q⟩
 .obtain⟨o',q⟩:=u.there b o e hx
  exact⟨o',(sb.2 b (ne b o e)).trans q⟩
 .obtain⟨f0,f1,f2,f3,f4,f5⟩:=hf b hb
  exact⟨f3,f1,f4,f5⟩
end
section
variable {X: Cx}
theorem qbp {elt iter:Expr} {x:Str} {px:Pos} {ifs:List Expr} {scope:Scope} {cl:List (Str × Addr)} {pos:Pos} {caps:List Nat} {cn:List Str} {wi:TI} {tt:CT TT} {te:CT TE} (Cp:Caps X x scope cl caps cn) (hc:X.calm=true)
  (hi:PI X (.Name x px) iter wi) (ht:∀C s H fp,PIfs (cxC X (x :: cn) scope cl C s H fp) ifs (tt C s H fp)) (he:∀C s H fp,PE (cxC X (x :: cn) scope cl C s H fp) elt (te C s H fp))
  (hs:∀x,foldedSetIterable iter X.env x=pure x:=by intro _;rfl):
  PE X (.ListComp elt [⟨.Name x px,iter,ifs,0⟩] scope pos) (tComp wi caps tt te):=by
 intro pins s σ H Q I h
 rw [eval_ListComp]
 refine wpAny_comprehension_free (use:=none) rfl hs Cp.clos Cp.kind Cp.names (thn (hi pins s σ H _ I h) fun v s1 h1=>thn h1 fun itv s2 h2=>?_)
 obtain⟨it,fp,tn,J,H2,e,I2,T,st2,f2,R⟩:=h2
 subst e
 have hacc:H2 s2.heap.objs.size=none:=I2.hok.fresh (Nat.le_refl _)
 refine wpAny_newObj_type ?_
 have I3:Inv X pins σ (upd H2 s2.heap.objs.size (.lst [])) {s2 with heap:=s2.heap.push {cls:=.type "list",dict:=none,data:=.seq ([]:List Value).toArray}}:=Inv.lnew (its:=[]) (t':=s2.toks) I2 .nil (Nat.zero_le _)
 have lt2:∀b∈fp,b < s2.heap.objs.size:=fun b hb=>let ⟨o,e,_⟩:=T.obj _ _ st2 b hb;Heap.lt_size e
 have f3:∀b∈fp,qf4 X pins (upd H2 s2.heap.objs.size (.lst [])) b:=fun b hb=>⟨by rw [qa7 (Nat.ne_of_lt (lt2 b hb))];exact(f2 b hb).1,(f2 b hb).2⟩
 have st3:tn 0 (s2.heap.push {cls:=.type "list",dict:=none,data:=.seq ([]:List Value).toArray}):=T.keep _ _ _ st2 fun b _ o e=>Heap.get?_push_of_some _ e
 generalize hs3:({s2 with heap:=s2.heap.push {cls:=.type "list",dict:=none,data:=.seq ([]:List Value).toArray}}:Shared)=s3 at I3 ⊢
 have st3':tn 0 s3.heap:=by rw [<-hs3];exact st3
 generalize s2.heap.objs.size=acc at hacc I3 f3 ⊢
 obtain⟨W,⟨m0,w0⟩,turn⟩:=R s3.heap.objs.size s3 (upd H2 acc (.lst [])) fp acc hacc
 have lt3:∀b∈fp,b < s3.heap.objs.size:=fun b hb=>let ⟨o,e,_⟩:=T.obj _ _ st3' b hb;Heap.lt_size e
 clear st3 hs3
 refine wpAny_newFunctionEnv Cp.cell (by intro y hy;simp at hy) (fun h₁ hns hsb=>?_) Cp.kind
 have k1:∀b o,s3.heap.get? b=some o->h₁.get? b=some o:=fun b o e=>hsb.extBut b o (Nat.ne_of_lt (Heap.lt_size e)) (Heap.get?_push_of_some _ e)
 have I4:Inv (cxC X (x :: cn) scope cl s3.heap.objs.size s3 (upd H2 acc (.lst [])) fp) [] (none :: qat caps σ) (upd H2 acc (.lst [])) {s3 with heap:=h₁,toks:=s3.toks+([]:List (Str × Value)).length}:=
  Inv.comp Cp I3 f3 lt3 hns k1
 have st4:tn 0 h₁:=T.keep _ _ _ st3' fun b _ o e=>k1 b o e
 generalize hX:cxC X (x :: cn) scope cl s3.heap.objs.size s3 (upd H2 acc (.lst [])) fp=X' at I4
 have stat:∀{H':Hp},(∀b∈fp,H' b=none)->∀b∈fp,qf4 X' [] H' b:=fun hn b hb=>by
  subst hX
  obtain⟨g0,g1,g2,g3,g4,g5⟩:=f3 b hb
  refine⟨hn b hb,Nat.ne_of_lt (lt3 b hb),fun z=>?_,.inl hb,fun y c e=>g4 y c (Cp.sub y c e),fun p hp=>absurd (show p∈([]:List (Addr × Obj)) from hp) (by simp)⟩
  rcases zK.mp (I3.stkSub b z) with z|z
  .exact g1 z
  .exact g2 z
 have core:codeAny (model X.prog X.w) X.A (.compLoop (.ListComp elt [⟨.Name x px,iter,ifs,0⟩] scope pos) 0 (.ref it) (.ref acc) (compEnvC scope cl s3.heap.objs.size X.env))
   (compPost (model X.prog X.w) X.A X.xe none (EP X pins σ Q) (.ref acc) s3.heap.objs.size) {s3 with heap:=h₁,toks:=s3.toks+([]:List (Str × Value)).length}:=by
  refine codeAny_loop rfl (fun n s'=>∃i a H',Inv X' [] (a :: qat caps σ) H' s'/\tn i s'.heap/\(∀b∈fp,H' b=none)/\W i n H') (fun n s5 hI=>?_) m0 ⟨0,none,_,I4,st4,fun b hb=>(f3 b hb).1,w0⟩
  obtain⟨i,a0,H5,I5,st5,fr5,w5⟩:=hI
  show wpAny _ _ ((compTurn _ 0 _ _ _).onRaise _) _ _ s5
  refine wpAny_noted ?_
  rw [compTurn_list]
  refine wpAny_bind (wpAny_standAt (wpAny_bind ?_))
  have aX:X'.A=X.A:=by subst hX;rfl
  have pX:X'.prog=X.prog:=by subst hX;rfl
  have wX:X'.w=X.w:=by subst hX;rfl
  have kX:X'.K=X.K:=by subst hX;rfl
  have cX:X'.calm=true:=by subst hX;exact hc
  have eX:X'.env=compEnvC scope cl s3.heap.objs.size X.env:=by subst hX;rfl
  rcases turn i n H5 w5 with ⟨stop,qn⟩ |⟨go,N,hN,step⟩
  .have z:=T.done X' pX wX kX cX i [] s5 _ H5 (fun _ _=>False) I5 (stat fr5) st5 stop
   rw [aX] at z
   refine wpAny_mono z (fun r s6 ⟨hr,I6⟩=>?_) fun _ _ q=>q.elim
   subst hr
   subst hX
   obtain⟨m,hm,_⟩:=id I6.loc
   exact wpAny_pure ⟨m,hm,fun h' sb=>⟨.ref acc,H5,Inv.uncomp I3 f3 rfl I6 sb,rfl,qn⟩⟩
  .have z:=T.item X' pX wX kX cX i [] s5 _ H5 (fun _ _=>False) I5 (stat fr5) st5 go
   rw [aX] at z
   refine wpAny_mono z (fun r s6 ⟨u,hr,h6⟩=>?_) fun _ _ q=>q.elim
   subst hr
   refine wpAny_bind (wpAny_mono h6 (fun _ s7 ⟨v,H7,I7,r7,y7,st7,fr7⟩=>?_) fun _ _ q=>q.elim)
   have I7':=I7.pinned (stat fr7) (T.obj _ _ st7)
   have asg:wpAny (model X.prog X.w) X.A (assign (.Name x px) (compEnvC scope cl s3.heap.objs.size X.env) u) (fun _ s8=>Inv X' ([]++qbl fp s7.heap) (some v :: qat caps σ) H7 s8) (fun _ _=>False) s7:=by
    subst hX
    exact wpAny_assign_Name (qee (X:=cxC X (x :: cn) scope cl s3.heap.objs.size s3 (upd H2 acc (.lst [])) fp) (i:=0) I7' Cp.nd rfl (.inl (lookup_relabel_local Cp.tg)) r7 (fun s' I'=>I') (.inr (lookup_relabel_local Cp.tg)))
   refine wpAny_bind (wpAny_mono asg (fun _ s8 I8=>?_) fun _ _ q=>q.elim)
   have tst:wpAny (model X.prog X.w) X.A (forIn ifs true fun c r=>if r=true then do let ok<-isTrue c (compEnvC scope cl s3.heap.objs.size X.env) (eval c (compEnvC scope cl s3.heap.objs.size X.env));pure (ForInStep.yield ok) else pure (ForInStep.yield r))
     (TP X' ([]++qbl fp s7.heap) (some v :: qat caps σ) (fun b H9=>if b=true then te s3.heap.objs.size s3 (upd H2 acc (.lst [])) fp (some v :: qat caps σ) H9 (fun y H3=>rApp acc N y H3) else N H9)) (fun _ _=>False) s8:=by
    subst hX
    exact ht _ _ _ _ _ s8 _ H7 _ I8 (step v H7 y7)
   refine wpAny_bind (wpAny_mono tst (fun b s9 ⟨H9,I9,q9⟩=>?_) fun _ _ q=>q.elim)
   have fin:∀{a:Option V} {H10:Hp} {s10:Shared},Inv X' ([]++qbl fp s7.heap) (a :: qat caps σ) H10 s10->N H10->∃m',m' < n/\∃i a H',Inv X' [] (a :: qat caps σ) H' s10/\tn i s10.heap/\(∀b∈fp,H' b=none)/\W i m' H':=fun {a H10 s10} I10 n10=>
    let ⟨m',hm,w10⟩:=hN _ n10
    ⟨m',hm,i+1,a,H10,I10.unpinned,T.keep _ _ _ st7 fun b hb o e=>(I10.pin (b,o) (zJ _ (zJ _ (qbi hb e)))).1,fun b hb=>by
     obtain⟨o,e,d⟩:=T.obj _ _ st7 b hb
     exact(I10.pin (b,o) (zJ _ (zJ _ (qbi hb e)))).2.1,w10⟩
   cases b with
   |false=>exact wpAny_pure ⟨rfl,fin I9 q9⟩
   |true=>
    have elt':wpAny (model X.prog X.w) X.A (eval elt (compEnvC scope cl s3.heap.objs.size X.env)) (EP X' ([]++qbl fp s7.heap) (some v :: qat caps σ) (fun y H3=>rApp acc N y H3)) (fun _ _=>False) s9:=by
     subst hX
     exact he _ _ _ _ _ s9 _ H9 _ I9 q9
    refine wpAny_bind (wpAny_bind (wpAny_mono elt' (fun y s10 ⟨w,H10,I10,r10,ys,ha,hz,q10⟩=>?_) fun _ _ q=>q.elim))
    have app:wpAny (model X.prog X.w) X.A (call (.builtin "list.append") [.ref acc,y]) (EP X' ([]++qbl fp s7.heap) (some v :: qat caps σ) fun _ H11=>H11=upd H10 acc (.lst (ys++ [w]))) (fun _ _=>False) s10:=by
     subst hX
     exact qb9 (X:=cxC X (x :: cn) scope cl s3.heap.objs.size s3 (upd H2 acc (.lst [])) fp) _ s10 _ H10 (.ref acc) [w] (.ref acc) [y] _ I10 rfl (.cons r10 .nil) ⟨acc,ys,w,rfl,rfl,ha,hz,rfl⟩
    refine wpAny_bind (wpAny_mono app (fun _ s11 ⟨_,H11,I11,_,e11⟩=>?_) fun _ _ q=>q.elim)
    subst e11
    exact wpAny_pure (wpAny_pure ⟨rfl,fin I11 q10⟩)
 exact codeAny_compStart_list core (T.self _ 0 _ _ _ st4 core)
def Its (x:Str):It:=⟨fun i _=>i < x.cps.size,fun i H v H'=>H'=H/\∃c,x.cps[i]?=some c/\v=.str ⟨#[c]⟩,fun i _=>i=x.cps.size⟩
theorem turn_str {P:Program} {w:World} {K:Frag} {y:Str} {py:Pos} (x:Str) (t:Tok) (it:Addr) (ty:String) (W:∀A:Around,A.handled=none->Walks P w A it [it] [it] x.cps.size (SignAt x) (fun i h=>h.IsStrIter it ty x t i))
  (hself:∀(A:Around) (i:Nat) (s:Shared) (Q:Value->Shared->Prop) (E:Value->Shared->Prop),s.heap.IsStrIter it ty x t i->Q (.ref it) s->wpAny (model P w) A (pyIter (.ref it)) Q E s):
  Turn P w K (.Name y py) (Its x) [it] it (fun i h=>h.IsStrIter it ty x t i) where
 mem:=by simp
 obj:=fun i h st b hb=>by
  have e:b=it:=by simpa using hb
  subst e
  obtain⟨o,e,c,d⟩:=st
  exact⟨o,e,fun v z=>by rw [d] at z;cases z⟩
 keep:=fun i h h' ⟨o,e,r⟩ k=>⟨o,k it (by simp) o e,r⟩
 item:=by
  intro X hP hw hK hc i pins s σ H E I hf st hg
  subst hP hw hK
  obtain⟨f0,f1,f2,f3,f4,f5⟩:=hf it (by simp)
  refine(W X.A (I.ok.hd hc)).item i s _ _ hg st fun v h' tk hv st' k=>?_
  have I1:Inv X pins σ H {s with heap:=h',toks:=tk}:=I.turned (t':=tk) (fun b o hb e=>k b o (fun z=>hb (by simpa using z)) e) f0 f1 f3 f4 f5
  obtain⟨c,u,hx,rfl⟩:=hv
  exact⟨_,rfl,wpAny_pure ⟨.str ⟨#[c]⟩,H,I1,⟨_,rfl⟩,⟨rfl,c,hx,rfl⟩,st',fun b hb=>(hf b hb).1⟩⟩
 done:=by
  intro X hP hw hK hc i pins s σ H E I hf st hg
  subst hP hw hK
  have hg':i=x.cps.size:=hg
  subst hg'
  obtain⟨f0,f1,f2,f3,f4,f5⟩:=hf it (by simp)
  exact(W X.A (I.ok.hd hc)).done s _ _ st fun h' tk k=>⟨rfl,I.turned (t':=tk) (fun b o hb e=>k b o (fun z=>hb (by simpa using z)) e) f0 f1 f3 f4 f5⟩
 self:=hself
def rItS (v:V) (H:Hp) (R:It->Hp->Prop):Prop:=∃x,v=.str x/\R (Its x) H
def iStr (tl:TE):TI:=fun σ H R=>tl σ H fun v H1=>rItS v H1 R
end
end My
namespace L2
open PySem PySem.Spec PyProof.Rows
section
variable {κ: Type} [DecidableEq κ]
def qcd (kvs:List (κ × V)) (k:κ):Option V:=(kvs.find? fun kv=>decide (kv.1=k)).map (·.2)
def qcy (kvs:List (κ × V)) (k:κ) (v:V):List (κ × V):=
 if (kvs.any fun kv=>decide (kv.1=k))=true then kvs.map (fun kv=>if kv.1=k then (kv.1,v) else kv) else kvs++ [(k,v)]
theorem qbr {p:κ × V} {r:List (κ × V)} {k:κ} (e:p.1=k):qcd (p :: r) k=some p.2:=by simp [qcd,yI,e]
theorem qbs {p:κ × V} {r:List (κ × V)} {k:κ} (e:¬p.1=k):qcd (p :: r) k=qcd r k:=by simp [qcd,yI,e]
theorem qcf (k:κ):∀kvs:List (κ × V),(kvs.any fun kv=>decide (kv.1=k))=(qcd kvs k).isSome
 | []=>rfl
 |p :: r=>by
  rw [yV]
  by_cases e:p.1=k
  .simp only [qbr e,decide_eq_true e,Bool.true_or,Option.isSome_some]
  .rw [qbs e,decide_eq_false e,Bool.false_or];exact qcf k r
theorem valV_map (k j:κ) (y:V):∀kvs:List (κ × V),qcd (kvs.map fun kv=>if kv.1=k then (kv.1,y) else kv) j=(qcd kvs j).map fun x=>if j=k then y else x
 | []=>rfl
 |p :: r=>by
  have ih:=valV_map k j y r
  rw [zS]
  by_cases h:p.1=k
  .rw [if_pos h]
   by_cases e:p.1=j
   .rw [qbr (p:=(p.1,y)) e,qbr e,Option.map_some,if_pos (e.symm.trans h)]
   .rw [qbs (p:=(p.1,y)) e,qbs e,ih]
  .rw [if_neg h]
   by_cases e:p.1=j
   .rw [qbr (p:=p) e,qbr e,Option.map_some,if_neg (fun z=>h (e.trans z))]
   .rw [qbs (p:=p) e,qbs e,ih]
theorem valV_snoc (k j:κ) (y:V):∀kvs:List (κ × V),qcd kvs k=none->qcd (kvs++ [(k,y)]) j=if j=k then some y else qcd kvs j
 | [],_=>by
  by_cases e:k=j
  .rw [if_pos e.symm];exact qbr (p:=(k,y)) e
  .rw [if_neg (fun z=>e z.symm)];exact qbs (p:=(k,y)) e
 |p :: r,hn=>by
  rw [List.cons_append]
  have hk:¬p.1=k:=fun z=>by rw [qbr z] at hn;cases hn
  rw [qbs hk] at hn
  have ih:=valV_snoc k j y r hn
  by_cases e:p.1=j
  .rw [qbr e,qbr e,if_neg (fun z=>hk (e.trans z))]
  .rw [qbs e,qbs e,ih]
theorem valV_put (kvs:List (κ × V)) (k j:κ) (y:V):qcd (qcy kvs k y) j=if j=k then some y else qcd kvs j:=by
 unfold qcy
 by_cases a:(kvs.any fun kv=>decide (kv.1=k))=true
 .rw [if_pos a,valV_map]
  rw [qcf] at a
  by_cases e:j=k
  .obtain⟨x,hx⟩:=Option.isSome_iff_exists.mp a
   rw [if_pos e,e,hx,Option.map_some,if_pos rfl]
  .rw [if_neg e]
   cases qcd kvs j with
   |none=>rfl
   |some x=>rw [Option.map_some,if_neg e]
 .rw [if_neg a]
  refine valV_snoc k j y kvs ?_
  rw [qcf] at a
  cases q:qcd kvs k with
  |none=>rfl
  |some x=>rw [q] at a;exact(a rfl).elim
theorem qc1 (kvs:List (κ × V)) (k:κ) (v:V):(qcy kvs k v).length<=kvs.length+1:=by
 unfold qcy
 split
 .rw [zB];omega
 .rw [zH,zP,yR];omega
theorem qef {kvs:List (κ × V)} {k:κ} (v:V) (h:qcd kvs k=none):qcy kvs k v=kvs++ [(k,v)]:=by
 unfold qcy
 rw [qcf,h]
 exact if_neg (by decide)
theorem qg3.isSome_eq {o:Option V} {u:Option Value} (r:qg3 o u):o.isSome=u.isSome:=by
 cases o with
 |none=>cases u with
  |none=>rfl
  |some _=>exact(show False from r).elim
 |some _=>cases u with
  |none=>exact(show False from r).elim
  |some _=>rfl
theorem qg3.getD {o:Option V} {u:Option Value} {d:V} {d':Value} (r:qg3 o u) (rd:qbe d d'):qbe (o.getD d) (u.getD d'):=by
 cases o with
 |none=>cases u with
  |none=>exact rd
  |some _=>exact(show False from r).elim
 |some _=>cases u with
  |none=>exact(show False from r).elim
  |some _=>exact r
theorem KV.val {kvs:List (κ × V)} {vs:List (κ × Value)} (r:KV kvs vs) (k:κ):qg3 (qcd kvs k) (valueAt vs k):=by
 unfold KV at r
 induction r with
 |nil=>exact True.intro
 | @cons p q ps qs h t ih=>
  obtain⟨h1,h2⟩:=h
  by_cases e:p.1=k
  .have e':q.1=k:=h1.symm.trans e
   have b:valueAt (q :: qs) k=some q.2:=by simp [valueAt,yI,e']
   rw [qbr e,b];exact h2
  .have e':¬q.1=k:=fun z=>e (h1.trans z)
   have b:valueAt (q :: qs) k=valueAt qs k:=by simp [valueAt,yI,e']
   rw [qbs e,b];exact ih
theorem KV.any {kvs:List (κ × V)} {vs:List (κ × Value)} (r:KV kvs vs) (k:κ):(kvs.any fun kv=>decide (kv.1=k))=vs.any fun kv=>decide (kv.1=k):=by
 unfold KV at r
 induction r with
 |nil=>rfl
 |cons h t ih=>rw [yV,yV,ih,h.1]
theorem KV.repl {kvs:List (κ × V)} {vs:List (κ × Value)} (r:KV kvs vs) (k:κ) {y:V} {u:Value} (ry:qbe y u):
  KV (kvs.map fun kv=>if kv.1=k then (kv.1,y) else kv) (vs.map fun kv=>if kv.1=k then (kv.1,u) else kv):=by
 unfold KV at r ⊢
 induction r with
 |nil=>exact .nil
 | @cons p q ps qs h t ih=>
  rw [zS,zS]
  refine .cons ?_ ih
  obtain⟨h1,h2⟩:=h
  by_cases e:p.1=k
  .rw [if_pos e,if_pos (h1.symm.trans e)];exact⟨h1,ry⟩
  .rw [if_neg e,if_neg (fun z=>e (h1.trans z))];exact⟨h1,h2⟩
theorem KV.put {kvs:List (κ × V)} {vs:List (κ × Value)} (r:KV kvs vs) (k:κ) {y:V} {u:Value} (ry:qbe y u):KV (qcy kvs k y) (stored vs k u):=by
 unfold qcy stored
 rw [r.any k]
 by_cases e:(vs.any fun kv=>decide (kv.1=k))=true
 .rw [if_pos e,if_pos e];exact r.repl k ry
 .rw [if_neg e,if_neg e];exact Paired.snoc r ⟨rfl,ry⟩
theorem KV.keys {kvs:List (κ × V)} {vs:List (κ × Value)} (r:KV kvs vs):kvs.map (·.1)=vs.map (·.1):=by
 unfold KV at r
 induction r with
 |nil=>rfl
 |cons h t ih=>rw [zS,zS,ih,h.1]
theorem KV.length {kvs:List (κ × V)} {vs:List (κ × Value)} (r:KV kvs vs):kvs.length=vs.length:=Paired.length r
end
theorem kV_is {P:Program} {w:World} {k:Key} {u:Value} (r:qbe (kV k) u):(qbc P w).is k u=true:=by
 cases k with
 |inl i=>obtain⟨t,e⟩:=(show ∃t,u=Value.int i t from r);subst e;exact mixKind_int P w i t
 |inr x=>obtain⟨t,e⟩:=(show ∃t,u=Value.str x t from r);subst e;exact mixKind_str P w x t
theorem items_are {P:Program} {w:World}:∀{ks:List Key} {us:List Value},qbd (ks.map kV) us->ItemsAre (qbc P w) ks us
 | [],_,r=>by rw [List.map_nil] at r;cases r;exact .nil
 |k :: ks,_,r=>by
  rw [zS] at r
  cases r with
  |cons h t=>exact .cons (kV_is h) (items_are t)
abbrev KT (H:Hp):List (List Key × V)->List (List Key × Addr × Value)->Prop:=Paired fun p q=>p.1=q.1/\H q.2.1=some (.tup (p.1.map kV))/\qbe p.2 q.2.2
theorem KT.val {H:Hp} {kvs:List (List Key × V)} {xs:List (List Key × Addr × Value)} (r:KT H kvs xs) (k:List Key):qg3 (qcd kvs k) ((atKey xs k).map (·.2)):=by
 induction r with
 |nil=>exact True.intro
 | @cons p q ps qs h t ih=>
  obtain⟨h1,_,h2⟩:=h
  by_cases e:p.1=k
  .have e':q.1=k:=h1.symm.trans e
   have b:atKey (q :: qs) k=some q.2:=by simp [atKey,yI,e']
   rw [qbr e,b];exact h2
  .have e':¬q.1=k:=fun z=>e (h1.trans z)
   have b:atKey (q :: qs) k=atKey qs k:=by simp [atKey,yI,e']
   rw [qbs e,b];exact ih
theorem KT.repl {H:Hp} {kvs:List (List Key × V)} {xs:List (List Key × Addr × Value)} (r:KT H kvs xs) (k:List Key) {y:V} {u:Value} (ry:qbe y u):
  KT H (kvs.map fun kv=>if kv.1=k then (kv.1,y) else kv) (xs.map (putAt k u)):=by
 induction r with
 |nil=>exact .nil
 | @cons p q ps qs h t ih=>
  rw [zS,zS]
  refine .cons ?_ ih
  obtain⟨h1,h2,h3⟩:=h
  unfold putAt
  by_cases e:p.1=k
  .rw [if_pos e,if_pos (h1.symm.trans e)];exact⟨h1,h2,ry⟩
  .rw [if_neg e,if_neg (fun z=>e (h1.trans z))];exact⟨h1,h2,h3⟩
theorem KT.put {H:Hp} {kvs:List (List Key × V)} {xs:List (List Key × Addr × Value)} (r:KT H kvs xs) (k:List Key) {b:Addr} {y:V} {u:Value} (hb:H b=some (.tup (k.map kV))) (ry:qbe y u):
  KT H (qcy kvs k y) (storedH xs k b u):=by
 have e:(kvs.any fun kv=>decide (kv.1=k))=(atKey xs k).isSome:=by
  rw [qcf,(r.val k).isSome_eq,Option.isSome_map]
 unfold qcy storedH
 rw [e]
 by_cases q:(atKey xs k).isSome=true
 .rw [if_pos q,if_pos q];exact r.repl k ry
 .rw [if_neg q,if_neg q];exact Paired.snoc r ⟨rfl,hb,ry⟩
theorem KT.keeps {H H':Hp} {kvs:List (List Key × V)} {xs:List (List Key × Addr × Value)} (r:KT H kvs xs) (ht:∀b ys,H b=some (.tup ys)->H' b=some (.tup ys)):KT H' kvs xs:=
 Paired.mapP r fun _ _ z=>⟨z.1,ht _ _ z.2.1,z.2.2⟩
section
variable {P: Program} {w: World} {H: Hp} {h: Heap} {a: Addr}
theorem rd_of {u:HO} (ok:HOk P w H h) (e:Rd H a u):qbh P w H h a u:=e.ok ok
theorem qf7 {kvs:List (Key × V)} (ok:HOk P w H h) (e:Rd H a (.dK kvs)):kvs.length<=sizeLine/\(a==sysModules)=false/\∃vs,KV kvs vs/\h.DictOf (qbc P w) a vs:=
 show qbh P w H h a (.dK kvs) from rd_of ok e
theorem dk_of {kvs:List (Key × V)} (ok:HOk P w H h) (e:H a=some (.dK kvs)):kvs.length<=sizeLine/\(a==sysModules)=false/\∃vs,KV kvs vs/\h.DictOf (qbc P w) a vs:=qf7 ok (.inl e)
theorem key_of {ks:List Key} (ok:HOk P w H h) (e:H a=some (.tup (ks.map kV))):(tupleKind (qbc P w)).is h ks a:=by
 obtain⟨_,its,r,o,h1,h2,n,h3⟩:=(show qbh P w H h a (.tup (ks.map kV)) from ok a _ e)
 exact⟨o,its.toArray,n,h1,h2,h3,by simpa using items_are r⟩
theorem dt_rd {kvs:List (List Key × V)} (ok:HOk P w H h) (e:Rd H a (.dT kvs)):kvs.length<=sizeLine/\(a==sysModules)=false/\
  ∃xs,KT H kvs xs/\h.DictOfH (tupleKind (qbc P w)) a xs:=by
 obtain⟨z,y,xs,r,o,es,ep,h1,h2,h3,h4,h5⟩:=(show qbh P w H h a (.dT kvs) from rd_of ok e)
 refine⟨z,y,xs,r,o,es,ep,h1,h2,h3,h4,fun x hx=>?_,h5⟩
 have all:∀{l:List (List Key × V)} {m:List (List Key × Addr × Value)},KT H l m->∀x∈m,(tupleKind (qbc P w)).is h x.1 x.2.1:=by
  intro l m q
  induction q with
  |nil=>intro x hx;exact nomatch hx
  | @cons p q ps qs hq t ih=>
   intro x hx
   rcases zK.mp hx with e|hx
   .subst e
    exact key_of ok (by rw [<-hq.1];exact hq.2.1)
   .exact ih x hx
 exact all r x hx
theorem dt_of {kvs:List (List Key × V)} (ok:HOk P w H h) (e:H a=some (.dT kvs)):kvs.length<=sizeLine/\(a==sysModules)=false/\
  ∃xs,KT H kvs xs/\h.DictOfH (tupleKind (qbc P w)) a xs:=dt_rd ok (.inl e)
end
def DGet (H:Hp) (a:Addr) (y:V) (r:Option V):Prop:=
 (∃kvs k,Rd H a (.dK kvs)/\y=kV k/\r=qcd kvs k)\/∃kvs k b,Rd H a (.dT kvs)/\y=.ref b/\H b=some (.tup (k.map kV))/\r=qcd kvs k
def DPut (H:Hp) (a:Addr) (y v:V) (H':Hp):Prop:=
 (∃kvs k,H a=some (.dK kvs)/\y=kV k/\kvs.length < sizeLine/\H'=upd H a (.dK (qcy kvs k v)))\/
 ∃kvs k b,H a=some (.dT kvs)/\y=.ref b/\H b=some (.tup (k.map kV))/\kvs.length < sizeLine/\H'=upd H a (.dT (qcy kvs k v))
theorem DPut.k {H:Hp} {a:Addr} {kvs:List (Key × V)} {k:Key} {v:V} (e:H a=some (.dK kvs)) (hl:kvs.length < sizeLine):DPut H a (kV k) v (upd H a (.dK (qcy kvs k v))):=.inl ⟨kvs,k,e,rfl,hl,rfl⟩
theorem DPut.t {H:Hp} {a b:Addr} {kvs:List (List Key × V)} {k:List Key} {v:V} (e:H a=some (.dT kvs)) (eb:H b=some (.tup (k.map kV))) (hl:kvs.length < sizeLine):
  DPut H a (.ref b) v (upd H a (.dT (qcy kvs k v))):=.inr ⟨kvs,k,b,e,rfl,eb,hl,rfl⟩
section
variable {X: Cx} {pins: List (Addr × Obj)} {σ: St} {H: Hp} {s: Shared} {a: Addr} {y v: V} {u r: Value} {o: Option V} {A: Around} {E: Value -> Shared -> Prop}
theorem Inv.big (I:Inv X pins σ H s):sysModules < s.heap.objs.size:=by
 have h:mainGlobals < s.heap.objs.size:=(I.mod.glob.keeps I.bk).lt
 exact Nat.lt_trans (by decide) h
theorem d_getItem {Q:Value->Shared->Prop} (hu:A.units+1 < cLine) (I:Inv X pins σ H s) (g:DGet H a y (some v)) (ry:qbe y u) (h:∀w' s',Inv X pins σ H s'->qbe v w'->Q w' s'):
  wpAny (model X.prog X.w) A (getItem (.ref a) u) Q E s:=by
 rcases g with ⟨kvs,k,e,ey,l⟩ |⟨kvs,k,b,e,ey,eb,l⟩
 .subst ey
  obtain⟨z,hd,vs,rel,dd⟩:=qf7 I.hok e
  obtain⟨w',hw,rw'⟩:=qg3.some_of (v:=v) (o:=valueAt vs k) (by rw [l];exact rel.val k)
  exact wpAny_getItem_of (kV_is ry) dd.mapOf hw (h w' _ (I.tok _) rw')
 .subst ey
  cases (show u=Value.ref b from ry)
  obtain⟨z,hd,xs,rel,dd⟩:=dt_rd I.hok e
  obtain⟨w',hw,rw'⟩:=qg3.some_of (v:=v) (o:=(atKey xs k).map (·.2)) (by rw [l];exact rel.val k)
  obtain⟨p,hp,hp2⟩:=Option.map_eq_some_iff.mp hw
  refine wpAny_getItem_heap (tupleKind_room_in1 hu) (key_of I.hok eb) dd hp ?_
  rw [hp2]
  exact h w' _ (I.tok _) rw'
theorem d_in {Q:Value->Shared->Prop} (hu:A.units+1 < cLine) (I:Inv X pins σ H s) (g:DGet H a y o) (ry:qbe y u) (h:∀s',Inv X pins σ H s'->Q (.bool o.isSome) s'):
  wpAny (model X.prog X.w) A (compareOp .In u (.ref a)) Q E s:=by
 rcases g with ⟨kvs,k,e,ey,l⟩ |⟨kvs,k,b,e,ey,eb,l⟩
 .subst ey
  obtain⟨z,hd,vs,rel,dd⟩:=qf7 I.hok e
  refine wpAny_in_of (kV_is ry) hd dd.mapOf ?_
  rw [<-(rel.val k).isSome_eq,<-l]
  exact h _ (I.tok _)
 .subst ey
  cases (show u=Value.ref b from ry)
  obtain⟨z,hd,xs,rel,dd⟩:=dt_rd I.hok e
  refine wpAny_in_heap (tupleKind_room_in1 hu) (key_of I.hok eb) hd dd ?_
  have q:=(rel.val k).isSome_eq
  rw [Option.isSome_map] at q
  rw [<-q,<-l]
  exact h _ (I.tok _)
theorem d_write {h':Heap} {t':Nat} {ob:HO} (I:Inv X pins σ H s) (mu:Mut (H a)) (hs:Heap.SameBut a s.heap h') (he:∃q,h'.get? a=some q) (new:qbh X.prog X.w (upd H a ob) h' a ob):
  Inv X pins σ (upd H a ob) {s with heap:=h',toks:=t'}:=
 I.write (x:=a) (e:=a) mu (.inl rfl) (fun b q hb z=>(hs.2 b hb).trans z) he new
theorem dk_new {P:Program} {w:World} {H':Hp} {h':Heap} {kvs:List (Key × V)} {vs:List (Key × Value)} (z:kvs.length<=sizeLine) (hd:(a==sysModules)=false) (rel:KV kvs vs) (dd:h'.DictOf (qbc P w) a vs):
  qbh P w H' h' a (.dK kvs):=⟨z,hd,vs,rel,dd⟩
theorem d_setItem {H':Hp} {Q:Unit->Shared->Prop} (hu:A.units+1 < cLine) (I:Inv X pins σ H s) (g:DPut H a y v H') (ry:qbe y u) (rv:qbe v r) (h:∀s',Inv X pins σ H' s'->Q () s'):
  wpAny (model X.prog X.w) A (setItem (.ref a) u r) Q E s:=by
 rcases g with ⟨kvs,k,e,ey,l,eH⟩ |⟨kvs,k,b,e,ey,eb,l,eH⟩
 .subst ey eH
  obtain⟨z,hd,vs,rel,dd⟩:=dk_of I.hok e
  have hz:vs.length<=sizeLine:=by rw [<-rel.length];exact z
  have hl:(qcy kvs k v).length<=sizeLine:=by have:=qc1 kvs k v;omega
  refine wpAny_setItem_pairs (hsz:=hz) (kV_is ry) dd fun h' dd' hs=>h _ ?_
  have he:∃q,h'.get? a=some q:=let ⟨q,_,_,hq,_⟩:=dd';⟨q,hq⟩
  exact d_write I (by rw [e];exact True.intro) hs he (dk_new hl hd (rel.put k rv) dd')
 .subst ey eH
  cases (show u=Value.ref b from ry)
  obtain⟨z,hd,xs,rel,dd⟩:=dt_of I.hok e
  have hz:xs.length<=sizeLine:=by rw [<-Paired.length rel];exact z
  have hl:(qcy kvs k v).length<=sizeLine:=by have:=qc1 kvs k v;omega
  refine wpAny_setItem_heap (hsz:=hz) (tupleKind_room_in1 hu) (key_of I.hok eb) dd fun h' dd' hs=>h _ ?_
  obtain⟨q,es,ep,hq,h2,h3,h4,_,h5⟩:=dd'
  refine d_write I (by rw [e];exact True.intro) hs ⟨q,hq⟩ ⟨hl,hd,_,(rel.put k eb rv).keeps fun c ys ec=>?_,q,es,ep,hq,h2,h3,h4,h5⟩
  rw [qa7 (ne_of ec e (fun z=>nomatch z))]
  exact ec
end
section
variable {X: Cx} {pins: List (Addr × Obj)} {σ: St} {H: Hp} {s: Shared} {a: Addr} {kvs: List (Key × V)} {A: Around} {E: Value -> Shared -> Prop}
theorem d_len {Q:Value->Shared->Prop} (I:Inv X pins σ H s) (e:Rd H a (.dK kvs)) (h:∀t s',Inv X pins σ H s'->Q (.int kvs.length t) s'):wpAny (model X.prog X.w) A (call (.builtin "len") [.ref a]) Q E s:=by
 obtain⟨z,hd,vs,rel,dd⟩:=qf7 I.hok e
 refine call_len_dict hd dd (by rw [<-rel.length];rw [sizeLine_eq] at z;omega) ?_
 rw [<-rel.length]
 exact h _ _ (I.tok _)
end
def NoSl (i:Expr):Prop:=∀ov iv,subscripted i false ov iv=operate [ov,iv] (getItem ov iv)
theorem subD_of {prog:Program} {w:World} {A:Around} {E:Value->Shared->Prop} {s:Shared} {env:Env} {value slice:Expr} {pos:Pos} {T id:String} {Q:Value->Shared->Prop}
  (hl:typeLookup (.type T) "__getitem__" =pure (some (.builtin id))) (hs:NoSl slice)
  (h:wpAny (model prog w) A (eval value env) (fun o s₁=>wpAny (model prog w) A (eval slice env) (fun i s₂=>s₂.TypeIs o T/\wpAny (model prog w) A (getItem o i) Q E s₂) E s₁) E s):
  wpAny (model prog w) A (eval (.Subscript value slice pos) env) Q E s:=by
 refine Subscript_ (wpAny_mono h (fun o s₁ h₁=>wpAny_mono h₁ (fun i s₂ h₂=>?_) fun _ _ x=>x) fun _ _ x=>x)
 obtain⟨hT,h₂⟩:=h₂
 unfold subscriptTail
 refine wpAny_bind ?_
 rw [getitemInPython_of_ne hT.not_modules]
 refine wpAny_bind (wpAny_specialOf hT hl ?_)
 have fin:wpAny (model prog w) A (subscripted slice false o i) (fun r s₃=>wpAny (model prog w) A (letTemporaryGo value o r >>= fun _=>pure r) Q E s₃) E s₂:=by
  rw [hs o i]
  exact wpAny_operating (wpAny_mono h₂ (fun r s₃ h₃=>wpAny_bind (wpAny_letTemporaryGo (wpAny_pure h₃))) fun _ _ x=>x)
 first
  |exact wpAny_pure (wpAny_bind fin)
  |exact wpAny_bind (wpAny_pure (wpAny_bind fin))
  |exact wpAny_bind fin
theorem dict_typeIs {X:Cx} {pins:List (Addr × Obj)} {σ:St} {H:Hp} {s:Shared} {a:Addr} {y:V} {o:Option V} (I:Inv X pins σ H s) (g:DGet H a y o):s.TypeIs (.ref a) "dict":=by
 rcases g with ⟨kvs,k,e,_,_⟩ |⟨kvs,k,b,e,_,_,_⟩
 .obtain⟨_,_,vs,_,dd⟩:=qf7 I.hok e
  exact dd.typeIs
 .obtain⟨_,_,xs,_,dd⟩:=dt_rd I.hok e
  exact dd.typeIs
def tDGet (td ty:TE):TE:=fun σ H Q=>td σ H fun x H1=>ty σ H1 fun y H2=>∃a v,x=.ref a/\DGet H2 a y (some v)/\Q v H2
def tDIn (ty td:TE):TE:=fun σ H Q=>ty σ H fun y H1=>td σ H1 fun x H2=>∃a o,x=.ref a/\DGet H2 a y o/\Q (.bl o.isSome) H2
def sDPut (td ty tv:TE):TS:=fun D σ H=>tv σ H fun v H1=>td σ H1 fun x H2=>ty σ H2 fun y H3=>∃a H4,x=.ref a/\DPut H3 a y v H4/\D.nx σ H4
def sDAug (td ty tv:TE) (rd:V->V->Hp->VK->Prop):TS:=fun D σ H=>td σ H fun x H1=>ty σ H1 fun y H2=>∃a v,x=.ref a/\DGet H2 a y (some v)/\
 tv σ H2 fun y2 H3=>rd v y2 H3 fun z H4=>∃H5,DPut H4 a y z H5/\D.nx σ H5
section
variable {X: Cx} {o i value: Expr} {pos pos' tpos: Pos} {td ty tv: TE}
theorem qbt (hu:X.A.units+1 < cLine) (ho:PE X o td) (hi:PE X i ty) (hs:NoSl i):PE X (.Subscript o i pos) (tDGet td ty):=by
 intro pins s σ H Q I h
 refine subD_of PySem.F.slot_dict_getitem.lookup hs (thn (ho pins s σ H _ I h) fun u s1 ⟨x,H1,I1,rx,q1⟩=>thn (hi pins s1 σ H1 _ I1 q1) fun iv s2 ⟨y,H2,I2,ry,a,v,ex,g,q2⟩=>?_)
 subst ex
 obtain rfl:u=Value.ref a:=rx
 exact⟨dict_typeIs I2 g,d_getItem hu I2 g ry fun w' s3 I3 rw'=>⟨v,H2,I3,rw',q2⟩⟩
theorem pc_din (hu:X.A.units+1 < cLine) (hi:PE X i ty) (ho:PE X o td):PC X .In i o (tDIn ty td):=by
 intro pins s σ H Q I h
 refine thn (hi pins s σ H _ I h) fun iv s1 ⟨y,H1,I1,ry,q1⟩=>thn (ho pins s1 σ H1 _ I1 q1) fun u s2 ⟨x,H2,I2,rx,a,ov,ex,g,q2⟩=>?_
 subst ex
 obtain rfl:u=Value.ref a:=rx
 exact d_in hu I2 g ry fun s3 I3=>⟨.bl ov.isSome,H2,I3,rfl,q2⟩
theorem qe5 (hu:X.A.units+1 < cLine) (ho:PE X o td) (hi:PE X i ty) (hv:PE X value tv) (hs:swapsWith value (some (.Subscript o i pos')) pos.line X.env=pure false):
  PS X (.Assign [.Subscript o i pos'] value pos) (sDPut td ty tv):=by
 intro pins s σ H D I h
 refine wpAny_Assign_Subscript (thn (hv pins s σ H _ I h) fun r s1 ⟨v,H1,I1,rv,q1⟩=>thn (ho pins s1 σ H1 _ I1 q1) fun u s2 ⟨x,H2,I2,rx,q2⟩=>thn (hi pins s2 σ H2 _ I2 q2) fun iv s3 ⟨y,H3,I3,ry,a,H4,ex,g,q3⟩=>?_) hs
 subst ex
 obtain rfl:u=Value.ref a:=rx
 exact d_setItem hu I3 g ry rv fun s4 I4=>⟨σ,H4,I4,q3⟩
theorem ps_daug {op:Operator} {rd:V->V->Hp->VK->Prop} (hu:X.A.units+1 < cLine) (ho:PE X o td) (hi:PE X i ty) (hv:PE X value tv) (hop:InOp X op rd)
  (ha:∀ov iv new,augStore i ov iv new=(do holding [new,ov,iv] (setItem ov iv new);release [new,ov,iv] [];pure .next)):PS X (.AugAssign (.Subscript o i tpos) op value pos) (sDAug td ty tv rd):=by
 intro pins s σ H D I h
 refine wpAny_AugAssign_SubscriptAny (thn (ho pins s σ H _ I h) fun u s1 ⟨x,H1,I1,rx,q1⟩=>thn (hi pins s1 σ H1 _ I1 q1) fun iv s2 ⟨y,H2,I2,ry,a,v,ex,g,q2⟩=>?_) ha
 subst ex
 obtain rfl:u=Value.ref a:=rx
 refine d_getItem hu I2 g ry fun w' s3 I3 rw'=>thn (hv pins s3 σ H2 _ I3 q2) fun w2 s4 ⟨y2,H3,I4,ry2,q3⟩=>thn (hop pins s4 σ H3 v y2 w' w2 _ I4 rw' ry2 q3) fun w3 s5 ⟨z,H4,I5,rz,H5,g5,q4⟩=>?_
 exact d_setItem hu I5 g5 ry rz fun s6 I6=>⟨σ,H5,I6,q4⟩
end
theorem dk_empty {P:Program} {w:World} {H:Hp} (h:Heap) (hb:sysModules < h.objs.size):qbh P w H (h.push {cls:=.type "dict",data:=.dict #[]}) h.objs.size (.dK []):=
 ⟨Nat.zero_le _,beq_eq_false_iff_ne.mpr (Ne.symm (Nat.ne_of_lt hb)), [],.nil,Heap.DictOf.new h⟩
theorem dt_empty {P:Program} {w:World} {H:Hp} (h:Heap) (hb:sysModules < h.objs.size):qbh P w H (h.push {cls:=.type "dict",data:=.dict #[]}) h.objs.size (.dT []):=
 ⟨Nat.zero_le _,beq_eq_false_iff_ne.mpr (Ne.symm (Nat.ne_of_lt hb)), [],.nil,_,#[],0,Heap.get?_push_size _ rfl,⟨rfl,rfl,rfl⟩,rfl,rfl,yK⟩
def tDNewK:TE:=fun _ H Q=>∀p,H p=none->Q (.ref p) (upd H p (.dK []))
def tDNewT:TE:=fun _ H Q=>∀p,H p=none->Q (.ref p) (upd H p (.dT []))
section
variable {X: Cx} {pos: Pos}
theorem qfr:PE X (.Dict [] [] pos) tDNewK:=fun pins s σ H Q I h=>
 wpAny_Dict_empty ⟨.ref s.heap.objs.size,_,I.laid (a:=s.heap.objs.size) (o:=.dK []) (t':=s.toks) (fun _ _ q=>Heap.get?_push_of_some _ q) (Nat.le_refl _) (dk_empty s.heap I.big),rfl,h _ (I.hok.fresh (Nat.le_refl _))⟩
theorem pe_dnewT:PE X (.Dict [] [] pos) tDNewT:=fun pins s σ H Q I h=>
 wpAny_Dict_empty ⟨.ref s.heap.objs.size,_,I.laid (a:=s.heap.objs.size) (o:=.dT []) (t':=s.toks) (fun _ _ q=>Heap.get?_push_of_some _ q) (Nat.le_refl _) (dt_empty s.heap I.big),rfl,h _ (I.hok.fresh (Nat.le_refl _))⟩
end
def tPairs:List (TE × TE)->St->Hp->(List (V × V)->Hp->Prop)->Prop
 | [],_,H,Q=>Q [] H
 |(tk,tv) :: r,σ,H,Q=>tk σ H fun x H1=>tv σ H1 fun y H2=>tPairs r σ H2 fun ps H3=>Q ((x,y) :: ps) H3
abbrev VV:List (V × V)->List (Value × Value)->Prop:=Paired fun p q=>qbe p.1 q.1/\qbe p.2 q.2
def PPs (X:Cx) (pos:Pos) (keys:List (Option Expr)) (values:List Expr) (trs:List (TE × TE)):Prop:=
 ∀(pins:List (Addr × Obj)) (s:Shared) (σ:St) (H:Hp) (Q:List (V × V)->Hp->Prop),Inv X pins σ H s->tPairs trs σ H Q->
  wpAny (model X.prog X.w) X.A (evalPairs (pairTrees keys values X.env pos)) (fun vs s'=>∃ps H',Inv X pins σ H' s'/\VV ps vs/\Q ps H') X.xe s
theorem pps_nil {X:Cx} {pos:Pos}:PPs X pos [] [] []:=fun pins s σ H Q I h=>pairTrees_nil_walk ⟨[],H,I,.nil,h⟩
theorem qfq {X:Cx} {pos:Pos} {k v:Expr} {ks:List (Option Expr)} {vs:List Expr} {tk tv:TE} {trs:List (TE × TE)} (hk:PE X k tk) (hv:PE X v tv) (hr:PPs X pos ks vs trs):
  PPs X pos (some k :: ks) (v :: vs) ((tk,tv) :: trs):=fun pins s σ H Q I h=>
 pairTrees_cons_walk (thn (hk pins s σ H _ I h) fun u s1 ⟨x,H1,I1,rx,q1⟩=>thn (hv pins s1 σ H1 _ I1 q1) fun w2 s2 ⟨y,H2,I2,ry,q2⟩=>
  thn (hr pins s2 σ H2 _ I2 q2) fun ws s3 ⟨ps,H3,I3,rel,q3⟩=>⟨(x,y) :: ps,H3,I3,.cons ⟨rx,ry⟩ rel,q3⟩)
def qfd (kvs more:List (Key × V)):List (Key × V):=more.foldl (fun acc kv=>qcy acc kv.1 kv.2) kvs
theorem KV.merge:∀{more:List (Key × V)} {rs:List (Key × Value)} {kvs:List (Key × V)} {vs:List (Key × Value)},KV more rs->KV kvs vs->KV (qfd kvs more) (merged vs rs):=by
 intro more rs kvs vs r
 unfold KV at r
 induction r generalizing kvs vs with
 |nil=>intro q;exact q
 | @cons p q ps qs h t ih=>
  intro r0
  have e:KV (qcy kvs p.1 p.2) (stored vs q.1 q.2):=by
   have:=r0.put p.1 h.2
   rw [<-h.1];exact this
  exact ih e
theorem qdz:∀(more kvs:List (Key × V)),(qfd kvs more).length<=kvs.length+more.length
 | [],kvs=>by show kvs.length<=kvs.length+0;omega
 |p :: r,kvs=>by
  have h1:=qdz r (qcy kvs p.1 p.2)
  have h2:=qc1 kvs p.1 p.2
  show (qfd (qcy kvs p.1 p.2) r).length<=_
  rw [zP];omega
theorem qff {P:Program} {w:World}:∀{kvs:List (Key × V)} {ws:List (Value × Value)},VV (kvs.map fun kv=>(kV kv.1,kv.2)) ws->∃rs,Carries (qbc P w) ws rs/\KV kvs rs
 | [],_,r=>by rw [List.map_nil] at r;cases r;exact⟨[],True.intro,.nil⟩
 |p :: kvs,_,r=>by
  rw [zS] at r
  cases r with
  | @cons a b as bs h t=>
   obtain⟨rs,c,q⟩:=qff (P:=P) (w:=w) t
   obtain⟨b1,b2⟩:=b
   exact⟨(p.1,b2) :: rs,⟨kV_is h.1,rfl,c⟩,.cons ⟨rfl,h.2⟩ q⟩
def tDisp (trs:List (TE × TE)):TE:=fun σ H Q=>∀p,H p=none->tPairs trs σ (upd H p (.dK [])) fun ps H2=>H2 p=some (.dK [])/\∃kvs:List (Key × V),ps=kvs.map (fun kv=>(kV kv.1,kv.2))/\kvs.length<=15/\Q (.ref p) (upd H2 p (.dK (qfd [] kvs)))
theorem pe_disp {X:Cx} {pos:Pos} {keys:List (Option Expr)} {values:List Expr} {trs:List (TE × TE)} (h:PPs X pos keys values trs) (hall:keys.all (·.isSome)=true) (hl:keys.length=values.length) (h0:keys≠ [])
  (h15:keys.length<=15):PE X (.Dict keys values pos) (tDisp trs):=by
 intro pins s σ H Q I q
 have hn:=I.hok.fresh (Nat.le_refl s.heap.objs.size)
 have I1:=I.laid (a:=s.heap.objs.size) (o:=.dK []) (h':=s.heap.push {cls:=.type "dict",data:=.dict #[]}) (t':=s.toks) (fun _ _ q=>Heap.get?_push_of_some _ q) (Nat.le_refl _) (dk_empty s.heap I.big)
 refine wpAny_Dict_walk (knd:=qbc X.prog X.w) hall hl h0 h15 (thn (h pins _ σ _ _ I1 (q _ hn)) fun ws s2 ⟨ps,H2,I2,rel,e,kvs,ep,lk,q2⟩=>?_)
 subst ep
 obtain⟨rs,c,rk⟩:=qff (P:=X.prog) (w:=X.w) rel
 obtain⟨z,hd,vs0,r0,dd⟩:=dk_of I2.hok e
 cases r0
 refine⟨rs,c,dd,fun h' dd' hs=>⟨.ref s.heap.objs.size,_,?_,rfl,q2⟩⟩
 have hz:(qfd [] kvs).length<=sizeLine:=by
  have h1:=qdz kvs []
  rw [yR] at h1
  rw [sizeLine_eq];omega
 have he:∃q,h'.get? s.heap.objs.size=some q:=let ⟨q,_,_,hq,_⟩:=dd';⟨q,hq⟩
 exact d_write I2 (by rw [e];exact True.intro) hs he (dk_new hz hd (rk.merge .nil) dd')
structure M1 (X:Cx) (o:Expr) (m:Str) (apos:Pos) (e:Expr) (cpos:Pos):Prop where
 base:attributeBase o m X.env (eval o X.env)=eval o X.env
 few:((backTo cpos (starEach [e] X.env)).all (fun x=>!x.1) && (backToKw cpos (keywordEach [] X.env)).all (fun x=>x.1.isSome)
  && decide (([e]:List Expr).length+([]:List Keyword).length+(if ([]:List Keyword).isEmpty then 0 else 1) < 30))=true
 line:(apos.endLine==cpos.line)=true
 trees:backTo cpos (starEach [e] X.env)=[(false,eval e X.env)]
structure M2 (X:Cx) (o:Expr) (m:Str) (apos:Pos) (e f:Expr) (cpos:Pos):Prop where
 base:attributeBase o m X.env (eval o X.env)=eval o X.env
 few:((backTo cpos (starEach [e,f] X.env)).all (fun x=>!x.1) && (backToKw cpos (keywordEach [] X.env)).all (fun x=>x.1.isSome)
  && decide (([e,f]:List Expr).length+([]:List Keyword).length+(if ([]:List Keyword).isEmpty then 0 else 1) < 30))=true
 line:(apos.endLine==cpos.line)=true
 trees:backTo cpos (starEach [e,f] X.env)=[(false,eval e X.env),(false,eval f X.env)]
def IsD (H:Hp) (a:Addr):Prop:=(∃kvs,Rd H a (.dK kvs))\/∃kvs,Rd H a (.dT kvs)
theorem isD_at {X:Cx} {pins:List (Addr × Obj)} {σ:St} {H:Hp} {s:Shared} {a:Addr} (I:Inv X pins σ H s) (d:IsD H a):
  s.TypeIs (.ref a) "dict"/\(∀b,Value.ref a=.ref b->∃ob,s.heap.get? b=some ob/\ob.dict=none)/\(a==sysModules)=false:=by
 rcases d with ⟨kvs,e⟩ |⟨kvs,e⟩
 .obtain⟨_,hd,vs,_,dd⟩:=qf7 I.hok e
  refine⟨dd.typeIs,fun b q=>?_,hd⟩
  cases q
  obtain⟨ob,_,_,h1,h2,_⟩:=dd
  exact⟨ob,h1,h2.2.1⟩
 .obtain⟨_,hd,xs,_,dd⟩:=dt_rd I.hok e
  refine⟨dd.typeIs,fun b q=>?_,hd⟩
  cases q
  obtain⟨ob,_,_,h1,h2,_⟩:=dd
  exact⟨ob,h1,h2.2.1⟩
section
variable {X: Cx} {pins: List (Addr × Obj)} {σ: St} {H: Hp} {s: Shared} {a: Addr} {y d: V} {u r: Value} {o: Option V} {A: Around} {E: Value -> Shared -> Prop}
theorem d_get2 {Q:Value->Shared->Prop} (hu:A.units+1 < cLine) (I:Inv X pins σ H s) (g:DGet H a y o) (ry:qbe y u) (rd:qbe d r) (h:∀w' s',Inv X pins σ H s'->qbe (o.getD d) w'->Q w' s'):
  wpAny (model X.prog X.w) A (call (.builtin "dict.get") [.ref a,u,r]) Q E s:=by
 rcases g with ⟨kvs,k,e,ey,l⟩ |⟨kvs,k,b,e,ey,eb,l⟩
 .subst ey
  obtain⟨z,hd,vs,rel,dd⟩:=qf7 I.hok e
  refine call_meetsIn PySem.F.slot_dict_get dd.typeIs PySem.F.entry_dict_get (PySem.F.args_dict_get_3 _ _ _) (meets_dict_get_default (qbc X.prog X.w) a (kV_is ry) hd r) ⟨_,dd.mapOf,h _ _ (I.tok _) ?_⟩
  rw [l]
  exact(rel.val k).getD rd
 .subst ey
  cases (show u=Value.ref b from ry)
  obtain⟨z,hd,xs,rel,dd⟩:=dt_rd I.hok e
  refine call_meetsIn PySem.F.slot_dict_get dd.typeIs PySem.F.entry_dict_get (PySem.F.args_dict_get_3 _ _ _) (meetsH_dict_get_default (tupleKind (qbc X.prog X.w)) a b hd r) ⟨tupleKind_room_in1 hu,k,xs,key_of I.hok eb,dd,h _ _ (I.tok _) ?_⟩
  rw [l]
  exact(rel.val k).getD rd
end
def tDGet2 (td ty tx:TE):TE:=fun σ H Q=>td σ H fun x H1=>∃a,x=.ref a/\IsD H1 a/\ty σ H1 fun y H2=>tx σ H2 fun z H3=>∃o,DGet H3 a y o/\Q (o.getD z) H3
section
variable {X: Cx} {o e f: Expr} {apos cpos: Pos} {td ty tx: TE}
theorem pe_dget2 (hu:X.A.units+1 < cLine) (ho:PE X o td) (he:PE X e ty) (hf:PE X f tx) (m:M2 X o "get" apos e f cpos):PE X (.Call (.Attribute o "get" apos) [e,f] [] cpos) (tDGet2 td ty tx):=by
 intro pins s σ H Q I h
 refine wpAny_Call_method m.base m.few m.line PySem.F.plainAttrs_dict PySem.F.slot_dict_get PySem.F.type_dict_get (thn (ho pins s σ H _ I h) fun u s1 ⟨x,H1,I1,rx,a,ex,d,q1⟩=>?_)
 subst ex
 obtain rfl:u=Value.ref a:=rx
 obtain⟨t1,t2,_⟩:=isD_at I1 d
 refine⟨t1,t2,?_⟩
 rw [m.trees]
 refine Calls.callWith_builtin rfl (Calls.evalArgs_plain (Calls.spliced_cons (thn (he pins s1 σ H1 _ I1 q1) fun iv s2 ⟨y,H2,I2,ry,q2⟩=>
  Calls.spliced_cons (thn (hf pins s2 σ H2 _ I2 q2) fun fv s3 ⟨z,H3,I3,rz,ov,g,q3⟩=>Calls.spliced_nil ?_))))
 exact d_get2 hu I3 g ry rz fun w' s4 I4 rw'=>⟨_,H3,I4,rw',q3⟩
end
section
variable {X: Cx} {pins: List (Addr × Obj)} {σ: St} {H: Hp} {s: Shared} {a: Addr} {kvs: List (Key × V)} {A: Around} {E: Value -> Shared -> Prop}
theorem d_copyOf {Q:Value->Shared->Prop} (I:Inv X pins σ H s) (e:Rd H a (.dK kvs)) (h:∀p s',H p=none->Inv X pins σ (upd H p (.dK kvs)) s'->Q (.ref p) s'):wpAny (model X.prog X.w) A (call (.type "dict") [.ref a]) Q E s:=by
 obtain⟨z,hd,vs,rel,dd⟩:=qf7 I.hok e
 refine kt_call_dict hd dd (by rw [<-rel.length];exact z) fun h' dd' hs=>?_
 refine h _ _ (I.hok.fresh (Nat.le_refl _)) (I.laid (a:=s.heap.objs.size) (o:=.dK kvs) (t':=s.toks) (fun b q hq=>?_) (Nat.le_refl _) (dk_new z (beq_eq_false_iff_ne.mpr (Ne.symm (Nat.ne_of_lt I.big))) rel dd'))
 exact(hs.2 b (Nat.ne_of_lt (Heap.lt_size hq))).trans (Heap.get?_push_of_some _ hq)
end
section
variable {X: Cx}
theorem call_lenD:qc7 X (.builtin "len") (fun xs H Q=>∃a kvs,xs=[V.ref a]/\H a=some (.dK kvs)/\Q (.int kvs.length) H):=by
 intro pins s σ H xs us Q I r h
 obtain⟨a,kvs,rfl,ha,q⟩:=h
 obtain⟨u,rfl,ru⟩:=vals1 r
 cases ru
 exact d_len I (.inl ha) fun t s' I'=>⟨.int kvs.length,H,I',⟨t,rfl⟩,q⟩
end
section
variable {κ: Type} [DecidableEq κ]
theorem valV_not {kvs:List (κ × V)} {k:κ} (h:qcd kvs k=none):¬k∈kvs.map (·.1):=by
 intro m
 obtain⟨p,hp,e⟩:=zI.mp m
 have q:(kvs.any fun kv=>decide (kv.1=k))=true:=yS.mpr ⟨p,hp,decide_eq_true e⟩
 rw [qcf,h] at q
 exact absurd q (by simp)
theorem valV_in {kvs:List (κ × V)} {k:κ} {v:V} (h:qcd kvs k=some v):k∈kvs.map (·.1):=by
 have q:(kvs.any fun kv=>decide (kv.1=k))=true:=by
  rw [qcf,h]
  all_goals rfl
 obtain⟨p,hp,e⟩:=yS.mp q
 exact zI.mpr ⟨p,hp,of_decide_eq_true e⟩
theorem nd_snoc:∀{l:List κ} {k:κ},l.Nodup->¬k∈l->(l++ [k]).Nodup
 | [],k,_,_=>by simp
 |a :: r,k,h,hk=>by
  obtain⟨h1,h2⟩:=yA.mp h
  show (a ::(r++ [k])).Nodup
  refine yA.mpr ⟨fun m=>?_,nd_snoc h2 fun m=>hk (zK.mpr (Or.inr m))⟩
  rcases zV.mp m with q|q
  .exact h1 q
  .exact hk (zK.mpr (Or.inl (zG.mp q).symm))
theorem nd_putK {kvs:List (κ × V)} {k:κ} (v:V) (hn:(kvs.map (·.1)).Nodup) (h:qcd kvs k=none):((qcy kvs k v).map (·.1)).Nodup:=by
 rw [qef v h,zE]
 exact nd_snoc hn (valV_not h)
end
end L2
namespace My
open PySem PySem.Spec PyProof.Rows L2
theorem qdg {α:Type} {β:Type} [BEq α] [LawfulBEq α]:∀{l:List (α × β)} {x:α} {v:β},l.lookup x=some v->(x,v)∈l
 |(a,b) :: l,x,v,h=>by
  rw [List.lookup_cons] at h
  cases e:x==a with
  |true=>rw [e] at h;have e':=eq_of_beq e;have h':b=v:=Option.some.inj h;subst e' h';exact zL
  |false=>rw [e] at h;exact zF _ (qdg h)
theorem qb4 {X:Cx} {x:Str} {scope:Scope} {cl:List (Str × Addr)} {caps:List Nat} {cn:List Str} (h1:closureFor scope X.env=pure cl) (h2:scope.kind=.function) (h3:scope.names.all (fun p=>p.2 !=.cell)=true)
  (h4:scope.names.all (fun p=>p.2 !=.local || scope.names.lookup p.1==some .local)=true) (h5:scope.names.lookup x=some .local) (h6:AllC (fun p=>X.env.cells.lookup p.1=some p.2) cl)
  (h7:(relabel scope X.env).names.all (fun p=>!(p.2==.cell || p.2==.free) ||(cl.lookup p.1).isSome)=true) (h8:caps.length=cn.length)
  (h9:AllC (fun p=>X.N[p.1]?=some p.2/\X.env.kindOf p.2=some .cell/\(relabel scope X.env).names.lookup p.2=some .cell/\X.env.scope.names.lookup p.2=some .cell/\∃c,cl.lookup p.2=some c) (caps.zip cn)) (h10:(x :: cn).Nodup):Caps X x scope cl caps cn:=by
 refine⟨h1,h2,fun y hy z=>?_,fun y hy z=>?_,h5,fun y c e=>AllC.mem h6 _ (qdg e),fun y hy=>?_,h8,fun k y j e1 e2=>?_,h10⟩
 .have q:=yE.mp h3 y hy
  rw [z] at q
  cases q
 .have q:=yE.mp h4 y hy
  rw [z] at q
  simpa using q
 .have m:∃k,(y,k)∈(relabel scope X.env).names/\(k=.cell\/k=.free):=by
   rcases hy with hy|hy
   .exact⟨_,qdg hy,.inl rfl⟩
   .exact⟨_,qdg hy,.inr rfl⟩
  obtain⟨k,hm,hk⟩:=m
  have q:=yE.mp h7 _ hm
  have hk':(k==NameKind.cell || k==NameKind.free)=true:=by rcases hk with rfl|rfl <;> decide
  rw [hk'] at q
  exact Option.isSome_iff_exists.mp (by simpa using q)
 .refine AllC.mem h9 (j,y) ?_
  have hz:(caps.zip cn)[k]?=some (j,y):=by rw [List.getElem?_zip_eq_some];exact⟨e2,e1⟩
  exact zD hz
section
variable {X: Cx}
theorem pi_str {l:Expr} {tl:TE} {y:Str} {py:Pos} (hl:PE X l tl):PI X (.Name y py) l (iStr tl):=by
 intro pins s σ H R I h
 refine thn (hl pins s σ H _ I h) fun u s1 ⟨v,H1,I1,r,x,ev,q⟩=>?_
 subst ev
 obtain⟨t,rfl⟩:=r
 have hn:H1 s1.heap.objs.size=none:=I1.hok.fresh (Nat.le_refl _)
 have fp:∀b∈ [s1.heap.objs.size],qf4 X pins H1 b:=fun b hb=>by
  have e:b=s1.heap.objs.size:=by simpa using hb
  subst e
  exact I1.fpOk (Nat.le_refl _) hn
 cases ha:x.cps.all (·< 128)
 .exact wpAny_pyIter_wide ha ⟨_, [s1.heap.objs.size],fun i h=>h.IsStrIter s1.heap.objs.size "str_iterator" x t i,Its x,H1,rfl,I1.kept (t':=s1.toks) (fun _ _ e=>Heap.get?_push_of_some _ e),
   turn_str x t _ _ (fun A hA=>Walks.strWide hA _ x t) fun A i s' Q' E' st hq=>wpAny_pyIter_striter_wide st hq,⟨_,Heap.get?_push_size _ rfl,rfl,rfl⟩,fp,q⟩
 .exact wpAny_pyIter_ascii ha ⟨_, [s1.heap.objs.size],fun i h=>h.IsStrIter s1.heap.objs.size "str_ascii_iterator" x t i,Its x,H1,rfl,I1.kept (t':=s1.toks) (fun _ _ e=>Heap.get?_push_of_some _ e),
   turn_str x t _ _ (fun A hA=>Walks.strAscii hA _ x t) fun A i s' Q' E' st hq=>wpAny_pyIter_striter_ascii st hq,⟨_,Heap.get?_push_size _ rfl,rfl,rfl⟩,fp,q⟩
def rAll (K:Frag):List V->Hp->VK->Prop:=fun xs H Q=>∃(p:Addr) (bs:List Bool),xs=[.ref p]/\SqL K H p (bs.map V.bl)/\Q (.bl (bs.all id)) H
theorem all_range (bs:List Bool):((List.range bs.length).all fun i=>(bs[i]?).getD true)=bs.all id:=by
 rw [Bool.eq_iff_iff,yE,yE]
 constructor
 .intro h b hb
  obtain⟨i,hi,e⟩:=zQ.mp hb
  have q:=h i (yP.mpr hi)
  rw [zA hi,e] at q
  exact q
 .intro h i hi
  have hi':=yP.mp hi
  rw [zA hi']
  exact h _ (zO hi')
theorem call_allB (hc:X.calm=true):qc7 X (.builtin "all") (rAll X.K):=by
 intro pins s σ H xs us Q I hv h
 obtain⟨p,bs,rfl,hS,q⟩:=h
 obtain⟨u,rfl,ru⟩:=hv.one
 cases ru
 obtain⟨its,rv,pl,hz⟩:=I.list hS
 have hl:=pl.isList
 have hlt:p < s.heap.objs.size:=by obtain⟨_,e,_⟩:=hl;exact Heap.lt_size e
 have hlen:=rv.length
 rw [zB] at hlen
 refine call_all_walk (wpAny_pyIter_list hl ?_)
 refine⟨s.heap.objs.size, [s.heap.objs.size,p], [s.heap.objs.size],its.toArray.size,_,_,fun i=>(bs[i]?).getD true,rfl,Walks.list (A:=X.A.in1) (I.ok.hd hc) _ p (Nat.ne_of_lt hlt) its.toArray,⟨⟨_,Heap.get?_push_size _ rfl,rfl,rfl⟩,hl.push _⟩,fun i v s' Q' E' hP hQ=>?_,fun h' tk hk=>?_⟩
 .have hi:its[i]?=some v:=by simpa using hP
  have hb:i < bs.length:=by rw [hlen];exact(List.getElem?_eq_some_iff.mp hi).1
  have hx:(bs.map V.bl)[i]?=some (.bl bs[i]):=by rw [zC,zA hb];rfl
  obtain⟨u,e,r⟩:=rv.get hx
  rw [hi] at e
  cases e
  cases r
  dsimp only at hQ
  rw [zA hb] at hQ
  exact wpAny_truthy_bool hQ
 .have e:((List.range its.toArray.size).all fun i=>(bs[i]?).getD true)=bs.all id:=by
   rw [zN,<-hlen];exact all_range bs
  rw [e]
  exact⟨.bl _,H,I.kept (t':=tk) (fun b o eb=>hk b o (fun hm=>by have z:=Heap.lt_size eb;rw [zG.mp hm] at z;exact Nat.lt_irrefl _ z) (Heap.get?_push_of_some _ eb)),rfl,q⟩
def rCatS:R2:=fun x y H Q=>∃i j,x=.str i/\y=.str j/\i.length+j.length<=sizeLine/\Q (.str (i++j)) H
theorem op_catS:OpR X (binaryOp .Add) rCatS:=op_add_str
def rInS:R2:=fun x y H Q=>∃i j,x=.str i/\y=.str j/\Q (.bl (!(Builtin.Str.occurrences j i 0 j.length 1).isEmpty)) H
theorem op_inS:OpR X (compareOp .In) rInS:=op_in_str
def rLenS:List V->Hp->VK->Prop:=fun xs H Q=>∃z,xs=[.str z]/\z.length<=sizeLine/\Q (.int z.length) H
theorem call_lenS:qc7 X (.builtin "len") rLenS:=call_len_str
end
section
variable {K: Frag} {H: Hp} {Q: VK} {σ: L2.St}
theorem r_sl {r:V->Option Int->Option Int->Hp->VK->Prop} {te:TE} {tl th:TO} (h:te σ H fun x H1=>tl σ H1 fun l H2=>th σ H2 fun u H3=>r x l u H3 Q):tSl r te tl th σ H Q:=h
theorem r_noPart {Q:Option Int->Hp->Prop} (h:Q none H):tNoPart σ H Q:=h
theorem r_part {te:TE} {Q:Option Int->Hp->Prop} (h:te σ H fun x H1=>∃i,x=.int i/\Q (some i) H1):tPart te σ H Q:=h
theorem r_exi {i:Int} {Q:Int->Prop} (h:Q i):∃j,V.int i=.int j/\Q j:=⟨i,rfl,h⟩
theorem r_chain {r r':R2} {ta tb tc:TE} (h:ta σ H fun x H1=>tb σ H1 fun y H2=>r x y H2 fun z H3=>∃k,z=.bl k/\(if k=true then tc σ H3 fun w' H4=>r' y w' H4 Q else Q (.bl false) H3)):tChain r r' ta tb tc σ H Q:=h
theorem r_all {p:Addr} {bs:List Bool} (hS:SqL K H p (bs.map V.bl)) (h:Q (.bl (bs.all id)) H):rAll K [.ref p] H Q:=⟨p,bs,rfl,hS,h⟩
theorem r_catS {i j:Str} (hn:i.length+j.length<=sizeLine) (h:Q (.str (i++j)) H):rCatS (.str i) (.str j) H Q:=⟨i,j,rfl,rfl,hn,h⟩
theorem r_inS {i j:Str} (h:Q (.bl (!(Builtin.Str.occurrences j i 0 j.length 1).isEmpty)) H):rInS (.str i) (.str j) H Q:=⟨i,j,rfl,rfl,h⟩
theorem r_lenS {z:Str} (hn:z.length<=sizeLine) (h:Q (.int z.length) H):rLenS [.str z] H Q:=⟨z,rfl,hn,h⟩
theorem r_ixS {z:Str} {i:Int} {c:Nat} (hn:z.length<=sizeLine) (e:atI z.cps.toList i=some c) (h:Q (.str ⟨#[c]⟩) H):rIxS (.str z) (.int i) H Q:=⟨z,i,c,rfl,rfl,hn,e,h⟩
theorem r_iS {tl:TE} {R:It->Hp->Prop} (h:tl σ H fun v H1=>rItS v H1 R):iStr tl σ H R:=h
theorem r_itS {x:Str} {R:It->Hp->Prop} (h:R (Its x) H):rItS (.str x) H R:=⟨x,rfl,h⟩
theorem r_comp {wi:TI} {caps:List Nat} {tt:CT TT} {te:CT TE} (h:wi σ H fun J H1=>∀(C:Addr) (s:Shared) (H0:Hp) (fp:List Addr) (acc:Addr),H1 acc=none->COMP J caps (tt C s H0 fp) (te C s H0 fp) acc σ (upd H1 acc (.lst [])) Q):tComp wi caps tt te σ H Q:=h
theorem r_true {Q:Bool->Hp->Prop} (h:Q true H):tTrue σ H Q:=h
theorem r_app {acc:Addr} {N:Hp->Prop} {y:V} {ys:List V} (ha:H acc=some (.lst ys)) (hz:ys.length < sizeLine) (h:N (upd H acc (.lst (ys++ [y])))):rApp acc N y H:=⟨ys,ha,hz,h⟩
theorem qf9 {J:It} {caps:List Nat} {tt:TT} {te:TE} {acc:Addr} (n:Nat) (Pv:Nat->Hp->Prop) (h0:Pv 0 H) (hgo:∀i H,i < n->Pv i H->J.go i H) (hst:∀H,Pv n H->J.stop n H)
  (hs:∀i H v H',i < n->Pv i H->J.yld i H v H'->tt (some v :: qat caps σ) H' fun b H2=>if b=true then te (some v :: qat caps σ) H2 fun y H3=>rApp acc (Pv (i+1)) y H3 else Pv (i+1) H2)
  (hd:∀H,Pv n H->Q (.ref acc) H):COMP J caps tt te acc σ H Q:=by
 refine⟨fun i m H=>m=n - i/\i<=n/\Pv i H,⟨n,rfl,Nat.zero_le _,h0⟩,?_⟩
 rintro i m H ⟨rfl,hi,p⟩
 by_cases hlt:i < n
 .exact .inr ⟨hgo i H hlt p,Pv (i+1),fun H' p'=>⟨n - (i+1),by omega,rfl,hlt,p'⟩,fun v H' y=>hs i H v H' hlt p y⟩
 .have e:i=n:=by omega
  subst e
  exact .inl ⟨hst H p,hd H p⟩
end
section
variable {X: Cx}
def rRep:R2:=fun x y H Q=>∃z n,x=.str z/\y=.int n/\0<=n/\n<=1/\Q (.str (if n < 1 then Str.empty else z)) H
theorem op_rep:OpR X (binaryOp .Mult) rRep:=by
 intro pins s σ H x y v u Q I rx ry h
 obtain⟨z,n,rfl,rfl,h0,h1,q⟩:=h
 obtain⟨t,rfl⟩:=rx
 obtain⟨k,rfl⟩:=ry
 refine P.mul_str (by rw [decide_eq_false (by omega),decide_eq_false (by omega)];rfl) (fun h2 h3=>?_) (fun h2 h3=>?_) ?_
 .have e:n=1:=by omega
  subst e
  rw [show ((1:Int)==1)=true from rfl,Bool.true_or] at h3;cases h3
 .have e:n=1:=by omega
  subst e
  rw [show ((1:Int)==1)=true from rfl,Bool.true_or] at h3;cases h3
 .by_cases c:n < 1
  .rw [if_pos c] at q ⊢
   exact⟨by decide,.str Str.empty,H,I.tok _,⟨_,rfl⟩,q⟩
  .have e:n=1:=by omega
   subst e
   rw [if_neg c] at q ⊢
   rw [if_pos (by rw [show ((1:Int)==1)=true from rfl,Bool.true_or])]
   exact⟨.str z,H,I,⟨_,rfl⟩,q⟩
def rIntB:List V->Hp->VK->Prop:=fun xs H Q=>∃b:Bool,xs=[.bl b]/\Q (.int (if b then 1 else 0)) H
theorem qe1:qc7 X (.type "int") rIntB:=by
 intro pins s σ H xs us Q I r h
 obtain⟨b,rfl,q⟩:=h
 cases r with
 |cons r1 r2=>
  cases r2
  cases r1
  exact call_int_bool ⟨.int _,H,I.tok _,⟨_,rfl⟩,q⟩
end
section
variable {H: Hp} {Q: VK}
theorem r_rep {z:Str} {n:Int} (h0:0<=n) (h1:n<=1) (h:Q (.str (if n < 1 then Str.empty else z)) H):rRep (.str z) (.int n) H Q:=⟨z,n,rfl,rfl,h0,h1,h⟩
theorem r_intB {b:Bool} (h:Q (.int (if b then 1 else 0)) H):rIntB [.bl b] H Q:=⟨b,rfl,h⟩
end
section
variable {prog: Program} {w: World} {A: Around} {E: Value -> Shared -> Prop} {h: Heap} {g: Array GenState} {d: Drawn} {t: Nat} {os: OsState}
variable {nm q: Str} {C N fI: Addr} {bs bm bmB: List Value} {hdct: Bool} {sn: List Str} {sub: List Value} {ab: Bool} {col: Option Bool} {dd: Option Addr} {k0 k1 k2 k3 k5: Option Value} {B Bn newId nid initId inN: String} {bmN: List Value}
def qct (h:Heap) (C:Addr) (rest:List Value):Heap:=(h.push {cls:=.type "tuple",data:=.seq rest.toArray}).push {cls:=.ref C,data:=.fields #[.ref h.objs.size,.none,.none,.none,.bool false,.none]}
theorem qf5 (Fn:ExcBaseFacts Bn newId inN bmN) (hBn:bmB.contains (.type Bn)=true) (F:ExcBaseFacts B nid initId bmB) (T:OwnTail h bmB bm) {mN:Str->Option Value} {rest:List Value} {Q:Fin->Shared->Prop}
  (hC:h.get? C=some (excClassObj nm q C N bs bm hdct sn sub ab col dd k0 k1 k2 k3 k5 newId)) (hn:h.Ns N mN) (hni:mN "__init__" =some (.ref fI))
  (hb:PySem.W.Looks (model prog w) (qct h C rest) (bindSpecial (.ref fI) (.ref (h.objs.size+1))) (.ref fI, [.ref (h.objs.size+1)]))
  (hq:wpAny (model prog w) A (call (.ref fI) (.ref (h.objs.size+1) :: rest)) (fun v s'=>v=.none/\Q (.done (.ret (.ref (h.objs.size+1)))) s') E ⟨qct h C rest,g,d,t,os⟩) (hrest:rest.length<=sizeLine:=by size_fits):
  wpAny (model prog w) A (Builtin.«type.__call__» ⟨.ref C :: rest, []⟩) Q E ⟨h,g,d,t,os⟩:=by
 repeat (first|with_reducible refine wpAny_loadPart_at hC ?_|with_reducible refine wpAny_madeBy_exc hC ?_|wp_step)
 refine codeAny_call_builtin_code (Code.quiet_builtin _ Fn.quiet) (wpAny_check_new_subU Fn hBn T hC ?_)
 refine codeAny_exc_new_subU Fn hBn F T hC ?_ hrest
 show wpAny _ _ _ _ _ _
 have hC₁:=Heap.get?_push_of_some {cls:=.ref C,data:=.fields #[.ref h.objs.size,.none,.none,.none,.bool false,.none]}
  (Heap.get?_push_of_some {cls:=.type "tuple",data:=.seq rest.toArray} hC)
 have hn₁:((h.push {cls:=.type "tuple",data:=.seq rest.toArray}).push {cls:=.ref C,data:=.fields #[.ref h.objs.size,.none,.none,.none,.bool false,.none]}).Ns N mN:=
  let ⟨o,es,ep,e,r⟩:=hn;⟨o,es,ep,Heap.get?_push_of_some _ (Heap.get?_push_of_some _ e),r⟩
 have hget:((h.push {cls:=.type "tuple",data:=.seq rest.toArray}).push
   {cls:=.ref C,data:=.fields #[.ref h.objs.size,.none,.none,.none,.bool false,.none]}).get? (h.objs.size+1)=some
   {cls:=.ref C,data:=.fields #[.ref h.objs.size,.none,.none,.none,.bool false,.none]}:=by heap_get
 have hcC:(Value.ref C :: bm).contains (.ref C)=true:=by simp
 have T₁:=T.keeps (h':=(h.push {cls:=.type "tuple",data:=.seq rest.toArray}).push {cls:=.ref C,data:=.fields #[.ref h.objs.size,.none,.none,.none,.bool false,.none]})
  fun b o e=>Heap.get?_push_of_some _ (Heap.get?_push_of_some _ e)
 unfold isInstance
 repeat (first|with_reducible refine wpAny_loadPart_at hget ?_|(with_reducible refine wpAny_isSubtype_exc hC₁ ?_;rw [hcC]) |wp_step)
 show wpAny _ _ (typeLookup (.ref C) _) _ _ _
 refine wpAny_typeLookup_tail hC₁ hn₁ T₁ F.mroIs F.init.lookup ?_
 rw [hni]
 refine wpAny_holding (wpAny_bind (hb.at ?_))
 refine wpAny_bind (wpAny_mono hq (fun v s' ⟨ev,q⟩=>?_) fun _ _ x=>x)
 subst ev
 wp_walk
 exact q
theorem qg1 (Fn:ExcBaseFacts Bn newId inN bmN) (hBn:bmB.contains (.type Bn)=true) (F:ExcBaseFacts B nid initId bmB) (T:OwnTail h bmB bm) {mN:Str->Option Value} {rest:List Value} {Q:Value->Shared->Prop}
  (hC:h.get? C=some (excClassObj nm q C N bs bm hdct sn sub ab col dd k0 k1 k2 k3 k5 newId)) (hn:h.Ns N mN) (hni:mN "__init__" =some (.ref fI))
  (hb:PySem.W.Looks (model prog w) (qct h C rest) (bindSpecial (.ref fI) (.ref (h.objs.size+1))) (.ref fI, [.ref (h.objs.size+1)]))
  (hq:wpAny (model prog w) (A.under (.builtin "type.__call__" ⟨.ref C :: rest, []⟩)) (call (.ref fI) (.ref (h.objs.size+1) :: rest)) (fun v s'=>v=.none/\Q (.ref (h.objs.size+1)) s') E ⟨qct h C rest,g,d,t,os⟩) (hrest:rest.length<=sizeLine:=by size_fits):
  wpAny (model prog w) A (call (.ref C) rest) Q E ⟨h,g,d,t,os⟩:=by
 have f1:=tc_lookup
 have f2:=tc_bind (.ref C)
 have hT:(⟨h,g,d,t,os⟩:Shared).TypeIs (.ref C) "type":=⟨_,hC,rfl⟩
 refine wpAny_call (codeAny_of_tree ?_)
 show wpAny _ _ (callAny (.ref C) _) _ _ _
 repeat (any_goals (first|assumption|with_reducible refine wpAny_loadPart_at hC ?_|wp_step))
 refine⟨rfl,?_⟩
 refine codeAny_call_builtin_at (Code.quiet_builtin _ (by decide+kernel)) entry_typeCall (wpAny_check_type_call_sub hC (qf5 (hrest:=hrest) Fn hBn F T hC hn hni hb ?_))
 exact hq
theorem qfa {env:Env} {M:Model} {s:Shared} {x:Sem Value} {Q:Flow->Shared->Prop} (hbase:bm.contains (.type "BaseException")=true) (hh:A.handled=none)
  (h:wpAny M A x (fun v s₁=>∃e oe,v=.ref e/\s₁.heap.get? C=some (excClassObj nm q C N bs bm hdct sn sub ab col dd k0 k1 k2 k3 k5 newId)/\
   s₁.heap.get? e=some oe/\oe.cls=.ref C/\(∃vs,oe.data=.fields vs/\vs[1]?=some .none)/\E (.ref e) s₁) E s):
  wpAny M A (raiseStmt env (some x) none) Q E s:=by
 have hcB:(Value.ref C :: bm).contains (.type "BaseException")=true:=by rw [List.contains_cons,hbase,Bool.or_true]
 unfold raiseStmt
 refine wpAny_bind (wpAny_mono h (fun v s₁ h₁=>?_) fun _ _ x=>x)
 obtain⟨e,oe,rfl,hC,he,hcls,⟨vs,hd,h1⟩,hE⟩:=h₁
 obtain⟨hp,g,d,tk,os⟩:=s₁
 obtain⟨oc,odd,oda,osl⟩:=oe
 obtain rfl:oc=.ref C:=hcls
 obtain rfl:oda=.fields vs:=hd
 repeat (first|with_reducible refine wpAny_loadPart_at he ?_|with_reducible refine wpAny_loadPart_at hC ?_|(with_reducible refine wpAny_isSubtype_exc hC ?_;rw [hcB]) |wp_step)
 rw [h1]
 refine wpAny_pure ?_
 rw [if_neg (by decide)]
 exact wpAny_pure (wpAny_raiseNew_none hh hE)
theorem qf2 {env:Env} {s:Shared} (Fn:ExcBaseFacts Bn newId inN bmN) (hBn:bmB.contains (.type Bn)=true) (F:ExcBaseFacts B nid initId bmB) {mN:Str->Option Value} {x:Str} {np cpos pos:Pos} {args:List Expr} {Q:Flow->Shared->Prop}
  (hbase:bm.contains (.type "BaseException")=true) (hh:A.handled=none) (hplain:(backTo cpos (starEach args env)).any (·.1)=false) (hni:mN "__init__" =some (.ref fI))
  (h:wpAny (model prog w) A (eval (.Name x np) env) (fun f s₁=>f=.ref C/\wpAny (model prog w) A (evalArgs (.ref C) true (backTo cpos (starEach args env)) [])
   (fun a s₂=>a.kw=[]/\a.pos.length<=sizeLine/\s₂.heap.get? C=some (excClassObj nm q C N bs bm hdct sn sub ab col dd k0 k1 k2 k3 k5 newId)/\s₂.heap.Ns N mN/\OwnTail s₂.heap bmB bm/\
    PySem.W.Looks (model prog w) (qct s₂.heap C a.pos) (bindSpecial (.ref fI) (.ref (s₂.heap.objs.size+1))) (.ref fI, [.ref (s₂.heap.objs.size+1)])/\
    wpAny (model prog w) (A.under (.builtin "type.__call__" ⟨.ref C :: a.pos, []⟩)) (call (.ref fI) (.ref (s₂.heap.objs.size+1) :: a.pos))
     (fun v s'=>v=.none/\s'.heap.get? C=some (excClassObj nm q C N bs bm hdct sn sub ab col dd k0 k1 k2 k3 k5 newId)/\(∃oe,s'.heap.get? (s₂.heap.objs.size+1)=some oe/\oe.cls=.ref C/\∃vs,oe.data=.fields vs/\vs[1]?=some .none)/\E (.ref (s₂.heap.objs.size+1)) s') E {s₂ with heap:=qct s₂.heap C a.pos}) E s₁) E s):
  wpAny (model prog w) A (exec (.Raise (some (.Call (.Name x np) args [] cpos)) none pos) env) Q E s:=by
 rw [arm_exec_Raise]
 first
  |refine wpAny_bind (wpAny_standAt (qfa (C:=C) (nm:=nm) (q:=q) (N:=N) (bs:=bs) (bm:=bm) (hdct:=hdct) (sn:=sn) (sub:=sub) (ab:=ab) (col:=col) (dd:=dd) (k0:=k0) (k1:=k1) (k2:=k2) (k3:=k3) (k5:=k5) (newId:=newId) hbase hh (wpAny_bind (wpAny_mono (wpAny_Call_ofName (wpAny_mono h (fun f s₁ h₁=>?_) fun _ _ x=>x)) (fun v s₃ h₃=>wpAny_bind (wpAny_standAt (wpAny_pure h₃))) fun _ _ x=>x))))
  |(simp only [evalOpt,Option.map];refine wpAny_bind (wpAny_standAt (qfa (C:=C) (nm:=nm) (q:=q) (N:=N) (bs:=bs) (bm:=bm) (hdct:=hdct) (sn:=sn) (sub:=sub) (ab:=ab) (col:=col) (dd:=dd) (k0:=k0) (k1:=k1) (k2:=k2) (k3:=k3) (k5:=k5) (newId:=newId) hbase hh (wpAny_bind (wpAny_mono (wpAny_Call_ofName (wpAny_mono h (fun f s₁ h₁=>?_) fun _ _ x=>x)) (fun v s₃ h₃=>wpAny_bind (wpAny_standAt (wpAny_pure h₃))) fun _ _ x=>x)))))
 obtain⟨rfl,h₁⟩:=h₁
 unfold callWith
 refine wpAny_bind (wpAny_holding (wpAny_mono h₁ (fun a s₂ h₂=>wpAny_bind (wpAny_standAt ?_)) fun _ _ x=>x))
 obtain⟨apos,akw⟩:=a
 obtain⟨hkw,hlen,hC,hn,T,hb,h₂⟩:=h₂
 obtain rfl:akw=[]:=hkw
 obtain⟨hp,g,d,tk,os⟩:=s₂
 simp only [hplain]
 refine wpAny_bind (wpAny_keeperOf_exc hC ?_)
 refine wpAny_bind (qg1 (hrest:=hlen) Fn hBn F T hC hn hni hb (wpAny_mono h₂ (fun v s' ⟨e1,e2,⟨oe,e3,e4,e6⟩,e5⟩=>⟨e1,wpAny_bind (wpAny_holding (wpAny_point (wpAny_pure ?_)))⟩) fun _ _ x=>x))
 exact⟨_,oe,rfl,e2,e3,e4,e6,e5⟩
end
def onlyVE:List Value->Bool
 | .ref _ :: r=>onlyVE r
 | [.type a,.type b,.type c,.type e]=>a== "ValueError" && b== "Exception" && c== "BaseException" && e== "object"
 |_=>false
def overVE (K:Frag) (C:Addr):Bool:=(PySem.W.clsIn K C).any fun cd=>onlyVE cd.mro
section
variable {K: Frag} {C: Addr}
open PySem.W in
open PySem.W in
open PySem.W in
open PySem.W in
structure XAt (K:Frag) (C:Addr):Prop where
 ga:findIn K (.ref C) "__getattribute__" =some (some (.builtin "BaseException.__getattribute__"))
 gn:findIn K (.ref C) "__getattr__" =some none
 mb:mroIn K C (.type "BaseException")=some true
 mo:mroIn K C (.type "object")=some true
 hd:hasDictIn K C=true
 cl:findIn K (.ref C) "__class__" =some (some (.builtin "object.__class__"))
 sp:specialIn K (.builtin "object.__class__") "__get__" =some (some (.builtin "getset_descriptor.__get__"))
 tk:PySem.W.takesIn K (.builtin "object.__class__")=some true
 sa:findIn K (.ref C) "__setattr__" =some (some (.builtin "object.__setattr__"))
 po:overVE K C=true
open PySem.W in
open PySem.W in
end
def XS (a C:Addr) (d:Option Addr):HO:=.ext fun h=>∃(oe:Obj) (vs:Array Value),h.get? a=some oe/\oe.cls=.ref C/\oe.dict=d/\oe.data=.fields vs/\vs[1]?=some .none/\(∃t0:Addr,vs[0]?=some (.ref t0))/\∀dx,d=some dx->dx≠a
section
variable {H: Hp} {a C dx: Addr}
theorem xs_ok {P:Program} {w:World} {H:Hp} {h:Heap} {d:Option Addr} (x:∃(oe:Obj) (vs:Array Value),h.get? a=some oe/\oe.cls=.ref C/\oe.dict=d/\oe.data=.fields vs/\vs[1]?=some .none/\(∃t0:Addr,vs[0]?=some (.ref t0))/\∀dx,d=some dx->dx≠a):qbh P w H h a (XS a C d):=by
 obtain⟨oe,vs,h1,h2⟩:=id x
 exact⟨x,⟨oe,h1⟩,fun h1 h2 ⟨oe,vs,z,zz⟩ k=>⟨oe,vs,k _ z,zz⟩⟩
theorem xs_get {P:Program} {w:World} {h:Heap} {d:Option Addr} (x:HOk P w H h) (e:H a=some (XS a C d)):∃(oe:Obj) (vs:Array Value),h.get? a=some oe/\oe.cls=.ref C/\oe.dict=d/\oe.data=.fields vs/\vs[1]?=some .none/\(∃t0:Addr,vs[0]?=some (.ref t0))/\∀dx,d=some dx->dx≠a:=
 (show qbh P w H h a (XS a C d) from x a _ e).1
end
def del (H:Hp) (a:Addr):Hp:=fun b=>if b=a then none else H b
theorem qdj {H:Hp} {a:Addr}:del H a a=none:=by unfold del;rw [if_pos rfl]
theorem qdn {H:Hp} {a b:Addr} (h:b≠a):del H a b=H b:=by unfold del;rw [if_neg h]
section
variable {X: Cx} {pins: List (Addr × Obj)} {σ: L2.St} {H: Hp} {s: Shared} {a: Addr} {φ: Heap -> Prop}
theorem Inv.del (I:Inv X pins σ H s) (e:H a=some (.ext φ)):Inv X pins σ (My.del H a) s:=by
 have ne:∀b o,H b=some o->(∀φ,o≠ .ext φ)->b≠a:=fun b o q d z=>by rw [z,e] at q;cases q;exact d _ rfl
 refine⟨I.ok,I.os,I.bare,⟨I.base.keep,I.base.slot,fun b o q n hx=>?_,I.base.there,fun b xs q=>?_,fun b o u q=>?_,fun b ps q=>?_⟩,I.loc,I.cell,?_,fun x c q=>?_,fun p hp=>?_,fun b o q=>?_,I.len⟩
 .have z:=I.base.free b o q n hx
  by_cases hb:b=a
  .rw [hb];exact qdj
  .rw [qdn hb];exact z
 .have z:=I.base.tups b xs q
  rw [qdn (ne _ _ z (by intro φ y;cases y))];exact z
 .have z:=I.base.frzs b o u q
  rw [qdn (ne _ _ z (by intro φ y;cases y))];exact z
 .obtain⟨more,z⟩:=I.base.tbls b ps q
  exact⟨more,by rw [qdn (ne _ _ z (by intro φ y;cases y))];exact z⟩
 .by_cases hb:X.env.locals=a
  .rw [hb];exact qdj
  .rw [qdn hb];exact I.free
 .by_cases hb:c=a
  .rw [hb];exact qdj
  .rw [qdn hb];exact I.freeC x c q
 .obtain⟨z,n,l⟩:=I.pin p hp
  refine⟨z,?_,l⟩
  by_cases hb:p.1=a
  .rw [hb];exact qdj
  .rw [qdn hb];exact n
 .have hb:b≠a:=fun z=>by rw [z,qdj] at q;cases q
  rw [qdn hb] at q
  exact(I.hok b o q).stay (fun _ _ _ q=>q) (fun c q=>by rw [qdn (ne _ _ q (by intro φ y;cases y))];exact q) fun c xs q=>by rw [qdn (ne _ _ q (by intro φ y;cases y))];exact q
end
structure XClI (K:Frag) (C f:Addr):Prop where
 ob:∃(nm q:Str) (N:Addr) (bs bm:List Value) (hdct:Bool) (sn:List Str) (sub:List Value) (ab:Bool) (col:Option Bool) (dd:Option Addr) (k0 k1 k2 k3 k5:Option Value) (mN:Str->Option Value),
  K.lookup C=some (excClassObj nm q C N bs bm hdct sn sub ab col dd k0 k1 k2 k3 k5 "ValueError.__new__")/\(∀h:Heap,K.In h->h.Ns N mN)/\mN "__init__" =some (.ref f)/\
  ∀h:Heap,K.In h->OwnTail h [.type "ValueError",.type "Exception",.type "BaseException",.type "object"] bm
 fn:isFn K (.ref f)=true
section
variable {X: Cx} {k: Nat} {f: Addr} {fd: FuncData} {ps: List Str} {sp: Sp} {x: Str} {C: Addr} {W: L2.St -> XK} {np cpos pos: Pos} {e: Expr} {es: List Expr} {t: TA}
def tRaiseI (t:TA) (C:Addr) (sp:Sp) (W:L2.St->XK):TS:=fun _ σ H=>t σ H fun xs H1=>xs.length<=sizeLine/\∀a,H1 a=none->sp (.ref a :: xs) (upd H1 a (XS a C none)) (fun v H2=>v=.non/\∃d,H2 a=some (XS a C d)/\W σ (.ref C) d (My.del H2 a)) E0
theorem ps_raiseI (hc:X.calm=true) (M:XClI X.K C f) (F:FnOk X.prog X.w X.K X.mg X.base CX0 k f fd ps sp) (hr:Room (k+1) X.A) (hb:qam X.K fd ps []) (hg:Gl X x) (hm:X.mg x=some (.ref C)) (hx:Xes X W) (ha:PA X (e :: es) t) (hex:X.ex=[]:=by rfl) (hdb:(x==("__debug__" :Str))=false:=by decide)
  (he:starEach (e :: es) X.env=(false,eval e X.env) :: starEach es X.env:=by rfl) (hpl:(backTo cpos (starEach es X.env)).any (·.1)=false:=by rfl):
  PS X (.Raise (some (.Call (.Name x np) (e :: es) [] cpos)) none pos) (tRaiseI t C sp W):=by
 intro pins s σ H D I h
 obtain⟨nm,q,N,bs,bm,hdct,sn,sub,ab,col,dd,k0,k1,k2,k3,k5,mN,hC,hN,hni,T⟩:=M.ob
 refine qf2 (C:=C) (fI:=f) (nm:=nm) (q:=q) (N:=N) (bs:=bs) (bm:=bm) (hdct:=hdct) (sn:=sn) (sub:=sub) (ab:=ab) (col:=col) (dd:=dd) (k0:=k0) (k1:=k1) (k2:=k2) (k3:=k3) (k5:=k5)
  PySem.F.excBase_ValueError (by decide) PySem.F.excBase_ValueError (mN:=mN) ((T _ I.kIn).hasType PySem.F.excBase_ValueError.hasBase) (I.ok.hd hc) ?_ hni ?_
 .rw [he];show (false ||(backTo cpos (starEach es X.env)).any (·.1))=false;rw [hpl];rfl
 .refine qdc I hg hm ⟨rfl,?_⟩ hdb
  have z:=ha cpos pins s σ H _ I h
  rw [he] at z ⊢
  refine Calls.evalArgs_plain (wpAny_mono z (fun us s2 ⟨vs,H2,I2,r,hl,q⟩=>?_) fun _ _ y=>y)
  have ea:(qct s2.heap C us).get? (s2.heap.objs.size+1)=some {cls:=.ref C,data:=.fields #[.ref s2.heap.objs.size,.none,.none,.none,.bool false,.none]}:=by
   have:=Heap.get?_push_size (s2.heap.push {cls:=.type "tuple",data:=.seq us.toArray}) (o:={cls:=.ref C,data:=.fields #[.ref s2.heap.objs.size,.none,.none,.none,.bool false,.none]}) rfl
   rwa [Heap.size_push] at this
  have hn:H2 (s2.heap.objs.size+1)=none:=I2.hok.fresh (Nat.le_succ _)
  have I3:Inv X pins σ (upd H2 (s2.heap.objs.size+1) (XS (s2.heap.objs.size+1) C none)) {s2 with heap:=qct s2.heap C us}:=
   I2.laid (t':=s2.toks) (fun b o y=>Heap.get?_push_of_some _ (Heap.get?_push_of_some _ y)) (Nat.le_succ _) (xs_ok ⟨_,_,ea,rfl,rfl,rfl,rfl,⟨_,rfl⟩,fun dx y=>by cases y⟩)
  have q:=q _ hn
  refine⟨rfl,by rw [<-r.length];exact hl,I2.kIn _ _ hC,hN _ I2.kIn,T _ I2.kIn,PySem.W.bind_fn I3.kIn _ (beq_iff_eq.mp M.fn),?_⟩
  have r2:qbd (V.ref (s2.heap.objs.size+1) :: vs) (Value.ref (s2.heap.objs.size+1) :: us):=.cons rfl r
  have hln:(Value.ref (s2.heap.objs.size+1) :: us++ []).length=ps.length:=by rw [zZ,<-r2.length];exact F.len _ _ _ _ q
  have hb':=hb {s2 with heap:=qct s2.heap C us} (Value.ref (s2.heap.objs.size+1) :: us) I3.kIn hln
  rw [zZ] at hb'
  refine wpAny_call (codeAny_mono (F.run _ X.stack _ _ ⟨Value.ref (s2.heap.objs.size+1) :: us, []⟩ (Value.ref (s2.heap.objs.size+1) :: us) _ _ E0 (hr.make C us []) (I3.env0.make C us []) hb' r2 q) fun r s' hq'=>?_)
  cases r with
  |error e=>exact False.elim hq'
  |ok fl=>
   cases fl with
   |ret u=>
    obtain⟨v,H',I4,rv,ev,d,e4,q4⟩:=I3.after hq'
    subst ev
    obtain⟨oe,ws,g1,g2,g3,g4,g5,g6,g7⟩:=xs_get I4.hok e4
    refine⟨rv,I4.kIn _ _ hC,⟨oe,g1,g2,ws,g4,g5⟩,?_⟩
    have new:s2.heap.get? (s2.heap.objs.size+1)=none:=Heap.get?_none_of_le (Nat.le_succ _)
    refine hx pins σ _ _ _ (.ref C) d (Inv.del I4 e4) ⟨⟨new_of I2 hex new,qdj,fun p hp y=>?_,⟨_,_,g1,g4⟩⟩,.inl ⟨_,_,g1,g2,g3,g4,g5⟩⟩ q4
    have w:=(I2.pin p hp).1
    rw [y,new] at w
    cases w
   |next=>exact False.elim hq'
   |brk=>exact False.elim hq'
   |cont=>exact False.elim hq'
end
section
variable {X: Cx}
inductive PJ (X:Cx):List Expr->List TE->Prop
 |nil:PJ X [] []
 |cons {e:Expr} {es:List Expr} {t:TE} {ts:List TE} (h:PE X e t) (r:PJ X es ts):PJ X (e :: es) (t :: ts)
end
structure XBase (K:Frag) (T:Addr):Prop where
 ga:specialIn K (.ref T) "__getattribute__" =some (some (.builtin "type.__getattribute__"))
 rd:PySem.W.readsIn K T (.type "type")=true
 at_:PySem.W.findCls K (.ref T) (.type "type") "__init__" =some (.val (.builtin "ValueError.__init__"))
open PySem.MeetsSeq PySem.MeetsSeq2 PySem.MeetsSeq3 PySem.SeqRoads2
def EqW (P:Program) (w:World) (A:Around) (s:Shared) (y x:Value) (b:Bool):Prop:=∀(E:Value->Shared->Prop) (Q:Bool->Shared->Prop),Q b s->wpAny (model P w) A (eqBool y x) Q E s
def opN:Bool->CmpOp
 |false=> .Eq
 |true=> .NotEq
def RcW (P:Program) (w:World) (A:Around) (s:Shared) (ne:Bool) (y x:Value) (b:Bool):Prop:=∀(E:Value->Shared->Prop) (Q:Value->Shared->Prop),Q (.bool b) s->wpAny (model P w) A (richCompare (opN ne) y x) Q E s
def codeN:Bool->Int
 |false=>2
 |true=>3
abbrev lo (dd:Option Addr) (xs:Array Value) (n:Nat) (sl:Array (Option Value)):Obj:={cls:=.type "list",dict:=dd,data:=.seq xs n,slots:=sl}
abbrev tob (dd:Option Addr) (xs:Array Value) (n:Nat) (sl:Array (Option Value)):Obj:={cls:=.type "tuple",dict:=dd,data:=.seq xs n,slots:=sl}
section
variable {P: Program} {w: World} {A: Around} {s: Shared} {l b: Addr} {k: Bool}
theorem EqW.of {y x:Value} (h:SeqAt.EqAt A s y x k):EqW P w A s y x k:=fun E Q q=>h P w E Q q
theorem EqW.refs (hn:l≠b) (h:RcW P w A s false (.ref l) (.ref b) k):EqW P w A s (.ref l) (.ref b) k:=fun E Q q=>by
 unfold eqBool
 refine wpAny_holding (wpAny_ite_split (fun z=>?_) fun _=>wpAny_bind (h E _ (wpAny_truthy_bool q)))
 have z':=eq_of_beq z
 injection z' with z'
 exact absurd z' hn
abbrev Fin1 (P:Program) (w:World) (A:Around) (R:Result->Shared->Prop):PySem.Fin->Shared->Prop:=fun f s'=>match f with| .done r=>R (.ok r) s'| .again c=>c.quiet=true/\codeAny (model P w) A c R s'
theorem loopW (ne:Bool) {xs ys:Array Value} {n m:Nat} {d1 d2:Option Addr} {s1 s2:Array (Option Value)} (hz:xs.size=ys.size) (f:Nat->Bool) (r:Nat):∀(i:Nat),xs.size - i=r->∀(A:Around) (R:Result->Shared->Prop) (s:Shared),s.heap.get? l=some (lo d1 xs n s1)->s.heap.get? b=some (lo d2 ys m s2)->
  (∀j (h1:j < xs.size) (h2:j < ys.size),EqW P w A.in1 s xs[j] ys[j] (f j))->R (.ok (.ret (.bool (ne !=((List.range xs.size).drop i).all f)))) s->
  wpAny (model P w) A.in1 (Builtin.«list.__eq__.loop» ⟨[.ref l,.ref b,rawInt i,rawInt (codeN ne)], []⟩) (Fin1 P w A R) (fun e s'=>R (.error e) s') s:=by
 induction r with
 |zero=>
  intro i hr A R s hl hb he q
  obtain⟨hp,g,d,tk,os⟩:=s
  have t1:xs[((i:Nat):Int).toNat]?=none:=by simp;omega
  have t2:ys[((i:Nat):Int).toNat]?=none:=by simp;omega
  have t3:(List.range xs.size).drop i=[]:=by simp;omega
  rw [t3] at q
  cases ne with
  |false=>
   wp_walk using AutoSeq1.wpAny_loadPart' hl,AutoSeq1.wpAny_loadPart' hb
   rw [t1,t2]
   wp_walk using AutoSeq1.wpAny_loadPart' hl,AutoSeq1.wpAny_loadPart' hb
   show R (.ok (.ret (.bool (xs.size==ys.size)))) _
   rw [hz]
   simpa using q
  |true=>
   wp_walk using AutoSeq1.wpAny_loadPart' hl,AutoSeq1.wpAny_loadPart' hb
   rw [t1,t2]
   wp_walk using AutoSeq1.wpAny_loadPart' hl,AutoSeq1.wpAny_loadPart' hb
   show R (.ok (.ret (.bool (xs.size !=ys.size)))) _
   rw [hz]
   simpa using q
 |succ r ih=>
  intro i hr A R s hl hb he q
  obtain⟨hp,g,d,tk,os⟩:=s
  have j1:i < xs.size:=by omega
  have j2:i < ys.size:=by omega
  have t1:xs[((i:Nat):Int).toNat]?=some xs[i]:=by simp [j1]
  have t2:ys[((i:Nat):Int).toNat]?=some ys[i]:=by simp [j2]
  have t3:(List.range xs.size).drop i=i ::(List.range xs.size).drop (i+1):=by simp [List.drop_eq_getElem_cons,j1]
  have t4:((i:Int)+1)=((i+1:Nat):Int):=by push_cast;rfl
  rw [t3,yX] at q
  cases ne with
  |false=>
   wp_walk using AutoSeq1.wpAny_loadPart' hl,AutoSeq1.wpAny_loadPart' hb
   rw [t1,t2]
   refine wpAny_bind (he i j1 j2 _ _ ?_)
   cases hf:f i with
   |true=>
    rw [hf] at q
    wp_walk
    rw [t4]
    refine⟨plainId_quiet plain_eq_loop _,codeAny_builtin entry_eq_loop ?_⟩
    rw [Around.under_plainId plain_eq_loop _]
    exact ih (i+1) (by omega) A R _ hl hb he (by simpa using q)
   |false=>
    rw [hf] at q
    wp_walk using AutoSeq1.wpAny_loadPart' hl,AutoSeq1.wpAny_loadPart' hb
    rw [t1,t2]
    wp_walk
    simpa using q
  |true=>
   wp_walk using AutoSeq1.wpAny_loadPart' hl,AutoSeq1.wpAny_loadPart' hb
   rw [t1,t2]
   refine wpAny_bind (he i j1 j2 _ _ ?_)
   cases hf:f i with
   |true=>
    rw [hf] at q
    wp_walk
    rw [t4]
    refine⟨plainId_quiet plain_eq_loop _,codeAny_builtin entry_eq_loop ?_⟩
    rw [Around.under_plainId plain_eq_loop _]
    exact ih (i+1) (by omega) A R _ hl hb he (by simpa using q)
   |false=>
    rw [hf] at q
    wp_walk using AutoSeq1.wpAny_loadPart' hl,AutoSeq1.wpAny_loadPart' hb
    rw [t1,t2]
    wp_walk
    simpa using q
theorem listW (ne:Bool) {xs ys:Array Value} {n m:Nat} {d1 d2:Option Addr} {s1 s2:Array (Option Value)} (hz:xs.size=ys.size) (f:Nat->Bool) {R:Result->Shared->Prop} (hl:s.heap.get? l=some (lo d1 xs n s1)) (hb:s.heap.get? b=some (lo d2 ys m s2))
  (he:∀j (h1:j < xs.size) (h2:j < ys.size),EqW P w A.in1 s xs[j] ys[j] (f j)) (q:R (.ok (.ret (.bool (ne !=(List.range xs.size).all f)))) s):
  wpAny (model P w) A.in1 ((if ne=true then Builtin.«list.__ne__» else Builtin.«list.__eq__») ⟨[.ref l,.ref b], []⟩) (Fin1 P w A R) (fun e s'=>R (.error e) s') s:=by
 obtain⟨hp,g,d,tk,os⟩:=s
 have f3:=AutoSeq1.sub_list_list
 have z0:¬(xs.size !=ys.size)=true:=by simp [hz]
 cases ne with
 |false=>
  show wpAny _ _ (Builtin.«list.__eq__» _) _ _ _
  wp_walk using AutoSeq1.wpAny_loadPart' hl,AutoSeq1.wpAny_loadPart' hb
  refine⟨plainId_quiet plain_eq_loop _,codeAny_builtin entry_eq_loop ?_⟩
  rw [Around.under_plainId plain_eq_loop _]
  exact loopW false hz f _ 0 rfl A R _ hl hb he (by simpa using q)
 |true=>
  show wpAny _ _ (Builtin.«list.__ne__» _) _ _ _
  wp_walk using AutoSeq1.wpAny_loadPart' hl,AutoSeq1.wpAny_loadPart' hb
  refine⟨plainId_quiet plain_eq_loop _,codeAny_builtin entry_eq_loop ?_⟩
  rw [Around.under_plainId plain_eq_loop _]
  exact loopW true hz f _ 0 rfl A R _ hl hb he (by simpa using q)
theorem callW {T id:String} {name:Str} {B:Builtin} {self:Value} {rest:List Value} {E Q:Value->Shared->Prop} (slot:Slot T name id) (hT:s.TypeIs self T) (entry:entryFor table id=some B) (args:argsOk id ⟨self :: rest, []⟩)
  (h:wpAny (model P w) A.in1 (B ⟨self :: rest, []⟩) (Fin1 P w A (wants Q E)) (fun e s'=>wants Q E (.error e) s') s):wpAny (model P w) A (call (.builtin id) (self :: rest)) Q E s:=
 wpAny_call (codeAny_call_builtin slot.plain entry (slot.check _ _ _ _ _ _ _ _ hT args h))
theorem RcW.lists (ne:Bool) {xs ys:Array Value} {f:Nat->Bool} (hl:s.heap.IsList l xs) (hb:s.heap.IsList b ys) (hz:xs.size=ys.size) (hu:A.units < cLine) (he:∀j (h1:j < xs.size) (h2:j < ys.size),EqW P w A.in1 s xs[j] ys[j] (f j)):
  RcW P w A s ne (.ref l) (.ref b) (ne !=(List.range xs.size).all f):=fun E Q q=>by
 obtain⟨⟨c1,d1,e1,s1⟩,ho,hc,n,hd⟩:=id hl
 obtain⟨⟨c2,d2,e2,s2⟩,ho2,hc2,m,hd2⟩:=id hb
 simp only at hc hd hc2 hd2
 subst hc hd hc2 hd2
 have q':Value.bool (ne !=(List.range xs.size).all f)≠Value.notImplemented/\Q (.bool (ne !=(List.range xs.size).all f)) s:=⟨(fun x=>nomatch x),q⟩
 cases ne with
 |false=>exact wpAny_richCompare_same_room (op:=.Eq) ⟨_,ho,rfl⟩ ⟨_,ho2,rfl⟩ F.slot_list_eq (callW F.slot_list_eq ⟨_,ho,rfl⟩ F.entry_list_eq (F.args_list_eq_2 _ _) (listW (R:=wants (fun v s'=>v≠ .notImplemented/\Q v s') E) false hz f ho ho2 he q')) hu
 |true=>exact wpAny_richCompare_same_room (op:=.NotEq) ⟨_,ho,rfl⟩ ⟨_,ho2,rfl⟩ F.slot_list_ne (callW F.slot_list_ne ⟨_,ho,rfl⟩ F.entry_list_ne (F.args_list_ne_2 _ _) (listW (R:=wants (fun v s'=>v≠ .notImplemented/\Q v s') E) true hz f ho ho2 he q')) hu
theorem RcW.listsN (ne:Bool) {xs ys:Array Value} (hl:s.heap.IsList l xs) (hb:s.heap.IsList b ys) (hz:(xs.size !=ys.size)=true) (hu:A.units < cLine):RcW P w A s ne (.ref l) (.ref b) (ne !=false):=fun E Q q=>by
 cases ne with
 |false=>exact SeqAt.RcAt.lists_lengths hl hb hz hu P w E Q q
 |true=>exact SeqAt.RcNeAt.lists_lengths hl hb hz hu P w E Q q
theorem tupW (ne:Bool) {xs ys:Array Value} {n m:Nat} {d1 d2:Option Addr} {s1 s2:Array (Option Value)} (f:Nat->Bool) {E Q:Value->Shared->Prop} (hl:s.heap.get? l=some (tob d1 xs n s1)) (hb:s.heap.get? b=some (tob d2 ys m s2))
  (he:∀j (h1:j < xs.size) (h2:j < ys.size),EqW P w A.in1 s xs[j] ys[j] (f j)) (q:Q (.bool (ne !=((List.range (min xs.size ys.size)).all f && xs.size==ys.size))) s):
  wpAny (model P w) A.in1 ((if ne=true then Builtin.«tuple.__ne__» else Builtin.«tuple.__eq__») ⟨[.ref l,.ref b], []⟩) (fun fin s'=>∃v,fin=.done (.ret v)/\Q v s') E s:=by
 obtain⟨hp,g,d,tk,os⟩:=s
 have f2:=AutoSeq1.sub_tuple_tuple
 have hZ:(xs.toList.zip ys.toList).length=min xs.size ys.size:=by simp
 have turn:∀(x y:Value) (rest:List (Value × Value)) (i:Nat),(x,y) :: rest=(xs.toList.zip ys.toList).drop i->∃(h1:i < xs.size) (h2:i < ys.size),x=xs[i]/\y=ys[i]/\rest=(xs.toList.zip ys.toList).drop (i+1)/\(List.range (min xs.size ys.size)).drop i=i ::(List.range (min xs.size ys.size)).drop (i+1):=fun x y rest i hz=>by
  have hlt:i <(xs.toList.zip ys.toList).length:=by
   rcases Nat.lt_or_ge i (xs.toList.zip ys.toList).length with z|z
   .exact z
   .rw [List.drop_of_length_le z] at hz;cases hz
  have hm:i < min xs.size ys.size:=hZ ▸ hlt
  have h1:i < xs.size:=Nat.lt_of_lt_of_le hm (Nat.min_le_left _ _)
  have h2:i < ys.size:=Nat.lt_of_lt_of_le hm (Nat.min_le_right _ _)
  rw [List.drop_eq_getElem_cons hlt] at hz
  injection hz with hxy hrest
  exact⟨h1,h2,by have:=congrArg Prod.fst hxy;simpa using this,by have:=congrArg Prod.snd hxy;simpa using this,hrest,by simp [List.drop_eq_getElem_cons,hm]⟩
 have last:∀i:Nat, []=(xs.toList.zip ys.toList).drop i->(List.range (min xs.size ys.size)).drop i=[]:=fun i hz=>by
  have hge:min xs.size ys.size<=i:=by
   rcases Nat.lt_or_ge i (xs.toList.zip ys.toList).length with z|z
   .rw [List.drop_eq_getElem_cons z] at hz;cases hz
   .exact hZ ▸ z
  exact List.drop_of_length_le (by simpa using hge)
 cases ne with
 |false=>
  show wpAny _ _ (Builtin.«tuple.__eq__» _) _ _ _
  wp_walk using AutoSeq1.wpAny_loadPart' hl,AutoSeq1.wpAny_loadPart' hb,wpAny_forIn_list _ (fun rest c s'=>c.1=none/\s'=⟨hp,g,d,tk,os⟩/\∃i,rest=(xs.toList.zip ys.toList).drop i/\Q (.bool (((List.range (min xs.size ys.size)).drop i).all f && xs.size==ys.size)) ⟨hp,g,d,tk,os⟩) _
  case turn=>
   rintro⟨x,y⟩ rest c s' ⟨hc,rfl,i,hz,hR⟩
   obtain⟨h1,h2,rfl,rfl,hrest,hd⟩:=turn x y rest i hz
   rw [hd,yX] at hR
   refine wpAny_bind (he i h1 h2 _ _ ?_)
   cases hf:f i with
   |true=>
    rw [hf] at hR
    wp_walk
    exact⟨rfl,rfl,i+1,hrest,by simpa using hR⟩
   |false=>
    rw [hf] at hR
    wp_walk
    exact⟨_,rfl,by simpa using hR⟩
  case fin=>
   rintro⟨c1,c2⟩ s' ⟨hc,rfl,i,hz,hR⟩
   simp only at hc
   subst hc
   rw [last i hz] at hR
   wp_walk
   exact⟨_,rfl,by simpa [Builtin.Tuple.tupleCompareSizes] using hR⟩
  case h=>exact⟨rfl,rfl,0,rfl,by simpa using q⟩
 |true=>
  show wpAny _ _ (Builtin.«tuple.__ne__» _) _ _ _
  wp_walk using AutoSeq1.wpAny_loadPart' hl,AutoSeq1.wpAny_loadPart' hb,wpAny_forIn_list _ (fun rest c s'=>c.1=none/\s'=⟨hp,g,d,tk,os⟩/\∃i,rest=(xs.toList.zip ys.toList).drop i/\Q (.bool (!(((List.range (min xs.size ys.size)).drop i).all f && xs.size==ys.size))) ⟨hp,g,d,tk,os⟩) _
  case turn=>
   rintro⟨x,y⟩ rest c s' ⟨hc,rfl,i,hz,hR⟩
   obtain⟨h1,h2,rfl,rfl,hrest,hd⟩:=turn x y rest i hz
   rw [hd,yX] at hR
   refine wpAny_bind (he i h1 h2 _ _ ?_)
   cases hf:f i with
   |true=>
    rw [hf] at hR
    wp_walk
    exact⟨rfl,rfl,i+1,hrest,by simpa using hR⟩
   |false=>
    rw [hf] at hR
    wp_walk
    exact⟨_,rfl,by simpa using hR⟩
  case fin=>
   rintro⟨c1,c2⟩ s' ⟨hc,rfl,i,hz,hR⟩
   simp only at hc
   subst hc
   rw [last i hz] at hR
   wp_walk
   exact⟨_,rfl,by simpa [Builtin.Tuple.tupleCompareSizes,bne] using hR⟩
  case h=>exact⟨rfl,rfl,0,rfl,by simpa using q⟩
theorem RcW.tuples (ne:Bool) {xs ys:Array Value} {f:Nat->Bool} (hl:s.heap.IsTuple l xs) (hb:s.heap.IsTuple b ys) (hu:A.units < cLine) (he:∀j (h1:j < xs.size) (h2:j < ys.size),EqW P w A.in1 s xs[j] ys[j] (f j)):
  RcW P w A s ne (.ref l) (.ref b) (ne !=((List.range (min xs.size ys.size)).all f && xs.size==ys.size)):=fun E Q q=>by
 obtain⟨⟨c1,d1,e1,s1⟩,ho,hc,n,hd⟩:=id hl
 obtain⟨⟨c2,d2,e2,s2⟩,ho2,hc2,m,hd2⟩:=id hb
 simp only at hc hd hc2 hd2
 subst hc hd hc2 hd2
 cases ne with
 |false=>exact wpAny_richCompare_same_room (op:=.Eq) ⟨_,ho,rfl⟩ ⟨_,ho2,rfl⟩ F.slot_tuple_eq (wpAny_call_entry F.slot_tuple_eq ⟨_,ho,rfl⟩ F.entry_tuple_eq (tupW (Q:=fun v s'=>v≠ .notImplemented/\Q v s') false f ho ho2 he ⟨(fun x=>nomatch x),q⟩) (F.args_tuple_eq_2 _ _)) hu
 |true=>exact wpAny_richCompare_same_room (op:=.NotEq) ⟨_,ho,rfl⟩ ⟨_,ho2,rfl⟩ F.slot_tuple_ne (wpAny_call_entry F.slot_tuple_ne ⟨_,ho,rfl⟩ F.entry_tuple_ne (tupW (Q:=fun v s'=>v≠ .notImplemented/\Q v s') true f ho ho2 he ⟨(fun x=>nomatch x),q⟩) (F.args_tuple_ne_2 _ _)) hu
end
end My
namespace My
open PySem PySem.Spec PyProof.Rows L2
inductive DEq (K:Frag) (H:Hp):Nat->V->V->Bool->Prop
 |same {n:Nat} {a:Addr}:DEq K H n (.ref a) (.ref a) true
 |flat {n:Nat} {x y:V} (hx:qcz x=true) (hy:qcz y=true):DEq K H n x y (eqV x y)
 |ls {n:Nat} {a b:Addr} {xs ys:List V} {e:Nat->Bool} (ha:SqL K H a xs) (hb:SqL K H b ys) (ne:a≠b) (hl:xs.length=ys.length)
   (he:∀j (h1:j < xs.length) (h2:j < ys.length),DEq K H n xs[j] ys[j] (e j)):DEq K H (n+1) (.ref a) (.ref b) ((List.range xs.length).all e)
 |lsN {n:Nat} {a b:Addr} {xs ys:List V} (ha:SqL K H a xs) (hb:SqL K H b ys) (ne:a≠b) (hl:xs.length≠ys.length):DEq K H (n+1) (.ref a) (.ref b) false
 |ts {n:Nat} {a b:Addr} {xs ys:List V} {e:Nat->Bool} (ha:SqT K H a xs) (hb:SqT K H b ys) (ne:a≠b)
   (he:∀j (h1:j < xs.length) (h2:j < ys.length),DEq K H n xs[j] ys[j] (e j)):DEq K H (n+1) (.ref a) (.ref b) ((List.range (min xs.length ys.length)).all e && xs.length==ys.length)
 |dd {n:Nat} {a b:Addr} {ka kb:List (Key × V)} (ha:Rd H a (.dK ka)) (hb:Rd H b (.dK kb)) (ne:a≠b) (fa:∀p∈ka,qcz p.2=true) (fb:∀p∈kb,qcz p.2=true):
   DEq K H (n+1) (.ref a) (.ref b) (ka.length==kb.length && ka.all fun p=>(qcd kb p.1).elim false (eqV p.2))
theorem qfh {xs:List V} {us:List Value} (r:qbd xs us) {j:Nat} (h1:j < xs.length) (h2:j < us.length):qbe xs[j] us[j]:=by
 obtain⟨u,e,ru⟩:=r.get (zA h1)
 rw [zA h2] at e
 cases e
 exact ru
theorem valV_mem {kvs:List (Key × V)} {k:Key} {v:V} (h:qcd kvs k=some v):(k,v)∈kvs:=by
 unfold qcd at h
 obtain⟨p,hp,rfl⟩:=Option.map_eq_some_iff.mp h
 have e:=List.find?_some hp
 have e':p.1=k:=of_decide_eq_true e
 subst e'
 exact List.mem_of_find?_eq_some hp
theorem hits_of {A:Around} {s:Shared} {kb:List (Key × V)} {vb:List (Key × Value)} (rb:KV kb vb) (fb:∀p∈kb,qcz p.2=true) {ka:List (Key × V)} {va:List (Key × Value)} (ra:KV ka va) (fa:∀p∈ka,qcz p.2=true):
  PySem.W.KeqHits A s vb va (ka.all fun p=>(qcd kb p.1).elim false (eqV p.2)):=by
 induction ra with
 |nil=>exact .nil
 | @cons p q l1 l2 h t ih=>
  obtain⟨k,v⟩:=p
  obtain⟨k',u⟩:=q
  obtain⟨e,ru⟩:=h
  dsimp only at e ru
  subst e
  have z:=rb.val k
  rw [yX]
  have ih':=ih fun p hp=>fa p (zF _ hp)
  cases hv:qcd kb k with
  |none=>
   rw [hv] at z
   have hn:valueAt vb k=none:=qg3.none_of z
   exact .miss hn
  |some y=>
   rw [hv] at z
   cases hu:valueAt vb k with
   |none=>rw [hu] at z;exact z.elim
   |some yu=>
    rw [hu] at z
    exact .hit hu (eqAt_V ru z (fa _ (zL ..)) (fb _ (valV_mem hv))) ih'
section
variable {X: Cx} {pins: List (Addr × Obj)} {σ: L2.St} {H: Hp} {s: Shared}
theorem PlainL.isList {h:Heap} {a:Addr} {its:Array Value} (p:PlainL h a its):h.IsList a its:=by
 obtain⟨o,n,e,c,d,t⟩:=p
 exact⟨o,e,c,n,t⟩
theorem deq_ok (I:Inv X pins σ H s) {n:Nat} {x y:V} {k:Bool} (q:DEq X.K H n x y k):∀(A:Around) (u v:Value),qbe x u->qbe y v->A.units+n < cLine->
  EqW X.prog X.w A s u v k/\∀a b,x=.ref a->y=.ref b->a≠b->∀ne:Bool,RcW X.prog X.w A s ne (.ref a) (.ref b) (ne !=k):=by
 have both:∀{A:Around} {a b:Addr} {k:Bool},a≠b->(∀ne:Bool,RcW X.prog X.w A s ne (.ref a) (.ref b) (ne !=k))->
   EqW X.prog X.w A s (.ref a) (.ref b) k/\∀a' b',V.ref a=.ref a'->V.ref b=.ref b'->a'≠b'->∀ne:Bool,RcW X.prog X.w A s ne (.ref a') (.ref b') (ne !=k):=fun {A a b k} ne R=>
  ⟨EqW.refs ne (by have z:=R false;simpa using z),fun a' b' e1 e2 _=>by cases e1;cases e2;exact R⟩
 induction q with
 | @same n a=>
  intro A u v ru rv hu
  obtain rfl:u=Value.ref a:=ru
  obtain rfl:v=Value.ref a:=rv
  exact⟨EqW.of (SeqAt.EqAt.same _),fun a' b' e1 e2 ne=>by cases e1;cases e2;exact absurd rfl ne⟩
 |flat hx hy=>
  intro A u v ru rv hu
  exact⟨EqW.of (eqAt_V ru rv hx hy),fun a b e _ _=>by subst e;cases hx⟩
 | @ls n a b xs ys e ha hb ne hl he ih=>
  intro A u v ru rv hu
  obtain rfl:u=Value.ref a:=ru
  obtain rfl:v=Value.ref b:=rv
  obtain⟨its,r1,p1,_⟩:=I.list ha
  obtain⟨its2,r2,p2,_⟩:=I.list hb
  have l1:=r1.length
  have l2:=r2.length
  refine both ne fun nb=>?_
  have z:=RcW.lists (P:=X.prog) (w:=X.w) (A:=A) (s:=s) nb (f:=e) (PlainL.isList p1) (PlainL.isList p2) (by rw [zN,zN];omega) (by omega) fun j h1 h2=>by
   have k1:j < its.length:=by simpa using h1
   have k2:j < its2.length:=by simpa using h2
   have w:=(ih j (by omega) (by omega) A.in1 its[j] its2[j] (qfh r1 (by omega) k1) (qfh r2 (by omega) k2) (by show A.units+1+n < cLine;omega)).1
   simpa using w
  rw [zN,<-l1] at z
  exact z
 | @lsN n a b xs ys ha hb ne hl=>
  intro A u v ru rv hu
  obtain rfl:u=Value.ref a:=ru
  obtain rfl:v=Value.ref b:=rv
  obtain⟨its,r1,p1,_⟩:=I.list ha
  obtain⟨its2,r2,p2,_⟩:=I.list hb
  have l1:=r1.length
  have l2:=r2.length
  exact both ne fun nb=>RcW.listsN nb (PlainL.isList p1) (PlainL.isList p2) (by rw [zN,zN];simp;omega) (by omega)
 | @ts n a b xs ys e ha hb ne he ih=>
  intro A u v ru rv hu
  obtain rfl:u=Value.ref a:=ru
  obtain rfl:v=Value.ref b:=rv
  obtain⟨its,r1,p1,_⟩:=I.tuple ha
  obtain⟨its2,r2,p2,_⟩:=I.tuple hb
  have l1:=r1.length
  have l2:=r2.length
  refine both ne fun nb=>?_
  have z:=RcW.tuples (P:=X.prog) (w:=X.w) (A:=A) (s:=s) nb (f:=e) p1 p2 (by omega) fun j h1 h2=>by
   have k1:j < its.length:=by simpa using h1
   have k2:j < its2.length:=by simpa using h2
   have w:=(ih j (by omega) (by omega) A.in1 its[j] its2[j] (qfh r1 (by omega) k1) (qfh r2 (by omega) k2) (by show A.units+1+n < cLine;omega)).1
   simpa using w
  rw [zN,zN,<-l1,<-l2] at z
  exact z
 | @dd n a b ka kb ha hb ne fa fb=>
  intro A u v ru rv hu
  obtain rfl:u=Value.ref a:=ru
  obtain rfl:v=Value.ref b:=rv
  obtain⟨_,ga,va,ra,da⟩:=qf7 I.hok ha
  obtain⟨_,gb,vb,rb,db⟩:=qf7 I.hok hb
  have l1:=ra.length
  have l2:=rb.length
  refine both ne fun nb E Q q=>?_
  have hits:=hits_of (A:=A.in1) (s:=s) rb fb ra fa
  rw [l1,l2] at q
  cases nb with
  |false=>exact PySem.W.keq_eq ga gb da db (by omega) (fun _=>hits) (by simpa using q)
  |true=>exact PySem.W.keq_ne ga gb da db (by omega) (fun _=>hits) (by simpa using q)
def rEqD (K:Frag):R2:=fun x y H Q=>∃a b n k,x=.ref a/\y=.ref b/\a≠b/\n<=8/\DEq K H n (.ref a) (.ref b) k/\Q (.bl k) H
theorem op_eqD (hu:X.A.units+8 < cLine):OpR X (compareOp .Eq) (rEqD X.K):=by
 intro pins s σ H x y v u Q I rx ry h
 obtain⟨a,b,n,k,rfl,rfl,ne,hn,q,z⟩:=h
 cases rx
 cases ry
 have r:=(deq_ok I q X.A _ _ rfl rfl (by omega)).2 a b rfl rfl ne false X.xe (EP X pins σ Q)
 rw [Bool.false_bne] at r
 exact r ⟨.bl k,H,I,rfl,z⟩
end
section
variable {X: Cx}
def rListOf (K:Frag):List V->Hp->VK->Prop:=fun xs H Q=>∃p ys,xs=[.ref p]/\(SqL K H p ys\/SqT K H p ys)/\∀l,H l=none->Q (.ref l) (upd H l (.lst ys))
theorem qcn:qc7 X (.type "list") (rListOf X.K):=call_list_of
end
section
variable {K: Frag} {σ: L2.St} {H: Hp} {Q: VK} {p l b: Addr} {ys xs zs: List V} {to: TE} {t: TA} {T: String} {r: V -> List V -> Hp -> VK -> Prop} {x v: V}
theorem qeo (h:SqL K H p ys) (q:∀l,H l=none->Q (.ref l) (upd H l (.lst ys))):rListOf K [.ref p] H Q:=⟨p,ys,rfl,.inl h,q⟩
theorem r_bm (h:to σ H fun x H1=>tyV K T x H1/\t σ H1 fun xs H2=>r x xs H2 Q):tBM K T r to t σ H Q:=h
theorem r_bm0 (h:to σ H fun x H1=>tyV K T x H1/\r x [] H1 Q):tBM0 K T r to σ H Q:=h
theorem r_tyL {P:Prop} (h:SqL K H p ys) (q:P):tyV K "list" (.ref p) H/\P:=⟨.inl ⟨rfl,_,h⟩,q⟩
theorem r_append (h:H l=some (.lst xs)) (hz:xs.length < sizeLine) (q:Q .non (upd H l (.lst (xs++ [v])))):rAppend (.ref l) [v] H Q:=⟨l,xs,v,rfl,rfl,h,hz,q⟩
theorem r_clear (h:H l=some (.lst xs)) (q:Q .non (upd H l (.lst []))):rClear (.ref l) [] H Q:=⟨l,xs,rfl,rfl,h,q⟩
theorem r_cat (h:H l=some (.lst xs)) (h':H b=some (.lst zs)) (hz:xs.length+zs.length<=sizeLine) (q:∀p,H p=none->Q (.ref p) (upd H p (.lst (xs++zs)))):rCat (.ref l) (.ref b) H Q:=⟨l,b,xs,zs,rfl,rfl,h,h',hz,q⟩
end
def initIn (K:Frag) (C f:Addr):Bool:=match K.lookup C with
 |some ⟨.type "type",_,.cls cd,sl⟩=>(match cd.mro,sl.toList with
  | .ref C' :: bm, [_,_,_,_,some (.builtin n),_]=>C'==C && n== "ValueError.__new__" && !cd.hasDel && PySem.W.tailIn K [.type "ValueError",.type "Exception",.type "BaseException",.type "object"] bm && PySem.W.nsOkIn K cd.ns && nsIn K cd.ns "__init__" ==some (some (.ref f))
  |_,_=>false)
 |_=>false
theorem xcli_of {K:Frag} {C f:Addr} (q:initIn K C f=true) (hf:isFn K (.ref f)=true):XClI K C f:=by
 refine⟨?_,hf⟩
 unfold initIn at q
 split at q
 .rename_i dd cd sl ho
  split at q
  .rename_i C' bm k0 k1 k2 k3 n k5 hm hs
   simp only [Bool.and_eq_true,beq_iff_eq,Bool.not_eq_true'] at q
   obtain⟨⟨⟨⟨⟨rfl,rfl⟩,hdel⟩,ht⟩,hok⟩,hni⟩:=q
   obtain⟨nm,bs,mro,ns,qn,hd,sn,sub,ab,col,del⟩:=cd
   dsimp only at hm hdel hok hni
   subst hm hdel
   have hsl:sl= #[k0,k1,k2,k3,some (.builtin "ValueError.__new__"),k5]:=by
    obtain⟨l⟩:=sl
    simp only at hs
    rw [hs]
   subst hsl
   unfold PySem.W.nsOkIn at hok
   split at hok
   .rename_i c1 d1 es ep sl1 hN
    have hSK:StrKeys es:=fun e he=>by
     have z:=Array.all_eq_true_iff_forall_mem.mp hok e he
     split at z
     .rename_i n t q;exact⟨n,t,q⟩
     .cases z
    have hNs:∀h:Heap,K.In h->h.Ns ns (fun x=>nsFind es x):=fun h X=>⟨_,es,ep,X _ _ hN,rfl,hSK,fun _=>rfl⟩
    refine⟨nm,qn,ns,bs,bm,hd,sn,sub,ab,col,dd,k0,k1,k2,k3,k5,fun x=>nsFind es x,ho,hNs,?_,fun h X=>PySem.W.tail_of_in X ht⟩
    unfold nsIn at hni
    rw [hN] at hni
    dsimp only at hni
    split at hni
    .rename_i hf
     show nsFind es "__init__" =some (.ref f)
     unfold nsFind findBy
     rw [<-Array.find?_toList,hf]
     exact congrArg some (Option.some.inj (Option.some.inj hni))
    .first|(split at hni <;> cases hni) |simp at hni
   .cases hok
  .cases q
 .cases q
structure RoomH (k:Nat) (A:Around):Prop where
 dp:A.depth+3*k+5 < recursionLimit
 un:A.units+16*k+200 < cLine
structure FnOkH (P:Program) (w:World) (K:Frag) (mg:Str->Option Value) (base:Heap) (k:Nat) (f:Addr) (fd:FuncData) (ps:List Str) (sp:Sp):Prop where
 len:∀vs H Q E,sp vs H Q E->vs.length=ps.length
 run:∀(a:Addr) (A:Around) (outer:List Env) (s:Shared) (H:Hp) (args:Args) (us:List Value) (vs:List V) (Q:VK) (E:XK),RoomH k A->A.handled=some (.ref a)->Env0 P w K mg base A outer s H->BindsTo s fd args (ps.zip us)->qbd vs us->sp vs H Q E->
  codeAny (model P w) A (.call (.ref f) args) (CR CX0 outer P w H s Q E) s
section
variable {X: Cx}
def rNeD (K:Frag):R2:=fun x y H Q=>∃a b n k,x=.ref a/\y=.ref b/\a≠b/\n<=8/\DEq K H n (.ref a) (.ref b) k/\Q (.bl (!k)) H
theorem op_neD (hu:X.A.units+8 < cLine):OpR X (compareOp .NotEq) (rNeD X.K):=by
 intro pins s σ H x y v u Q I rx ry h
 obtain⟨a,b,n,k,rfl,rfl,ne,hn,q,z⟩:=h
 cases rx
 cases ry
 have r:=(deq_ok I q X.A _ _ rfl rfl (by omega)).2 a b rfl rfl ne true X.xe (EP X pins σ Q)
 rw [Bool.true_bne] at r
 exact r ⟨.bl (!k),H,I,rfl,z⟩
end
section
variable {K: Frag} {H: Hp} {Q: VK} {a b: Addr} {n: Nat} {k: Bool}
theorem r_eqD (ne:a≠b) (hn:n<=8) (q:DEq K H n (.ref a) (.ref b) k) (h:Q (.bl k) H):rEqD K (.ref a) (.ref b) H Q:=⟨a,b,n,k,rfl,rfl,ne,hn,q,h⟩
theorem r_neD (ne:a≠b) (hn:n<=8) (q:DEq K H n (.ref a) (.ref b) k) (h:Q (.bl (!k)) H):rNeD K (.ref a) (.ref b) H Q:=⟨a,b,n,k,rfl,rfl,ne,hn,q,h⟩
end
theorem hu8 {k:Nat} {A:Around} (r:Room k A):A.units+8 < cLine:=by have:=r.un;omega
def DEqs (K:Frag) (H:Hp) (n:Nat):List V->List V->Prop
 | [], []=>True
 |x :: xs,y :: ys=>DEq K H n x y true/\DEqs K H n xs ys
 |_,_=>False
theorem DEqs.len {K:Frag} {H:Hp} {n:Nat}:∀{xs ys:List V},DEqs K H n xs ys->xs.length=ys.length
 | [], [],_=>rfl
 |_ :: _,_ :: _,h=>congrArg (·+1) (DEqs.len h.2)
 | [],_ :: _,h=>h.elim
 |_ :: _, [],h=>h.elim
theorem DEqs.get {K:Frag} {H:Hp} {n:Nat}:∀{xs ys:List V},DEqs K H n xs ys->∀j (h1:j < xs.length) (h2:j < ys.length),DEq K H n xs[j] ys[j] true
 | [], [],_,j,h1,_=>absurd h1 (Nat.not_lt_zero j)
 |_ :: _,_ :: _,h,0,_,_=>h.1
 |_ :: _,_ :: _,h,j+1,h1,h2=>DEqs.get h.2 j (Nat.lt_of_succ_lt_succ h1) (Nat.lt_of_succ_lt_succ h2)
 | [],_ :: _,h,_,_,_=>h.elim
 |_ :: _, [],h,_,_,_=>h.elim
theorem deq_str {K:Frag} {H:Hp} {n:Nat} (z:Str):DEq K H n (.str z) (.str z) true:=by
 have w:=DEq.flat (K:=K) (H:=H) (n:=n) (x:=.str z) (y:=.str z) rfl rfl
 have e:eqV (.str z) (.str z)=true:=by simp [eqV]
 rw [e] at w
 exact w
theorem deq_bl {K:Frag} {H:Hp} {n:Nat} (b:Bool):DEq K H n (.bl b) (.bl b) true:=by
 have w:=DEq.flat (K:=K) (H:=H) (n:=n) (x:=.bl b) (y:=.bl b) rfl rfl
 have e:eqV (.bl b) (.bl b)=true:=by cases b <;> rfl
 rw [e] at w
 exact w
def SameBut (L:Addr) (H H':Hp):Prop:=∀b o,b≠L->H b=some o->H' b=some o
theorem SameBut.at {H H':Hp} {L:Addr} {o:HO} (e:SameBut L H H'):SameBut L H (upd H' L o):=fun b u hb q=>by
 rw [qa7 hb];exact e b u hb q
theorem SameBut.of {H H':Hp} {L:Addr} (s:qaq H H'):SameBut L H H':=fun b u _ q=>s b u q
def NoFrz (H:Hp) (a:Addr):Prop:=∀o u,H a≠some (.frz o u)
section
variable {X: Cx} {pins: List (Addr × Obj)} {σ: L2.St} {H H': Hp} {s: Shared} {a: Addr} {kvs: List (Key × V)} {o: Obj}
theorem Inv.freeze (I:Inv X pins σ H s) (e:H a=some (.dK kvs)) (ho:s.heap.get? a=some o):Inv X pins σ (upd H a (.frz o (.dK kvs))) s:=by
 have ok:=I.hok a _ e
 have z:=I.write (x:=a) (e:=a) (o:=.frz o (.dK kvs)) (h':=s.heap) (t':=s.toks) (by rw [e];exact True.intro) (.inl rfl) (fun _ _ _ q=>q) ⟨o,ho⟩ ⟨ho,ok⟩
 exact z
theorem Inv.thaw (I:Inv X pins σ H s) (e:H a=some (.frz o (.dK kvs))) (n0:NoFrz X.H₀ a):Inv X pins σ (upd H a (.dK kvs)) s:=by
 have ne:∀b,H b=none->b≠a:=fun b q z=>by subst z;rw [e] at q;cases q
 have nk:∀b u,H b=some u->(∀o' u',u≠ .frz o' u')->b≠a:=fun b u q z w=>by subst w;rw [e] at q;cases q;exact z _ _ rfl
 refine⟨I.ok,I.os,I.bare,⟨I.base.keep,I.base.slot,fun b ob q n hx=>?_,I.base.there,fun b xs q=>?_,fun b ob u q=>?_,fun b ps q=>?_⟩,I.loc,I.cell,?_,fun x c q=>?_,fun p hp=>?_,fun b u q=>?_,I.len⟩
 .have z:=I.base.free b ob q n hx
  rw [qa7 (ne b z)];exact z
 .have z:=I.base.tups b xs q
  rw [qa7 (nk b _ z (by intro _ _ h;cases h))];exact z
 .have z:=I.base.frzs b ob u q
  rw [qa7 (fun w=>by subst w;exact n0 _ _ q)];exact z
 .obtain⟨m,z⟩:=I.base.tbls b ps q
  exact⟨m,by rw [qa7 (nk b _ z (by intro _ _ h;cases h))];exact z⟩
 .have z:=I.free
  rw [qa7 (ne _ z)];exact z
 .have z:=I.freeC x c q
  rw [qa7 (ne _ z)];exact z
 .obtain⟨p1,p2,p3⟩:=I.pin p hp
  exact⟨p1,by rw [qa7 (ne _ p2)];exact p2,p3⟩
 .by_cases hb:b=a
  .subst hb
   rw [qa2] at q
   cases q
   exact(I.hok b _ e).2
  .rw [qa7 hb] at q
   exact(I.hok b u q).stay (fun _ _ _ r=>r) (fun c r=>by rw [qa7 (nk c _ r (by intro _ _ h;cases h))];exact r) fun c xs r=>by rw [qa7 (nk c _ r (by intro _ _ h;cases h))];exact r
def Thaw (H0 H H':Hp):Prop:=H'=H\/∃a o kvs,H a=some (.frz o (.dK kvs))/\NoFrz H0 a/\H'=upd H a (.dK kvs)
theorem Inv.thawed (I:Inv X pins σ H s) (t:Thaw X.H₀ H H'):Inv X pins σ H' s:=by
 rcases t with rfl|⟨a,o,kvs,e,n,rfl⟩
 .exact I
 .exact Inv.thaw I e n
end
section
variable {X: Cx} {st: Stmt} {e: Expr} {t: TS} {te: TE}
def thE (H0:Hp) (D:Ends):Ends:={nx:=fun σ H=>∃H',Thaw H0 H H'/\D.nx σ H',rt:=fun v H=>∃H',Thaw H0 H H'/\D.rt v H',bk:=fun σ H=>∃H',Thaw H0 H H'/\D.bk σ H',ct:=fun σ H=>∃H',Thaw H0 H H'/\D.ct σ H'}
def tThA (H0:Hp) (t:TS):TS:=fun D σ H=>t (thE H0 D) σ H
theorem ps_thA (h:PS X st t):PS X st (tThA X.H₀ t):=fun pins s σ H D I q=>thn (h pins s σ H _ I q) fun f s' hs=>by
 cases f with
 |next=>obtain⟨σ',H1,J,H2,th,q⟩:=hs;exact⟨σ',H2,Inv.thawed J th,q⟩
 |brk=>obtain⟨σ',H1,J,H2,th,q⟩:=hs;exact⟨σ',H2,Inv.thawed J th,q⟩
 |cont=>obtain⟨σ',H1,J,H2,th,q⟩:=hs;exact⟨σ',H2,Inv.thawed J th,q⟩
 |ret u=>obtain⟨v,σ',H1,J,r,H2,th,q⟩:=hs;exact⟨v,σ',H2,Inv.thawed J th,r,q⟩
def tThV (H0:Hp) (t:TE):TE:=fun σ H Q=>t σ H fun v H1=>∃H',Thaw H0 H1 H'/\Q v H'
theorem pe_thV (h:PE X e te):PE X e (tThV X.H₀ te):=fun pins s σ H Q I q=>thn (h pins s σ H _ I q) fun u s' ⟨v,H1,J,r,H2,th,q⟩=>⟨v,H2,Inv.thawed J th,r,q⟩
end
theorem kvget {κ:Type} {kvs:List (κ × V)} {vs:List (κ × Value)} (r:KV kvs vs):∀{i:Nat} {k:κ} {v:V},kvs[i]?=some (k,v)->∃u,vs[i]?=some (k,u)/\qbe v u:=by
 induction r with
 |nil=>intro i k v e;simp at e
 |cons h t ih=>
  intro i k v e
  cases i with
  |zero=>
   simp only [List.getElem?_cons_zero,Option.some.injEq] at e ⊢
   subst e
   obtain⟨h1,h2⟩:=h
   exact⟨_,Prod.ext h1.symm rfl,h2⟩
  |succ i=>
   simp only [List.getElem?_cons_succ] at e ⊢
   exact ih e
theorem kV_rel {k:Key} {u:Value} (h:keyIs k u=true):qbe (kV k) u:=by
 rcases qba h with ⟨i,t,rfl,rfl⟩ |⟨x,t,rfl,rfl⟩
 .exact⟨t,rfl⟩
 .exact⟨t,rfl⟩
def ItD (d:Addr) (o:Obj) (kvs:List (Key × V)):It:=
 ⟨fun i H=>H d=some (.frz o (.dK kvs))/\i < kvs.length,fun i H x H'=>H'=H/\∃k v,kvs[i]?=some (k,v)/\x=kV k,fun i H=>H d=some (.frz o (.dK kvs))/\kvs.length<=i⟩
theorem frz_at {P:Program} {w:World} {H:Hp} {h:Heap} {d:Addr} {o:Obj} {kvs:List (Key × V)} {es:Array DictEntry} {ep:Nat} (ok:HOk P w H h) (e:H d=some (.frz o (.dK kvs))) (hd:o.data=.dict es ep):
  ∃vs,KV kvs vs/\h.DictAt (qbc P w) d vs ep:=by
 obtain⟨ho,_,_,vs,rel,o',es',ep',ho',ex,hd',ks,ps,nd⟩:=ok d _ e
 rw [ho] at ho'
 cases ho'
 rw [hd] at hd'
 cases hd'
 exact⟨vs,rel,o,es,ho,ex,hd,ks,ps,nd⟩
theorem turn_dict {P:Program} {w:World} {K:Frag} {tg:Expr} {o:Obj} {kvs:List (Key × V)} {es:Array DictEntry} {ep:Nat} (d it:Addr) (hd:o.data=.dict es ep):Turn P w K tg (ItD d o kvs) [it] it (fun i h=>h.IsKeyIter it d i kvs.length ep) where
 mem:=by simp
 obj:=fun i h st b hb=>by
  have e:b=it:=by simpa using hb
  subst e
  obtain⟨ob,e,c,dd⟩:=st
  exact⟨ob,e,fun v z=>by rw [dd] at z;cases z⟩
 keep:=fun i h h' st k=>st.at fun ob e=>k it (by simp) ob e
 item:=by
  intro X hP hw hK hc i pins s σ H E I hf st hg
  subst hP hw hK
  obtain⟨hfz,hi⟩:=hg
  obtain⟨vs,rel,dat⟩:=frz_at I.hok hfz hd
  obtain⟨f0,f1,f2,f3,f4,f5⟩:=hf it (by simp)
  have hl:=rel.length
  obtain⟨u,hu,ru⟩:=kvget rel (i:=i) (k:=kvs[i].1) (v:=kvs[i].2) (by rw [zA hi])
  rw [hl] at st
  refine wpAny_pyNext_dict_item st dat hu fun key h' hkey st' hs'=>?_
  have I1:Inv X pins σ H {s with heap:=h'}:=I.turned (t':=s.toks) (fun b ob hb e=>hs'.extBut b ob hb e) f0 f1 f3 f4 f5
  obtain⟨ob,e,c,dd⟩:=id st'
  exact⟨key,rfl,go_of (s:={s with heap:=h'}) e c dd (by decide) ⟨kV kvs[i].1,H,I1,kV_rel hkey,⟨rfl,kvs[i].1,kvs[i].2,zA hi,rfl⟩,by rw [hl];exact st',fun b hb=>(hf b hb).1⟩⟩
 done:=by
  intro X hP hw hK hc i pins s σ H E I hf st hg
  subst hP hw hK
  obtain⟨hfz,hi⟩:=hg
  obtain⟨vs,rel,dat⟩:=frz_at I.hok hfz hd
  obtain⟨f0,f1,f2,f3,f4,f5⟩:=hf it (by simp)
  have hl:=rel.length
  rw [hl] at st hi
  exact wpAny_pyNext_dict_end (I.ok.hd hc) st dat (by simpa using hi) fun h' eb=>⟨rfl,I.turned (t':=s.toks) (fun b ob hb e=>eb b ob hb e) f0 f1 f3 f4 f5⟩
 self:=fun _ _ _ _ _ st h=>wpAny_pyIter_keyiter st h
def rItD (x:V) (H:Hp) (R:It->Hp->Prop):Prop:=∃a kvs,x=.ref a/\((H a=some (.dK kvs)/\∀o,R (ItD a o kvs) (upd H a (.frz o (.dK kvs))))\/∃o,H a=some (.frz o (.dK kvs))/\R (ItD a o kvs) H)
def iDict (td:TE):TI:=fun σ H R=>td σ H fun x H1=>rItD x H1 R
theorem dat_of {P:Program} {w:World} {H:Hp} {h:Heap} {d:Addr} {kvs:List (Key × V)} (ok:qbh P w H h d (.dK kvs)):∃o es ep vs,h.get? d=some o/\o.data=.dict es ep/\KV kvs vs/\h.DictAt (qbc P w) d vs ep/\(d==sysModules)=false:=by
 obtain⟨_,hs,vs,rel,o,es,ep,ho,ex,hd,ks,ps,nd⟩:=ok
 exact⟨o,es,ep,vs,ho,hd,rel,⟨o,es,ho,ex,hd,ks,ps,nd⟩,hs⟩
theorem qer {X:Cx} {tg l:Expr} {tl:TE} (hl:PE X l tl):PI X tg l (iDict tl):=by
 intro pins s σ H R I h
 refine thn (hl pins s σ H _ I h) fun v s1 ⟨x,H1,I1,r1,q1⟩=>?_
 obtain⟨a,kvs,e,q⟩:=q1
 subst e
 cases r1
 have ok:qbh X.prog X.w H1 s1.heap a (.dK kvs):=by
  rcases q with ⟨e,_⟩ |⟨o,e,_⟩
  .exact I1.hok a _ e
  .exact(I1.hok a _ e).2
 obtain⟨o,es,ep,vs,ho,hd,rel,dat,hs⟩:=dat_of ok
 have hlen:=rel.length
 refine wpAny_pyIter_dict hs dat ?_
 have it0:(s1.heap.push {cls:=.type "dict_keyiterator",data:=.fields #[.ref a,.int 0 0,.int vs.length 0,.int ep 0]}).IsKeyIter s1.heap.objs.size a 0 kvs.length ep:=by
  rw [hlen];exact⟨_,Heap.get?_push_size _ rfl,rfl,rfl⟩
 rcases q with ⟨e,q⟩ |⟨o',e,q⟩
 .have I2:=Inv.freeze I1 e ho
  refine⟨s1.heap.objs.size, [s1.heap.objs.size],_,_,_,rfl,I2.kept (t':=s1.toks) fun b ob e=>Heap.get?_push_of_some _ e,turn_dict (kvs:=kvs) a _ hd,it0,fun b hb=>?_,q o⟩
  have e:b=s1.heap.objs.size:=by simpa using hb
  subst e
  exact I2.fpOk (Nat.le_refl _) (I2.hok.fresh (Nat.le_refl _))
 .have eo:o'=o:=by
   have z:=(I1.hok a _ e).1
   rw [ho] at z
   cases z
   rfl
  subst eo
  refine⟨s1.heap.objs.size, [s1.heap.objs.size],_,_,_,rfl,I1.kept (t':=s1.toks) fun b ob e=>Heap.get?_push_of_some _ e,turn_dict (kvs:=kvs) a _ hd,it0,fun b hb=>?_,q⟩
  have e:b=s1.heap.objs.size:=by simpa using hb
  subst e
  exact I1.fpOk (Nat.le_refl _) (I1.hok.fresh (Nat.le_refl _))
section
variable {σ: L2.St} {H H': Hp} {D: Ends} {t: TS} {te tl: TE} {Q: VK} {g: TG} {tb: TS} {a: Addr} {o: Obj} {kvs: List (Key × V)} {H0: Hp} {v: V}
theorem r_thA (h:t (thE H0 D) σ H):tThA H0 t D σ H:=h
theorem r_thNx (th:Thaw H0 H H') (h:D.nx σ H'):(thE H0 D).nx σ H:=⟨H',th,h⟩
theorem r_thV (h:te σ H fun v H1=>∃H',Thaw H0 H1 H'/\Q v H'):tThV H0 te σ H Q:=h
theorem thaw1 (e:H a=some (.frz o (.dK kvs))) (n:NoFrz H0 a):Thaw H0 H (upd H a (.dK kvs)):=.inr ⟨a,o,kvs,e,n,rfl⟩
theorem r_iD {R:It->Hp->Prop} (h:tl σ H fun x H1=>rItD x H1 R):iDict tl σ H R:=h
theorem r_itD {R:It->Hp->Prop} (e:H a=some (.dK kvs)) (h:∀o,R (ItD a o kvs) (upd H a (.frz o (.dK kvs)))):rItD (.ref a) H R:=⟨a,kvs,rfl,.inl ⟨e,h⟩⟩
theorem f_dict (Pv:Nat->L2.St->Hp->Prop) (h0:Pv 0 σ H) (hl:∀i σ H,i<=kvs.length->Pv i σ H->H a=some (.frz o (.dK kvs)))
  (hs:∀i k v σ H,kvs[i]?=some (k,v)->Pv i σ H->g (kV k) σ H fun σ2 H2=>tb {nx:=Pv (i+1),rt:=D.rt,bk:=D.nx,ct:=Pv (i+1)} σ2 H2) (hd:∀σ H,Pv kvs.length σ H->D.nx σ H):FOR (ItD a o kvs) g tb D σ H:=by
 refine⟨fun i m σ H=>m=kvs.length - i/\i<=kvs.length/\Pv i σ H,⟨kvs.length,rfl,Nat.zero_le _,h0⟩,?_⟩
 rintro i m σ H ⟨rfl,hi,p⟩
 have q:=hl i σ H hi p
 by_cases hlt:i < kvs.length
 .refine .inr ⟨⟨q,hlt⟩,Pv (i+1),fun σ' H' p'=>⟨kvs.length - (i+1),by omega,rfl,hlt,p'⟩,fun x H' y=>?_⟩
  obtain⟨e,k,v,hk,rfl⟩:=y
  subst e
  exact hs i k v σ _ hk p
 .have e:i=kvs.length:=Nat.le_antisymm hi (Nat.le_of_not_lt hlt)
  subst e
  exact .inl ⟨⟨q,Nat.le_refl _⟩,hd σ H p⟩
end
theorem objOk_get {P:Program} {w:World} {H:Hp} {h:Heap} {a:Addr} {o:HO} (x:qbh P w H h a o):∃u,h.get? a=some u:=by
 induction o with
 |lst xs=>obtain⟨_,_,_,_,e⟩:=x;exact⟨_,e⟩
 |tup xs=>obtain⟨_,_,_,ob,e,_⟩:=x;exact⟨_,e⟩
 |dK kvs=>obtain⟨_,_,_,_,o,_,_,e,_⟩:=x;exact⟨_,e⟩
 |dT kvs=>obtain⟨_,_,_,_,o,_,_,e,_⟩:=x;exact⟨_,e⟩
 |set S n=>obtain⟨o,_,_,_,e,_⟩:=x;exact⟨_,e⟩
 |ins C dx fs=>obtain⟨_,_,_,e,_⟩:=x;exact⟨_,e⟩
 |own y=>exact x
 |xd fs=>obtain⟨_,⟨_,_,_,e,_⟩,_⟩:=x;exact⟨_,e⟩
 |rng lo hi=>obtain⟨_,_,_,e⟩:=x;exact⟨_,e⟩
 |frz ob u ih=>exact⟨_,x.1⟩
 |tbl ps=>exact⟨_,x⟩
 |met f y=>exact⟨_,x⟩
 |ext φ=>exact x.2.1
theorem Inv.laidN {X:Cx} {pins:List (Addr × Obj)} {σ:L2.St} {H:Hp} {s:Shared} {h':Heap} {a:Addr} {o:HO} {t':Nat} (I:Inv X pins σ H s) (k:∀b u,s.heap.get? b=some u->h'.get? b=some u) (hg:s.heap.get? a=none) (new:qbh X.prog X.w (upd H a o) h' a o):
  H a=none/\Inv X pins σ (upd H a o) {s with heap:=h',toks:=t'}:=by
 have hn:H a=none:=by
  cases q:H a with
  |none=>rfl
  |some u=>obtain⟨v,e⟩:=objOk_get (I.hok a u q);rw [hg] at e;cases e
 refine⟨hn,I.un ⟨fun b u q _ _ _=>k b u q,fun b u q _ _ _=>⟨u.slots,k b u q⟩,fun b u q n _=>by rw [qa7 (fun z=>by subst z;rw [hg] at q;cases q)];exact n,fun b u q _=>⟨u,k b u q⟩,fun b xs q=>by rw [qa7 (qaa q hn)];exact q,
  fun b u xs q=>by rw [qa7 (qaa q hn)];exact q,fun b ps q=>⟨#[],by rw [qa7 (qaa q hn),q];simp⟩⟩ fun b u e=>?_⟩
 by_cases hb:b=a
 .subst hb;rw [qa2] at e;cases e;exact new
 .rw [qa7 hb] at e
  exact(I.hok b u e).stay (fun c v _ q=>k c v q) (fun c q=>by rw [qa7 (qaa q hn)];exact q) fun c xs q=>by rw [qa7 (qaa q hn)];exact q
section
variable {X: Cx}
def rDictCp:List V->Hp->VK->Prop:=fun xs H Q=>∃p kvs,xs=[.ref p]/\Rd H p (.dK kvs)/\∀q,H q=none->Q (.ref q) (upd H q (.dK kvs))
theorem qco:qc7 X (.type "dict") rDictCp:=by
 intro pins s σ H xs us Q I hv h
 obtain⟨p,kvs,rfl,e,q⟩:=h
 obtain⟨u,rfl,ru⟩:=hv.one
 cases ru
 exact d_copyOf I e fun l s' hl I'=>⟨.ref l,_,I',rfl,q l hl⟩
theorem qfl:∀{ss:List Str} {us:List Value},qbd (ss.map V.str) us->StrsAre us ss
 | [],_,r=>by cases r;exact .nil
 |x :: ss,_,r=>by
  cases r with
  |cons h t=>obtain⟨k,rfl⟩:=h;exact .cons x k (qfl t)
theorem qek:∀{us:List Value} {ss:List Str},StrsAre us ss->qbd (ss.map V.str) us
 |_,_,.nil=> .nil
 |_,_,.cons x t h=> .cons ⟨t,rfl⟩ (qek h)
def rSortL (K:Frag):List V->Hp->VK->Prop:=fun xs H Q=>∃p ss,xs=[.ref p]/\SqL K H p (ss.map V.str)/\ss.length < 64/\∀l ss',H l=none->ss'.Perm ss->sortedS ss'=true->Q (.ref l) (upd H l (.lst (ss'.map V.str)))
theorem qea:qc7 X (.builtin "sorted") (rSortL X.K):=by
 intro pins s σ H xs us Q I hv h
 obtain⟨p,ss,rfl,hS,hz,q⟩:=h
 obtain⟨u,rfl,ru⟩:=hv.one
 cases ru
 obtain⟨its,rv,pl,hz'⟩:=I.list hS
 have hlen:=rv.length
 rw [zB] at hlen
 refine sorted_strs (vs:=its) (PlainL.isList pl) (qfl rv) (by omega) fun out ss' a1 a2 a3=>?_
 obtain⟨e,he⟩:=sortedAll_at s.heap its out
 have hl2:=a2.length_eq
 have I2:=I.laid (a:=s.heap.objs.size+1) (o:=.lst (ss'.map V.str)) (t':=s.toks) (fun b ob hb=>sortedAll_old hb) (Nat.le_succ _) ⟨by rw [zB,sizeLine_eq];omega,out.toList,e,qek a1,by simpa [seqObj] using he⟩
 exact⟨.ref _,_,I2,rfl,q _ ss' (I.hok.fresh (Nat.le_succ _)) a2 a3⟩
def rSortD:List V->Hp->VK->Prop:=fun xs H Q=>∃p kvs ss,xs=[.ref p]/\Rd H p (.dK kvs)/\kvs.map (·.1)=ss.map Sum.inr/\ss.length < 64/\∀l ss',H l=none->ss'.Perm ss->sortedS ss'=true->Q (.ref l) (upd H l (.lst (ss'.map V.str)))
theorem strs_keys {ss:List Str} {us:List Value} (hl:us.length=ss.length) (h:∀(j:Nat) (u:Value),us[j]?=some u->∃x,ss[j]?=some x/\keyIs (.inr x) u=true):StrsAre us ss:=by
 induction us generalizing ss with
 |nil=>cases ss with
  |nil=>exact .nil
  |cons _ _=>simp at hl
 |cons u us ih=>cases ss with
  |nil=>simp at hl
  |cons x ss=>
   obtain⟨y,hy,hk⟩:=h 0 u rfl
   simp only [List.getElem?_cons_zero,Option.some.injEq] at hy
   subst hy
   rcases qba hk with ⟨i,t,e,_⟩ |⟨z,t,e,rfl⟩
   .cases e
   .cases e
    exact .cons x t (ih (by simpa using hl) fun j v hv=>by have:=h (j+1) v (by simpa using hv);simpa using this)
theorem qfg (hc:X.calm=true):qc7 X (.builtin "sorted") rSortD:=by
 intro pins s σ H xs us Q I hv h
 obtain⟨p,kvs,ss,rfl,hR,hk,hz,q⟩:=h
 obtain⟨u,rfl,ru⟩:=hv.one
 cases ru
 obtain⟨o,es,ep,vs,ho,hd,rel,dat,hs⟩:=dat_of (hR.ok I.hok)
 have hlen:=rel.length
 have hks:=rel.keys
 have hl2:kvs.length=ss.length:=by have:=congrArg List.length hk;simpa using this
 refine Calls.call_function_entry kind_sorted plain_sorted entry_sorted (args_sorted1 _) ?_
 unfold Builtin.«sorted»
 refine wpAny_bind (m:=checkCount "sorted" 1 1 _) (wpAny_pure ?_)
 refine wpAny_bind (PySem.W.kdu_collect (A:=X.A.in1) (PySem.W.kdl_dict (knd:=qbc X.prog X.w) (kvs:=vs) (ep:=ep) hs) (I.ok.hd hc) dat (by rw [sizeLine_eq];omega) fun h' tk acc hkeep hacc=>?_)
 have hal:acc.toList.length=vs.length:=by rw [Array.length_toList];exact hacc.1
 refine wpAny_bind (wpAny_newList ?_ (by rw [hal,sizeLine_eq];omega))
 have hS:StrsAre acc.toList ss:=by
  refine strs_keys (by omega) fun j v hv=>?_
  obtain⟨k,x,hx,hkv⟩:=hacc.2 j v (by rw [<-Array.getElem?_toList];exact hv)
  have e1:(vs.map (·.1))[j]?=some k:=by rw [zC,hx];rfl
  rw [<-hks,hk,zC] at e1
  obtain⟨z,hz1,rfl⟩:=Option.map_eq_some_iff.mp e1
  exact⟨z,hz1,hkv⟩
 have hoL:(h'.push {cls:=.type "list",data:=.seq acc.toList.toArray}).get? h'.objs.size=some (seqObj "list" acc.toList.toArray 0):=Heap.get?_push_size _ rfl
 refine wpAny_bind (wpAny_holding (wpAny_call_entry slot_list_sort ⟨_,hoL,rfl⟩ entry_list_sort (list_sort_treeK strKind_oneLt hoL hS.keysOf (fun v₁ v₂ rest e=>keyKind_strs (by rw [<-e];exact hS)) (by omega) fun st' a1 a2=>⟨_,rfl,?_⟩) (args_list_sort _)))
 obtain⟨ss',b1,b2,b3⟩:=sorted_out_str hS a1 a2
 obtain⟨e,he⟩:=sortedHeap_at (out:=(arrOf st').map (·.2)) hoL
 have hl3:=b2.length_eq
 have hg:s.heap.get? h'.objs.size=none:=by
  cases q:s.heap.get? h'.objs.size with
  |none=>rfl
  |some ob=>exact absurd (Heap.lt_size (hkeep _ _ q)) (Nat.lt_irrefl _)
 obtain⟨hn,I2⟩:=Inv.laidN I (h':=sortedHeap (h'.push {cls:=.type "list",data:=.seq acc.toList.toArray}) h'.objs.size acc.toList ((arrOf st').map (·.2))) (a:=h'.objs.size) (o:=.lst (ss'.map V.str)) (t':=tk) (fun b ob hb=>by
  have hb':=hkeep b ob hb
  rw [sortedHeap_old (Nat.ne_of_lt (Heap.lt_size hb')) (by rw [size_push'];exact Nat.lt_succ_of_lt (Heap.lt_size hb'))]
  exact Heap.get?_push_of_some _ hb') hg ⟨by rw [zB,sizeLine_eq];omega,((arrOf st').map (·.2)).toList,e,qek b1,by rw [Array.toArray_toList];exact he⟩
 exact wpAny_pure ⟨_,rfl,.ref _,_,I2,rfl,q _ ss' hn b2 b3⟩
end
section
variable {K: Frag} {H: Hp} {Q: VK} {p: Addr} {kvs: List (Key × V)} {ss: List Str}
theorem r_dictCp (e:Rd H p (.dK kvs)) (h:∀q,H q=none->Q (.ref q) (upd H q (.dK kvs))):rDictCp [.ref p] H Q:=⟨p,kvs,rfl,e,h⟩
theorem r_sortL (e:SqL K H p (ss.map V.str)) (hz:ss.length < 64) (h:∀l ss',H l=none->ss'.Perm ss->sortedS ss'=true->Q (.ref l) (upd H l (.lst (ss'.map V.str)))):rSortL K [.ref p] H Q:=⟨p,ss,rfl,e,hz,h⟩
theorem r_sortD (e:Rd H p (.dK kvs)) (hk:kvs.map (·.1)=ss.map Sum.inr) (hz:ss.length < 64) (h:∀l ss',H l=none->ss'.Perm ss->sortedS ss'=true->Q (.ref l) (upd H l (.lst (ss'.map V.str)))):rSortD [.ref p] H Q:=⟨p,kvs,ss,rfl,e,hk,hz,h⟩
end
structure AD (kvs:List (Key × V)) (f:Str->Option Int):Prop where
 nd:(kvs.map (·.1)).Nodup
 sh:∀p∈kvs,∃z i,p=(Sum.inr z,V.int i)
 get:∀z,qcd kvs (Sum.inr z)=(f z).map V.int
def noF:Str->Option Int:=fun _=>none
def putF' (f:Str->Option Int) (z:Str) (i:Int):Str->Option Int:=fun y=>if y=z then some i else f y
theorem AD.nil:AD [] noF:=⟨yK,fun p hp=>absurd hp (by simp),fun z=>rfl⟩
theorem AD.cast {kvs:List (Key × V)} {f g:Str->Option Int} (h:AD kvs f) (e:∀z,f z=g z):AD kvs g:=⟨h.nd,h.sh,fun z=>by rw [h.get,e]⟩
theorem putK_keys {kvs:List (Key × V)} {k:Key} {v:V} (h:qcd kvs k≠none):(qcy kvs k v).map (·.1)=kvs.map (·.1):=by
 unfold qcy
 have e:(kvs.any fun kv=>decide (kv.1=k))=true:=by rw [qcf];cases q:qcd kvs k with
  |none=>exact absurd q h
  |some _=>rfl
 rw [if_pos e,yU]
 apply List.map_congr_left
 intro p _
 show (if p.1=k then (p.1,v) else p).1=p.1
 split <;> rfl
theorem putK_mem {kvs:List (Key × V)} {k:Key} {v:V} {p:Key × V} (h:p∈qcy kvs k v):p=(k,v)\/p∈kvs:=by
 unfold qcy at h
 split at h
 .obtain⟨q,hq,e⟩:=zI.mp h
  split at e
  .rename_i ek;subst ek;exact .inl e.symm
  .subst e;exact .inr hq
 .rcases zV.mp h with h|h
  .exact .inr h
  .exact .inl (by simpa using h)
theorem AD.put {kvs:List (Key × V)} {f:Str->Option Int} (h:AD kvs f) (z:Str) (i:Int):AD (qcy kvs (Sum.inr z) (.int i)) (putF' f z i):=by
 refine⟨?_,fun p hp=>?_,fun y=>?_⟩
 .cases q:qcd kvs (Sum.inr z) with
  |none=>exact nd_putK _ h.nd q
  |some v=>rw [putK_keys (by rw [q];simp)];exact h.nd
 .rcases putK_mem hp with rfl|hp
  .exact⟨z,i,rfl⟩
  .exact h.sh p hp
 .rw [valV_put]
  unfold putF'
  by_cases e:y=z
  .subst e;rw [if_pos rfl,if_pos rfl];rfl
  .rw [if_neg (fun q=>e (Sum.inr.inj q)),if_neg e];exact h.get y
theorem AD.flat {kvs:List (Key × V)} {f:Str->Option Int} (h:AD kvs f):∀p∈kvs,qcz p.2=true:=fun p hp=>by
 obtain⟨z,i,rfl⟩:=h.sh p hp
 rfl
theorem valV_of_mem {kvs:List (Key × V)} (nd:(kvs.map (·.1)).Nodup) {k:Key} {v:V} (h:(k,v)∈kvs):qcd kvs k=some v:=by
 induction kvs with
 |nil=>simp at h
 |cons p r ih=>
  rw [zS,yA] at nd
  rcases zK.mp h with rfl|h
  .exact qbr rfl
  .have ne:¬p.1=k:=fun e=>nd.1 (e ▸ zI.mpr ⟨(k,v),h,rfl⟩)
   rw [qbs ne]
   exact ih nd.2 h
theorem AD.mem {kvs:List (Key × V)} {f:Str->Option Int} (h:AD kvs f) {k:Key} {v:V} (hm:(k,v)∈kvs):∃z n,k=Sum.inr z/\v=.int n/\f z=some n:=by
 obtain⟨z,n,e⟩:=h.sh _ hm
 cases e
 have q:=valV_of_mem h.nd hm
 rw [h.get] at q
 cases hf:f z with
 |none=>rw [hf] at q;cases q
 |some m=>rw [hf] at q;cases q;exact⟨z,_,rfl,rfl,hf⟩
def qdd (kvs:List (Key × V)):List Str:=kvs.filterMap fun p=>match p.1 with| .inr z=>some z| .inl _=>none
theorem AD.keys {kvs:List (Key × V)} {f:Str->Option Int} (h:AD kvs f):kvs.map (·.1)=(qdd kvs).map Sum.inr:=by
 have sh:=h.sh
 clear h
 induction kvs with
 |nil=>rfl
 |cons p r ih=>
  obtain⟨z,i,rfl⟩:=sh p (zL ..)
  show Sum.inr z :: r.map (·.1)=(z :: qdd r).map Sum.inr
  rw [zS,ih fun q hq=>sh q (zF _ hq)]
theorem AD.klen {kvs:List (Key × V)} {f:Str->Option Int} (h:AD kvs f):(qdd kvs).length=kvs.length:=by
 have:=congrArg List.length h.keys
 simpa using this.symm
theorem AD.knd {kvs:List (Key × V)} {f:Str->Option Int} (h:AD kvs f):(qdd kvs).Nodup:=by
 have nd:=h.nd
 rw [h.keys] at nd
 exact List.Pairwise.imp (fun ne e=>ne (congrArg Sum.inr e)) (yQ.mp nd)
theorem AD.kin {kvs:List (Key × V)} {f:Str->Option Int} (h:AD kvs f) (z:Str):z∈qdd kvs↔f z≠none:=by
 constructor
 .intro hz
  have hm:(Sum.inr z:Key)∈kvs.map (·.1):=by rw [h.keys];exact zI.mpr ⟨z,hz,rfl⟩
  obtain⟨⟨k,v⟩,hp,e⟩:=zI.mp hm
  dsimp only at e
  subst e
  obtain⟨z',n,e1,_,hf⟩:=h.mem hp
  cases e1
  rw [hf];simp
 .intro hf
  cases q:f z with
  |none=>exact absurd q hf
  |some n=>
   have hv:=h.get z
   rw [q] at hv
   have hm:=valV_in hv
   rw [h.keys] at hm
   obtain⟨y,hy,e⟩:=zI.mp hm
   cases e
   exact hy
theorem nd_le:∀{l m:List Str},l.Nodup->(∀a∈l,a∈m)->l.length<=m.length
 | [],_,_,_=>Nat.zero_le _
 |a :: l,m,nd,h=>by
  have ha:=h a (zL ..)
  rw [yA] at nd
  have q:=nd_le (l:=l) (m:=m.erase a) nd.2 fun b hb=>(List.mem_erase_of_ne (fun(e:b=a)=>nd.1 (by rw [<-e];exact hb))).mpr (h b (zF _ hb))
  rw [List.length_erase_of_mem ha] at q
  have:0 < m.length:=List.length_pos_of_mem ha
  simp only [zP]
  omega
theorem AD.le {kvs:List (Key × V)} {f:Str->Option Int} (h:AD kvs f) {ws:List Str} (hs:∀z,f z≠none->z∈ws):kvs.length<=ws.length:=by
 rw [<-h.klen]
 exact nd_le h.knd fun z hz=>hs z ((h.kin z).mp hz)
theorem AD.eq {ka kb:List (Key × V)} {f:Str->Option Int} (h:AD ka f) (h':AD kb f):(ka.length==kb.length && ka.all fun p=>(qcd kb p.1).elim false (eqV p.2))=true:=by
 rw [Bool.and_eq_true,beq_iff_eq,yE]
 constructor
 .have l1:=nd_le h.knd fun z hz=>(h'.kin z).mpr ((h.kin z).mp hz)
  have l2:=nd_le h'.knd fun z hz=>(h.kin z).mpr ((h'.kin z).mp hz)
  rw [h.klen,h'.klen] at l1
  rw [h.klen,h'.klen] at l2
  omega
 .rintro⟨k,v⟩ hp
  obtain⟨z,n,rfl,rfl,hf⟩:=h.mem hp
  show ((qcd kb (Sum.inr z)).elim false (eqV (.int n)))=true
  rw [h'.get,hf]
  show (n==n)=true
  simp
theorem AD.at {kvs:List (Key × V)} {f:Str->Option Int} (h:AD kvs f) {i:Nat} {k:Key} {v:V} (e:kvs[i]?=some (k,v)):∃z n,k=Sum.inr z/\v=.int n/\f z=some n/\(qdd kvs)[i]?=some z:=by
 obtain⟨z,n,rfl,rfl,hf⟩:=h.mem (zD e)
 refine⟨z,n,rfl,rfl,hf,?_⟩
 have q:(kvs.map (·.1))[i]?=some (Sum.inr z):=by rw [zC,e];rfl
 rw [h.keys,zC] at q
 obtain⟨y,hy,e⟩:=Option.map_eq_some_iff.mp q
 cases e
 exact hy
def leS (a b:Str):Prop:=ltCps b.cps.toList a.cps.toList=false
theorem qdb {a b:Str}:leS a b↔a.cps.toList<=b.cps.toList:=by
 unfold leS
 rw [ltCps_eq,decide_eq_false_iff_not]
 exact List.not_lt
theorem leS_refl (a:Str):leS a a:=qdb.mpr (List.le_refl _)
theorem leS_trans {a b c:Str} (h:leS a b) (h':leS b c):leS a c:=qdb.mpr (List.le_trans (qdb.mp h) (qdb.mp h'))
theorem leS_anti {a b:Str} (h:leS a b) (h':leS b a):a=b:=by
 have e:=List.le_antisymm (qdb.mp h) (qdb.mp h')
 obtain⟨⟨x⟩⟩:=a
 obtain⟨⟨y⟩⟩:=b
 have e':x=y:=e
 subst e'
 rfl
theorem rising_pw:∀{p:Str} {l:List Str},risingS p l=true->(p :: l).Pairwise leS
 |p, [],_=>List.pairwise_singleton _ _
 |p,x :: r,h=>by
  have h':(!ltCps x.cps.toList p.cps.toList && risingS x r)=true:=h
  rw [Bool.and_eq_true,Bool.not_eq_true'] at h'
  have q:=rising_pw h'.2
  refine List.pairwise_cons.mpr ⟨fun y hy=>?_,q⟩
  rcases zK.mp hy with rfl|hy
  .exact h'.1
  .exact leS_trans h'.1 (List.rel_of_pairwise_cons q hy)
theorem qd2:∀{l:List Str},sortedS l=true->l.Pairwise leS
 | [],_=>List.Pairwise.nil
 |x :: r,h=>rising_pw h
def gN (f:Str->Option Int) (z:Str):Int:=(f z).getD 0
def addF (f g:Str->Option Int):Str->Option Int:=fun y=>match g y with|none=>f y|some b=>some (gN f y+b)
def qcj (f:Str->Option Int):Str->Option Int:=fun y=>match f y with|none=>none|some a=>if 0 < a then some a else none
theorem gN_get {kvs:List (Key × V)} {f:Str->Option Int} (h:AD kvs f) (z:Str):(qcd kvs (Sum.inr z)).getD (.int 0)=.int (gN f z):=by
 rw [h.get]
 unfold gN
 cases f z <;> rfl
theorem qbo {l:List Str} {i:Nat} {z:Str} (h:l[i]?=some z) (y:Str):y∈l.take (i+1)↔y∈l.take i\/y=z:=by
 rw [zM,h,zV]
 simp
theorem qg2:bootBuiltins "reversed" =some (.type "reversed"):=by decide+kernel
section
variable {σ: L2.St} {H H': Hp} {Q: VK} {D: Ends} {td ty tx tv: TE} {a b p: Addr} {kvs kb: List (Key × V)} {f: Str -> Option Int} {z: Str} {n: Int} {v: V} {o: Obj}
def rDG (a:Addr) (y z:V) (H:Hp) (Q:VK):Prop:=∃o,DGet H a y o/\Q (o.getD z) H
def kDG2 (ty tx:TE) (σ:L2.St) (Q:VK) (x:V) (H:Hp):Prop:=∃a,x=.ref a/\IsD H a/\ty σ H fun y H2=>tx σ H2 fun z H3=>rDG a y z H3 Q
theorem r_dg2 (h:td σ H fun x H1=>kDG2 ty tx σ Q x H1):tDGet2 td ty tx σ H Q:=h
theorem r_dg2a (d:Rd H a (.dK kvs)) (h:ty σ H fun y H2=>tx σ H2 fun z H3=>rDG a y z H3 Q):kDG2 ty tx σ Q (.ref a) H:=⟨a,rfl,.inl ⟨kvs,d⟩,h⟩
theorem r_dg2b (d:Rd H a (.dK kvs)) (A:AD kvs f) (h:Q (.int (gN f z)) H):rDG a (.str z) (.int 0) H Q:=by
 refine⟨qcd kvs (Sum.inr z),.inl ⟨kvs,Sum.inr z,d,rfl,rfl⟩,?_⟩
 rw [gN_get A]
 exact h
def rDGk (x y:V) (H:Hp) (Q:VK):Prop:=∃a v,x=.ref a/\DGet H a y (some v)/\Q v H
theorem r_dg (h:td σ H fun x H1=>ty σ H1 fun y H2=>rDGk x y H2 Q):tDGet td ty σ H Q:=h
theorem r_dgk (d:Rd H a (.dK kvs)) (A:AD kvs f) (e:f z=some n) (h:Q (.int n) H):rDGk (.ref a) (.str z) H Q:=
 ⟨a,.int n,rfl,.inl ⟨kvs,Sum.inr z,d,rfl,by rw [A.get,e];rfl⟩,h⟩
def rDP (x y v:V) (H:Hp) (D:Ends) (σ:L2.St):Prop:=∃a H4,x=.ref a/\DPut H a y v H4/\D.nx σ H4
theorem r_dp (h:tv σ H fun v H1=>td σ H1 fun x H2=>ty σ H2 fun y H3=>rDP x y v H3 D σ):sDPut td ty tv D σ H:=h
theorem r_dpk (e:H a=some (.dK kvs)) (hz:kvs.length < sizeLine) (h:D.nx σ (upd H a (.dK (qcy kvs (Sum.inr z) v)))):rDP (.ref a) (.str z) v H D σ:=⟨a,_,rfl,DPut.k (k:=Sum.inr z) e hz,h⟩
def rDI (x y:V) (H:Hp) (Q:VK):Prop:=∃a o,x=.ref a/\DGet H a y o/\Q (.bl o.isSome) H
theorem r_di (h:ty σ H fun y H1=>td σ H1 fun x H2=>rDI x y H2 Q):tDIn ty td σ H Q:=h
theorem r_dnew (h:∀p,H p=none->Q (.ref p) (upd H p (.dK []))):tDNewK σ H Q:=h
theorem qdx (e:H a=some (.dK kvs)):NoFrz H a:=fun o u z=>by rw [e] at z;cases z
theorem rd_new (d:Rd H a (.dK kvs)) (n:H p=none) {u:HO}:Rd (upd H p u) a (.dK kvs):=by
 rcases d with d|⟨o,d⟩
 .exact .inl (qab d n)
 .exact .inr ⟨o,qab d n⟩
theorem rd_in (d:Rd H b (.dK kb)) (ea:H a=some (.dK kvs)) (sb:SameBut a H H') (fz:H' a=some (.frz o (.dK kvs))):Rd H' b (.dK kb):=by
 by_cases e:b=a
 .subst e
  rcases d with d|⟨o',d⟩
  .rw [ea] at d;cases d;exact .inr ⟨o,fz⟩
  .rw [ea] at d;cases d
 .rcases d with d|⟨o',d⟩
  .exact .inl (sb _ _ e d)
  .exact .inr ⟨o',sb _ _ e d⟩
theorem qd3 (e:H a=some (.dK kvs)) (sb:SameBut a H H'):qaq H (upd H' a (.dK kvs)):=fun b u q=>by
 by_cases h:b=a
 .subst h;rw [qa2];rw [e] at q;exact q
 .rw [qa7 h];exact sb b u h q
theorem sb_frz (e:H a=some (.dK kvs)):SameBut a H (upd H a (.frz o (.dK kvs))):=fun b u h q=>by rw [qa7 h];exact q
theorem sb_put {l:Addr} {u:HO} (sb:SameBut a H H') (n:H l=none):SameBut a H (upd H' l u):=fun b w h q=>by
 rw [qa7 (qaa q n)];exact sb b w h q
theorem qay {l:Addr} {u:HO} (s:qaq H H') (n:H l=none):qaq H (upd H' l u):=fun b w q=>by rw [qa7 (qaa q n)];exact s b w q
end
def viol (f g:Str->Option Int) (y:Str):Prop:=f y≠none/\gN g y < gN f y
theorem addF_sup {f g:Str->Option Int} {ws:List Str} (hf:∀z,f z≠none->z∈ws) (hg:∀z,g z≠none->z∈ws) (z:Str) (h:addF f g z≠none):z∈ws:=by
 unfold addF at h
 cases e:g z with
 |none=>rw [e] at h;exact hf z h
 |some b=>exact hg z (by rw [e];simp)
theorem step_put {l:List Str} {i:Nat} {z:Str} (h:l[i]?=some z) (F G:Str->Option Int) {v:Int} (hv:F z=some v) (y:Str):putF' (fun y=>if y∈l.take i then F y else G y) z v y=if y∈l.take (i+1) then F y else G y:=by
 unfold putF'
 by_cases e:y=z
 .subst e
  rw [if_pos rfl,if_pos ((qbo h y).mpr (.inr rfl)),hv]
 .rw [if_neg e]
  by_cases e2:y∈l.take i
  .rw [if_pos ((qbo h y).mpr (.inl e2))];exact if_pos e2
  .rw [if_neg (fun q=>((qbo h y).mp q).elim e2 e)];exact if_neg e2
theorem step_no {l:List Str} {i:Nat} {z:Str} (h:l[i]?=some z) (F G:Str->Option Int) (hv:F z=G z) (y:Str):(if y∈l.take i then F y else G y)=if y∈l.take (i+1) then F y else G y:=by
 by_cases e2:y∈l.take i
 .rw [if_pos e2,if_pos ((qbo h y).mpr (.inl e2))]
 .rw [if_neg e2]
  by_cases e:y=z
  .subst e
   rw [if_pos ((qbo h y).mpr (.inr rfl)),hv]
  .rw [if_neg (fun q=>((qbo h y).mp q).elim e2 e)]
theorem step_end {kvs:List (Key × V)} {g:Str->Option Int} (hB:AD kvs g) (F G:Str->Option Int) (hn:∀y,g y=none->F y=G y) (y:Str):(if y∈(qdd kvs).take kvs.length then F y else G y)=F y:=by
 rw [<-hB.klen,zR]
 by_cases e:y∈qdd kvs
 .rw [if_pos e]
 .rw [if_neg e]
  refine(hn y ?_).symm
  cases hf:g y with
  |none=>rfl
  |some n=>exact absurd ((hB.kin y).mpr (by rw [hf];simp)) e
section
variable {X: Cx}
theorem qd6 {elt iter:Expr} {x y:Str} {px py:Pos} {ifs:List Expr} {scope:Scope} {cl:List (Str × Addr)} {pos spos:Pos} {caps:List Nat} {cn:List Str} {wi:TI} {tt:CT TT} {te:CT TE} {j:Nat} (Cp:Caps X x scope cl caps cn) (hc:X.calm=true)
  (hN:X.N.Nodup) (hy:X.N[j]?=some y) (hly:X.env.scope.names.lookup y=some .local)
  (hi:PI X (.Name x px) iter wi) (ht:∀C s H fp,PIfs (cxC X (x :: cn) scope cl C s H fp) ifs (tt C s H fp)) (he:∀C s H fp,PE (cxC X (x :: cn) scope cl C s H fp) elt (te C s H fp))
  (hsw:swapsWith (.ListComp elt [⟨.Name x px,iter,ifs,0⟩] scope pos) (some (.Name y py)) spos.line X.env=pure true:=by rfl) (hs:∀x,foldedSetIterable iter X.env x=pure x:=by intro _;rfl):
  PS X (.Assign [.Name y py] (.ListComp elt [⟨.Name x px,iter,ifs,0⟩] scope pos) spos) (tAsg (tComp wi caps tt te) (qfz j)):=by
 intro pins s σ H D I h
 replace h:tComp wi caps tt te σ H (fun v H1=>D.nx (σ.set j (some v)) H1):=h
 rw [exec_Assign_Name_used _ _ _ _ hsw]
 refine wpAny_bind (wpAny_standAt (wpAny_bind ?_))
 show wpAny _ X.A (do let _<-comprehension (.ListComp elt [⟨.Name x px,iter,ifs,0⟩] scope pos) scope X.env _ (newList []) false (eval iter X.env) (some (assign (.Name y py) X.env))) _ _ s
 refine wpAny_bind (wpAny_mono (wpAny_comprehension_free (use:=some (assign (.Name y py) X.env)) (Q:=fun _ s'=>SP X pins D .next s') rfl hs Cp.clos Cp.kind Cp.names
  (thn (hi pins s σ H _ I h) fun v s1 h1=>thn h1 fun itv s2 h2=>?_)) (fun _ s' hq=>wpAny_pure (wpAny_pure hq)) fun _ _ e=>e)
 obtain⟨it,fp,tn,J,H2,e,I2,T,st2,f2,R⟩:=h2
 subst e
 have hacc:H2 s2.heap.objs.size=none:=I2.hok.fresh (Nat.le_refl _)
 refine wpAny_newObj_type ?_
 have I3:Inv X pins σ (upd H2 s2.heap.objs.size (.lst [])) {s2 with heap:=s2.heap.push {cls:=.type "list",dict:=none,data:=.seq ([]:List Value).toArray}}:=Inv.lnew (its:=[]) (t':=s2.toks) I2 .nil (Nat.zero_le _)
 have lt2:∀b∈fp,b < s2.heap.objs.size:=fun b hb=>let ⟨o,e,_⟩:=T.obj _ _ st2 b hb;Heap.lt_size e
 have f3:∀b∈fp,qf4 X pins (upd H2 s2.heap.objs.size (.lst [])) b:=fun b hb=>⟨by rw [qa7 (Nat.ne_of_lt (lt2 b hb))];exact(f2 b hb).1,(f2 b hb).2⟩
 have st3:tn 0 (s2.heap.push {cls:=.type "list",dict:=none,data:=.seq ([]:List Value).toArray}):=T.keep _ _ _ st2 fun b _ o e=>Heap.get?_push_of_some _ e
 generalize hs3:({s2 with heap:=s2.heap.push {cls:=.type "list",dict:=none,data:=.seq ([]:List Value).toArray}}:Shared)=s3 at I3 ⊢
 have st3':tn 0 s3.heap:=by rw [<-hs3];exact st3
 generalize s2.heap.objs.size=acc at hacc I3 f3 ⊢
 obtain⟨W,⟨m0,w0⟩,turn⟩:=R s3.heap.objs.size s3 (upd H2 acc (.lst [])) fp acc hacc
 have lt3:∀b∈fp,b < s3.heap.objs.size:=fun b hb=>let ⟨o,e,_⟩:=T.obj _ _ st3' b hb;Heap.lt_size e
 clear st3 hs3
 refine wpAny_newFunctionEnv Cp.cell (by intro y hy;simp at hy) (fun h₁ hns hsb=>?_) Cp.kind
 have k1:∀b o,s3.heap.get? b=some o->h₁.get? b=some o:=fun b o e=>hsb.extBut b o (Nat.ne_of_lt (Heap.lt_size e)) (Heap.get?_push_of_some _ e)
 have I4:Inv (cxC X (x :: cn) scope cl s3.heap.objs.size s3 (upd H2 acc (.lst [])) fp) [] (none :: qat caps σ) (upd H2 acc (.lst [])) {s3 with heap:=h₁,toks:=s3.toks+([]:List (Str × Value)).length}:=
  Inv.comp Cp I3 f3 lt3 hns k1
 have st4:tn 0 h₁:=T.keep _ _ _ st3' fun b _ o e=>k1 b o e
 generalize hX:cxC X (x :: cn) scope cl s3.heap.objs.size s3 (upd H2 acc (.lst [])) fp=X' at I4
 have stat:∀{H':Hp},(∀b∈fp,H' b=none)->∀b∈fp,qf4 X' [] H' b:=fun hn b hb=>by
  subst hX
  obtain⟨g0,g1,g2,g3,g4,g5⟩:=f3 b hb
  refine⟨hn b hb,Nat.ne_of_lt (lt3 b hb),fun z=>?_,.inl hb,fun y c e=>g4 y c (Cp.sub y c e),fun p hp=>absurd (show p∈([]:List (Addr × Obj)) from hp) (by simp)⟩
  rcases zK.mp (I3.stkSub b z) with z|z
  .exact g1 z
  .exact g2 z
 have core:codeAny (model X.prog X.w) X.A (.compLoop (.ListComp elt [⟨.Name x px,iter,ifs,0⟩] scope pos) 0 (.ref it) (.ref acc) (compEnvC scope cl s3.heap.objs.size X.env))
   (compPost (model X.prog X.w) X.A X.xe (some (assign (.Name y py) X.env)) (fun _ s'=>SP X pins D .next s') (.ref acc) s3.heap.objs.size) {s3 with heap:=h₁,toks:=s3.toks+([]:List (Str × Value)).length}:=by
  refine codeAny_loop rfl (fun n s'=>∃i a H',Inv X' [] (a :: qat caps σ) H' s'/\tn i s'.heap/\(∀b∈fp,H' b=none)/\W i n H') (fun n s5 hI=>?_) m0 ⟨0,none,_,I4,st4,fun b hb=>(f3 b hb).1,w0⟩
  obtain⟨i,a0,H5,I5,st5,fr5,w5⟩:=hI
  show wpAny _ _ ((compTurn _ 0 _ _ _).onRaise _) _ _ s5
  refine wpAny_noted ?_
  rw [compTurn_list]
  refine wpAny_bind (wpAny_standAt (wpAny_bind ?_))
  have aX:X'.A=X.A:=by subst hX;rfl
  have pX:X'.prog=X.prog:=by subst hX;rfl
  have wX:X'.w=X.w:=by subst hX;rfl
  have kX:X'.K=X.K:=by subst hX;rfl
  have cX:X'.calm=true:=by subst hX;exact hc
  have eX:X'.env=compEnvC scope cl s3.heap.objs.size X.env:=by subst hX;rfl
  rcases turn i n H5 w5 with ⟨stop,qn⟩ |⟨go,N,hN,step⟩
  .have z:=T.done X' pX wX kX cX i [] s5 _ H5 (fun _ _=>False) I5 (stat fr5) st5 stop
   rw [aX] at z
   refine wpAny_mono z (fun r s6 ⟨hr,I6⟩=>?_) fun _ _ q=>q.elim
   subst hr
   subst hX
   obtain⟨m,hm,_⟩:=id I6.loc
   have J0:Inv X pins σ H5 s6:=Inv.uncomp I3 f3 rfl I6 (h':=s6.heap) ⟨rfl,fun _ _=>rfl⟩
   have fC:qf4 X pins H5 s3.heap.objs.size:=I3.fpOk (Nat.le_refl _) I6.free
   refine wpAny_pure ?_
   show wpAny _ X.A (assign (.Name y py) X.env (.ref acc)) _ _ s6
   refine wpAny_assign_Name (qen (X:=X) (v:=.ref acc) J0 hN hy (.inl hly) rfl (fun s7 I7 ⟨a,sb,ha⟩=>?_) (.inr hly))
   have nC:s3.heap.objs.size≠a:=by
    rcases ha with rfl|ha
    .exact fC.2.1
    .exact(fC.2.2.2.2.1 y a ha).symm
   refine⟨m,hm.sameBut sb nC,fun h' sb'=>⟨_,H5,?_,qn⟩⟩
   exact I7.turned (t':=s7.toks) (fun b o hb e=>(sb'.2 b hb).trans e) fC.1 fC.2.1 fC.2.2.2.1 fC.2.2.2.2.1 fC.2.2.2.2.2
  .have z:=T.item X' pX wX kX cX i [] s5 _ H5 (fun _ _=>False) I5 (stat fr5) st5 go
   rw [aX] at z
   refine wpAny_mono z (fun r s6 ⟨u,hr,h6⟩=>?_) fun _ _ q=>q.elim
   subst hr
   refine wpAny_bind (wpAny_mono h6 (fun _ s7 ⟨v,H7,I7,r7,y7,st7,fr7⟩=>?_) fun _ _ q=>q.elim)
   have I7':=I7.pinned (stat fr7) (T.obj _ _ st7)
   have asg:wpAny (model X.prog X.w) X.A (assign (.Name x px) (compEnvC scope cl s3.heap.objs.size X.env) u) (fun _ s8=>Inv X' ([]++qbl fp s7.heap) (some v :: qat caps σ) H7 s8) (fun _ _=>False) s7:=by
    subst hX
    exact wpAny_assign_Name (qee (X:=cxC X (x :: cn) scope cl s3.heap.objs.size s3 (upd H2 acc (.lst [])) fp) (i:=0) I7' Cp.nd rfl (.inl (lookup_relabel_local Cp.tg)) r7 (fun s' I'=>I') (.inr (lookup_relabel_local Cp.tg)))
   refine wpAny_bind (wpAny_mono asg (fun _ s8 I8=>?_) fun _ _ q=>q.elim)
   have tst:wpAny (model X.prog X.w) X.A (forIn ifs true fun c r=>if r=true then do let ok<-isTrue c (compEnvC scope cl s3.heap.objs.size X.env) (eval c (compEnvC scope cl s3.heap.objs.size X.env));pure (ForInStep.yield ok) else pure (ForInStep.yield r))
     (TP X' ([]++qbl fp s7.heap) (some v :: qat caps σ) (fun b H9=>if b=true then te s3.heap.objs.size s3 (upd H2 acc (.lst [])) fp (some v :: qat caps σ) H9 (fun y H3=>rApp acc N y H3) else N H9)) (fun _ _=>False) s8:=by
    subst hX
    exact ht _ _ _ _ _ s8 _ H7 _ I8 (step v H7 y7)
   refine wpAny_bind (wpAny_mono tst (fun b s9 ⟨H9,I9,q9⟩=>?_) fun _ _ q=>q.elim)
   have fin:∀{a:Option V} {H10:Hp} {s10:Shared},Inv X' ([]++qbl fp s7.heap) (a :: qat caps σ) H10 s10->N H10->∃m',m' < n/\∃i a H',Inv X' [] (a :: qat caps σ) H' s10/\tn i s10.heap/\(∀b∈fp,H' b=none)/\W i m' H':=fun {a H10 s10} I10 n10=>
    let ⟨m',hm,w10⟩:=hN _ n10
    ⟨m',hm,i+1,a,H10,I10.unpinned,T.keep _ _ _ st7 fun b hb o e=>(I10.pin (b,o) (zJ _ (zJ _ (qbi hb e)))).1,fun b hb=>by
     obtain⟨o,e,d⟩:=T.obj _ _ st7 b hb
     exact(I10.pin (b,o) (zJ _ (zJ _ (qbi hb e)))).2.1,w10⟩
   cases b with
   |false=>exact wpAny_pure ⟨rfl,fin I9 q9⟩
   |true=>
    have elt':wpAny (model X.prog X.w) X.A (eval elt (compEnvC scope cl s3.heap.objs.size X.env)) (EP X' ([]++qbl fp s7.heap) (some v :: qat caps σ) (fun y H3=>rApp acc N y H3)) (fun _ _=>False) s9:=by
     subst hX
     exact he _ _ _ _ _ s9 _ H9 _ I9 q9
    refine wpAny_bind (wpAny_bind (wpAny_mono elt' (fun y s10 ⟨w,H10,I10,r10,ys,ha,hz,q10⟩=>?_) fun _ _ q=>q.elim))
    have app:wpAny (model X.prog X.w) X.A (call (.builtin "list.append") [.ref acc,y]) (EP X' ([]++qbl fp s7.heap) (some v :: qat caps σ) fun _ H11=>H11=upd H10 acc (.lst (ys++ [w]))) (fun _ _=>False) s10:=by
     subst hX
     exact qb9 (X:=cxC X (x :: cn) scope cl s3.heap.objs.size s3 (upd H2 acc (.lst [])) fp) _ s10 _ H10 (.ref acc) [w] (.ref acc) [y] _ I10 rfl (.cons r10 .nil) ⟨acc,ys,w,rfl,rfl,ha,hz,rfl⟩
    refine wpAny_bind (wpAny_mono app (fun _ s11 ⟨_,H11,I11,_,e11⟩=>?_) fun _ _ q=>q.elim)
    subst e11
    exact wpAny_pure (wpAny_pure ⟨rfl,fin I11 q10⟩)
 exact codeAny_compStart_list core (T.self _ 0 _ _ _ st4 core)
end
section
variable {X: Cx} {pins: List (Addr × Obj)} {σ: L2.St} {H: Hp} {s: Shared} {h': Heap}
theorem Inv.turnedL {t':Nat} {ch:List Addr} (I:Inv X pins σ H s) (hf:∀b∈ch,qf4 X pins H b) (k:∀b o,b∉ch->s.heap.get? b=some o->h'.get? b=some o):Inv X pins σ H {s with heap:=h',toks:=t'}:=by
 have nit:∀b u,H b=some u->b∉ch:=fun b u e z=>by rw [(hf b z).1] at e;cases e
 refine I.step (g':=s.gens) (d':=s.drawn) (ch:=ch) (fun b hb=>⟨(hf b hb).2.2.2.1,(hf b hb).2.1,(hf b hb).2.2.2.2.1,(hf b hb).2.2.2.2.2⟩) (fun b o _ _ hc e _=>k b o hc e) (fun b o _ _ hc e _=>⟨o.slots,k b o hc e⟩) (fun _ _ _ _ n=>n)
  (fun b o hc e=>⟨o,k b o hc e⟩) (fun _ _ e=>e) (fun _ _ _ e=>e) (fun b ps e=>⟨#[],by rw [e];simp⟩) (fun m hm=>?_) (fun b u e=>?_) I.bare
 .obtain⟨o,es,ep,ho,r⟩:=hm
  exact⟨o,es,ep,k _ o (fun z=>(hf _ z).2.1 rfl) ho,r⟩
 .refine(I.hok b u e).stay (fun c v hc q=>k c v ?_ q) (fun _ q=>q) fun _ _ q=>q
  rcases hc with rfl|hc
  .exact nit _ _ e
  .exact nit _ _ hc
theorem Inv.turnedT {t':Nat} {ch:List Addr} {T:Addr} {ob:HO} (I:Inv X pins σ H s) (hf:∀b∈ch,qf4 X pins H b) (k:∀b o,b∉ch->s.heap.get? b=some o->h'.get? b=some o) (hT:s.heap.get? T=none) (hn:H T=none) (new:qbh X.prog X.w (upd H T ob) h' T ob):
  Inv X pins σ (upd H T ob) {s with heap:=h',toks:=t'}:=by
 have nit:∀b u,H b=some u->b∉ch:=fun b u e z=>by rw [(hf b z).1] at e;cases e
 refine I.step (g':=s.gens) (d':=s.drawn) (ch:=ch) (fun b hb=>⟨(hf b hb).2.2.2.1,(hf b hb).2.1,(hf b hb).2.2.2.2.1,(hf b hb).2.2.2.2.2⟩) (fun b o _ _ hc e _=>k b o hc e) (fun b o _ _ hc e _=>⟨o.slots,k b o hc e⟩)
  (fun b o _ e n=>by rw [qa7 (fun z=>by subst z;rw [hT] at e;cases e)];exact n)
  (fun b o hc e=>⟨o,k b o hc e⟩) (fun b xs e=>by rw [qa7 (qaa e hn)];exact e) (fun b o u e=>by rw [qa7 (qaa e hn)];exact e) (fun b ps e=>⟨#[],by rw [qa7 (qaa e hn),e];simp⟩) (fun m hm=>?_) (fun b u e=>?_) I.bare
 .obtain⟨o,es,ep,ho,r⟩:=hm
  exact⟨o,es,ep,k _ o (fun z=>(hf _ z).2.1 rfl) ho,r⟩
 .by_cases hb:b=T
  .subst hb;rw [qa2] at e;cases e;exact new
  .rw [qa7 hb] at e
   refine(I.hok b u e).stay (fun c v hc q=>k c v ?_ q) (fun c q=>by rw [qa7 (qaa q hn)];exact q) fun c xs q=>by rw [qa7 (qaa q hn)];exact q
   rcases hc with rfl|hc
   .exact nit _ _ e
   .exact nit _ _ hc
end
def ItZ (K:Frag) (l1 l2:Addr) (xs ys:List V):It:=
 ⟨fun i H=>SqL K H l1 xs/\SqL K H l2 ys/\i < xs.length/\i < ys.length,fun i H v H'=>∃T x y,H T=none/\xs[i]?=some x/\ys[i]?=some y/\v=.ref T/\H'=upd H T (.tup [x,y]),fun i H=>SqL K H l1 xs/\SqL K H l2 ys/\(xs.length<=i\/ys.length<=i)⟩
def ZSt (z TI TO i1 i2 l1 l2:Addr) (i:Nat) (h:Heap):Prop:=IsZip h z TI TO .none/\IsPair h TI (.ref i1) (.ref i2)/\(∃a b,IsPair h TO a b)/\h.IsListIter i1 l1 i/\h.IsListIter i2 l2 i
theorem turn_zip {P:Program} {w:World} {K:Frag} {elts:List Expr} {kk:Nat} {tp:Pos} {z TI TO i1 i2 l1 l2:Addr} (D:ZipApart z TI TO i1 i2 l1 l2) (xs ys:List V):
  Turn P w K (.Tuple elts kk tp) (ItZ K l1 l2 xs ys) [z,TI,TO,i1,i2] z (ZSt z TI TO i1 i2 l1 l2) where
 mem:=by simp
 obj:=fun i h st b hb=>by
  obtain⟨hz,hTI,⟨a,c,hTO⟩,⟨o1,e1,_,d1⟩,o2,e2,_,d2⟩:=st
  simp only [zK,yG,or_false] at hb
  rcases hb with rfl|rfl|rfl|rfl|rfl
  .exact⟨_,hz,fun v q=>by have q':Data.fields _=Data.cell v:=q;cases q'⟩
  .exact⟨_,hTI,fun v q=>by have q':Data.seq _ _=Data.cell v:=q;cases q'⟩
  .exact⟨_,hTO,fun v q=>by have q':Data.seq _ _=Data.cell v:=q;cases q'⟩
  .exact⟨o1,e1,fun v q=>by rw [d1] at q;cases q⟩
  .exact⟨o2,e2,fun v q=>by rw [d2] at q;cases q⟩
 keep:=fun i h h' st k=>by
  obtain⟨hz,hTI,⟨a,c,hTO⟩,h1,h2⟩:=st
  exact⟨k z (by simp) _ hz,k TI (by simp) _ hTI,⟨a,c,k TO (by simp) _ hTO⟩,h1.at fun o e=>k i1 (by simp) o e,h2.at fun o e=>k i2 (by simp) o e⟩
 item:=by
  intro X hP hw hK hc i pins s σ H E I hf st hg
  subst hP hw hK
  obtain⟨hz,hTI,⟨a,c,hTO⟩,h1,h2⟩:=st
  obtain⟨q1,q2,g1,g2⟩:=hg
  obtain⟨us,r1,p1,_⟩:=I.list q1
  obtain⟨ws,r2,p2,_⟩:=I.list q2
  obtain⟨u1,hu1,ru1⟩:=r1.get (zA g1)
  obtain⟨u2,hu2,ru2⟩:=r2.get (zA g2)
  refine wpAny_pyNext_zip_item D hz hTI hTO h1 h2 (PlainL.isList p1) (PlainL.isList p2) (x:=u1) (y:=u2) (by simpa using hu1) (by simpa using hu2) fun h' b1 b2 b3 b4 b5 b6 hk=>?_
  have hn:H s.heap.objs.size=none:=I.hok.fresh (Nat.le_refl _)
  have lt:∀{b:Addr} {o:Obj},s.heap.get? b=some o->b≠s.heap.objs.size:=fun e=>Nat.ne_of_lt (Heap.lt_size e)
  have nz:z≠s.heap.objs.size:=lt hz
  have hg0:s.heap.get? s.heap.objs.size=none:=Heap.get?_none_of_le (Nat.le_refl _)
  have I1:Inv X pins σ (upd H s.heap.objs.size (.tup [xs[i],ys[i]])) {s with heap:=h'}:=Inv.turnedT (t':=s.toks) (ch:=[z,TO,i1,i2]) I
   (fun b hb=>hf b (by simp only [zK,yG,or_false] at hb ⊢;rcases hb with e|e|e|e <;> simp [e]))
   (fun b o hb e=>hk b o (fun q=>hb (by simp [q])) (fun q=>hb (by simp [q])) (fun q=>hb (by simp [q])) (fun q=>hb (by simp [q])) e) hg0 hn
   ⟨by show 2<=16777216;decide, [u1,u2],.cons ru1 (.cons ru2 .nil),⟨_,b5,rfl,_,rfl⟩⟩
  refine⟨.ref s.heap.objs.size,rfl,wpAny_letOwnedTupleGo_zip (s:={s with heap:=h'}) b1 fun h2' c1 hs2=>?_⟩
  have hfz:=hf z (by simp)
  have I2:Inv X pins σ (upd H s.heap.objs.size (.tup [xs[i],ys[i]])) {s with heap:=h2'}:=I1.turned (t':=s.toks) (fun b o hb e=>(hs2.2 b hb).trans e) (by rw [qa7 nz];exact hfz.1) hfz.2.1 hfz.2.2.2.1 hfz.2.2.2.2.1 hfz.2.2.2.2.2
  refine⟨.ref s.heap.objs.size,_,I2,rfl,⟨s.heap.objs.size,xs[i],ys[i],hn,zA g1,zA g2,rfl,rfl⟩,
   ⟨c1,hs2.extBut _ _ D.TIz (hk _ _ D.TIz D.TITO D.TIi1 D.TIi2 hTI),⟨_,_,hs2.extBut _ _ D.TOz b2⟩,b3.extBut hs2.extBut D.i1z,b4.extBut hs2.extBut D.i2z⟩,fun b hb=>?_⟩
  have e:b≠s.heap.objs.size:=by
   simp only [zK,yG,or_false] at hb
   obtain⟨o1,e1,_⟩:=h1
   obtain⟨o2,e2,_⟩:=h2
   rcases hb with rfl|rfl|rfl|rfl|rfl
   .exact nz
   .exact lt hTI
   .exact lt hTO
   .exact lt e1
   .exact lt e2
  rw [qa7 e]
  exact(hf b hb).1
 done:=by
  intro X hP hw hK hc i pins s σ H E I hf st hg
  subst hP hw hK
  obtain⟨hz,hTI,⟨a,c,hTO⟩,h1,h2⟩:=st
  obtain⟨q1,q2,g⟩:=hg
  obtain⟨us,r1,p1,_⟩:=I.list q1
  obtain⟨ws,r2,p2,_⟩:=I.list q2
  have l1:=r1.length
  have l2:=r2.length
  exact wpAny_pyNext_zip_end (I.ok.hd hc) D hz hTI hTO h1 h2 (PlainL.isList p1) (PlainL.isList p2) (g.elim (fun g=> .inl (by simp;omega)) fun g=> .inr (by simp;omega)) fun h' hk=>
   ⟨rfl,Inv.turnedL (t':=s.toks) (ch:=[z,TO,i1,i2]) I (fun b hb=>hf b (by simp only [zK,yG,or_false] at hb ⊢;rcases hb with e|e|e|e <;> simp [e]))
    fun b o hb e=>hk b o (fun q=>hb (by simp [q])) (fun q=>hb (by simp [q])) (fun q=>hb (by simp [q])) (fun q=>hb (by simp [q])) e⟩
 self:=fun _ _ _ _ _ st h=>wpAny_pyIter_zip st.1 h
def rItZ (K:Frag) (vs:List V) (H:Hp) (R:It->Hp->Prop):Prop:=∃l1 l2 xs ys,vs=[.ref l1,.ref l2]/\SqL K H l1 xs/\SqL K H l2 ys/\R (ItZ K l1 l2 xs ys) H
def iZip (K:Frag) (ta:TA):TI:=fun σ H R=>ta σ H fun vs H1=>rItZ K vs H1 R
theorem boot_zip:bootBuiltins "zip" =some (.type "zip"):=by decide+kernel
theorem pi_zip {X:Cx} {elts:List Expr} {kk:Nat} {tp:Pos} {a b:Expr} {ta:TA} {p pos:Pos} (hg:Gl X "zip") (hm:X.mg "zip" =none) (ha:PA X [a,b] ta) (hs:starEach [a,b] X.env=[(false,eval a X.env),(false,eval b X.env)]:=by rfl) (hs2:starEach [b] X.env=[(false,eval b X.env)]:=by rfl):
  PI X (.Tuple elts kk tp) (.Call (.Name "zip" p) [a,b] [] pos) (iZip X.K ta):=by
 intro pins s σ H R I h
 refine Call_ (qe0 I hg hm boot_zip (PyProof.Rows.callWith_type1 (thn (ha pos pins s σ H _ I h) fun us s1 ⟨vs,H1,I1,r1,q1⟩=>?_) (by rw [hs,hs2]) (by rw [hs2];rfl)))
 obtain⟨l1,l2,xs,ys,rfl,g1,g2,q⟩:=q1
 cases r1 with
 |cons r rr=>
  cases rr with
  |cons r' rr=>
   cases rr
   cases r
   cases r'
   obtain⟨us,v1,p1,_⟩:=I1.list g1
   obtain⟨ws,v2,p2,_⟩:=I1.list g2
   have t1:=PlainL.isList p1
   have t2:=PlainL.isList p2
   have lt1:l1 < s1.heap.objs.size:=by obtain⟨_,e,_⟩:=t1;exact Heap.lt_size e
   have lt2:l2 < s1.heap.objs.size:=by obtain⟨_,e,_⟩:=t2;exact Heap.lt_size e
   refine call_zip_2 t1 t2 fun h' hz hTI hTO hi1 hi2 hsz hk=>?_
   have I2:Inv X pins σ H1 {s1 with heap:=h'}:=I1.kept (t':=s1.toks) fun b o e=>hk b o e
   refine wpAny_pyIter_zip (s:={s1 with heap:=h'}) hz ?_
   refine⟨s1.heap.objs.size+4,_,_,_,H1,rfl,I2,turn_zip (zipApart_new lt1 lt2) xs ys,⟨hz,hTI,⟨_,_,hTO⟩,hi1,hi2⟩,fun b hb=>?_,q⟩
   have le:s1.heap.objs.size<=b:=by
    simp only [zK,yG,or_false] at hb
    rcases hb with rfl|rfl|rfl|rfl|rfl <;> omega
   exact I1.fpOk le (I1.hok.fresh le)
section
variable {K: Frag} {σ: L2.St} {H: Hp} {D: Ends} {g: TG} {tb: TS} {ta: TA} {l1 l2: Addr} {xs ys: List V}
theorem r_iZ {R:It->Hp->Prop} (h:ta σ H fun vs H1=>rItZ K vs H1 R):iZip K ta σ H R:=h
theorem r_itZ {R:It->Hp->Prop} (e1:SqL K H l1 xs) (e2:SqL K H l2 ys) (h:R (ItZ K l1 l2 xs ys) H):rItZ K [.ref l1,.ref l2] H R:=⟨l1,l2,xs,ys,rfl,e1,e2,h⟩
theorem f_zip (hxy:xs.length=ys.length) (Pv:Nat->L2.St->Hp->Prop) (h0:Pv 0 σ H) (hl:∀i σ H,Pv i σ H->SqL K H l1 xs/\SqL K H l2 ys)
  (hs:∀i x y T σ H,xs[i]?=some x->ys[i]?=some y->Pv i σ H->H T=none->g (.ref T) σ (upd H T (.tup [x,y])) fun σ2 H2=>tb {nx:=Pv (i+1),rt:=D.rt,bk:=D.nx,ct:=Pv (i+1)} σ2 H2) (hd:∀σ H,Pv xs.length σ H->D.nx σ H):FOR (ItZ K l1 l2 xs ys) g tb D σ H:=by
 refine⟨fun i m σ H=>m=xs.length - i/\i<=xs.length/\Pv i σ H,⟨xs.length,rfl,Nat.zero_le _,h0⟩,?_⟩
 rintro i m σ H ⟨rfl,hi,p⟩
 obtain⟨q1,q2⟩:=hl i σ H p
 by_cases hlt:i < xs.length
 .refine .inr ⟨⟨q1,q2,hlt,by omega⟩,Pv (i+1),fun σ' H' p'=>⟨xs.length - (i+1),by omega,rfl,hlt,p'⟩,fun v H' e=>?_⟩
  obtain⟨T,x,y,hT,hx,hy,rfl,rfl⟩:=e
  exact hs i x y T σ H hx hy p hT
 .have e:i=xs.length:=by omega
  subst e
  exact .inl ⟨⟨q1,q2,.inl (Nat.le_refl _)⟩,hd σ H p⟩
end
section
variable {prog: Program} {w: World} {A: Around} {E: Value -> Shared -> Prop} {s: Shared}
theorem set_exact {l:Addr} {items:Array Value} {n:Nat} {k:Int} {t:Tok} {v:Value} {Q:Unit->Shared->Prop} (ho:s.heap.get? l=some {cls:=.type "list",data:=.seq items n}) (h0:0<=k) (hk:k < items.size) (hfit:k < 2^63)
  (q:Q () {s with heap:=s.heap.update l (Obj.mapSeq fun a=>a.setIfInBounds k.toNat v)}):wpAny (model prog w) A (setItem (.ref l) (.int k t) v) Q E s:=by
 have hT:s.TypeIs (.ref l) "list":=⟨_,ho,rfl⟩
 unfold setItem
 try with_reducible refine wpAny_holding ?_
 first|refine wpAny_bind (wpAny_pure ?_) |skip
 refine wpAny_bind (wpAny_sequenceKey hT (by decide) ?_)
 refine wpAny_bind (wpAny_callSpecial?_slot (name:=Str.ofString "__setitem__") hT slot_list_setitem (wpAny_call_entry slot_list_setitem hT entry_list_setitem ?_ (args_list_setitem _ _ _)))
 show wpAny _ _ (Builtin.List.listSubscript? (.int k t) >>= _) _ _ s
 refine wpAny_bind (wpAny_listSubscript_int (fitsIndex_of h0 hfit) ?_)
 clear hfit
 obtain⟨j,rfl⟩:=Int.eq_ofNat_of_zero_le h0
 have hj:j < items.size:=by omega
 have hx:items[j]?=some items[j]:=Array.getElem?_eq_getElem hj
 show wpAny _ _ ((seqItemAt l j >>= fun r=>pure (r.map (j,·))) >>= _) _ _ s
 refine wpAny_bind (wpAny_bind (wpAny_seqItemAt ho rfl (wpAny_pure ?_)))
 rw [hx]
 show wpAny _ _ (setSeqItemAt l j v >>= _) _ _ s
 refine wpAny_bind (wpAny_setSeqItemAt ho rfl ?_)
 first
 |exact wpAny_bind (wpAny_pure (wpAny_pure ⟨.none,rfl,wpAny_pure q⟩))
 |exact wpAny_pure ⟨.none,rfl,wpAny_pure q⟩
end
def rLP (x y v:V) (H:Hp) (D:Ends) (σ:L2.St):Prop:=∃l xs k,x=.ref l/\y=.int (k:Nat)/\H l=some (.lst xs)/\k < xs.length/\D.nx σ (upd H l (.lst (xs.set k v)))
def sLPut (td ty tv:TE):TS:=fun D σ H=>tv σ H fun v H1=>td σ H1 fun x H2=>ty σ H2 fun y H3=>rLP x y v H3 D σ
theorem ps_lput {X:Cx} {o i value:Expr} {pos pos':Pos} {td ty tv:TE} (ho:PE X o td) (hi:PE X i ty) (hv:PE X value tv) (hs:swapsWith value (some (.Subscript o i pos')) pos.line X.env=pure false):PS X (.Assign [.Subscript o i pos'] value pos) (sLPut td ty tv):=by
 intro pins s σ H D I h
 refine wpAny_Assign_Subscript (thn (hv pins s σ H _ I h) fun r s1 ⟨v,H1,I1,rv,q1⟩=>thn (ho pins s1 σ H1 _ I1 q1) fun u s2 ⟨x,H2,I2,rx,q2⟩=>thn (hi pins s2 σ H2 _ I2 q2) fun iv s3 ⟨y,H3,I3,ry,q3⟩=>?_) hs
 obtain⟨l,xs,k,rfl,rfl,hl,hk,q⟩:=q3
 obtain rfl:u=Value.ref l:=rx
 obtain⟨t,rfl⟩:=ry
 obtain⟨z,its,n,rr,hlen,e⟩:=I3.lstM hl
 have hz:xs.length<=16777216:=z
 refine set_exact e (Int.natCast_nonneg k) (by simp;omega) (by omega) ?_
 rw [Int.toNat_natCast]
 exact⟨σ,_,I3.lset (its':=its.set k r) (ys:=xs.set k v) (t':=s3.toks) hl e (by simp) (rr.set rv k) (by rw [List.length_set];exact z),q⟩
section
variable {X: Cx}
def tAlt (t1 t2:TE):TE:=fun σ H Q=>t1 σ H Q\/t2 σ H Q
theorem pe_alt {e:Expr} {t1 t2:TE} (h1:PE X e t1) (h2:PE X e t2):PE X e (tAlt t1 t2):=fun pins s σ H Q I h=>h.elim (h1 pins s σ H Q I) (h2 pins s σ H Q I)
def rMax:List V->Hp->VK->Prop:=fun xs H Q=>∃i j,xs=[.int i,.int j]/\Q (.int (if j > i then j else i)) H
def rMin:List V->Hp->VK->Prop:=fun xs H Q=>∃i j,xs=[.int i,.int j]/\Q (.int (if j < i then j else i)) H
theorem call_maxR (hc:X.calm=true):qc7 X (.builtin "max") rMax:=call_max2 hc
theorem call_minR (hc:X.calm=true):qc7 X (.builtin "min") rMin:=call_min2 hc
end
section
variable {σ: L2.St} {H: Hp} {Q: VK} {D: Ends} {td ty tv t1 t2: TE} {l: Addr} {xs: List V} {k: Nat} {v: V} {i j: Int}
theorem r_lp (h:tv σ H fun v H1=>td σ H1 fun x H2=>ty σ H2 fun y H3=>rLP x y v H3 D σ):sLPut td ty tv D σ H:=h
theorem r_lpk (e:H l=some (.lst xs)) (hk:k < xs.length) (h:D.nx σ (upd H l (.lst (xs.set k v)))) {y:Int} (ey:y=(k:Int)):rLP (.ref l) (.int y) v H D σ:=by subst ey;exact⟨l,xs,k,rfl,rfl,e,hk,h⟩
theorem r_alt1 (h:t1 σ H Q):tAlt t1 t2 σ H Q:=.inl h
theorem r_alt2 (h:t2 σ H Q):tAlt t1 t2 σ H Q:=.inr h
theorem r_max (h:Q (.int (if j > i then j else i)) H):rMax [.int i,.int j] H Q:=⟨i,j,rfl,h⟩
theorem r_min (h:Q (.int (if j < i then j else i)) H):rMin [.int i,.int j] H Q:=⟨i,j,rfl,h⟩
end
section
variable {K: Frag} {σ: L2.St} {H: Hp} {Q: VK} {D: Ends} {ta tv: TE} {t: TA} {a C dx: Addr} {fs: List (Str × V)} {f m: Str} {v y: V} {sp: Sp} {dvs: List V} {E: XK}
def kMk (C:Addr) (sp:Sp) (dvs:List V) (E:XK) (Q:VK) (vs:List V) (H:Hp):Prop:=∀x dx,H x=none->H dx=none->dx≠x->sp (.ref x ::(vs++dvs)) (upd (upd H dx (.own x)) x (.ins C dx [])) (fun v H2=>v=.non/\Q (.ref x) H2) E
theorem r_mk (h:t σ H fun vs H1=>kMk C sp dvs E Q vs H1):tMake C sp dvs E t σ H Q:=h
def kMt (C:Addr) (m:Str) (sp:Sp) (dvs:List V) (E:XK) (t:TA) (σ:L2.St) (Q:VK) (x:V) (H:Hp):Prop:=∃a dx fs,x=.ref a/\H a=some (.ins C dx fs)/\fs.lookup m=none/\t σ H fun vs H2=>sp (x ::(vs++dvs)) H2 Q E
theorem r_mt (h:ta σ H fun x H1=>kMt C m sp dvs E t σ Q x H1):tMeth C m sp dvs E ta t σ H Q:=h
theorem r_mtk (e:H a=some (.ins C dx fs)) (l:fs.lookup m=none) (h:t σ H fun vs H2=>sp (.ref a ::(vs++dvs)) H2 Q E):kMt C m sp dvs E t σ Q (.ref a) H:=⟨a,dx,fs,rfl,e,l,h⟩
def kFl (K:Frag) (f:Str) (Q:VK) (x:V) (H:Hp):Prop:=∃a C dx fs v,x=.ref a/\H a=some (.ins C dx fs)/\Cls K C/\qav K C f/\fs.lookup f=some v/\Q v H
theorem r_fl (h:ta σ H fun x H1=>kFl K f Q x H1):tFld K ta f σ H Q:=h
theorem r_flk (e:H a=some (.ins C dx fs)) (c:Cls K C) (n:qav K C f) (l:fs.lookup f=some v) (h:Q v H):kFl K f Q (.ref a) H:=⟨a,C,dx,fs,v,rfl,e,c,n,l,h⟩
def kFs (K:Frag) (f:Str) (y:V) (D:Ends) (σ:L2.St) (x:V) (H:Hp):Prop:=∃a C dx fs,x=.ref a/\H a=some (.ins C dx fs)/\Cls K C/\qav K C f/\fs.length < 1000/\D.nx σ (upd H a (.ins C dx (qep f y fs)))
theorem r_fs (h:tv σ H fun y H1=>ta σ H1 fun x H2=>kFs K f y D σ x H2):sFld K ta tv f D σ H:=h
theorem qfo (e:H a=some (.ins C dx fs)) (c:Cls K C) (n:qav K C f) (hz:fs.length < 1000) (h:D.nx σ (upd H a (.ins C dx (qep f y fs)))):kFs K f y D σ (.ref a) H:=⟨a,C,dx,fs,rfl,e,c,n,hz,h⟩
end
structure IsC (K:Frag) (C:Addr):Prop where
 ha:findIn K (.ref C) "__class__" =some (some (.builtin "object.__class__"))
 hn:specialIn K (.builtin "object.__class__") "__get__" =some (some (.builtin "getset_descriptor.__get__"))
 htk:PySem.W.takesIn K (.builtin "object.__class__")=some true
 hm:mroIn K C (.type "object")=some true
section
variable {X: Cx} {k: Nat} {f C: Addr} {fd: FuncData} {ps: List Str} {sp: Sp} {dvs: List V} {ds: List Value} {W: L2.St -> XK} {x m: Str} {p pos apos: Pos} {e o: Expr} {es: List Expr} {ta: TE} {t: TA}
def tMethX (C:Addr) (m:Str) (sp:Sp) (dvs:List V) (W:L2.St->XK) (ta:TE) (t:TA):TE:=fun σ H Q=>ta σ H fun x H1=>∃a dx fs,x=.ref a/\H1 a=some (.ins C dx fs)/\fs.lookup m=none/\t σ H1 fun vs H2=>sp (x ::(vs++dvs)) H2 Q (W σ)
theorem qb1 {pl:Sem Bool} (he:PE X o ta) (c:Cls X.K C) (hm:Meth X.K C m f) (F:FnOk X.prog X.w X.K X.mg X.base (CX1 X.prog X.w) k f fd ps sp) (hr:Room k X.A) (hb:qam X.K fd ps ds) (hd:qbd dvs ds) (hx:Xes X W) (ha:PA X (e :: es) t) (hex:X.ex=[]:=by rfl)
  (hst:starEach (e :: es) X.env=(false,eval e X.env) :: starEach es X.env:=by rfl) (hpl:(backTo pos (starEach es X.env)).any (·.1)=false:=by rfl)
  (ht:eval (.Call (.Attribute o m apos) (e :: es) [] pos) X.env=(do
   let ov<-eval o X.env
   standAt apos.atName
   let (f,first)<-holding [ov] (getMethod ov m pl)
   callWith pos f first (backTo pos (starEach (e :: es) X.env)) (backToKw pos (keywordEach [] X.env))):=by rfl):
  PE X (.Call (.Attribute o m apos) (e :: es) [] pos) (tMethX C m sp dvs W ta t):=by
 intro pins s σ H Q I h
 refine PySem.W.methodCall_KW (pl:=pl) (thn (he pins s σ H _ I h) fun u s1 ⟨x,H1,I1,rx,a,dx,fs,ex,ea,l,q⟩=>?_) ht
 subst ex
 obtain rfl:u=Value.ref a:=rx
 refine qdi I1 ea c hm l (PySem.W.callWith_K (first:=[.ref a]) (h₀:=X.base) I.ok.mod.kin hm.kp (thn (ha pos pins s1 σ H1 _ I1 q) fun us s2 ⟨vs,H2,I2,r,q2⟩=>⟨I2.kIn,?_⟩) hst hpl)
 exact run_fnX (us:=.ref a :: us) (vs:=.ref a :: vs) F hr hb hd hx hex I2 (.cons rfl r) q2
def tMakeX (C:Addr) (sp:Sp) (dvs:List V) (W:L2.St->XK) (t:TA):TE:=fun σ H Q=>t σ H fun vs H1=>∀x dx,H1 x=none->H1 dx=none->dx≠x->sp (.ref x ::(vs++dvs)) (upd (upd H1 dx (.own x)) x (.ins C dx [])) (fun v H2=>v=.non/\Q (.ref x) H2) (W σ)
theorem run_makeX {pins:List (Addr × Obj)} {σ:L2.St} {H:Hp} {s:Shared} {Q:VK} {us:List Value} {vs:List V} (M:Mk X.K C f) (F:FnOk X.prog X.w X.K X.mg X.base (CX1 X.prog X.w) k f fd ps sp) (hr:Room (k+1) X.A) (hb:qam X.K fd ps ds) (hd:qbd dvs ds)
  (hx:Xes X W) (hex:X.ex=[]) (I:Inv X pins σ H s) (r:qbd vs us)
  (h:∀x dx,H x=none->H dx=none->dx≠x->sp (.ref x ::(vs++dvs)) (upd (upd H dx (.own x)) x (.ins C dx [])) (fun v H2=>v=.non/\Q (.ref x) H2) (W σ)):
  wpAny (model X.prog X.w) X.A (call (.ref C) us) (EP X pins σ Q) X.xe s:=by
 have hq:=h (s.heap.objs.size+1) s.heap.objs.size (I.hok.fresh (Nat.le_succ _)) (I.hok.fresh (Nat.le_refl _)) (Nat.ne_of_lt (Nat.lt_succ_self _))
 have I2:=Inv.made (C:=C) I
 have r2:qbd (V.ref (s.heap.objs.size+1) ::(vs++dvs)) (Value.ref (s.heap.objs.size+1) ::(us++ds)):=.cons rfl (r.append hd)
 have hl:(Value.ref (s.heap.objs.size+1) :: us++ds).length=ps.length:=by
  have e:=r2.length
  rw [F.len _ _ _ _ hq] at e
  exact e.symm
 refine wpAny_call (make_map (f:=f) I.kIn M.makes M.init (beq_iff_eq.mp M.fn) (codeAny_mono (F.run _ X.stack _ _ ⟨Value.ref (s.heap.objs.size+1) :: us, []⟩ (Value.ref (s.heap.objs.size+1) ::(us++ds)) _ _ (W σ) (hr.make C us [])
  (I2.env0.make C us []) (hb _ (Value.ref (s.heap.objs.size+1) :: us) I2.kIn hl) r2 hq) fun r s' hq'=>?_))
 cases r with
 |error e=>exact xes_call hx hex I2 hq'
 |ok fl=>
  cases fl with
  |ret u=>
   obtain⟨v,H',I3,rv,ev,q3⟩:=I2.after hq'
   subst ev
   exact⟨rv,⟨V.ref (s.heap.objs.size+1),H',I3,rfl,q3⟩⟩
  |next=>exact False.elim hq'
  |brk=>exact False.elim hq'
  |cont=>exact False.elim hq'
theorem pe_makeX (M:Mk X.K C f) (F:FnOk X.prog X.w X.K X.mg X.base (CX1 X.prog X.w) k f fd ps sp) (hr:Room (k+1) X.A) (hg:Gl X x) (hm:X.mg x=some (.ref C)) (hb:qam X.K fd ps ds) (hd:qbd dvs ds) (hx:Xes X W)
  (ha:PA X (e :: es) t) (hex:X.ex=[]:=by rfl) (hdb:(x==("__debug__" :Str))=false:=by decide) (he:starEach (e :: es) X.env=(false,eval e X.env) :: starEach es X.env:=by rfl) (hpl:(backTo pos (starEach es X.env)).any (·.1)=false:=by rfl):
  PE X (.Call (.Name x p) (e :: es) [] pos) (tMakeX C sp dvs W t):=by
 intro pins s σ H Q I h
 refine wpAny_Call_Name_kw (qdc I hg hm ?_ hdb)
 refine PySem.W.callWith_K (h₀:=X.base) I.ok.mod.kin M.kp (thn (ha pos pins s σ H _ I h) fun us s1 ⟨vs,H1,I1,r,q⟩=>⟨I1.kIn,?_⟩) he hpl
 exact run_makeX M F hr hb hd hx hex I1 r q
end
structure FunD (K:Frag) (x qual:Str) (st:Stmt) (f:Addr) (fd:FuncData) (T:Addr) (items:Array Value):Prop where
 ex:∃(oc:Value) (od:Option Addr) (kV doc pm:Value) (an:Option Addr) (cdv ct:Value) (osl:Array (Option Value)),
  fd=fnOf x qual (qcc st) (qbx st) (qa8 st) (.ref T) kV doc pm an cdv ct/\K.lookup f=some ⟨oc,od,.func fd,osl⟩/\codeIn K cdv qual=true
 kp:keepIn K (.ref f)=true
 tup:∃(o:Obj) (n:Nat),K.lookup T=some o/\o.data=.seq items n
section
variable {K: Frag} {x qual: Str} {st: Stmt} {f T: Addr} {fd: FuncData} {ps: List Str} {items: Array Value}
theorem FunD.binds (F:FunD K x qual st f fd T items) {ds:List Value} (h:∀(kV doc pm:Value) (an:Option Addr) (cdv ct:Value) (us:List Value),(us++ds).length=ps.length->
   bindArgs (fnOf x qual (qcc st) (qbx st) (qa8 st) (.ref T) kV doc pm an cdv ct) ⟨us, []⟩=pure (ps.zip (us++ds))\/
   ∃g:Option (Array Value)->Sem (List (Str × Value)),bindArgs (fnOf x qual (qcc st) (qbx st) (qa8 st) (.ref T) kV doc pm an cdv ct) ⟨us, []⟩=seqItems? (.ref T) >>= g/\g (some items)=pure (ps.zip (us++ds))):qam K fd ps ds:=by
 obtain⟨oc,od,kV,doc,pm,an,cdv,ct,osl,rfl,lk,hcd⟩:=F.ex
 obtain⟨o,n,hT,hd⟩:=F.tup
 intro s us KX hl
 rcases h kV doc pm an cdv ct us hl with h|⟨g,h1,h2⟩
 .exact .of_eq h
 .exact BindsTo.of_defaults (T:=T) rfl (KX _ _ hT) hd h1 h2
end
section
variable {σ: L2.St} {H: Hp} {Q: VK} {ta: TE} {t: TA} {a C dx: Addr} {fs: List (Str × V)} {m: Str} {sp: Sp} {dvs: List V} {W: L2.St -> XK}
def kMtX (C:Addr) (m:Str) (sp:Sp) (dvs:List V) (W:L2.St->XK) (t:TA) (σ:L2.St) (Q:VK) (x:V) (H:Hp):Prop:=∃a dx fs,x=.ref a/\H a=some (.ins C dx fs)/\fs.lookup m=none/\t σ H fun vs H2=>sp (x ::(vs++dvs)) H2 Q (W σ)
theorem r_mtX (h:ta σ H fun x H1=>kMtX C m sp dvs W t σ Q x H1):tMethX C m sp dvs W ta t σ H Q:=h
theorem r_mtkX (e:H a=some (.ins C dx fs)) (l:fs.lookup m=none) (h:t σ H fun vs H2=>sp (.ref a ::(vs++dvs)) H2 Q (W σ)):kMtX C m sp dvs W t σ Q (.ref a) H:=⟨a,dx,fs,rfl,e,l,h⟩
def kMkX (C:Addr) (sp:Sp) (dvs:List V) (W:L2.St->XK) (σ:L2.St) (Q:VK) (vs:List V) (H:Hp):Prop:=∀x dx,H x=none->H dx=none->dx≠x->sp (.ref x ::(vs++dvs)) (upd (upd H dx (.own x)) x (.ins C dx [])) (fun v H2=>v=.non/\Q (.ref x) H2) (W σ)
theorem r_mkX (h:t σ H fun vs H1=>kMkX C sp dvs W σ Q vs H1):tMakeX C sp dvs W t σ H Q:=h
end
theorem nolen_lr:typeLookup (.type "list_reverseiterator") "__len__" =pure none:=by rw [typeLookup_type,builtinLookup_eq_fast];kernel_rfl
theorem hint_lr:typeLookup (.type "list_reverseiterator") "__length_hint__" =pure (some (.builtin "list_reverseiterator.__length_hint__")):=by rw [typeLookup_type,builtinLookup_eq_fast];kernel_rfl
section
variable {prog: Program} {w: World} {A: Around} {E: Value -> Shared -> Prop} {s: Shared} {it l: Addr} {its: Array Value}
abbrev BackOf (its acc:Array Value):Prop:=ItemsOf (fun i v=>its[its.size - 1 - i]?=some v) acc its.size
def qc4 (acc:Array Value) (c:Nat):Obj:={cls:=.type "list",dict:=none,data:=.seq acc c,slots:=#[]}
theorem extend_back {R:Result->Shared->Prop} {tl:Addr} {res:Value} {c0:Nat} (calm:A.handled=none) (hl:s.heap.IsList l its) (hit:s.heap.IsRevIter it l ((its.size:Int) - 1)) (li:l≠it) (ti:tl≠it) (tn:tl≠l)
  (ht:s.heap.get? tl=some (qc4 #[] c0)) (hz:its.size<=sizeLine)
  (fin:∀h' tk acc c,(∀b o,b≠tl->b≠it->s.heap.get? b=some o->h'.get? b=some o)->h'.get? tl=some (qc4 acc c)->BackOf its acc->R (.ok (.ret res)) {s with heap:=h',toks:=tk}):
  wpAny (model prog w) A.in1 (Builtin.List.listExtendWith (.ref tl) (.ref it) res)
   (fun z s'=>match z with| .done f=>R (.ok f) s'| .again c'=>c'.quiet=true/\codeAny (model prog w) A c' R s') (fun e s'=>R (.error e) s') s:=by
 have W:=(Walks.listRev (prog:=prog) (w:=w) (A:=A.in1) calm it l li its).toS
 have h0:0<=its.size/\s.heap.IsRevIter it l ((its.size:Int) - 1 - ((0:Nat):Int))/\s.heap.IsList l its:=⟨Nat.zero_le _,by simpa using hit,hl⟩
 have off:tl∉ [it,l]:=by
  intro q
  rcases zK.mp q with q|q
  .exact ti q
  .exact tn (zG.mp q)
 unfold Builtin.List.listExtendWith
 refine wpAny_bind (wpAny_typeOf hit.typeIs ?_)
 have k1:Builtin.List.listSameRef (.ref tl) (.ref it)=false:=by simp [Builtin.List.listSameRef,ti]
 rw [if_neg (by rw [k1];decide)]
 refine wpAny_bind (W.self 0 _ _ _ h0 (wpAny_bind (wpAny_holding ?_)))
 unfold Builtin.List.listLengthHint
 refine wpAny_bind (wpAny_specialOf hit.typeIs nolen_lr ?_)
 show wpAny _ _ (specialOf (Value.ref it) (Str.ofString "__length_hint__") >>= _) _ _ _
 refine wpAny_bind (wpAny_specialOf hit.typeIs hint_lr ?_)
 generalize hid:("list_reverseiterator.__length_hint__" :String)=nameOf
 wp_delta
 rw [show splitId nameOf=some ("list_reverseiterator","__length_hint__") from by subst hid;decide+kernel]
 subst hid
 refine wpAny_bind (wpAny_isInstance (b:=true) hit.typeIs (by rw [isSubtype_type];kernel_rfl) (wpAny_pure ?_))
 rw [if_neg (by decide)]
 refine wpAny_pure ⟨plainId_quiet F.plain_extend_loop _,codeAny_extend_loopS W hz tl off res its.size 0 _ #[] c0 rfl (Nat.zero_le _) h0 ht (ItemsOf.nil _) fun s' acc c hm hs hacc=>?_⟩
 rw [Moved.eq_with hm]
 refine fin s'.heap s'.toks acc c (fun b o n1 n2 e=>hm.heap b o (fun q=>?_) e) hs hacc
 rcases zK.mp q with q|q
 .exact n1 q
 .exact n2 (zG.mp q)
theorem call_listRev {Q:Value->Shared->Prop} (calm:A.handled=none) (hl:s.heap.IsList l its) (hit:s.heap.IsRevIter it l ((its.size:Int) - 1)) (li:l≠it) (hz:its.size<=sizeLine)
  (fin:∀h' tk acc c,(∀b o,b≠it->s.heap.get? b=some o->h'.get? b=some o)->h'.get? s.heap.objs.size=some (qc4 acc c)->BackOf its acc->Q (.ref s.heap.objs.size) {s with heap:=h',toks:=tk}):
  wpAny (model prog w) A (call (.type "list") [.ref it]) Q E s:=by
 refine callType_codes (Q₁:=fun o s1=>o=.ref s.heap.objs.size/\s1={s with heap:=s.heap.push (qc4 #[] 0)}) F.called_list (F.typeCall_list_1 _) F.entry_list_init (code_list_new _ ⟨rfl,rfl⟩) fun o s1 q=>?_
 obtain⟨rfl,rfl⟩:=q
 have e0:(s.heap.push (qc4 #[] 0)).get? s.heap.objs.size=some (qc4 #[] 0):=Heap.get?_push_size _ rfl
 have up:∀b o,s.heap.get? b=some o->(s.heap.push (qc4 #[] 0)).get? b=some o:=fun b o e=>Heap.get?_push_of_some _ e
 have ni:s.heap.objs.size≠it:=fun z=>by
  obtain⟨o,ho,_⟩:=hit
  exact absurd (Heap.lt_size ho) (by rw [z];exact Nat.lt_irrefl _)
 have nl:s.heap.objs.size≠l:=fun z=>by
  obtain⟨o,ho,_⟩:=hl
  exact absurd (Heap.lt_size ho) (by rw [z];exact Nat.lt_irrefl _)
 refine⟨⟨_,e0,rfl⟩,F.args_list_init_2 _ _,?_⟩
 show wpAny _ _ (do let old<-Builtin.List.listItems (.ref s.heap.objs.size);Builtin.List.listUpdate (.ref s.heap.objs.size) (fun _=>#[]);letGo old.toList.reverse;Builtin.List.listExtendWith (.ref s.heap.objs.size) (.ref it) .none) _ _ _
 refine wpAny_bind ?_
 unfold Builtin.List.listItems
 refine wpAny_bind (wpAny_seqItems e0 rfl (wpAny_pure ?_))
 show wpAny _ _ (updateSeq s.heap.objs.size (fun _=>#[]) >>= fun _=>letGo (#[]:Array Value).toList.reverse >>= fun _=>Builtin.List.listExtendWith (.ref s.heap.objs.size) (.ref it) .none) _ _ _
 refine wpAny_bind (wpAny_updateSeq e0 rfl ?_)
 have e1:=Heap.get?_update_self (Obj.mapSeq (fun _=>(#[]:Array Value))) e0 rfl
 have oth:∀b o,b≠s.heap.objs.size->s.heap.get? b=some o->((s.heap.push (qc4 #[] 0)).update s.heap.objs.size (Obj.mapSeq (fun _=>(#[]:Array Value)))).get? b=some o:=
  fun b o hb e=>(Heap.get?_update_other _ _ (Ne.symm hb)).trans (up b o e)
 refine wpAny_bind (wpAny_letGo ?_)
 refine extend_back calm (hl.at fun o e=>oth _ o nl.symm e) (hit.at fun o e=>oth _ o ni.symm e) li ni nl e1 hz fun h' tk acc c kp e2 hb=>?_
 refine⟨rfl,fin h' tk acc c (fun b o n e=>kp b o ?_ n (oth b o ?_ e)) e2 hb⟩
 .exact Nat.ne_of_lt (Heap.lt_size e)
 .exact Nat.ne_of_lt (Heap.lt_size e)
end
section
variable {X: Cx}
def kLr (K:Frag) (Q:VK) (vs:List V) (H1:Hp):Prop:=∃p ys,vs=[.ref p]/\SqL K H1 p ys/\∀l,H1 l=none->Q (.ref l) (upd H1 l (.lst ys.reverse))
def tListRev (K:Frag) (ta:TA):TE:=fun σ H Q=>ta σ H fun vs H1=>kLr K Q vs H1
theorem vals_back {ys:List V} {us:List Value} {acc:Array Value} (r:qbd ys us) (h:BackOf us.toArray acc):qbd ys.reverse acc.toList:=by
 have hn:us.toArray.size=us.length:=by simp
 have e:acc.toList=us.reverse:=by
  refine List.ext_getElem? fun i=>?_
  have hs:acc.size=us.length:=by rw [h.1,hn]
  by_cases hi:i < us.length
  .have hi':i < acc.size:=by omega
   have q:=h.2 i acc[i] (by rw [Array.getElem?_eq_getElem hi'])
   rw [List.getElem?_reverse hi]
   rw [hn] at q
   have q2:us[us.length - 1 - i]?=some acc[i]:=by simpa using q
   rw [q2,Array.getElem?_toList,Array.getElem?_eq_getElem hi']
  .rw [yJ (by simp;omega),yJ (by simp;omega)]
 rw [e]
 exact r.reverse
theorem pe_listRev {a:Expr} {ta:TA} {p p2 pos pos2:Pos} (calm:X.calm=true) (hgl:Gl X "list") (hml:X.mg "list" =none) (hg:Gl X "reversed") (hm:X.mg "reversed" =none) (ha:PA X [a] ta) (hs:starEach [a] X.env=[(false,eval a X.env)]:=by rfl)
  (he:starEach [Expr.Call (.Name "reversed" p2) [a] [] pos2] X.env=[(false,eval (.Call (.Name "reversed" p2) [a] [] pos2) X.env)]:=by rfl):
  PE X (.Call (.Name "list" p) [.Call (.Name "reversed" p2) [a] [] pos2] [] pos) (tListRev X.K ta):=by
 intro pins s σ H Q I h
 refine wpAny_Call_Name_kw (qe0 I hgl hml PyProof.Rows.boot_list ?_)
 refine PyProof.Rows.callWith_type1 ?_ he rfl
 rw [he]
 refine Calls.spliced_cons ?_
 refine Call_ (qe0 I hg hm qg2 (PyProof.Rows.callWith_type1 (thn (ha pos2 pins s σ H _ I h) fun us s1 ⟨vs,H1,I1,r1,q1⟩=>?_) hs rfl))
 obtain⟨b,ys,rfl,hb,q⟩:=q1
 obtain⟨x,rfl,rx⟩:=r1.one
 cases rx
 obtain⟨ws,r2,p2,hz⟩:=I1.list hb
 have hL:s1.heap.IsList b ws.toArray:=PlainL.isList p2
 refine call_reversed_list hL ?_
 refine Calls.spliced_nil ?_
 have hlt:b < s1.heap.objs.size:=by obtain⟨o,ho,_⟩:=hL;exact Heap.lt_size ho
 have hL2:(s1.heap.push (revObj b ((ws.toArray.size:Int) - 1))).IsList b ws.toArray:=hL.at fun o e=>Heap.get?_push_of_some _ e
 refine call_listRev (its:=ws.toArray) (I1.ok.hd calm) hL2 ⟨_,Heap.get?_push_size _ rfl,rfl,rfl⟩ (Nat.ne_of_lt hlt) (by rw [zN,<-r2.length];exact hz) fun h' tk acc c kp e2 hbk=>?_
 have hD:s1.heap.objs.size<=(s1.heap.push (revObj b ((ws.toArray.size:Int) - 1))).objs.size:=by simp [Heap.push]
 refine⟨.ref (s1.heap.push (revObj b ((ws.toArray.size:Int) - 1))).objs.size,_,I1.laid (t':=tk) (fun d o e=>kp d o (Nat.ne_of_lt (Heap.lt_size e)) (Heap.get?_push_of_some _ e)) hD (show qbh X.prog X.w _ h' _ (.lst ys.reverse) from⟨by rw [List.length_reverse];exact hz,acc.toList,c,vals_back r2 hbk,?_⟩),rfl,q _ (I1.hok.fresh hD)⟩
 exact e2
end
section
variable {K: Frag} {σ: L2.St} {H: Hp} {Q: VK} {ta: TA} {p: Addr} {ys: List V}
theorem r_lrev (h:ta σ H fun vs H1=>kLr K Q vs H1):tListRev K ta σ H Q:=h
theorem r_lrevk (e:SqL K H p ys) (h:∀l,H l=none->Q (.ref l) (upd H l (.lst ys.reverse))):kLr K Q [.ref p] H:=⟨p,ys,rfl,e,h⟩
end
def kDs (p:Addr) (Q:VK) (x y:V) (H2:Hp):Prop:=H2 p=some (.dK [])/\∃kvs:List (Key × V), [(x,y)]=kvs.map (fun kv=>(kV kv.1,kv.2))/\kvs.length<=15/\Q (.ref p) (upd H2 p (.dK (qfd [] kvs)))
theorem r_disp1 {σ:L2.St} {H:Hp} {Q:VK} {tk tv:TE} (h:∀p,H p=none->tk σ (upd H p (.dK [])) fun x H1=>tv σ H1 fun y H2=>kDs p Q x y H2):tDisp [(tk,tv)] σ H Q:=fun p hp=>h p hp
theorem r_ds {H:Hp} {Q:VK} {p:Addr} {z:Str} {y:V} (e:H p=some (.dK [])) (h:Q (.ref p) (upd H p (.dK [(Sum.inr z,y)]))):kDs p Q (.str z) y H:=⟨e, [(Sum.inr z,y)],rfl,Nat.le_of_ble_eq_true rfl,h⟩
section
variable {P: Program} {w: World} {K: Frag} {mg: Str -> Option Value} {base: Heap} {x qual: Str} {st: Stmt} {f T: Addr} {fd: FuncData} {N ps: List Str} {k: Nat} {sp: Sp} {items: Array Value}
theorem okDX (F:FunD K x qual st f fd T items) (S:FnScope N ps (qa8 st)) (len:∀vs H Q E,sp vs H Q E->vs.length=ps.length)
  (hbody:∀(cdv:Value) (A:Around) (outer:List Env) (s:Shared) (H:Hp) (vs:List V) (Q:VK) (E:XK),Room k (A.deeper (envOfC qual (qa8 st) s.heap.objs.size f cdv))->sp vs H Q E->
   ∃t,PSs (xw (cxOf (CX1 P w) P w K mg base N qual (qa8 st) f cdv A outer s H E) (fun _=>E)) (qbx st) t/\t {nx:=fun _ H'=>Q .non H',rt:=Q} (qeb N vs) H):FnOk P w K mg base (CX1 P w) (k+1) f fd ps sp:=by
 obtain⟨oc,od,kV,doc,pm,an,cdv,ct,osl,rfl,lk,hcd⟩:=F.ex
 refine fn_of lk hcd S len fun A outer s H vs Q E hr hsp=>?_
 obtain⟨t,ht,q⟩:=hbody cdv A outer s H vs Q E hr hsp
 exact⟨t,PSs.xes xes_fn ht,q⟩
theorem funD_mk {oc:Value} {od an:Option Addr} {osl:Array (Option Value)} {kV doc pm cdv ct:Value} {o:Obj} {n:Nat} (l:K.lookup f=some ⟨oc,od,.func (fnOf x qual (qcc st) (qbx st) (qa8 st) (.ref T) kV doc pm an cdv ct),osl⟩)
  (c:codeIn K cdv qual=true) (kp:keepIn K (.ref f)=true) (t:K.lookup T=some o) (hd:o.data=.seq items n):FunD K x qual st f (fnOf x qual (qcc st) (qbx st) (qa8 st) (.ref T) kV doc pm an cdv ct) T items:=
 ⟨⟨oc,od,kV,doc,pm,an,cdv,ct,osl,rfl,l,c⟩,kp,o,n,t,hd⟩
end
def oK (hs:List (Str × Addr)):List (Key × V):=hs.map fun p=>(Sum.inr p.1,.ref p.2)
def qda:List (Str × Addr)->Str->Option Addr
 | [],_=>none
 |p :: r,z=>if p.1=z then some p.2 else qda r z
theorem qfi (z:Str):∀hs:List (Str × Addr),qcd (oK hs) (Sum.inr z)=(qda hs z).map V.ref
 | []=>rfl
 |p :: r=>by
  have ih:=qfi z r
  unfold qcd oK at ih ⊢
  rw [zS,yI]
  by_cases h:p.1=z
  .have e:decide ((Sum.inr p.1:Key)=Sum.inr z)=true:=by rw [h];exact decide_eq_true rfl
   simp only [e,qda,if_pos h]
   rfl
  .have e:decide ((Sum.inr p.1:Key)=Sum.inr z)=false:=decide_eq_false fun q=>h (Sum.inr.inj q)
   simp only [e,qda,if_neg h]
   exact ih
theorem qfe {z:Str}:∀{hs:List (Str × Addr)},qda hs z=none↔z∉hs.map (·.1)
 | []=>by simp [qda]
 |p :: r=>by
  have ih:=qfe (z:=z) (hs:=r)
  unfold qda
  by_cases q:p.1=z
  .rw [if_pos q]
   simp [q]
  .rw [if_neg q,ih]
   simp [Ne.symm q,fun e:z=p.1=>q e.symm]
theorem lookO_of {z:Str} {h:Addr}:∀{hs:List (Str × Addr)},(hs.map (·.1)).Nodup->(z,h)∈hs->qda hs z=some h
 |p :: r,nd,m=>by
  rw [zS,yA] at nd
  unfold qda
  rcases zK.mp m with e|e
  .rw [<-e,if_pos rfl]
  .have q:p.1≠z:=fun q=>nd.1 (by rw [q];exact zI.mpr ⟨(z,h),e,rfl⟩)
   rw [if_neg q]
   exact lookO_of nd.2 e
theorem putK_oK {hs:List (Str × Addr)} {z:Str} {h:Addr} (n:qda hs z=none):qcy (oK hs) (Sum.inr z) (.ref h)=oK (hs++ [(z,h)]):=by
 have hn:=qfe.mp n
 have e:((oK hs).any fun kv=>decide (kv.1=Sum.inr z))=false:=by
  rw [List.any_eq_false]
  intro kv hkv
  obtain⟨p,hp,rfl⟩:=zI.mp hkv
  intro q
  have q':=Sum.inr.inj (of_decide_eq_true q)
  exact hn (zI.mpr ⟨p,hp,q'⟩)
 unfold qcy
 rw [if_neg (by rw [e];decide)]
 unfold oK
 rw [zE];rfl
section
variable {H: Hp} {Q: VK} {a h: Addr} {hs: List (Str × Addr)} {z: Str}
theorem r_diO (d:Rd H a (.dK (oK hs))) (q:Q (.bl (qda hs z).isSome) H):rDI (.ref a) (.str z) H Q:=by
 refine⟨a,qcd (oK hs) (Sum.inr z),rfl,.inl ⟨_,Sum.inr z,d,rfl,rfl⟩,?_⟩
 rw [qfi,Option.isSome_map]
 exact q
theorem r_dgO (d:Rd H a (.dK (oK hs))) (e:qda hs z=some h) (q:Q (.ref h) H):rDGk (.ref a) (.str z) H Q:=
 ⟨a,.ref h,rfl,.inl ⟨_,Sum.inr z,d,rfl,by rw [qfi,e];rfl⟩,q⟩
end
end My
set_option exponentiation.threshold 2000
namespace My
open PySem PySem.Spec PyProof.Rows L2
end My
set_option maxHeartbeats 3200000
namespace My
open PySem PySem.Spec PyProof.Rows L2
section
variable {P: Program} {w: World} {A: Around}
theorem sk_is (z:Str) (t:Tok):(strKind P w).is z (.str z t)=true:=by
 show Value.isStrOf z (.str z t)=true
 simp [Value.isStrOf]
theorem take_in {zs:List Str} {i:Nat} {z:Str} (nd:zs.Nodup) (h:zs[i]?=some z):(zs.take i).contains z=false:=by
 rw [<-Bool.not_eq_true,List.contains_iff_mem]
 intro m
 obtain⟨j,hj,e⟩:=zQ.mp m
 obtain⟨hi,e2⟩:=List.getElem?_eq_some_iff.mp h
 rw [zU] at hj
 rw [List.getElem_take] at e
 exact(zY.mp nd) j i (by omega) hi (by omega) (by rw [e,e2])
theorem take_next {zs:List Str} {i:Nat} {z:Str} (h:zs[i]?=some z) (y:Str):((zs.take i).contains y || decide (y=z))=(zs.take (i+1)).contains y:=by
 rw [zM,h,Bool.eq_iff_iff,Bool.or_eq_true,List.contains_iff_mem,List.contains_iff_mem,zV,decide_eq_true_iff]
 simp
theorem setT_loop {R:Result->Shared->Prop} {it c:Addr} {fp wr:List Addr} {G:Array GenState->Array GenState->Prop} {zs:List Str} {pv:Nat->Value->Prop} {St:Nat->Shared->Prop}
  (W:WalksS P w A.in1 it fp wr G zs.length pv St) (hc:c∉fp) (nd:zs.Nodup) (hv:∀i v,pv i v->∃z t,zs[i]?=some z/\v=.str z t) (hb:zs.length+1 < scanBound):
  ∀(k i:Nat) (s:Shared),zs.length - i=k->i<=zs.length->St i s->s.heap.SetOf (strKind P w) c (fun y=>(zs.take i).contains y) i->
   (∀s',Moved (c :: wr) G s s'->s'.heap.SetOf (strKind P w) c (fun y=>(zs.take zs.length).contains y) zs.length->R (.ok (.ret .none)) s')->
   codeAny (model P w) A (.builtin "set.update.loop" ⟨[.ref c,.ref it], []⟩) R s:=by
 have cw:c∉wr:=fun h=>hc (W.sub _ h)
 have qci:∀{n:Nat} {S:Str->Bool} {s s':Shared},Moved wr G s s'->s.heap.SetOf (strKind P w) c S n->s'.heap.SetOf (strKind P w) c S n:=fun hm hS=>by
  obtain⟨o,es,ep,t,ho,rest⟩:=hS
  exact⟨o,es,ep,t,hm.heap c _ cw ho,rest⟩
 intro k
 induction k with
 |zero=>
  intro i s hk hi st hS hR
  have e:i=zs.length:=by omega
  subst e
  refine codeAny_builtin PyProof.Rows.F.entry_set_update_loop ?_
  rw [Around.under_plainId PyProof.Rows.F.plain_set_update_loop]
  show wpAny _ _ (pyNext (.ref it) >>= _) _ _ _
  refine wpAny_bind (W.done s _ _ st fun s1 hm=>?_)
  exact wpAny_pure (hR s1 (hm.mono fun b h=>zF _ h) (qci hm hS))
 |succ k ih=>
  intro i s hk hi st hS hR
  have lt:i < zs.length:=by omega
  refine codeAny_builtin PyProof.Rows.F.entry_set_update_loop ?_
  rw [Around.under_plainId PyProof.Rows.F.plain_set_update_loop]
  show wpAny _ _ (pyNext (.ref it) >>= _) _ _ _
  refine wpAny_bind (W.item i s _ _ lt st fun v s1 hp st1 hm=>?_)
  obtain⟨z,t,hz,rfl⟩:=hv i v hp
  have S1:=qci hm hS
  show wpAny _ _ (holding [Value.str z t] (setAdd c (.str z t)) >>= _) _ _ _
  refine wpAny_bind (wpAny_holding ?_)
  unfold setAdd
  refine wpAny_holding (wpAny_bind ((strKind P w).pyHash (k:=z) (sk_is z t) ?_))
  refine wpAny_setAddHashed_of (knd:=strKind P w) (s:={s1 with toks:=s1.toks+1}) (sk_is z t) rfl S1 (by omega) fun h2 sb S2=>?_
  have S3:h2.SetOf (strKind P w) c (fun y=>(zs.take (i+1)).contains y) (i+1):=SetOf_congr S2 (take_next hz) (by simp only [take_in nd hz];rfl)
  refine wpAny_pure ⟨plainId_quiet PyProof.Rows.F.plain_set_update_loop _,ih (i+1) _ (by omega) lt (W.frame _ s1 _ _ st1 (Nat.le_succ _) fun b h o e=>?_) S3 fun s4 hm4 S4=>?_⟩
  .rw [sb.2 b fun q=>hc (q ▸ h)];exact e
  .refine hR s4 (Moved.trans W.gtrans ((hm.mono fun b h=>zF _ h).then_heap (Nat.le_succ _) fun b o h e=>?_) hm4) S4
   rw [sb.2 b fun q=>h (q ▸ zL)];exact e
abbrev setO (led:Bool):Obj:={cls:=.type "set",dict:=none,data:=.set #[] 0 (.fresh 0 0 led)}
theorem setT_call {E:Value->Shared->Prop} {s:Shared} {l:Addr} {items:Array Value} {zs:List Str} {Q:Value->Shared->Prop} (hh:A.handled=none) (hl:s.heap.IsList l items) (hi:StrsAre items.toList zs) (nd:zs.Nodup) (hb:zs.length+1 < scanBound)
  (h:∀(h':Heap) (tk:Nat),h'.SetOf (strKind P w) s.heap.objs.size (fun y=>(zs.take zs.length).contains y) zs.length->(∀b o,b < s.heap.objs.size->s.heap.get? b=some o->h'.get? b=some o)->Q (.ref s.heap.objs.size) {s with heap:=h',toks:=tk}):
  wpAny (model P w) A (call (.type "set") [.ref l]) Q E s:=by
 obtain⟨c,tl,hmro⟩:=PySem.F.called_set.mro
 have hmade:=PySem.F.called_set.made
 have hsub:=PySem.F.called_set.sub
 refine wpAny_call (codeAny_of_tree ?_)
 show wpAny _ _ (callAny (.type "set") _) _ _ _
 refine wpAny_pure ⟨Code.quiet_builtin _ (by decide+kernel),codeAny_builtin PySem.F.entry_type_call ?_⟩
 rw [Around.under_plain (weight_type_call_type "set" [.ref l] []) rfl]
 have h1:=PySem.F.called_set.notType
 have h2:=PySem.F.called_set.canCreate
 have hct:=PySem.F.typeCall_set_1 (.ref l)
 repeat any_goals first|assumption|wp_step
 refine codeAny_mono (code_set_new_1 (.ref l) (E:=E) (Q₁:=fun x s1=>∃led:Bool,x=.ref s.heap.objs.size/\s1={s with heap:=s.heap.push (setO led)}) fun led=>⟨led,rfl,rfl⟩) fun r s1 hr=>?_
 cases r with
 |error e=>exact hr
 |ok fl=>
  cases fl with
  |ret obj=>
   obtain⟨led,rfl,rfl⟩:=hr
   have hS:(s.heap.push (setO led)).get? s.heap.objs.size=some (setO led):=Heap.get?_push_size _ rfl
   have hT:Shared.TypeIs {s with heap:=s.heap.push (setO led)} (.ref s.heap.objs.size) "set":=⟨_,hS,rfl⟩
   have hli:=PySem.F.called_set.init.lookup
   have hbi:=PySem.F.called_set.init.bind (.ref s.heap.objs.size)
   repeat any_goals first|assumption|wp_step
   refine codeAny_mono (codeAny_call_builtin (R:=wants (fun x s2=>x=.none/\∃h' tk,s2={s with heap:=h',toks:=tk}/\h'.SetOf (strKind P w) s.heap.objs.size (fun y=>(zs.take zs.length).contains y) zs.length/\(∀b o,b < s.heap.objs.size->s.heap.get? b=some o->h'.get? b=some o)) E) PySem.F.called_set.init.plain PySem.F.entry_set_init (check_set_init_1 hT ?_)) fun r2 s2 hr2=>?_
   .obtain⟨ol,hol,hcl,nl,hdl⟩:=hl
    obtain⟨ocls,odict,odata,oslots⟩:=ol
    dsimp only at hcl hdl
    subst hcl hdl
    have hol':=Heap.get?_push_of_some (setO led) hol
    have q1:=PySem.F.sub_list_set
    have q2:=PySem.F.sub_list_frozenset
    have q3:(Value.type "list" ==Value.type "dict")=false:=by decide
    have hl1:(s.heap.push (setO led)).IsList l items:=⟨_,hol',rfl,nl,rfl⟩
    unfold Builtin.«set.__init__» noKeywords Builtin.Frozenset.updateFrom
    generalize hPI:pyIter=PI
    wp_walk
    subst hPI
    refine wpAny_pyIter_list hl1 (wpAny_bind (wpAny_runValue ?_))
    have lS:l < s.heap.objs.size:=Heap.lt_size hol
    have h3:A.in1.in1.in1.handled=none:=by simp [hh]
    have nI:l≠(s.heap.push (setO led)).objs.size:=by
     rw [Heap.size_push];exact Nat.ne_of_lt (Nat.lt_succ_of_lt lS)
    have nS:s.heap.objs.size∉ [(s.heap.push (setO led)).objs.size,l]:=by
     rw [Heap.size_push]
     intro z
     simp only [zK,yG,or_false] at z
     rcases z with z|z
     .exact absurd z (Nat.ne_of_lt (Nat.lt_succ_self _))
     .rw [z] at lS;exact Nat.lt_irrefl _ lS
    have ez:items.size=zs.length:=by
     have:=hi.length
     simpa using this
    have W:WalksS P w A.in1.in1.in1 _ _ _ _ items.size _ _:=(Walks.list h3 _ l nI items).toS
    rw [ez] at W
    refine setT_loop (zs:=zs) W nS nd (fun i v hv=>?_) hb (zs.length - 0) 0 _ (by omega) (Nat.zero_le _) ⟨⟨_,Heap.get?_push_size _ rfl,rfl,rfl⟩,hl1.push _⟩ ?_ ?_
    .obtain⟨y,t,e1,e2⟩:=hi.item i v (by rw [Array.getElem?_toList];exact hv)
     exact⟨y,t,e2,e1⟩
    .have hget:=Heap.get?_push_of_some {cls:=.type "list_iterator",data:=.fields #[.ref l,.int 0 0]} hS
     exact SetOf_congr ((setObjOf_fresh (knd:=strKind P w) led).setOf hget (by unfold scanBound;omega)) (fun _=>rfl) rfl
    .intro s4 hm hS4
     obtain⟨h4,g4,d4,tk4,os4⟩:=s4
     have eg:g4=s.gens:=hm.gens
     have ed:d4=s.drawn:=hm.drawn
     have eo:os4=s.os:=hm.os
     subst eg ed eo
     refine wpAny_pure ?_
     refine wpAny_pure ⟨rfl,h4,tk4,rfl,hS4,fun b o hb' e=>?_⟩
     refine hm.heap b o (fun z=>?_) (Heap.get?_push_of_some _ (Heap.get?_push_of_some _ e))
     rw [Heap.size_push] at z
     simp only [zK,yG,or_false] at z
     rcases z with z|z
     .rw [z] at hb';exact Nat.lt_irrefl _ hb'
     .rw [z] at hb';exact Nat.lt_irrefl _ (Nat.lt_trans (Nat.lt_succ_self _) hb')
   .cases r2 with
    |error e=>exact hr2
    |ok fl2=>
     cases fl2 with
     |ret r=>
      obtain⟨rfl,h',tk,rfl,hS',hk'⟩:=hr2
      repeat any_goals first|assumption|wp_step
      exact h _ _ hS' hk'
     |next=>exact hr2.elim
     |brk=>exact hr2.elim
     |cont=>exact hr2.elim
  |next=>exact hr.elim
  |brk=>exact hr.elim
  |cont=>exact hr.elim
end
def SetT (P:Program) (w:World) (c:Addr) (n:Nat):HO:=.ext fun h=>∃S,h.SetOf (strKind P w) c S n
def rSetT (P:Program) (w:World) (K:Frag):List V->Hp->VK->Prop:=fun xs H Q=>∃(p:Addr) (zs:List Str),xs=[.ref p]/\SqL K H p (zs.map V.str)/\zs.Nodup/\zs.length<=60/\∀c,H c=none->Q (.ref c) (upd H c (SetT P w c zs.length))
def rLenT (P:Program) (w:World):List V->Hp->VK->Prop:=fun xs H Q=>∃c n,xs=[.ref c]/\H c=some (SetT P w c n)/\Q (.int n) H
section
variable {X: Cx}
theorem call_setT (hc:X.calm=true:=by rfl):qc7 X (.type "set") (rSetT X.prog X.w X.K):=by
 intro pins s σ H xs us Q I hv h
 obtain⟨p,zs,rfl,hS,nd,hz,q⟩:=h
 obtain⟨u,rfl,ru⟩:=hv.one
 cases ru
 obtain⟨its,rv,pl,hz'⟩:=I.list hS
 refine setT_call (I.ok.hd hc) (PlainL.isList pl) (zs:=zs) (by simpa using qfl rv) nd (by unfold scanBound;omega) fun h' tk hT hk=>?_
 have hg:=hT
 obtain⟨o,es,ep,t,ho,_⟩:=hg
 exact⟨.ref _,_,I.laid (a:=s.heap.objs.size) (o:=SetT X.prog X.w s.heap.objs.size zs.length) (t':=tk) (fun b ob e=>hk b ob (Heap.lt_size e) e) (Nat.le_refl _) ⟨⟨_,hT⟩,⟨o,ho⟩,fun h1 h2 ⟨S,o1,r1,r2,r3,e1,rest⟩ k=>⟨S,o1,r1,r2,r3,k _ e1,rest⟩⟩,rfl,q _ (I.hok.fresh (Nat.le_refl _))⟩
theorem call_lenT:qc7 X (.builtin "len") (rLenT X.prog X.w):=by
 intro pins s σ H xs us Q I hv h
 obtain⟨c,n,rfl,e,q⟩:=h
 obtain⟨u,rfl,ru⟩:=hv.one
 cases ru
 obtain⟨⟨S,o,es,ep,t,ho,hx,hd,_,_,hb,hf,rfl⟩,_⟩:=I.hok c _ e
 refine call_len_set ho hx hd hf (by unfold scanBound at hb;omega) ⟨.int es.size,H,I.tok _,⟨_,rfl⟩,q⟩
end
section
variable {P: Program} {w: World} {K: Frag} {H: Hp} {Q: VK}
theorem r_setT {p:Addr} {zs:List Str} (hS:SqL K H p (zs.map V.str)) (nd:zs.Nodup) (hz:zs.length<=60) (h:∀c,H c=none->Q (.ref c) (upd H c (SetT P w c zs.length))):rSetT P w K [.ref p] H Q:=⟨p,zs,rfl,hS,nd,hz,h⟩
theorem r_lenT2 {c:Addr} {n:Nat} (e:H c=some (SetT P w c n)) (h:Q (.int n) H):rLenT P w [.ref c] H Q:=⟨c,n,rfl,e,h⟩
end
def rLenD:List V->Hp->VK->Prop:=fun xs H Q=>∃a kvs,xs=[V.ref a]/\H a=some (.dK kvs)/\Q (.int kvs.length) H
theorem call_lenDD {X:Cx}:qc7 X (.builtin "len") rLenD:=L2.call_lenD
theorem r_lenD {H:Hp} {Q:VK} {a:Addr} {kvs:List (Key × V)} (e:H a=some (.dK kvs)) (h:Q (.int kvs.length) H):rLenD [.ref a] H Q:=⟨a,kvs,rfl,e,h⟩
end My
set_option maxHeartbeats 1000000
namespace My
open PySem PySem.Spec PyProof.Rows L2
def ValO (v d:Addr):HO:=.ext fun h=>h.IsValuesView v d
end My
namespace My
open PySem PySem.Spec PyProof.Rows L2 PyProof
end My
namespace My
open PySem PySem.Spec PyProof.Rows L2
section
inductive OddV (K:Frag) (H:Hp):V->Prop
 |non:OddV K H .non
 |bl (b:Bool):OddV K H (.bl b)
 |int (i:Int):OddV K H (.int i)
 |lst {a:Addr} {xs:List V} (h:SqL K H a xs):OddV K H (.ref a)
 |tup {a:Addr} {xs:List V} (h:SqT K H a xs):OddV K H (.ref a)
 |dct {a:Addr} {kvs:List (Key × V)} (h:H a=some (.dK kvs)):OddV K H (.ref a)
end
section
variable {K: Frag} {H: Hp} {Q: VK}
theorem qfx {y:Str}:∀nm:List Str,inV (.str y) (nm.map V.str)=decide (y∈nm)
 | []=>rfl
 |z :: r=>by
  have ih:=qfx (y:=y) r
  unfold inV at ih ⊢
  rw [zS,yV,ih]
  by_cases c:z=y
  .subst c
   rw [show eqV (V.str z) (V.str z)=true from beq_self_eq_true z,decide_eq_true (zL ..)]
   rfl
  .rw [show eqV (V.str z) (V.str y)=false from beq_false_of_ne c,Bool.false_or]
   by_cases m:y∈r
   .rw [decide_eq_true m,decide_eq_true (zF _ m)]
   .rw [decide_eq_false m,decide_eq_false fun h=>(zK.mp h).elim (fun e=>c e.symm) m]
theorem flat_strs (nm:List Str):(nm.map V.str).all qcz=true:=by
 rw [List.all_map]
 exact yE.mpr fun _ _=>rfl
theorem r_inSs {p:Addr} {y:Str} {nm:List Str} (h:SqL K H p (nm.map V.str)) (q:Q (.bl (decide (y∈nm))) H):rIn K false (.str y) (.ref p) H Q:=⟨p,_,rfl,.inl h,rfl,flat_strs nm,by rw [qfx];exact q⟩
end
theorem ints_of:∀{ns:List Int} {its:List Value},qbd (ns.map V.int) its->∃ys:List (Int × Tok),its=ys.map (fun p=>Value.int p.1 p.2)/\ys.map (·.1)=ns
 | [],_,r=>by cases r;exact⟨[],rfl,rfl⟩
 |n :: ns,_,r=>by
  cases r with
  |cons h t=>
   obtain⟨tk,rfl⟩:=h
   obtain⟨ys,e1,e2⟩:=ints_of t
   exact⟨(n,tk) :: ys,by rw [e1];rfl,by rw [zS,e2]⟩
theorem items_of (ys:List (Int × Tok)):(ys.map (fun p=>Value.int p.1 p.2)).toArray=intItems ys.toArray:=by
 unfold intItems
 simp
def rMinL (K:Frag):List V->Hp->VK->Prop:=fun xs H Q=>∃(p:Addr) (ns:List Int),xs=[.ref p]/\SqL K H p (ns.map V.int)/\0 < ns.length/\∀m,m∈ns->(∀a∈ns,m<=a)->Q (.int m) H
def rMaxL (K:Frag):List V->Hp->VK->Prop:=fun xs H Q=>∃(p:Addr) (ns:List Int),xs=[.ref p]/\SqL K H p (ns.map V.int)/\0 < ns.length/\∀m,m∈ns->(∀a∈ns,a<=m)->Q (.int m) H
def rSumL (K:Frag):List V->Hp->VK->Prop:=fun xs H Q=>∃(p:Addr) (ns:List Int),xs=[.ref p]/\SqL K H p (ns.map V.int)/\Q (.int ns.sum) H
section
variable {X: Cx}
theorem call_minL (hc:X.calm=true):qc7 X (.builtin "min") (rMinL X.K):=by
 intro pins s σ H xs us Q I hv h
 obtain⟨p,ns,rfl,hS,hn,q⟩:=h
 obtain⟨u,rfl,ru⟩:=hv.one
 cases ru
 obtain⟨its,rv,pl,hz⟩:=I.list hS
 have hl:=pl.isList
 obtain⟨ys,rfl,rfl⟩:=ints_of rv
 rw [items_of] at hl
 have hsz:0 < ys.toArray.size:=by rw [zB] at hn;simpa using hn
 refine min_intList (I.ok.hd hc) hl hsz fun v h' tk hv hk=>?_
 obtain⟨t,rfl⟩:=intItems_at hv
 obtain⟨h1,h2⟩:=argBest_lt (numAt ys.toArray) (ys.toArray.size - 1)
 refine⟨.int _,H,I.kept (t':=tk) hk,⟨t,rfl⟩,q _ ?_ fun a ha=>?_⟩
 .rw [numAt_eq]
  have hsy:ys.toArray.size=ys.length:=by simp
  exact getD_mem (show _ <(List.map (fun x:Int × Tok=>x.fst) ys).length by rw [zB];omega)
 .obtain⟨j,hj,rfl⟩:=mem_getD ha
  rw [zB] at hj
  have z:=h2 j (by have:ys.toArray.size=ys.length:=(by simp);omega)
  rw [numAt_eq ys.toArray j] at z
  exact z
theorem call_maxL (hc:X.calm=true):qc7 X (.builtin "max") (rMaxL X.K):=by
 intro pins s σ H xs us Q I hv h
 obtain⟨p,ns,rfl,hS,hn,q⟩:=h
 obtain⟨u,rfl,ru⟩:=hv.one
 cases ru
 obtain⟨its,rv,pl,hz⟩:=I.list hS
 have hl:=pl.isList
 obtain⟨ys,rfl,rfl⟩:=ints_of rv
 rw [items_of] at hl
 have hsz:0 < ys.toArray.size:=by rw [zB] at hn;simpa using hn
 refine max_intList (I.ok.hd hc) hl hsz fun v h' tk hv hk=>?_
 obtain⟨t,rfl⟩:=intItems_at hv
 obtain⟨h1,h2⟩:=argBest_gt (numAt ys.toArray) (ys.toArray.size - 1)
 refine⟨.int _,H,I.kept (t':=tk) hk,⟨t,rfl⟩,q _ ?_ fun a ha=>?_⟩
 .rw [numAt_eq]
  have hsy:ys.toArray.size=ys.length:=by simp
  exact getD_mem (show _ <(List.map (fun x:Int × Tok=>x.fst) ys).length by rw [zB];omega)
 .obtain⟨j,hj,rfl⟩:=mem_getD ha
  rw [zB] at hj
  have z:=h2 j (by have:ys.toArray.size=ys.length:=(by simp);omega)
  rw [numAt_eq ys.toArray j] at z
  exact z
theorem qeq (ns:List Int):∀k,k<=ns.length->preSum (fun i=>(ns[i]?).getD 0) k=(ns.take k).sum
 |0,_=>by simp [preSum]
 |k+1,h=>by
  have hk:k < ns.length:=by omega
  show preSum _ k+(ns[k]?).getD 0=_
  rw [qeq ns k (by omega),zM,zA hk,List.sum_append]
  simp
theorem call_sumL (hc:X.calm=true):qc7 X (.builtin "sum") (rSumL X.K):=by
 intro pins s σ H xs us Q I hv h
 obtain⟨p,ns,rfl,hS,q⟩:=h
 obtain⟨u,rfl,ru⟩:=hv.one
 cases ru
 obtain⟨its,rv,pl,hz⟩:=I.list hS
 have hl:=pl.isList
 have hlt:p < s.heap.objs.size:=by obtain⟨_,e,_⟩:=hl;exact Heap.lt_size e
 have hlen:=rv.length
 rw [zB] at hlen
 refine call_sum_walkG (wpAny_pyIter_list hl ?_)
 refine⟨s.heap.objs.size, [s.heap.objs.size,p], [s.heap.objs.size],its.toArray.size,_,_,fun i=>(ns[i]?).getD 0,rfl,Walks.list (A:=X.A.in1) (I.ok.hd hc) _ p (Nat.ne_of_lt hlt) its.toArray,⟨⟨_,Heap.get?_push_size _ rfl,rfl,rfl⟩,hl.push _⟩,fun b hb=>?_,fun i v hP=>?_,fun h' tk t' hk=>?_⟩
 .have e:(s.heap.push {cls:=.type "list_iterator",data:=.fields #[.ref p,.int 0 0]}).objs.size=s.heap.objs.size+1:=by simp [Heap.push]
  rcases zK.mp hb with rfl|hb
  .show _ <(s.heap.push _).objs.size
   rw [e];omega
  .rw [zG.mp hb]
   show _ <(s.heap.push _).objs.size
   rw [e];exact Nat.lt_succ_of_lt hlt
 .have hi:its[i]?=some v:=by simpa using hP
  have hb:i < ns.length:=by rw [hlen];exact(List.getElem?_eq_some_iff.mp hi).1
  have hx:(ns.map V.int)[i]?=some (.int ns[i]):=by rw [zC,zA hb];rfl
  obtain⟨u,e,r⟩:=rv.get hx
  rw [hi] at e
  cases e
  obtain⟨t,rfl⟩:=r
  exact⟨t,by show Value.int ns[i] t=Value.int ((ns[i]?).getD 0) t;rw [zA hb];rfl⟩
 .have e:preSum (fun i=>(ns[i]?).getD 0) its.toArray.size=ns.sum:=by
   rw [zN,<-hlen,qeq ns _ (Nat.le_refl _),zR]
  rw [e]
  exact⟨.int _,H,I.kept (t':=tk) (fun b o eb=>hk b o (fun hm=>by have z:=Heap.lt_size eb;rw [zG.mp hm] at z;exact Nat.lt_irrefl _ z) (Heap.get?_push_of_some _ eb)),⟨_,rfl⟩,q⟩
end
section
variable {K: Frag} {H: Hp} {Q: VK} {p: Addr} {ns: List Int}
theorem r_minL (hS:SqL K H p (ns.map V.int)) (hn:0 < ns.length) (h:∀m,m∈ns->(∀a∈ns,m<=a)->Q (.int m) H):rMinL K [.ref p] H Q:=⟨p,ns,rfl,hS,hn,h⟩
theorem r_maxL (hS:SqL K H p (ns.map V.int)) (hn:0 < ns.length) (h:∀m,m∈ns->(∀a∈ns,a<=m)->Q (.int m) H):rMaxL K [.ref p] H Q:=⟨p,ns,rfl,hS,hn,h⟩
theorem r_sumL (hS:SqL K H p (ns.map V.int)) (h:Q (.int ns.sum) H):rSumL K [.ref p] H Q:=⟨p,ns,rfl,hS,h⟩
end
def XB (X:Cx) (E:XK) (e:Value) (s':Shared):Prop:=∃(a:Addr) (C:Value) (d:Option Addr) (σ':L2.St) (H':Hp),e=.ref a/\Inv X [] σ' H' s'/\E C d H'/\
 ∃(T:Addr) (fl:Value) (σ1:L2.St) (H1:Hp) (s1:Shared),Inv X [] σ1 H1 s1/\s1.heap.get? a=none/\s1.heap.get? T=none/\H' a=none/\H' T=none/\XTr s'.heap a C d fl T
abbrev xb (X:Cx) (E:XK):Cx:=X.wish (XB X E)
end My
namespace My
open PySem PySem.Spec PyProof.Rows L2 PyProof PySem.Builtin.Str
end My
namespace My
open PySem PySem.Spec PyProof.Rows L2 PyProof PySem.Builtin.Str PySem.StrLaws
def hits (l:List Nat) (c:Nat) (is:List Nat):List Nat:=is.filter fun i=>decide (l[i]?=some c)
end My
namespace My
open PySem PySem.Spec PyProof.Rows L2 PyProof PySem.Builtin.Str PySem.NumText
end My
namespace My
open PySem PySem.Spec PyProof.Rows L2 PyProof PySem.Builtin.Str
end My
namespace My
open PySem PySem.Spec PyProof.Rows L2 PySem.Builtin
section
variable {prog: Program} {w: World} {A: Around} {E: Value -> Shared -> Prop} {s: Shared} {it d: Addr} {i ep: Nat} {od: Obj} {es: Array DictEntry}
theorem rawKey (hit:s.heap.IsKeyIter it d i es.size ep) (hod:s.heap.get? d=some od) (hdd:od.data=.dict es ep) {Q:Option Value->Shared->Prop} (hi:i < es.size)
  (hQ:∀h',h'.IsKeyIter it d (i+1) es.size ep->Heap.SameBut it s.heap h'->Q (some es[i].key) {s with heap:=h'}):wpAny (model prog w) A (pyNext (.ref it)) Q E s:=by
 obtain⟨o,ho,hc,hd⟩:=id hit
 have up:(s.heap.update it (Obj.mapFields (·.setIfInBounds 1 (rawInt ((i:Int)+1))))).IsKeyIter it d (i+1) es.size ep:=by
  refine⟨_,Heap.get?_update_self _ ho (Obj.isFreed_of_fields (Obj.data_mapFields hd _)),?_,?_⟩
  .rw [Obj.cls_mapFields];exact hc
  .rw [Obj.data_mapFields hd];simp [rawInt]
 have own:Dict_items.ownsTuple "dict_keyiterator" =false:=by decide
 have n1:¬((Value.ref d==Value.none)=true):=Bool.false_ne_true
 unfold pyNext
 refine wpAny_bind (wpAny_attempt (wpAny_callSpecial?_slot (name:=Str.ofString "__next__") hit.typeIs F.slot_dict_keyiterator_next (wpAny_call_entry F.slot_dict_keyiterator_next hit.typeIs F.entry_dict_keyiterator_next ?_ (F.args_dict_keyiterator_next_1 _))))
 refine wpAny_bind (wpAny_pure (wpAny_bind (wpAny_bind (wpAny_bind (wpAny_typeNameOfWhole_keyiter hit.typeIs (wpAny_pure (wpAny_bind (wpAny_fieldsOf ho hd ?_))))))))
 rw [own,if_neg Bool.false_ne_true]
 show wpAny _ _ (ite ((Value.ref d==Value.none)=true) _ _) _ _ s
 rw [if_neg n1]
 refine wpAny_bind (wpAny_pure (wpAny_bind (wpAny_dictEntries hod hdd ?_)))
 rw [if_neg (by simp)]
 refine wpAny_bind (wpAny_pure (wpAny_bind (wpAny_dictEpoch hod hdd ?_)))
 rw [if_neg (by simp)]
 refine wpAny_pure ?_
 have eg:(if (i:Int) < 0 then none else es[(i:Int).toNat]?)=some es[i]:=by rw [if_neg (by omega),Int.toNat_natCast];exact Array.getElem?_eq_getElem hi
 dsimp only
 rw [eg]
 dsimp only
 refine wpAny_bind (wpAny_bind (wpAny_typeNameOfWhole_keyiter hit.typeIs (wpAny_pure ?_)))
 refine wpAny_bind (wpAny_isOneOf_keyiter hit.typeIs ?_)
 rw [own]
 refine wpAny_bind (wpAny_setField ho hd (by simp) ?_)
 refine wpAny_bind (wpAny_holding ?_)
 refine wpAny_bind (wpAny_isOneOf_keyiter (s:={s with heap:=s.heap.update it (Obj.mapFields (·.setIfInBounds 1 (rawInt ((i:Int)+1))))}) up.typeIs ?_)
 exact wpAny_pure (wpAny_pure ⟨_,rfl,wpAny_pure (hQ _ up (Heap.SameBut.update ..))⟩)
theorem rawKeyEnd (hh:A.handled=none) (hit:s.heap.IsKeyIter it d i es.size ep) (hod:s.heap.get? d=some od) (hdd:od.data=.dict es ep) {Q:Option Value->Shared->Prop} (hi:es.size<=i)
  (hQ:∀h',Heap.ExtBut it s.heap h'->Q none {s with heap:=h'}):wpAny (model prog w) A (pyNext (.ref it)) Q E s:=by
 obtain⟨o,ho,hc,hd⟩:=id hit
 have own:Dict_items.ownsTuple "dict_keyiterator" =false:=by decide
 have n1:¬((Value.ref d==Value.none)=true):=Bool.false_ne_true
 unfold pyNext
 refine wpAny_bind (wpAny_attempt (wpAny_callSpecial?_slot (name:=Str.ofString "__next__") hit.typeIs F.slot_dict_keyiterator_next (wpAny_call_entry F.slot_dict_keyiterator_next hit.typeIs F.entry_dict_keyiterator_next ?_ (F.args_dict_keyiterator_next_1 _))))
 refine wpAny_bind (wpAny_pure (wpAny_bind (wpAny_bind (wpAny_bind (wpAny_typeNameOfWhole_keyiter hit.typeIs (wpAny_pure (wpAny_bind (wpAny_fieldsOf ho hd ?_))))))))
 rw [own,if_neg Bool.false_ne_true]
 show wpAny _ _ (ite ((Value.ref d==Value.none)=true) _ _) _ _ s
 rw [if_neg n1]
 refine wpAny_bind (wpAny_pure (wpAny_bind (wpAny_dictEntries hod hdd ?_)))
 rw [if_neg (by simp)]
 refine wpAny_bind (wpAny_pure (wpAny_bind (wpAny_dictEpoch hod hdd ?_)))
 rw [if_neg (by simp)]
 refine wpAny_pure ?_
 have eg:(if (i:Int) < 0 then none else es[(i:Int).toNat]?)=none:=by rw [if_neg (by omega),Int.toNat_natCast];exact Array.getElem?_eq_none hi
 dsimp only
 rw [eg]
 dsimp only
 refine wpAny_bind (wpAny_bind (wpAny_typeNameOfWhole_keyiter hit.typeIs (wpAny_pure ?_)))
 rw [own]
 refine wpAny_bind (wpAny_setField ho hd (by simp) (wpAny_bind ?_))
 unfold newExc newTuple
 refine wpAny_bind (wpAny_newObj_type ?_ (by size_fits))
 refine wpAny_bind (m:=firstArgMember _ _) (wpAny_of_eq (a:=Value.none) (by first|rfl|(simp only [firstArgMember];rfl)) (wpAny_newObj_type ?_ (by size_fits)))
 unfold raiseNew
 refine wpAny_bind (wpAny_handled ?_)
 rw [show A.in1.handled=none from hh]
 refine wpAny_bind (wpAny_pure (wpAny_throw ?_))
 refine wpAny_bind (wpAny_isInstance (T:="StopIteration") (b:=true) ⟨_,Heap.get?_push_size _ rfl,rfl⟩ isSubtype_stop ?_)
 exact wpAny_pure (hQ _ (((Heap.SameBut.update ..).extBut.push _).push _))
theorem rawVal (hit:s.heap.IsValIter it d i es.size ep) (hod:s.heap.get? d=some od) (hdd:od.data=.dict es ep) {Q:Option Value->Shared->Prop} (hi:i < es.size)
  (hQ:∀h',h'.IsValIter it d (i+1) es.size ep->Heap.SameBut it s.heap h'->Q (some es[i].val) {s with heap:=h'}):wpAny (model prog w) A (pyNext (.ref it)) Q E s:=by
 obtain⟨o,ho,hc,hd⟩:=id hit
 have up:(s.heap.update it (Obj.mapFields (·.setIfInBounds 1 (rawInt ((i:Int)+1))))).IsValIter it d (i+1) es.size ep:=by
  refine⟨_,Heap.get?_update_self _ ho (Obj.isFreed_of_fields (Obj.data_mapFields hd _)),?_,?_⟩
  .rw [Obj.cls_mapFields];exact hc
  .rw [Obj.data_mapFields hd];simp [rawInt]
 have own:Dict_items.ownsTuple "dict_valueiterator" =false:=by decide
 have n1:¬((Value.ref d==Value.none)=true):=Bool.false_ne_true
 unfold pyNext
 refine wpAny_bind (wpAny_attempt (wpAny_callSpecial?_slot (name:=Str.ofString "__next__") hit.typeIs F.slot_dict_valueiterator_next (wpAny_call_entry F.slot_dict_valueiterator_next hit.typeIs F.entry_dict_valueiterator_next ?_ (F.args_dict_valueiterator_next_1 _))))
 refine wpAny_bind (wpAny_pure (wpAny_bind (wpAny_bind (wpAny_bind (wpAny_typeNameOfWhole_valiter hit.typeIs (wpAny_pure (wpAny_bind (wpAny_fieldsOf ho hd ?_))))))))
 rw [own,if_neg Bool.false_ne_true]
 show wpAny _ _ (ite ((Value.ref d==Value.none)=true) _ _) _ _ s
 rw [if_neg n1]
 refine wpAny_bind (wpAny_pure (wpAny_bind (wpAny_dictEntries hod hdd ?_)))
 rw [if_neg (by simp)]
 refine wpAny_bind (wpAny_pure (wpAny_bind (wpAny_dictEpoch hod hdd ?_)))
 rw [if_neg (by simp)]
 refine wpAny_pure ?_
 have eg:(if (i:Int) < 0 then none else es[(i:Int).toNat]?)=some es[i]:=by rw [if_neg (by omega),Int.toNat_natCast];exact Array.getElem?_eq_getElem hi
 dsimp only
 rw [eg]
 dsimp only
 refine wpAny_bind (wpAny_bind (wpAny_typeNameOfWhole_valiter hit.typeIs (wpAny_pure ?_)))
 refine wpAny_bind (wpAny_isOneOf_valiter hit.typeIs ?_)
 rw [own]
 refine wpAny_bind (wpAny_setField ho hd (by simp) ?_)
 refine wpAny_bind (wpAny_holding ?_)
 refine wpAny_bind (wpAny_isOneOf_valiter (s:={s with heap:=s.heap.update it (Obj.mapFields (·.setIfInBounds 1 (rawInt ((i:Int)+1))))}) up.typeIs ?_)
 refine wpAny_bind (wpAny_isOneOf_valiter (s:={s with heap:=s.heap.update it (Obj.mapFields (·.setIfInBounds 1 (rawInt ((i:Int)+1))))}) up.typeIs ?_)
 exact wpAny_pure (wpAny_pure ⟨_,rfl,wpAny_pure (hQ _ up (Heap.SameBut.update ..))⟩)
theorem rawValEnd (hh:A.handled=none) (hit:s.heap.IsValIter it d i es.size ep) (hod:s.heap.get? d=some od) (hdd:od.data=.dict es ep) {Q:Option Value->Shared->Prop} (hi:es.size<=i)
  (hQ:∀h',Heap.ExtBut it s.heap h'->Q none {s with heap:=h'}):wpAny (model prog w) A (pyNext (.ref it)) Q E s:=by
 obtain⟨o,ho,hc,hd⟩:=id hit
 have own:Dict_items.ownsTuple "dict_valueiterator" =false:=by decide
 have n1:¬((Value.ref d==Value.none)=true):=Bool.false_ne_true
 unfold pyNext
 refine wpAny_bind (wpAny_attempt (wpAny_callSpecial?_slot (name:=Str.ofString "__next__") hit.typeIs F.slot_dict_valueiterator_next (wpAny_call_entry F.slot_dict_valueiterator_next hit.typeIs F.entry_dict_valueiterator_next ?_ (F.args_dict_valueiterator_next_1 _))))
 refine wpAny_bind (wpAny_pure (wpAny_bind (wpAny_bind (wpAny_bind (wpAny_typeNameOfWhole_valiter hit.typeIs (wpAny_pure (wpAny_bind (wpAny_fieldsOf ho hd ?_))))))))
 rw [own,if_neg Bool.false_ne_true]
 show wpAny _ _ (ite ((Value.ref d==Value.none)=true) _ _) _ _ s
 rw [if_neg n1]
 refine wpAny_bind (wpAny_pure (wpAny_bind (wpAny_dictEntries hod hdd ?_)))
 rw [if_neg (by simp)]
 refine wpAny_bind (wpAny_pure (wpAny_bind (wpAny_dictEpoch hod hdd ?_)))
 rw [if_neg (by simp)]
 refine wpAny_pure ?_
 have eg:(if (i:Int) < 0 then none else es[(i:Int).toNat]?)=none:=by rw [if_neg (by omega),Int.toNat_natCast];exact Array.getElem?_eq_none hi
 dsimp only
 rw [eg]
 dsimp only
 refine wpAny_bind (wpAny_bind (wpAny_typeNameOfWhole_valiter hit.typeIs (wpAny_pure ?_)))
 rw [own]
 refine wpAny_bind (wpAny_setField ho hd (by simp) (wpAny_bind ?_))
 unfold newExc newTuple
 refine wpAny_bind (wpAny_newObj_type ?_ (by size_fits))
 refine wpAny_bind (m:=firstArgMember _ _) (wpAny_of_eq (a:=Value.none) (by first|rfl|(simp only [firstArgMember];rfl)) (wpAny_newObj_type ?_ (by size_fits)))
 unfold raiseNew
 refine wpAny_bind (wpAny_handled ?_)
 rw [show A.in1.handled=none from hh]
 refine wpAny_bind (wpAny_pure (wpAny_throw ?_))
 refine wpAny_bind (wpAny_isInstance (T:="StopIteration") (b:=true) ⟨_,Heap.get?_push_size _ rfl,rfl⟩ isSubtype_stop ?_)
 exact wpAny_pure (hQ _ (((Heap.SameBut.update ..).extBut.push _).push _))
theorem rawIter {Q:Value->Shared->Prop} (hd:(d==sysModules)=false) (hod:s.heap.get? d=some od) (hx:od.ExactDict) (hdd:od.data=.dict es ep)
  (hQ:Q (.ref s.heap.objs.size) {s with heap:=s.heap.push {cls:=.type "dict_keyiterator",data:=.fields #[.ref d,.int 0 0,.int es.size 0,.int ep 0]}}):wpAny (model prog w) A (pyIter (.ref d)) Q E s:=by
 have hT:s.TypeIs (.ref d) "dict":=⟨od,hod,hx.1⟩
 refine wpAny_pyIter_slot hT F.slot_dict_iter (wpAny_call_entry F.slot_dict_iter hT F.entry_dict_iter ?_ (F.args_dict_iter_1 _))
 unfold Builtin.«dict.__iter__» Builtin.Dict.dictSlotNone
 refine wpAny_bind (wpAny_bind (wpAny_notOrdered_dict hT (wpAny_pure ?_)))
 unfold Builtin.Dict.showsAll
 dsimp only
 refine wpAny_bind (wpAny_pure (wpAny_bind ?_))
 rw [if_neg (by rw [hd];exact Bool.false_ne_true)]
 refine wpAny_pure (wpAny_bind (wpAny_dictEntries hod hdd (wpAny_bind (wpAny_dictEpoch hod hdd (wpAny_bind (wpAny_newObj_type (wpAny_pure ⟨_,rfl,"dict_keyiterator",_,⟨_,Heap.get?_push_size _ rfl,rfl⟩,F.slot_dict_keyiterator_next.lookup,?_⟩)))))))
 simpa [rawInt] using hQ
theorem rawViewIter {v:Addr} {Q:Value->Shared->Prop} (hv:s.heap.IsValuesView v d) (hod:s.heap.get? d=some od) (hdd:od.data=.dict es ep)
  (hQ:Q (.ref s.heap.objs.size) {s with heap:=s.heap.push {cls:=.type "dict_valueiterator",data:=.fields #[.ref d,.int 0 0,.int es.size 0,.int ep 0]}}):wpAny (model prog w) A (pyIter (.ref v)) Q E s:=by
 obtain⟨ov,hov,hcv,hdv⟩:=id hv
 refine wpAny_pyIter_slot hv.typeIs F.slot_dict_values_iter (wpAny_call_entry F.slot_dict_values_iter hv.typeIs F.entry_dict_values_iter ?_ (F.args_dict_values_iter_1 _))
 unfold Builtin.«dict_values.__iter__» Dict_items.dictOf
 refine wpAny_bind (wpAny_pure (wpAny_bind (wpAny_bind (wpAny_field hov hdv (x:=.ref d) rfl (wpAny_pure (wpAny_bind ?_))))))
 unfold Dict_items.newIterator
 refine wpAny_bind (wpAny_dictEntries hod hdd (wpAny_bind (wpAny_dictEpoch hod hdd ?_)))
 have own:Dict_items.ownsTuple "dict_valueiterator" =false:=by decide
 simp only [own,Bool.false_eq_true,if_false]
 refine wpAny_newObj_type (wpAny_pure ⟨_,rfl,"dict_valueiterator",_,⟨_,Heap.get?_push_size _ rfl,rfl⟩,F.slot_dict_valueiterator_next.lookup,?_⟩)
 simpa [rawInt] using hQ
theorem rawValues (d:Addr) (hd:(d==sysModules)=false):MeetsIn prog w (Builtin.«dict.values» ⟨[.ref d], []⟩) (fun _ R s=>s.TypeIs (.ref d) "dict"/\
  R (.ok (.ret (.ref s.heap.objs.size))) {s with heap:=s.heap.push {cls:=.type "dict_values",data:=.fields #[.ref d]}}):=
 .of_wp fun A R s ⟨hT,h⟩=>by
  refine wpAny_bind ?_
  unfold Builtin.Dict.noArgs
  refine wpAny_bind (wpAny_notOrdered_dict hT ?_)
  show wpAny _ _ (pure d) _ _ s
  refine wpAny_pure ?_
  show wpAny _ _ (Builtin.Dict.showsAll d >>= _) _ _ s
  refine wpAny_bind ?_
  unfold Builtin.Dict.showsAll
  rw [if_neg (by rw [hd];exact Bool.false_ne_true)]
  exact wpAny_pure (wpAny_bind (wpAny_newObj_type (wpAny_pure ⟨_,rfl,h⟩)))
end
end My
namespace My
open PySem PySem.Spec PyProof.Rows L2
section
variable {X: Cx} {pins: List (Addr × Obj)} {σ: L2.St} {H: Hp} {s: Shared} {a: Addr} {kvs: List (List Key × V)} {o: Obj}
theorem Inv.freezeT (I:Inv X pins σ H s) (e:H a=some (.dT kvs)) (ho:s.heap.get? a=some o):Inv X pins σ (upd H a (.frz o (.dT kvs))) s:=by
 have ok:=I.hok a _ e
 have z:=I.write (x:=a) (e:=a) (o:=.frz o (.dT kvs)) (h':=s.heap) (t':=s.toks) (by rw [e];exact True.intro) (.inl rfl) (fun _ _ _ q=>q) ⟨o,ho⟩ ⟨ho,ok.stay (fun _ _ _ r=>r) (fun c r=>by
  rw [qa7 (fun w=>by subst w;rw [e] at r;cases r)];exact r) fun c xs r=>by
  rw [qa7 (fun w=>by subst w;rw [e] at r;cases r)];exact r⟩
 exact z
end
theorem entT {P:Program} {w:World} {H:Hp} {h:Heap} {a:Addr} {kvs:List (List Key × V)} (ok:qbh P w H h a (.dT kvs)):∃o es ep,h.get? a=some o/\o.ExactDict/\o.data=.dict es ep/\es.size=kvs.length/\(a==sysModules)=false/\
  ∀(i:Nat) (hi:i < es.size) k v,kvs[i]?=some (k,v)->∃b,es[i].key=.ref b/\H b=some (.tup (k.map kV))/\qbe v es[i].val:=by
 obtain⟨_,y,xs,r,o,es,ep,h1,h2,h3,h4,_⟩:=ok
 have key:∀{l:List (List Key × V)} {m:List (List Key × Addr × Value)},KT H l m->l.length=m.length/\∀(i:Nat) k v,l[i]?=some (k,v)->∃q,m[i]?=some q/\H q.2.1=some (.tup (k.map kV))/\qbe v q.2.2:=by
  intro l m q
  induction q with
  |nil=>exact⟨rfl,fun i k v e=>by simp at e⟩
  | @cons p q ps qs hq t ih=>
   refine⟨by rw [zP,zP,ih.1],fun i k v e=>?_⟩
   cases i with
   |zero=>
    simp only [List.getElem?_cons_zero,Option.some.injEq] at e ⊢
    subst e
    exact⟨q,rfl,hq.2.1,hq.2.2⟩
   |succ i=>
    simp only [List.getElem?_cons_succ] at e ⊢
    exact ih.2 i k v e
 obtain⟨kl,kg⟩:=key r
 have hs:es.size=xs.length:=by
  have:=congrArg List.length h4
  rw [zB] at this
  simpa using this
 refine⟨o,es,ep,h1,h2,h3,by omega,y,fun i hi k v e=>?_⟩
 obtain⟨q,hq,hb,hv⟩:=kg i k v e
 have e1:es[i]?=some (entryOfKey (tupleKind (qbc P w)) q):=by
  rw [<-Array.getElem?_toList,h4,zC,hq];rfl
 have e2:es[i]=entryOfKey (tupleKind (qbc P w)) q:=by
  rw [Array.getElem?_eq_getElem hi] at e1
  exact Option.some.inj e1
 rw [e2]
 exact⟨q.2.1,rfl,hb,hv⟩
def ItDT (d:Addr) (o:Obj) (kvs:List (List Key × V)):It:=
 ⟨fun i H=>H d=some (.frz o (.dT kvs))/\i < kvs.length,fun i H x H'=>H'=H/\∃k v b,kvs[i]?=some (k,v)/\x=.ref b/\H b=some (.tup (k.map kV)),fun i H=>H d=some (.frz o (.dT kvs))/\kvs.length<=i⟩
theorem turn_dT {P:Program} {w:World} {K:Frag} {tg:Expr} {o:Obj} {kvs:List (List Key × V)} {es:Array DictEntry} {ep:Nat} (d it:Addr) (hd:o.data=.dict es ep):Turn P w K tg (ItDT d o kvs) [it] it (fun i h=>h.IsKeyIter it d i kvs.length ep) where
 mem:=by simp
 obj:=fun i h st b hb=>by
  have e:b=it:=by simpa using hb
  subst e
  obtain⟨ob,e,c,dd⟩:=st
  exact⟨ob,e,fun v z=>by rw [dd] at z;cases z⟩
 keep:=fun i h h' st k=>st.at fun ob e=>k it (by simp) ob e
 item:=by
  intro X hP hw hK hc i pins s σ H E I hf st hg
  subst hP hw hK
  obtain⟨hfz,hi⟩:=hg
  obtain⟨ho,okd⟩:=I.hok d _ hfz
  obtain⟨o',es',ep',ho',hx,hd',hsz,hsy,get⟩:=entT okd
  rw [ho] at ho'
  cases ho'
  rw [hd] at hd'
  cases hd'
  obtain⟨f0,f1,f2,f3,f4,f5⟩:=hf it (by simp)
  obtain⟨b,hb,hbt,_⟩:=get i (by omega) kvs[i].1 kvs[i].2 (by rw [zA hi])
  rw [<-hsz] at st
  refine rawKey st ho hd (by omega) fun h' st' hs'=>?_
  have I1:Inv X pins σ H {s with heap:=h'}:=I.turned (t':=s.toks) (fun b ob hb e=>hs'.extBut b ob hb e) f0 f1 f3 f4 f5
  obtain⟨ob,e,c,dd⟩:=id st'
  rw [hb]
  exact⟨_,rfl,go_of (s:={s with heap:=h'}) e c dd (by decide) ⟨.ref b,H,I1,rfl,⟨rfl,kvs[i].1,kvs[i].2,b,zA hi,rfl,hbt⟩,by rw [<-hsz];exact st',fun b hb=>(hf b hb).1⟩⟩
 done:=by
  intro X hP hw hK hc i pins s σ H E I hf st hg
  subst hP hw hK
  obtain⟨hfz,hi⟩:=hg
  obtain⟨ho,okd⟩:=I.hok d _ hfz
  obtain⟨o',es',ep',ho',hx,hd',hsz,hsy,get⟩:=entT okd
  rw [ho] at ho'
  cases ho'
  rw [hd] at hd'
  cases hd'
  obtain⟨f0,f1,f2,f3,f4,f5⟩:=hf it (by simp)
  rw [<-hsz] at st
  exact rawKeyEnd (I.ok.hd hc) st ho hd (by omega) fun h' eb=>⟨rfl,I.turned (t':=s.toks) (fun b ob hb e=>eb b ob hb e) f0 f1 f3 f4 f5⟩
 self:=fun _ _ _ _ _ st h=>wpAny_pyIter_keyiter st h
def rItDT (x:V) (H:Hp) (R:It->Hp->Prop):Prop:=∃a kvs,x=.ref a/\H a=some (.dT kvs)/\∀o,R (ItDT a o kvs) (upd H a (.frz o (.dT kvs)))
def iDictT (td:TE):TI:=fun σ H R=>td σ H fun x H1=>rItDT x H1 R
theorem qeg {X:Cx} {tg l:Expr} {tl:TE} (hl:PE X l tl):PI X tg l (iDictT tl):=by
 intro pins s σ H R I h
 refine thn (hl pins s σ H _ I h) fun v s1 ⟨x,H1,I1,r1,q1⟩=>?_
 obtain⟨a,kvs,e,ea,q⟩:=q1
 subst e
 cases r1
 obtain⟨o,es,ep,ho,hx,hd,hsz,hsy,get⟩:=entT (I1.hok a _ ea)
 refine rawIter hsy ho hx hd ?_
 have it0:(s1.heap.push {cls:=.type "dict_keyiterator",data:=.fields #[.ref a,.int 0 0,.int es.size 0,.int ep 0]}).IsKeyIter s1.heap.objs.size a 0 kvs.length ep:=by
  rw [<-hsz];exact⟨_,Heap.get?_push_size _ rfl,rfl,rfl⟩
 have I2:=Inv.freezeT I1 ea ho
 refine⟨s1.heap.objs.size, [s1.heap.objs.size],_,_,_,rfl,I2.kept (t':=s1.toks) fun b ob e=>Heap.get?_push_of_some _ e,turn_dT (kvs:=kvs) a _ hd,it0,fun b hb=>?_,q o⟩
 have e:b=s1.heap.objs.size:=by simpa using hb
 subst e
 exact I2.fpOk (Nat.le_refl _) (I2.hok.fresh (Nat.le_refl _))
def rValsT:V->List V->Hp->VK->Prop:=fun x xs H Q=>∃p kvs,x=.ref p/\xs=[]/\Rd H p (.dT kvs)/\∀v,H v=none->Q (.ref v) (upd H v (ValO v p))
section
variable {X: Cx}
theorem mt_valsT:MtR X "dict.values" rValsT:=by
 intro pins s σ H x xs v us Q I rx rv h
 obtain⟨p,kvs,rfl,rfl,e,q⟩:=h
 cases rx
 have hus:=rv.zero
 subst hus
 obtain⟨o,es,ep,ho,hx,hd,hsz,hsy,get⟩:=entT (e.ok I.hok)
 have hT:s.TypeIs (.ref p) "dict":=⟨o,ho,hx.1⟩
 refine call_meetsIn PySem.F.slot_dict_values hT PySem.F.entry_dict_values (PySem.F.args_dict_values_1 _) (rawValues p hsy) ⟨hT,?_⟩
 exact⟨.ref _,_,I.laid (a:=s.heap.objs.size) (o:=ValO s.heap.objs.size p) (t':=s.toks) (fun b ob e=>Heap.get?_push_of_some _ e) (Nat.le_refl _) ⟨⟨_,Heap.get?_push_size _ rfl,rfl,rfl⟩,⟨_,Heap.get?_push_size _ rfl⟩,fun h1 h2 ⟨o,e1,r⟩ k=>⟨o,k _ e1,r⟩⟩,rfl,q _ (I.hok.fresh (Nat.le_refl _))⟩
end
end My
namespace My
open PySem PySem.Spec PyProof.Rows L2 PyProof PySem.SeqAt
def isTx (z:Str):Value->Bool
 | .str a _=>a==z
 |_=>false
theorem isTx_at (z:Str):∀{us:List Value} {ss:List Str},StrsAre us ss->∀(j:Nat) (h1:j < us.length) (h2:j < ss.length),isTx z us[j]=(ss[j]==z)
 |_,_,.nil,j,h1,_=>absurd h1 (Nat.not_lt_zero j)
 |_,_,.cons x t h,0,_,_=>rfl
 |_,_,.cons x t h,j+1,h1,h2=>isTx_at z h j (Nat.lt_of_succ_lt_succ h1) (Nat.lt_of_succ_lt_succ h2)
theorem isTx_eq {A:Around} {s:Shared} (z:Str) (t:Tok):∀{us:List Value} {ss:List Str},StrsAre us ss->∀y∈us,EqAt A s y (.str z t) (isTx z y)
 |_,_,.nil,y,h=>by simp at h
 |_,_,.cons x u r,y,h=>by
  rcases zK.mp h with rfl|h
  .exact EqAt.str_str x u z t
  .exact isTx_eq z t r y h
theorem idx_ne {z:Str}:∀{ss:List Str} {j:Nat} (h:j < ss.length),j < ss.idxOf z->ss[j]≠z
 | [],j,h,_=>absurd h (Nat.not_lt_zero j)
 |x :: ss,0,_,hj=>fun e=>by
  have e:x=z:=e
  rw [List.idxOf_cons,e] at hj
  simp at hj
 |x :: ss,j+1,h,hj=>by
  rw [List.idxOf_cons] at hj
  cases c:(x==z) with
  |true=>rw [c] at hj;simp at hj
  |false=>
   rw [c] at hj
   exact idx_ne (Nat.lt_of_succ_lt_succ h) (by simpa using hj)
section
variable {X: Cx}
def rIdxS (K:Frag):V->List V->Hp->VK->Prop:=fun x xs H Q=>∃(l:Addr) (ss:List Str) (z:Str),x=.ref l/\xs=[.str z]/\SqL K H l (ss.map V.str)/\z∈ss/\Q (.int ((ss.idxOf z:Nat):Int)) H
theorem mt_idxS:MtR X "list.index" (rIdxS X.K):=by
 intro pins s σ H x xs v us Q I rx rv h
 obtain⟨l,ss,z,rfl,rfl,hS,hz,q⟩:=h
 cases rx
 obtain⟨u,rfl,ru⟩:=rv.one
 obtain⟨t,rfl⟩:=ru
 obtain⟨its,r1,pl,hz'⟩:=I.list hS
 have sa:=qfl r1
 have hlen:=r1.length
 rw [zB] at hlen
 obtain⟨⟨cls,dd,data,sl⟩,ho,hc,n,hd⟩:=id pl.isList
 simp only at hc hd
 subst hc hd
 have hj:ss.idxOf z < ss.length:=List.idxOf_lt_length_iff.mpr hz
 have hz2:ss.length<=16777216:=by rw [zB] at hz';exact hz'
 refine call_meets PySem.F.slot_list_index ⟨_,ho,rfl⟩ PySem.F.entry_list_index (PySem.F.args_list_index_2 _ _)
  (list_indexAt l its.toArray n dd sl (.str z t) (isTx z) (ss.idxOf z) (by simp;omega) (by omega) ?_ ?_) ⟨ho,fun y hy=>isTx_eq z t sa y (by simpa using hy),.int ((ss.idxOf z:Nat):Int),H,I.tok _,⟨_,rfl⟩,q⟩
 .show isTx z its[ss.idxOf z]=true
  rw [isTx_at z sa _ (by omega) hj]
  simpa using List.getElem_idxOf hj
 .intro j hjs hlt
  show isTx z its[j]=false
  rw [isTx_at z sa j (by simpa using hjs) (by omega)]
  exact beq_false_of_ne (idx_ne _ hlt)
end
section
variable {K: Frag} {H: Hp} {Q: VK}
theorem r_idxS {l:Addr} {ss:List Str} {j:Nat} (h:SqL K H l (ss.map V.str)) (nd:ss.Nodup) (hj:j < ss.length) (q:Q (.int (j:Int)) H):rIdxS K (.ref l) [.str ss[j]] H Q:=⟨l,ss,ss[j],rfl,rfl,h,zO hj,by
 have e:ss.idxOf ss[j]=j:=List.Nodup.idxOf_getElem nd j hj
 rw [e];exact q⟩
end
end My
namespace My
open PySem PySem.Spec PyProof.Rows L2
section
variable {K: Frag} {H: Hp} {Q: VK}
theorem r_menuV {p:Addr} {xs:List V} {r:Int} (hS:SqL K H p xs) (h0:0<=r) (h1:r < xs.length) (h:∀m,m∈xs->Q m H):rIxL K (.ref p) (.int r) H Q:=by
 obtain⟨j,rfl⟩:=Int.eq_ofNat_of_zero_le h0
 have hj:j < xs.length:=by omega
 exact qb6 hS (qaw (zA hj)) (h _ (zO hj))
end
end My
namespace My
open PySem PySem.Spec PyProof.Rows L2 PyProof PySem.SeqAt
end My
namespace My
open PySem PySem.Spec PyProof.Rows L2
section
variable {K: Frag} {H: Hp} {p: Addr} {n: Int} {xs: List V}
theorem deq_nilL {n:Nat} {a b:Addr} (ha:SqL K H a xs) (hb:SqL K H b []) (ne:a≠b):DEq K H (n+1) (.ref a) (.ref b) (decide (xs=[])):=by
 cases xs with
 |nil=>
  have z:=DEq.ls (n:=n) (e:=fun _=>true) ha hb ne rfl (fun j h1 h2=>absurd h1 (Nat.not_lt_zero j))
  exact z
 |cons p r=>exact DEq.lsN ha hb ne (by simp)
end
def rAny (K:Frag):List V->Hp->VK->Prop:=fun xs H Q=>∃(p:Addr) (bs:List Bool),xs=[.ref p]/\SqL K H p (bs.map V.bl)/\Q (.bl (bs.any id)) H
theorem any_range (bs:List Bool):((List.range bs.length).any fun i=>(bs[i]?).getD true)=bs.any id:=by
 rw [Bool.eq_iff_iff,yS,yS]
 constructor
 .rintro⟨i,hi,h⟩
  have hi':=yP.mp hi
  rw [zA hi'] at h
  exact⟨_,zO hi',h⟩
 .rintro⟨b,hb,h⟩
  obtain⟨i,hi,e⟩:=zQ.mp hb
  exact⟨i,yP.mpr hi,by rw [zA hi,e];exact h⟩
section
variable {X: Cx}
theorem call_anyB (hc:X.calm=true):qc7 X (.builtin "any") (rAny X.K):=by
 intro pins s σ H xs us Q I hv h
 obtain⟨p,bs,rfl,hS,q⟩:=h
 obtain⟨u,rfl,ru⟩:=hv.one
 cases ru
 obtain⟨its,rv,pl,hz⟩:=I.list hS
 have hl:=pl.isList
 have hlt:p < s.heap.objs.size:=by obtain⟨_,e,_⟩:=hl;exact Heap.lt_size e
 have hlen:=rv.length
 rw [zB] at hlen
 refine call_any_walk (wpAny_pyIter_list hl ?_)
 refine⟨s.heap.objs.size, [s.heap.objs.size,p], [s.heap.objs.size],its.toArray.size,_,_,fun i=>(bs[i]?).getD true,rfl,Walks.list (A:=X.A.in1) (I.ok.hd hc) _ p (Nat.ne_of_lt hlt) its.toArray,⟨⟨_,Heap.get?_push_size _ rfl,rfl,rfl⟩,hl.push _⟩,fun i v s' Q' E' hP hQ=>?_,fun h' tk hk=>?_⟩
 .have hi:its[i]?=some v:=by simpa using hP
  have hb:i < bs.length:=by rw [hlen];exact(List.getElem?_eq_some_iff.mp hi).1
  have hx:(bs.map V.bl)[i]?=some (.bl bs[i]):=by rw [zC,zA hb];rfl
  obtain⟨u,e,r⟩:=rv.get hx
  rw [hi] at e
  cases e
  cases r
  dsimp only at hQ
  rw [zA hb] at hQ
  exact wpAny_truthy_bool hQ
 .have e:((List.range its.toArray.size).any fun i=>(bs[i]?).getD true)=bs.any id:=by
   rw [zN,<-hlen];exact any_range bs
  rw [e]
  exact⟨.bl _,H,I.kept (t':=tk) (fun b o eb=>hk b o (fun hm=>by have z:=Heap.lt_size eb;rw [zG.mp hm] at z;exact Nat.lt_irrefl _ z) (Heap.get?_push_of_some _ eb)),rfl,q⟩
end
def ItVT (a:Addr) (o:Obj) (kvs:List (List Key × V)):It:=
 ⟨fun i H=>H a=some (.frz o (.dT kvs))/\i < kvs.length,fun i H v H'=>H'=H/\∃k,kvs[i]?=some (k,v),fun i H=>H a=some (.frz o (.dT kvs))/\kvs.length<=i⟩
theorem turn_vT {P:Program} {w:World} {K:Frag} {tg:Expr} {o:Obj} {kvs:List (List Key × V)} {es:Array DictEntry} {ep:Nat} (d it:Addr) (hd:o.data=.dict es ep):Turn P w K tg (ItVT d o kvs) [it] it (fun i h=>h.IsValIter it d i kvs.length ep) where
 mem:=by simp
 obj:=fun i h st b hb=>by
  have e:b=it:=by simpa using hb
  subst e
  obtain⟨ob,e,c,dd⟩:=st
  exact⟨ob,e,fun v z=>by rw [dd] at z;cases z⟩
 keep:=fun i h h' st k=>st.at fun ob e=>k it (by simp) ob e
 item:=by
  intro X hP hw hK hc i pins s σ H E I hf st hg
  subst hP hw hK
  obtain⟨hfz,hi⟩:=hg
  obtain⟨ho,okd⟩:=I.hok d _ hfz
  obtain⟨o',es',ep',ho',hx,hd',hsz,hsy,get⟩:=entT okd
  rw [ho] at ho'
  cases ho'
  rw [hd] at hd'
  cases hd'
  obtain⟨f0,f1,f2,f3,f4,f5⟩:=hf it (by simp)
  obtain⟨b,_,_,ru⟩:=get i (by omega) kvs[i].1 kvs[i].2 (by rw [zA hi])
  rw [<-hsz] at st
  refine rawVal st ho hd (by omega) fun h' st' hs'=>?_
  have I1:Inv X pins σ H {s with heap:=h'}:=I.turned (t':=s.toks) (fun b ob hb e=>hs'.extBut b ob hb e) f0 f1 f3 f4 f5
  obtain⟨ob,e,c,dd⟩:=id st'
  exact⟨_,rfl,go_of (s:={s with heap:=h'}) e c dd (by decide) ⟨kvs[i].2,H,I1,ru,⟨rfl,kvs[i].1,zA hi⟩,by rw [<-hsz];exact st',fun b hb=>(hf b hb).1⟩⟩
 done:=by
  intro X hP hw hK hc i pins s σ H E I hf st hg
  subst hP hw hK
  obtain⟨hfz,hi⟩:=hg
  obtain⟨ho,okd⟩:=I.hok d _ hfz
  obtain⟨o',es',ep',ho',hx,hd',hsz,hsy,get⟩:=entT okd
  rw [ho] at ho'
  cases ho'
  rw [hd] at hd'
  cases hd'
  obtain⟨f0,f1,f2,f3,f4,f5⟩:=hf it (by simp)
  rw [<-hsz] at st
  exact rawValEnd (I.ok.hd hc) st ho hd (by omega) fun h' eb=>⟨rfl,I.turned (t':=s.toks) (fun b ob hb e=>eb b ob hb e) f0 f1 f3 f4 f5⟩
 self:=fun _ _ _ _ _ st h=>wpAny_pyIter_valiter st h
def rItVT (x:V) (H:Hp) (R:It->Hp->Prop):Prop:=∃v a kvs,x=.ref v/\H v=some (ValO v a)/\H a=some (.dT kvs)/\∀o,R (ItVT a o kvs) (upd H a (.frz o (.dT kvs)))
def iValsT (td:TE):TI:=fun σ H R=>td σ H fun x H1=>rItVT x H1 R
theorem pi_valsT {X:Cx} {tg l:Expr} {tl:TE} (hl:PE X l tl):PI X tg l (iValsT tl):=by
 intro pins s σ H R I h
 refine thn (hl pins s σ H _ I h) fun v s1 ⟨x,H1,I1,r1,q1⟩=>?_
 obtain⟨v,a,kvs,e,hv,ea,q⟩:=q1
 subst e
 cases r1
 obtain⟨o,es,ep,ho,hx,hd,hsz,hsy,get⟩:=entT (I1.hok a _ ea)
 obtain⟨hv1,_⟩:=I1.hok v _ hv
 refine rawViewIter hv1 ho hd ?_
 have I2:=Inv.freezeT I1 ea ho
 refine⟨s1.heap.objs.size, [s1.heap.objs.size],_,_,_,rfl,I2.kept (t':=s1.toks) fun b ob e=>Heap.get?_push_of_some _ e,turn_vT (kvs:=kvs) a _ hd,by rw [<-hsz];exact⟨_,Heap.get?_push_size _ rfl,rfl,rfl⟩,fun b hb=>?_,q o⟩
 have e:b=s1.heap.objs.size:=by simpa using hb
 subst e
 exact I2.fpOk (Nat.le_refl _) (I2.hok.fresh (Nat.le_refl _))
section
variable {X: Cx} {pins: List (Addr × Obj)} {σ: L2.St} {H H': Hp} {s: Shared} {a: Addr} {kvs: List (List Key × V)} {o: Obj}
theorem Inv.thawT (I:Inv X pins σ H s) (e:H a=some (.frz o (.dT kvs))) (n0:NoFrz X.H₀ a):Inv X pins σ (upd H a (.dT kvs)) s:=by
 have ne:∀b,H b=none->b≠a:=fun b q z=>by subst z;rw [e] at q;cases q
 have nk:∀b u,H b=some u->(∀o' u',u≠ .frz o' u')->b≠a:=fun b u q z w=>by subst w;rw [e] at q;cases q;exact z _ _ rfl
 refine⟨I.ok,I.os,I.bare,⟨I.base.keep,I.base.slot,fun b ob q n hx=>?_,I.base.there,fun b xs q=>?_,fun b ob u q=>?_,fun b ps q=>?_⟩,I.loc,I.cell,?_,fun x c q=>?_,fun p hp=>?_,fun b u q=>?_,I.len⟩
 .have z:=I.base.free b ob q n hx
  rw [qa7 (ne b z)];exact z
 .have z:=I.base.tups b xs q
  rw [qa7 (nk b _ z (by intro _ _ h;cases h))];exact z
 .have z:=I.base.frzs b ob u q
  rw [qa7 (fun w=>by subst w;exact n0 _ _ q)];exact z
 .obtain⟨m,z⟩:=I.base.tbls b ps q
  exact⟨m,by rw [qa7 (nk b _ z (by intro _ _ h;cases h))];exact z⟩
 .have z:=I.free
  rw [qa7 (ne _ z)];exact z
 .have z:=I.freeC x c q
  rw [qa7 (ne _ z)];exact z
 .obtain⟨p1,p2,p3⟩:=I.pin p hp
  exact⟨p1,by rw [qa7 (ne _ p2)];exact p2,p3⟩
 .by_cases hb:b=a
  .subst hb
   rw [qa2] at q
   cases q
   exact((I.hok b _ e).2).stay (fun _ _ _ r=>r) (fun c r=>by rw [qa7 (nk c _ r (by intro _ _ h;cases h))];exact r) fun c xs r=>by rw [qa7 (nk c _ r (by intro _ _ h;cases h))];exact r
  .rw [qa7 hb] at q
   exact(I.hok b u q).stay (fun _ _ _ r=>r) (fun c r=>by rw [qa7 (nk c _ r (by intro _ _ h;cases h))];exact r) fun c xs r=>by rw [qa7 (nk c _ r (by intro _ _ h;cases h))];exact r
def ThawT (H0 H H':Hp):Prop:=H'=H\/∃a o kvs,H a=some (.frz o (.dT kvs))/\NoFrz H0 a/\H'=upd H a (.dT kvs)
theorem Inv.thawedT (I:Inv X pins σ H s) (t:ThawT X.H₀ H H'):Inv X pins σ H' s:=by
 rcases t with rfl|⟨a,o,kvs,e,n,rfl⟩
 .exact I
 .exact Inv.thawT I e n
end
section
variable {X: Cx} {st: Stmt} {e: Expr} {t: TS} {te: TE}
def thET (H0:Hp) (D:Ends):Ends:={nx:=fun σ H=>∃H',ThawT H0 H H'/\D.nx σ H',rt:=fun v H=>∃H',ThawT H0 H H'/\D.rt v H',bk:=fun σ H=>∃H',ThawT H0 H H'/\D.bk σ H',ct:=fun σ H=>∃H',ThawT H0 H H'/\D.ct σ H'}
def tThAT (H0:Hp) (t:TS):TS:=fun D σ H=>t (thET H0 D) σ H
theorem ps_thAT (h:PS X st t):PS X st (tThAT X.H₀ t):=fun pins s σ H D I q=>thn (h pins s σ H _ I q) fun f s' hs=>by
 cases f with
 |next=>obtain⟨σ',H1,J,H2,th,q⟩:=hs;exact⟨σ',H2,Inv.thawedT J th,q⟩
 |brk=>obtain⟨σ',H1,J,H2,th,q⟩:=hs;exact⟨σ',H2,Inv.thawedT J th,q⟩
 |cont=>obtain⟨σ',H1,J,H2,th,q⟩:=hs;exact⟨σ',H2,Inv.thawedT J th,q⟩
 |ret u=>obtain⟨v,σ',H1,J,r,H2,th,q⟩:=hs;exact⟨v,σ',H2,Inv.thawedT J th,r,q⟩
def tThVT (H0:Hp) (t:TE):TE:=fun σ H Q=>t σ H fun v H1=>∃H',ThawT H0 H1 H'/\Q v H'
theorem pe_thVT (h:PE X e te):PE X e (tThVT X.H₀ te):=fun pins s σ H Q I q=>thn (h pins s σ H _ I q) fun u s' ⟨v,H1,J,r,H2,th,q⟩=>⟨v,H2,Inv.thawedT J th,r,q⟩
end
section
variable {σ: L2.St} {H H' H0: Hp} {D: Ends} {t: TS} {a: Addr} {o: Obj} {kvs: List (List Key × V)}
theorem r_thAT (h:t (thET H0 D) σ H):tThAT H0 t D σ H:=h
theorem r_thNxT (th:ThawT H0 H H') (h:D.nx σ H'):(thET H0 D).nx σ H:=⟨H',th,h⟩
theorem thawT1 (e:H a=some (.frz o (.dT kvs))) (n:NoFrz H0 a):ThawT H0 H (upd H a (.dT kvs)):=.inr ⟨a,o,kvs,e,n,rfl⟩
theorem qfu (e:H a=some (.dT kvs)):NoFrz H a:=fun o u z=>by rw [e] at z;cases z
end
def tLst0 (K:Frag):TE:=fun _ H Q=>∀p,H p=none->(∀a xs,SqL K H a xs->a≠p)->Q (.ref p) (upd H p (.lst []))
theorem pe_lst0 {X:Cx} {pos:Pos}:PE X (.List [] pos) (tLst0 X.K):=by
 intro pins s σ H Q I hq
 refine wpAny_List_spliced (thn (qa1 (X:=X) pos pins s σ H (fun xs H1=>xs=[]/\H1=H) I ⟨rfl,rfl⟩) fun us s1 ⟨xs,H1,I1,r,e1,e2⟩=>?_)
 subst e1 e2
 have hu:=r.zero
 subst hu
 refine⟨by show 0<=_;exact Nat.zero_le _,?_⟩
 have hf:H1 s1.heap.objs.size=none:=I1.hok.fresh (Nat.le_refl _)
 refine⟨.ref s1.heap.objs.size,upd H1 s1.heap.objs.size (.lst []),I1.laid (t':=s1.toks) (fun b u e=>Heap.get?_push_of_some _ e) (Nat.le_refl _) ?_,rfl,hq _ hf fun a xs hS=>?_⟩
 .exact⟨Nat.zero_le _, [],0,r,Heap.get?_push_size _ rfl⟩
 .obtain⟨its,rv,pl,hz⟩:=I1.list hS
  obtain⟨_,e,_⟩:=pl.isList
  exact Nat.ne_of_lt (Heap.lt_size e)
theorem r_lst0 {K:Frag} {σ:L2.St} {H:Hp} {Q:VK} (h:∀p,H p=none->(∀a xs,SqL K H a xs->a≠p)->Q (.ref p) (upd H p (.lst []))):tLst0 K σ H Q:=h
def ItE (K:Frag) (l:Addr) (xs:List V):It:=
 ⟨fun i H=>SqL K H l xs/\i < xs.length,fun i H v H'=>∃T x,H T=none/\xs[i]?=some x/\v=.ref T/\H'=upd H T (.tup [.int (i:Int),x]),fun i H=>SqL K H l xs/\xs.length<=i⟩
def ESt (e it l:Addr) (i:Nat) (h:Heap):Prop:=(∃old,IsEnum h e it ((i:Nat):Int) old)/\h.IsListIter it l i
theorem turn_enum {P:Program} {w:World} {K:Frag} {elts:List Expr} {kk:Nat} {tp:Pos} {e it l:Addr} (ne:e≠it) (xs:List V):
  Turn P w K (.Tuple elts kk tp) (ItE K l xs) [e,it] e (ESt e it l) where
 mem:=by simp
 obj:=fun i h st b hb=>by
  obtain⟨⟨old,he⟩,o1,e1,_,d1⟩:=st
  simp only [zK,yG,or_false] at hb
  rcases hb with rfl|rfl
  .exact⟨_,he,fun v q=>by have q':Data.fields _=Data.cell v:=q;cases q'⟩
  .exact⟨o1,e1,fun v q=>by rw [d1] at q;cases q⟩
 keep:=fun i h h' st k=>by
  obtain⟨⟨old,he⟩,h1⟩:=st
  exact⟨⟨old,k e (by simp) _ he⟩,h1.at fun o q=>k it (by simp) o q⟩
 item:=by
  intro X hP hw hK hc i pins s σ H E I hf st hg
  subst hP hw hK
  obtain⟨⟨old,he⟩,h1⟩:=st
  obtain⟨q1,g1⟩:=hg
  obtain⟨us,r1,p1,_⟩:=I.list q1
  obtain⟨u1,hu1,ru1⟩:=r1.get (zA g1)
  refine wpAny_pyNext_enum_item he h1 (PlainL.isList p1) (x:=u1) (by simpa using hu1) ne fun h' b1 b3 b5 b6 hk=>?_
  have hn:H s.heap.objs.size=none:=I.hok.fresh (Nat.le_refl _)
  have lt:∀{b:Addr} {o:Obj},s.heap.get? b=some o->b≠s.heap.objs.size:=fun e=>Nat.ne_of_lt (Heap.lt_size e)
  have nz:e≠s.heap.objs.size:=lt he
  have hg0:s.heap.get? s.heap.objs.size=none:=Heap.get?_none_of_le (Nat.le_refl _)
  have I1:Inv X pins σ (upd H s.heap.objs.size (.tup [.int (i:Int),xs[i]])) {s with heap:=h',toks:=s.toks+1}:=Inv.turnedT (t':=s.toks+1) (ch:=[e,it]) I
   (fun b hb=>hf b hb)
   (fun b o hb q=>hk b o (fun z=>hb (by simp [z])) (fun z=>hb (by simp [z])) q) hg0 hn
   ⟨by show 2<=16777216;decide, [.int (i:Int) s.toks,u1],.cons ⟨_,rfl⟩ (.cons ru1 .nil),⟨_,b5,rfl,_,rfl⟩⟩
  refine⟨.ref s.heap.objs.size,rfl,wpAny_letOwnedTupleGo_enum (s:={s with heap:=h',toks:=s.toks+1}) b1 fun h2' c1 hs2=>?_⟩
  have hfz:=hf e (by simp)
  have I2:Inv X pins σ (upd H s.heap.objs.size (.tup [.int (i:Int),xs[i]])) {s with heap:=h2',toks:=s.toks+1}:=I1.turned (t':=s.toks+1) (fun b o hb q=>(hs2.2 b hb).trans q) (by rw [qa7 nz];exact hfz.1) hfz.2.1 hfz.2.2.2.1 hfz.2.2.2.2.1 hfz.2.2.2.2.2
  refine⟨.ref s.heap.objs.size,_,I2,rfl,⟨s.heap.objs.size,xs[i],hn,zA g1,rfl,rfl⟩,
   ⟨⟨u1,by rw [show (((i+1:Nat)):Int)=(i:Int)+1 by omega];exact c1⟩,b3.extBut hs2.extBut ne.symm⟩,fun b hb=>?_⟩
  have q:b≠s.heap.objs.size:=by
   simp only [zK,yG,or_false] at hb
   obtain⟨o1,e1,_⟩:=h1
   rcases hb with rfl|rfl
   .exact nz
   .exact lt e1
  rw [qa7 q]
  exact(hf b hb).1
 done:=by
  intro X hP hw hK hc i pins s σ H E I hf st hg
  subst hP hw hK
  obtain⟨⟨old,he⟩,h1⟩:=st
  obtain⟨q1,g⟩:=hg
  obtain⟨us,r1,p1,_⟩:=I.list q1
  have l1:=r1.length
  exact wpAny_pyNext_enum_end (I.ok.hd hc) he h1 (PlainL.isList p1) (by simp;omega) fun h' hk=>
   ⟨rfl,Inv.turnedL (t':=s.toks) (ch:=[e,it]) I (fun b hb=>hf b hb)
    fun b o hb q=>hk b o (fun z=>hb (by simp [z])) q⟩
 self:=fun _ _ _ _ _ st h=>wpAny_pyIter_enum st.1.choose_spec h
def rItE (K:Frag) (vs:List V) (H:Hp) (R:It->Hp->Prop):Prop:=∃l xs,vs=[.ref l]/\SqL K H l xs/\R (ItE K l xs) H
def iEnum (K:Frag) (ta:TA):TI:=fun σ H R=>ta σ H fun vs H1=>rItE K vs H1 R
theorem boot_enum:bootBuiltins "enumerate" =some (.type "enumerate"):=by decide+kernel
theorem pi_enum {X:Cx} {elts:List Expr} {kk:Nat} {tp:Pos} {a:Expr} {ta:TA} {p pos:Pos} (hg:Gl X "enumerate") (hm:X.mg "enumerate" =none) (ha:PA X [a] ta) (hs:starEach [a] X.env=[(false,eval a X.env)]:=by rfl):
  PI X (.Tuple elts kk tp) (.Call (.Name "enumerate" p) [a] [] pos) (iEnum X.K ta):=by
 intro pins s σ H R I h
 refine Call_ (qe0 I hg hm boot_enum (PyProof.Rows.callWith_type1 (thn (ha pos pins s σ H _ I h) fun us s1 ⟨vs,H1,I1,r1,q1⟩=>?_) (by rw [hs];rfl) (by rfl)))
 obtain⟨l,xs,rfl,g1,q⟩:=q1
 cases r1 with
 |cons r rr=>
  cases rr
  cases r
  obtain⟨us,v1,p1,_⟩:=I1.list g1
  have t1:=PlainL.isList p1
  refine call_enumerate_list t1 fun h' he hit hsz hk=>?_
  have I2:Inv X pins σ H1 {s1 with heap:=h'}:=I1.kept (t':=s1.toks) fun b o e=>hk b o e
  refine wpAny_pyIter_enum (s:={s1 with heap:=h'}) he ?_
  refine⟨s1.heap.objs.size+1,_,_,_,H1,rfl,I2,turn_enum (Nat.succ_ne_self _) xs,⟨⟨_,he⟩,hit⟩,fun b hb=>?_,q⟩
  have le:s1.heap.objs.size<=b:=by
   simp only [zK,yG,or_false] at hb
   rcases hb with rfl|rfl <;> omega
  exact I1.fpOk le (I1.hok.fresh le)
section
variable {K: Frag} {σ: L2.St} {H: Hp} {ta: TA} {l: Addr} {xs: List V}
theorem r_iE {R:It->Hp->Prop} (h:ta σ H fun vs H1=>rItE K vs H1 R):iEnum K ta σ H R:=h
theorem r_itE {R:It->Hp->Prop} (e1:SqL K H l xs) (h:R (ItE K l xs) H):rItE K [.ref l] H R:=⟨l,xs,rfl,e1,h⟩
end
def COMP3 (J:It) (caps:List Nat) (g:TG) (tt:TT) (te:TE) (acc:Addr) (σ:L2.St) (H:Hp) (Q:VK):Prop:=∃W:Nat->Nat->Hp->Prop,(∃m,W 0 m H)/\∀i m H,W i m H->
 (J.stop i H/\Q (.ref acc) H)\/(J.go i H/\∃N:Hp->Prop,(∀H',N H'->∃m',m' < m/\W (i+1) m' H')/\∀v H',J.yld i H v H'->∀a b:Option V,g v (a :: b :: qat caps σ) H' fun σ2 H2=>(∃a b,σ2=a :: b :: qat caps σ)/\tt σ2 H2 fun b H3=>if b=true then te σ2 H3 fun y H4=>rApp acc N y H4 else N H3)
def tComp3 (wi:TI) (caps:List Nat) (g:CT TG) (tt:CT TT) (te:CT TE):TE:=fun σ H Q=>wi σ H fun J H1=>∀(C:Addr) (s:Shared) (H0:Hp) (fp:List Addr) (acc:Addr),H1 acc=none->COMP3 J caps (g C s H0 fp) (tt C s H0 fp) (te C s H0 fp) acc σ (upd H1 acc (.lst [])) Q
section
variable {X: Cx} {pins: List (Addr × Obj)} {σ: L2.St} {H: Hp} {s: Shared}
theorem Inv.comp3 {x x2:Str} {scope:Scope} {cl:List (Str × Addr)} {caps:List Nat} {cn:List Str} (Cp:Caps X x scope cl caps cn) (I:Inv X pins σ H s) {fp:List Addr} (hf:∀b∈fp,qf4 X pins H b) (hlt:∀b∈fp,b < s.heap.objs.size) {h₁:Heap} {t':Nat}
  (hns:h₁.Ns s.heap.objs.size (fun _=>none)) (k:∀b o,s.heap.get? b=some o->h₁.get? b=some o):
  Inv (cxC X (x :: x2 :: cn) scope cl s.heap.objs.size s H fp) [] (none :: none :: qat caps σ) H {s with heap:=h₁,toks:=t'}:=by
 have J:=Inv.comp Cp I hf hlt (t':=t') hns k
 have o:=J.ok
 refine⟨⟨o.mod,o.kind,o.glob,o.blt,o.above,o.inj,o.has,o.cab,o.hd,o.frames,o.stk,o.exf,o.bs,o.bsz,o.noex,o.exfs,o.funs,o.frf⟩,J.os,J.bare,J.base,?_,J.cell,J.free,J.freeC,J.pin,J.hok,?_⟩
 .obtain⟨m,hm,hl⟩:=J.loc
  refine⟨m,hm,fun i z v e1 e2 e3=>?_⟩
  match i with
  |0=>cases e2
  |1=>cases e2
  |i+2=>exact hl (i+1) z v (by simpa [cxC] using e1) (by simpa using e2) e3
 .show (none :: none :: qat caps σ).length=(x :: x2 :: cn).length
  rw [zP,zP,zP,zP]
  unfold qat
  rw [zB,Cp.len]
end
section
variable {X: Cx}
theorem pe_comp3 {elt iter tg:Expr} {x x2:Str} {ifs:List Expr} {scope:Scope} {cl:List (Str × Addr)} {pos:Pos} {caps:List Nat} {cn:List Str} {wi:TI} {g:CT TG} {tt:CT TT} {te:CT TE} (Cp:Caps X x scope cl caps cn) (hc:X.calm=true)
  (hi:PI X tg iter wi) (hg:∀C s H fp,PG (cxC X (x :: x2 :: cn) scope cl C s H fp) tg (g C s H fp)) (ht:∀C s H fp,PIfs (cxC X (x :: x2 :: cn) scope cl C s H fp) ifs (tt C s H fp)) (he:∀C s H fp,PE (cxC X (x :: x2 :: cn) scope cl C s H fp) elt (te C s H fp))
  (hs:∀x,foldedSetIterable iter X.env x=pure x:=by intro _;rfl):
  PE X (.ListComp elt [⟨tg,iter,ifs,0⟩] scope pos) (tComp3 wi caps g tt te):=by
 intro pins s σ H Q I h
 rw [eval_ListComp]
 refine wpAny_comprehension_free (use:=none) rfl hs Cp.clos Cp.kind Cp.names (thn (hi pins s σ H _ I h) fun v s1 h1=>thn h1 fun itv s2 h2=>?_)
 obtain⟨it,fp,tn,J,H2,e,I2,T,st2,f2,R⟩:=h2
 subst e
 have hacc:H2 s2.heap.objs.size=none:=I2.hok.fresh (Nat.le_refl _)
 refine wpAny_newObj_type ?_
 have I3:Inv X pins σ (upd H2 s2.heap.objs.size (.lst [])) {s2 with heap:=s2.heap.push {cls:=.type "list",dict:=none,data:=.seq ([]:List Value).toArray}}:=Inv.lnew (its:=[]) (t':=s2.toks) I2 .nil (Nat.zero_le _)
 have lt2:∀b∈fp,b < s2.heap.objs.size:=fun b hb=>let ⟨o,e,_⟩:=T.obj _ _ st2 b hb;Heap.lt_size e
 have f3:∀b∈fp,qf4 X pins (upd H2 s2.heap.objs.size (.lst [])) b:=fun b hb=>⟨by rw [qa7 (Nat.ne_of_lt (lt2 b hb))];exact(f2 b hb).1,(f2 b hb).2⟩
 have st3:tn 0 (s2.heap.push {cls:=.type "list",dict:=none,data:=.seq ([]:List Value).toArray}):=T.keep _ _ _ st2 fun b _ o e=>Heap.get?_push_of_some _ e
 generalize hs3:({s2 with heap:=s2.heap.push {cls:=.type "list",dict:=none,data:=.seq ([]:List Value).toArray}}:Shared)=s3 at I3 ⊢
 have st3':tn 0 s3.heap:=by rw [<-hs3];exact st3
 generalize s2.heap.objs.size=acc at hacc I3 f3 ⊢
 obtain⟨W,⟨m0,w0⟩,turn⟩:=R s3.heap.objs.size s3 (upd H2 acc (.lst [])) fp acc hacc
 have lt3:∀b∈fp,b < s3.heap.objs.size:=fun b hb=>let ⟨o,e,_⟩:=T.obj _ _ st3' b hb;Heap.lt_size e
 clear st3 hs3
 refine wpAny_newFunctionEnv Cp.cell (by intro y hy;simp at hy) (fun h₁ hns hsb=>?_) Cp.kind
 have k1:∀b o,s3.heap.get? b=some o->h₁.get? b=some o:=fun b o e=>hsb.extBut b o (Nat.ne_of_lt (Heap.lt_size e)) (Heap.get?_push_of_some _ e)
 have I4:Inv (cxC X (x :: x2 :: cn) scope cl s3.heap.objs.size s3 (upd H2 acc (.lst [])) fp) [] (none :: none :: qat caps σ) (upd H2 acc (.lst [])) {s3 with heap:=h₁,toks:=s3.toks+([]:List (Str × Value)).length}:=
  Inv.comp3 Cp I3 f3 lt3 hns k1
 have st4:tn 0 h₁:=T.keep _ _ _ st3' fun b _ o e=>k1 b o e
 generalize hX:cxC X (x :: x2 :: cn) scope cl s3.heap.objs.size s3 (upd H2 acc (.lst [])) fp=X' at I4
 have stat:∀{H':Hp},(∀b∈fp,H' b=none)->∀b∈fp,qf4 X' [] H' b:=fun hn b hb=>by
  subst hX
  obtain⟨g0,g1,g2,g3,g4,g5⟩:=f3 b hb
  refine⟨hn b hb,Nat.ne_of_lt (lt3 b hb),fun z=>?_,.inl hb,fun y c e=>g4 y c (Cp.sub y c e),fun p hp=>absurd (show p∈([]:List (Addr × Obj)) from hp) (by simp)⟩
  rcases zK.mp (I3.stkSub b z) with z|z
  .exact g1 z
  .exact g2 z
 have core:codeAny (model X.prog X.w) X.A (.compLoop (.ListComp elt [⟨tg,iter,ifs,0⟩] scope pos) 0 (.ref it) (.ref acc) (compEnvC scope cl s3.heap.objs.size X.env))
   (compPost (model X.prog X.w) X.A X.xe none (EP X pins σ Q) (.ref acc) s3.heap.objs.size) {s3 with heap:=h₁,toks:=s3.toks+([]:List (Str × Value)).length}:=by
  refine codeAny_loop rfl (fun n s'=>∃i a b H',Inv X' [] (a :: b :: qat caps σ) H' s'/\tn i s'.heap/\(∀b∈fp,H' b=none)/\W i n H') (fun n s5 hI=>?_) m0 ⟨0,none,none,_,I4,st4,fun b hb=>(f3 b hb).1,w0⟩
  obtain⟨i,a0,b0,H5,I5,st5,fr5,w5⟩:=hI
  show wpAny _ _ ((compTurn _ 0 _ _ _).onRaise _) _ _ s5
  refine wpAny_noted ?_
  rw [compTurn_list]
  refine wpAny_bind (wpAny_standAt (wpAny_bind ?_))
  have aX:X'.A=X.A:=by subst hX;rfl
  have pX:X'.prog=X.prog:=by subst hX;rfl
  have wX:X'.w=X.w:=by subst hX;rfl
  have kX:X'.K=X.K:=by subst hX;rfl
  have cX:X'.calm=true:=by subst hX;exact hc
  have eX:X'.env=compEnvC scope cl s3.heap.objs.size X.env:=by subst hX;rfl
  rcases turn i n H5 w5 with ⟨stop,qn⟩ |⟨go,N,hN,step⟩
  .have z:=T.done X' pX wX kX cX i [] s5 _ H5 (fun _ _=>False) I5 (stat fr5) st5 stop
   rw [aX] at z
   refine wpAny_mono z (fun r s6 ⟨hr,I6⟩=>?_) fun _ _ q=>q.elim
   subst hr
   subst hX
   obtain⟨m,hm,_⟩:=id I6.loc
   exact wpAny_pure ⟨m,hm,fun h' sb=>⟨.ref acc,H5,Inv.uncomp I3 f3 rfl I6 sb,rfl,qn⟩⟩
  .have z:=T.item X' pX wX kX cX i [] s5 _ H5 (fun _ _=>False) I5 (stat fr5) st5 go
   rw [aX] at z
   refine wpAny_mono z (fun r s6 ⟨u,hr,h6⟩=>?_) fun _ _ q=>q.elim
   subst hr
   refine wpAny_bind (wpAny_mono h6 (fun _ s7 ⟨v,H7,I7,r7,y7,st7,fr7⟩=>?_) fun _ _ q=>q.elim)
   have I7':=I7.pinned (stat fr7) (T.obj _ _ st7)
   have asg:wpAny (model X.prog X.w) X.A (assign tg (compEnvC scope cl s3.heap.objs.size X.env) u) (fun _ s8=>∃σ8 H8,Inv X' ([]++qbl fp s7.heap) σ8 H8 s8/\(∃a b,σ8=a :: b :: qat caps σ)/\tt s3.heap.objs.size s3 (upd H2 acc (.lst [])) fp σ8 H8 fun b H9=>if b=true then te s3.heap.objs.size s3 (upd H2 acc (.lst [])) fp σ8 H9 (fun y H3=>rApp acc N y H3) else N H9) (fun _ _=>False) s7:=by
    subst hX
    exact hg _ _ _ _ _ s7 _ H7 v u _ I7' r7 (step v H7 y7 a0 b0)
   refine wpAny_bind (wpAny_mono asg (fun _ s8 ⟨σ8,H8,I8,⟨a8,b8,e8⟩,q8⟩=>?_) fun _ _ q=>q.elim)
   have tst:wpAny (model X.prog X.w) X.A (forIn ifs true fun c r=>if r=true then do let ok<-isTrue c (compEnvC scope cl s3.heap.objs.size X.env) (eval c (compEnvC scope cl s3.heap.objs.size X.env));pure (ForInStep.yield ok) else pure (ForInStep.yield r))
     (TP X' ([]++qbl fp s7.heap) σ8 (fun b H9=>if b=true then te s3.heap.objs.size s3 (upd H2 acc (.lst [])) fp σ8 H9 (fun y H3=>rApp acc N y H3) else N H9)) (fun _ _=>False) s8:=by
    subst hX
    exact ht _ _ _ _ _ s8 _ H8 _ I8 q8
   refine wpAny_bind (wpAny_mono tst (fun b s9 ⟨H9,I9,q9⟩=>?_) fun _ _ q=>q.elim)
   have fin:∀{a b:Option V} {H10:Hp} {s10:Shared},Inv X' ([]++qbl fp s7.heap) (a :: b :: qat caps σ) H10 s10->N H10->∃m',m' < n/\∃i a b H',Inv X' [] (a :: b :: qat caps σ) H' s10/\tn i s10.heap/\(∀b∈fp,H' b=none)/\W i m' H':=fun {a b H10 s10} I10 n10=>
    let ⟨m',hm,w10⟩:=hN _ n10
    ⟨m',hm,i+1,a,b,H10,I10.unpinned,T.keep _ _ _ st7 fun b hb o e=>(I10.pin (b,o) (zJ _ (zJ _ (qbi hb e)))).1,fun b hb=>by
     obtain⟨o,e,d⟩:=T.obj _ _ st7 b hb
     exact(I10.pin (b,o) (zJ _ (zJ _ (qbi hb e)))).2.1,w10⟩
   cases b with
   |false=>subst e8;exact wpAny_pure ⟨rfl,fin I9 q9⟩
   |true=>
    have elt':wpAny (model X.prog X.w) X.A (eval elt (compEnvC scope cl s3.heap.objs.size X.env)) (EP X' ([]++qbl fp s7.heap) σ8 (fun y H3=>rApp acc N y H3)) (fun _ _=>False) s9:=by
     subst hX
     exact he _ _ _ _ _ s9 _ H9 _ I9 q9
    refine wpAny_bind (wpAny_bind (wpAny_mono elt' (fun y s10 ⟨w,H10,I10,r10,ys,ha,hz,q10⟩=>?_) fun _ _ q=>q.elim))
    have app:wpAny (model X.prog X.w) X.A (call (.builtin "list.append") [.ref acc,y]) (EP X' ([]++qbl fp s7.heap) σ8 fun _ H11=>H11=upd H10 acc (.lst (ys++ [w]))) (fun _ _=>False) s10:=by
     subst hX
     exact qb9 (X:=cxC X (x :: x2 :: cn) scope cl s3.heap.objs.size s3 (upd H2 acc (.lst [])) fp) _ s10 _ H10 (.ref acc) [w] (.ref acc) [y] _ I10 rfl (.cons r10 .nil) ⟨acc,ys,w,rfl,rfl,ha,hz,rfl⟩
    refine wpAny_bind (wpAny_mono app (fun _ s11 ⟨_,H11,I11,_,e11⟩=>?_) fun _ _ q=>q.elim)
    subst e11
    subst e8
    exact wpAny_pure (wpAny_pure ⟨rfl,fin I11 q10⟩)
 exact codeAny_compStart_list core (T.self _ 0 _ _ _ st4 core)
theorem ps_comp3 {elt iter tg:Expr} {x x2 y:Str} {py:Pos} {ifs:List Expr} {scope:Scope} {cl:List (Str × Addr)} {pos spos:Pos} {caps:List Nat} {cn:List Str} {wi:TI} {g:CT TG} {tt:CT TT} {te:CT TE} {j:Nat} (Cp:Caps X x scope cl caps cn) (hc:X.calm=true)
  (hN:X.N.Nodup) (hy:X.N[j]?=some y) (hly:X.env.scope.names.lookup y=some .local)
  (hi:PI X tg iter wi) (hg:∀C s H fp,PG (cxC X (x :: x2 :: cn) scope cl C s H fp) tg (g C s H fp)) (ht:∀C s H fp,PIfs (cxC X (x :: x2 :: cn) scope cl C s H fp) ifs (tt C s H fp)) (he:∀C s H fp,PE (cxC X (x :: x2 :: cn) scope cl C s H fp) elt (te C s H fp))
  (hsw:swapsWith (.ListComp elt [⟨tg,iter,ifs,0⟩] scope pos) (some (.Name y py)) spos.line X.env=pure true:=by rfl) (hs:∀x,foldedSetIterable iter X.env x=pure x:=by intro _;rfl):
  PS X (.Assign [.Name y py] (.ListComp elt [⟨tg,iter,ifs,0⟩] scope pos) spos) (tAsg (tComp3 wi caps g tt te) (qfz j)):=by
 intro pins s σ H D I h
 replace h:tComp3 wi caps g tt te σ H (fun v H1=>D.nx (σ.set j (some v)) H1):=h
 rw [exec_Assign_Name_used _ _ _ _ hsw]
 refine wpAny_bind (wpAny_standAt (wpAny_bind ?_))
 show wpAny _ X.A (do let _<-comprehension (.ListComp elt [⟨tg,iter,ifs,0⟩] scope pos) scope X.env _ (newList []) false (eval iter X.env) (some (assign (.Name y py) X.env))) _ _ s
 refine wpAny_bind (wpAny_mono (wpAny_comprehension_free (use:=some (assign (.Name y py) X.env)) (Q:=fun _ s'=>SP X pins D .next s') rfl hs Cp.clos Cp.kind Cp.names
  (thn (hi pins s σ H _ I h) fun v s1 h1=>thn h1 fun itv s2 h2=>?_)) (fun _ s' hq=>wpAny_pure (wpAny_pure hq)) fun _ _ e=>e)
 obtain⟨it,fp,tn,J,H2,e,I2,T,st2,f2,R⟩:=h2
 subst e
 have hacc:H2 s2.heap.objs.size=none:=I2.hok.fresh (Nat.le_refl _)
 refine wpAny_newObj_type ?_
 have I3:Inv X pins σ (upd H2 s2.heap.objs.size (.lst [])) {s2 with heap:=s2.heap.push {cls:=.type "list",dict:=none,data:=.seq ([]:List Value).toArray}}:=Inv.lnew (its:=[]) (t':=s2.toks) I2 .nil (Nat.zero_le _)
 have lt2:∀b∈fp,b < s2.heap.objs.size:=fun b hb=>let ⟨o,e,_⟩:=T.obj _ _ st2 b hb;Heap.lt_size e
 have f3:∀b∈fp,qf4 X pins (upd H2 s2.heap.objs.size (.lst [])) b:=fun b hb=>⟨by rw [qa7 (Nat.ne_of_lt (lt2 b hb))];exact(f2 b hb).1,(f2 b hb).2⟩
 have st3:tn 0 (s2.heap.push {cls:=.type "list",dict:=none,data:=.seq ([]:List Value).toArray}):=T.keep _ _ _ st2 fun b _ o e=>Heap.get?_push_of_some _ e
 generalize hs3:({s2 with heap:=s2.heap.push {cls:=.type "list",dict:=none,data:=.seq ([]:List Value).toArray}}:Shared)=s3 at I3 ⊢
 have st3':tn 0 s3.heap:=by rw [<-hs3];exact st3
 generalize s2.heap.objs.size=acc at hacc I3 f3 ⊢
 obtain⟨W,⟨m0,w0⟩,turn⟩:=R s3.heap.objs.size s3 (upd H2 acc (.lst [])) fp acc hacc
 have lt3:∀b∈fp,b < s3.heap.objs.size:=fun b hb=>let ⟨o,e,_⟩:=T.obj _ _ st3' b hb;Heap.lt_size e
 clear st3 hs3
 refine wpAny_newFunctionEnv Cp.cell (by intro y hy;simp at hy) (fun h₁ hns hsb=>?_) Cp.kind
 have k1:∀b o,s3.heap.get? b=some o->h₁.get? b=some o:=fun b o e=>hsb.extBut b o (Nat.ne_of_lt (Heap.lt_size e)) (Heap.get?_push_of_some _ e)
 have I4:Inv (cxC X (x :: x2 :: cn) scope cl s3.heap.objs.size s3 (upd H2 acc (.lst [])) fp) [] (none :: none :: qat caps σ) (upd H2 acc (.lst [])) {s3 with heap:=h₁,toks:=s3.toks+([]:List (Str × Value)).length}:=
  Inv.comp3 Cp I3 f3 lt3 hns k1
 have st4:tn 0 h₁:=T.keep _ _ _ st3' fun b _ o e=>k1 b o e
 generalize hX:cxC X (x :: x2 :: cn) scope cl s3.heap.objs.size s3 (upd H2 acc (.lst [])) fp=X' at I4
 have stat:∀{H':Hp},(∀b∈fp,H' b=none)->∀b∈fp,qf4 X' [] H' b:=fun hn b hb=>by
  subst hX
  obtain⟨g0,g1,g2,g3,g4,g5⟩:=f3 b hb
  refine⟨hn b hb,Nat.ne_of_lt (lt3 b hb),fun z=>?_,.inl hb,fun y c e=>g4 y c (Cp.sub y c e),fun p hp=>absurd (show p∈([]:List (Addr × Obj)) from hp) (by simp)⟩
  rcases zK.mp (I3.stkSub b z) with z|z
  .exact g1 z
  .exact g2 z
 have core:codeAny (model X.prog X.w) X.A (.compLoop (.ListComp elt [⟨tg,iter,ifs,0⟩] scope pos) 0 (.ref it) (.ref acc) (compEnvC scope cl s3.heap.objs.size X.env))
   (compPost (model X.prog X.w) X.A X.xe (some (assign (.Name y py) X.env)) (fun _ s'=>SP X pins D .next s') (.ref acc) s3.heap.objs.size) {s3 with heap:=h₁,toks:=s3.toks+([]:List (Str × Value)).length}:=by
  refine codeAny_loop rfl (fun n s'=>∃i a b H',Inv X' [] (a :: b :: qat caps σ) H' s'/\tn i s'.heap/\(∀b∈fp,H' b=none)/\W i n H') (fun n s5 hI=>?_) m0 ⟨0,none,none,_,I4,st4,fun b hb=>(f3 b hb).1,w0⟩
  obtain⟨i,a0,b0,H5,I5,st5,fr5,w5⟩:=hI
  show wpAny _ _ ((compTurn _ 0 _ _ _).onRaise _) _ _ s5
  refine wpAny_noted ?_
  rw [compTurn_list]
  refine wpAny_bind (wpAny_standAt (wpAny_bind ?_))
  have aX:X'.A=X.A:=by subst hX;rfl
  have pX:X'.prog=X.prog:=by subst hX;rfl
  have wX:X'.w=X.w:=by subst hX;rfl
  have kX:X'.K=X.K:=by subst hX;rfl
  have cX:X'.calm=true:=by subst hX;exact hc
  have eX:X'.env=compEnvC scope cl s3.heap.objs.size X.env:=by subst hX;rfl
  rcases turn i n H5 w5 with ⟨stop,qn⟩ |⟨go,N,hN,step⟩
  .have z:=T.done X' pX wX kX cX i [] s5 _ H5 (fun _ _=>False) I5 (stat fr5) st5 stop
   rw [aX] at z
   refine wpAny_mono z (fun r s6 ⟨hr,I6⟩=>?_) fun _ _ q=>q.elim
   subst hr
   subst hX
   obtain⟨m,hm,_⟩:=id I6.loc
   have J0:Inv X pins σ H5 s6:=Inv.uncomp I3 f3 rfl I6 (h':=s6.heap) ⟨rfl,fun _ _=>rfl⟩
   have fC:qf4 X pins H5 s3.heap.objs.size:=I3.fpOk (Nat.le_refl _) I6.free
   refine wpAny_pure ?_
   show wpAny _ X.A (assign (.Name y py) X.env (.ref acc)) _ _ s6
   refine wpAny_assign_Name (qen (X:=X) (v:=.ref acc) J0 hN hy (.inl hly) rfl (fun s7 I7 ⟨a,sb,ha⟩=>?_) (.inr hly))
   have nC:s3.heap.objs.size≠a:=by
    rcases ha with rfl|ha
    .exact fC.2.1
    .exact(fC.2.2.2.2.1 y a ha).symm
   refine⟨m,hm.sameBut sb nC,fun h' sb'=>⟨_,H5,?_,qn⟩⟩
   exact I7.turned (t':=s7.toks) (fun b o hb e=>(sb'.2 b hb).trans e) fC.1 fC.2.1 fC.2.2.2.1 fC.2.2.2.2.1 fC.2.2.2.2.2
  .have z:=T.item X' pX wX kX cX i [] s5 _ H5 (fun _ _=>False) I5 (stat fr5) st5 go
   rw [aX] at z
   refine wpAny_mono z (fun r s6 ⟨u,hr,h6⟩=>?_) fun _ _ q=>q.elim
   subst hr
   refine wpAny_bind (wpAny_mono h6 (fun _ s7 ⟨v,H7,I7,r7,y7,st7,fr7⟩=>?_) fun _ _ q=>q.elim)
   have I7':=I7.pinned (stat fr7) (T.obj _ _ st7)
   have asg:wpAny (model X.prog X.w) X.A (assign tg (compEnvC scope cl s3.heap.objs.size X.env) u) (fun _ s8=>∃σ8 H8,Inv X' ([]++qbl fp s7.heap) σ8 H8 s8/\(∃a b,σ8=a :: b :: qat caps σ)/\tt s3.heap.objs.size s3 (upd H2 acc (.lst [])) fp σ8 H8 fun b H9=>if b=true then te s3.heap.objs.size s3 (upd H2 acc (.lst [])) fp σ8 H9 (fun y H3=>rApp acc N y H3) else N H9) (fun _ _=>False) s7:=by
    subst hX
    exact hg _ _ _ _ _ s7 _ H7 v u _ I7' r7 (step v H7 y7 a0 b0)
   refine wpAny_bind (wpAny_mono asg (fun _ s8 ⟨σ8,H8,I8,⟨a8,b8,e8⟩,q8⟩=>?_) fun _ _ q=>q.elim)
   have tst:wpAny (model X.prog X.w) X.A (forIn ifs true fun c r=>if r=true then do let ok<-isTrue c (compEnvC scope cl s3.heap.objs.size X.env) (eval c (compEnvC scope cl s3.heap.objs.size X.env));pure (ForInStep.yield ok) else pure (ForInStep.yield r))
     (TP X' ([]++qbl fp s7.heap) σ8 (fun b H9=>if b=true then te s3.heap.objs.size s3 (upd H2 acc (.lst [])) fp σ8 H9 (fun y H3=>rApp acc N y H3) else N H9)) (fun _ _=>False) s8:=by
    subst hX
    exact ht _ _ _ _ _ s8 _ H8 _ I8 q8
   refine wpAny_bind (wpAny_mono tst (fun b s9 ⟨H9,I9,q9⟩=>?_) fun _ _ q=>q.elim)
   have fin:∀{a b:Option V} {H10:Hp} {s10:Shared},Inv X' ([]++qbl fp s7.heap) (a :: b :: qat caps σ) H10 s10->N H10->∃m',m' < n/\∃i a b H',Inv X' [] (a :: b :: qat caps σ) H' s10/\tn i s10.heap/\(∀b∈fp,H' b=none)/\W i m' H':=fun {a b H10 s10} I10 n10=>
    let ⟨m',hm,w10⟩:=hN _ n10
    ⟨m',hm,i+1,a,b,H10,I10.unpinned,T.keep _ _ _ st7 fun b hb o e=>(I10.pin (b,o) (zJ _ (zJ _ (qbi hb e)))).1,fun b hb=>by
     obtain⟨o,e,d⟩:=T.obj _ _ st7 b hb
     exact(I10.pin (b,o) (zJ _ (zJ _ (qbi hb e)))).2.1,w10⟩
   cases b with
   |false=>subst e8;exact wpAny_pure ⟨rfl,fin I9 q9⟩
   |true=>
    have elt':wpAny (model X.prog X.w) X.A (eval elt (compEnvC scope cl s3.heap.objs.size X.env)) (EP X' ([]++qbl fp s7.heap) σ8 (fun y H3=>rApp acc N y H3)) (fun _ _=>False) s9:=by
     subst hX
     exact he _ _ _ _ _ s9 _ H9 _ I9 q9
    refine wpAny_bind (wpAny_bind (wpAny_mono elt' (fun y s10 ⟨w,H10,I10,r10,ys,ha,hz,q10⟩=>?_) fun _ _ q=>q.elim))
    have app:wpAny (model X.prog X.w) X.A (call (.builtin "list.append") [.ref acc,y]) (EP X' ([]++qbl fp s7.heap) σ8 fun _ H11=>H11=upd H10 acc (.lst (ys++ [w]))) (fun _ _=>False) s10:=by
     subst hX
     exact qb9 (X:=cxC X (x :: x2 :: cn) scope cl s3.heap.objs.size s3 (upd H2 acc (.lst [])) fp) _ s10 _ H10 (.ref acc) [w] (.ref acc) [y] _ I10 rfl (.cons r10 .nil) ⟨acc,ys,w,rfl,rfl,ha,hz,rfl⟩
    refine wpAny_bind (wpAny_mono app (fun _ s11 ⟨_,H11,I11,_,e11⟩=>?_) fun _ _ q=>q.elim)
    subst e11
    subst e8
    exact wpAny_pure (wpAny_pure ⟨rfl,fin I11 q10⟩)
 exact codeAny_compStart_list core (T.self _ 0 _ _ _ st4 core)
end
section
variable {σ: L2.St} {H: Hp} {Q: VK}
theorem r_comp3 {wi:TI} {caps:List Nat} {g:CT TG} {tt:CT TT} {te:CT TE} (h:wi σ H fun J H1=>∀(C:Addr) (s:Shared) (H0:Hp) (fp:List Addr) (acc:Addr),H1 acc=none->COMP3 J caps (g C s H0 fp) (tt C s H0 fp) (te C s H0 fp) acc σ (upd H1 acc (.lst [])) Q):tComp3 wi caps g tt te σ H Q:=h
theorem c3_by {J:It} {caps:List Nat} {g:TG} {tt:TT} {te:TE} {acc:Addr} (n:Nat) (Pv:Nat->Hp->Prop) (h0:Pv 0 H) (hgo:∀i H,i < n->Pv i H->J.go i H) (hst:∀H,Pv n H->J.stop n H)
  (hs:∀i H v H' (a b:Option V),i < n->Pv i H->J.yld i H v H'->g v (a :: b :: qat caps σ) H' fun σ2 H2=>(∃a b,σ2=a :: b :: qat caps σ)/\tt σ2 H2 fun b H3=>if b=true then te σ2 H3 fun y H4=>rApp acc (Pv (i+1)) y H4 else Pv (i+1) H3)
  (hd:∀H,Pv n H->Q (.ref acc) H):COMP3 J caps g tt te acc σ H Q:=by
 refine⟨fun i m H=>m=n - i/\i<=n/\Pv i H,⟨n,rfl,Nat.zero_le _,h0⟩,?_⟩
 rintro i m H ⟨rfl,hi,p⟩
 by_cases hlt:i < n
 .exact .inr ⟨hgo i H hlt p,Pv (i+1),fun H' p'=>⟨n - (i+1),by omega,rfl,hlt,p'⟩,fun v H' y a b=>hs i H v H' a b hlt p y⟩
 .have e:i=n:=by omega
  subst e
  exact .inl ⟨hst H p,hd H p⟩
end
end My
set_option maxHeartbeats 4000000
set_option exponentiation.threshold 1000
namespace Our
open PySem L2 My
def top (i:Nat):PySem.Stmt:=PySem.Challenge.pw_quotatree_k41_left_over_and_room.main.body.getD i (.Pass ⟨0,0,0,0⟩)
def qce:PySem.Stmt->Nat->PySem.Stmt
 | .ClassDef _ _ _ body _ _ _ _ _ _ _,j=>body.getD j (.Pass ⟨0,0,0,0⟩)
 |s,_=>s
abbrev s_is_whole:PySem.Stmt:=top 15
abbrev s_is_name:PySem.Stmt:=top 16
abbrev s_is_whole_from:PySem.Stmt:=top 17
abbrev s_is_amount:PySem.Stmt:=top 19
abbrev s_amounts_of:PySem.Stmt:=top 20
abbrev s_above_nought:PySem.Stmt:=top 21
abbrev s_amount_of:PySem.Stmt:=top 22
abbrev s_added:PySem.Stmt:=top 23
abbrev s_beyond:PySem.Stmt:=top 24
abbrev s_total_of:PySem.Stmt:=top 25
abbrev s_holds_beneath:PySem.Stmt:=top 29
abbrev s_held_by:PySem.Stmt:=top 30
abbrev s_taking:PySem.Stmt:=top 32
abbrev s_used:PySem.Stmt:=top 33
abbrev s_fixed:PySem.Stmt:=top 34
abbrev s_rooms_left:PySem.Stmt:=top 35
abbrev s_first_lack:PySem.Stmt:=top 36
abbrev s_roomy:PySem.Stmt:=top 38
abbrev s_parts_at:PySem.Stmt:=top 39
abbrev s_first_beyond:PySem.Stmt:=top 40
abbrev s_claims:PySem.Stmt:=top 41
abbrev s_left_over:PySem.Stmt:=top 42
abbrev s_is_claims:PySem.Stmt:=top 43
abbrev s_are_wares:PySem.Stmt:=top 50
abbrev s_check_name:PySem.Stmt:=top 51
abbrev s_read_house:PySem.Stmt:=top 52
abbrev s_check_promises:PySem.Stmt:=top 53
abbrev s_cell:PySem.Stmt:=top 56
abbrev s_mix:PySem.Stmt:=top 57
abbrev s_name:PySem.Stmt:=top 58
abbrev s_lines:PySem.Stmt:=top 59
abbrev s_parts:PySem.Stmt:=top 60
abbrev s_rows:PySem.Stmt:=top 61
abbrev s_ends:PySem.Stmt:=top 62
abbrev s_sum:PySem.Stmt:=top 63
abbrev s_caps:PySem.Stmt:=top 64
abbrev s_world:PySem.Stmt:=top 65
abbrev s_told:PySem.Stmt:=top 66
abbrev s_promises:PySem.Stmt:=top 67
abbrev s_tree:PySem.Stmt:=top 68
abbrev s_objects:PySem.Stmt:=top 69
abbrev s_stay_so:PySem.Stmt:=top 70
abbrev s_short:PySem.Stmt:=top 71
abbrev s_drawn:PySem.Stmt:=top 72
abbrev s_room_told:PySem.Stmt:=top 73
abbrev s_refused:PySem.Stmt:=top 74
abbrev s_law:PySem.Stmt:=top 75
abbrev s_House_init:PySem.Stmt:=qce (top 49) 0
abbrev s_Tree_init:PySem.Stmt:=qce (top 54) 0
abbrev s_Tree_found:PySem.Stmt:=qce (top 54) 1
abbrev s_Tree_wares:PySem.Stmt:=qce (top 54) 2
abbrev s_Tree_names:PySem.Stmt:=qce (top 54) 3
abbrev s_Tree_has:PySem.Stmt:=qce (top 54) 4
abbrev s_Tree_check_house:PySem.Stmt:=qce (top 54) 5
abbrev s_Tree_house_of:PySem.Stmt:=qce (top 54) 6
abbrev s_Tree_elder_of:PySem.Stmt:=qce (top 54) 7
abbrev s_Tree_cap_of:PySem.Stmt:=qce (top 54) 9
abbrev s_Tree_kids:PySem.Stmt:=qce (top 54) 11
abbrev s_Tree_line:PySem.Stmt:=qce (top 54) 12
abbrev s_Tree_beneath:PySem.Stmt:=qce (top 54) 13
abbrev s_Tree_promised_beneath:PySem.Stmt:=qce (top 54) 14
abbrev s_Tree_check_more:PySem.Stmt:=qce (top 54) 16
abbrev s_Hold_init:PySem.Stmt:=qce (top 27) 0
abbrev s_Hold_is_sure:PySem.Stmt:=qce (top 27) 1
abbrev s_Hold_may_end:PySem.Stmt:=qce (top 27) 2
abbrev s_Hold_told:PySem.Stmt:=qce (top 27) 3
abbrev s_Loan_is_sure:PySem.Stmt:=qce (top 28) 0
abbrev s_Loan_may_end:PySem.Stmt:=qce (top 28) 1
abbrev s_i_NoPromise:PySem.Stmt:=qce (top 11) 0
set_option genSizeOf false in
set_option genInjectivity false in
structure Ad where
 w70:Addr
 w64:FuncData
 w88:Addr
 w74:FuncData
 w3c:Addr
 w2m:FuncData
 w66:Addr
 w56:FuncData
 w5l:Addr
 w4f:FuncData
 w3v:Addr
 w3m:FuncData
 w6h:Addr
 w5m:FuncData
 wcj:Addr
 waq:FuncData
 way:Addr
 w8y:FuncData
 w7b:Addr
 w5z:FuncData
 w39:Addr
 w2u:FuncData
 w8z:Addr
 w6z:FuncData
 waj:Addr
 w8g:FuncData
 wel:Addr
 wc8:FuncData
 wce:Addr
 wak:FuncData
 w4y:Addr
 w4a:FuncData
 w5i:Addr
 w4q:FuncData
 wcu:Addr
 wa8:FuncData
 w6y:Addr
 w5y:FuncData
 w3w:Addr
 w32:FuncData
 waw:Addr
 w9c:FuncData
 w68:Addr
 w5k:FuncData
 w63:Addr
 w5c:FuncData
 w6c:Addr
 w5d:FuncData
 w5h:Addr
 w4j:FuncData
 w54:Addr
 w4i:FuncData
 w2q:Addr
 w2b:FuncData
 wem:Addr
 wdd:FuncData
 wgv:Addr
 wed:FuncData
 wec:Addr
 wcv:FuncData
 wd1:Addr
 wad:FuncData
 wca:Addr
 wax:FuncData
 web:Addr
 wcp:FuncData
 wfe:Addr
 wci:FuncData
 wgy:Addr
 wew:FuncData
 wej:Addr
 wcw:FuncData
 wd6:Addr
 wan:FuncData
 wfc:Addr
 wde:FuncData
 w78:Addr
 w61:FuncData
 wfh:Addr
 wcy:FuncData
 w8b:Addr
 w71:FuncData
 w9b:Addr
 w79:FuncData
 wd8:Addr
 wae:FuncData
 wcn:Addr
 wah:FuncData
 w60:Addr
 w5e:FuncData
 w94:Addr
 w72:FuncData
 wd7:Addr
 wbb:FuncData
 w59:Addr
 w4m:FuncData
 w65:Addr
 w3r:FuncData
 wch:Addr
 w0t:Value
 w50:Addr
 w2y:FuncData
 wbq:Addr
 w0k:Value
 w7g:Addr
 w6l:FuncData
 w7x:Addr
 w6o:FuncData
 w75:Addr
 w6g:FuncData
 w22:Addr
 w1m:FuncData
 w35:Addr
 w2v:FuncData
 w3n:Addr
 w2n:FuncData
 w4r:Addr
 w3s:FuncData
 w67:Addr
 w52:FuncData
 w6f:Addr
 w5p:FuncData
 w0w:Addr
 w0n:FuncData
 w0v:Addr
 w0r:FuncData
 w2c:Addr
 w20:FuncData
 w4c:Addr
 w4z:FuncData
 w3z:Addr
 w3g:FuncData
 w3t:Addr
 w3a:FuncData
 w4b:Addr
 w5a:FuncData
 w41:Addr
 w3l:FuncData
 w3y:Addr
 w37:FuncData
 w4t:Addr
 w40:FuncData
 w03:Addr
 w00:Addr
 w0c:Addr
 w0b:Addr
 w4d:Addr
 w5s:Addr
 w77:Addr
 w04:Addr
 w1n:Addr
 w5t:Addr
 w31:Addr
 w30:Addr
 w47:Addr
 w42:Addr
 w45:Value
 w0z:Value
 w1r:Value
 w1c:Value
 w0y:Value
 w0d:Value
structure Tx (K:Frag) (mg:Str->Option Value) (d:Ad):Prop where
 wa3:Fun K "is_whole" "is_whole" s_is_whole d.w70 d.w64
 wds:mg "is_whole" =some (.ref d.w70)
 wdx:qam K d.w64 ["thing"] []
 w8o:Fun K "is_name" "is_name" s_is_name d.w88 d.w74
 wbp:mg "is_name" =some (.ref d.w88)
 wbi:qam K d.w74 ["thing"] []
 w36:Fun K "is_whole_from" "is_whole_from" s_is_whole_from d.w3c d.w2m
 w5f:mg "is_whole_from" =some (.ref d.w3c)
 w4x:qam K d.w2m ["thing","least","most"] []
 w99:Fun K "is_amount" "is_amount" s_is_amount d.w66 d.w56
 wda:mg "is_amount" =some (.ref d.w66)
 wd3:qam K d.w56 ["thing"] []
 w58:Fun K "amounts_of" "amounts_of" s_amounts_of d.w5l d.w4f
 w7e:mg "amounts_of" =some (.ref d.w5l)
 w7y:qam K d.w4f ["handed","wares"] []
 w5u:Fun K "above_nought" "above_nought" s_above_nought d.w3v d.w3m
 w9v:mg "above_nought" =some (.ref d.w3v)
 w9h:qam K d.w3m ["amounts"] []
 w1k:Fun K "amount_of" "amount_of" s_amount_of d.w6h d.w5m
 w28:mg "amount_of" =some (.ref d.w6h)
 w29:qam K d.w5m ["amounts","ware"] []
 wck:Fun K "added" "added" s_added d.wcj d.waq
 wf6:mg "added" =some (.ref d.wcj)
 wei:qam K d.waq ["one","other"] []
 wdm:Fun K "beyond" "beyond" s_beyond d.way d.w8y
 wfk:mg "beyond" =some (.ref d.way)
 wfq:qam K d.w8y ["one","other"] []
 w73:Fun K "total_of" "total_of" s_total_of d.w7b d.w5z
 w9z:mg "total_of" =some (.ref d.w7b)
 wa6:qam K d.w5z ["many"] []
 w1u:Fun K "holds_beneath" "holds_beneath" s_holds_beneath d.w39 d.w2u
 w3e:mg "holds_beneath" =some (.ref d.w39)
 w3h:qam K d.w2u ["tree","holds","house"] []
 w91:Fun K "held_by" "held_by" s_held_by d.w8z d.w6z
 wbx:mg "held_by" =some (.ref d.w8z)
 wb3:qam K d.w6z ["holds"] []
 wdq:Fun K "taking" "taking" s_taking d.waj d.w8g
 wfx:mg "taking" =some (.ref d.waj)
 wfs:qam K d.w8g ["tree","holds","house","ware"] []
 wg6:Fun K "used" "used" s_used d.wel d.wc8
 whl:mg "used" =some (.ref d.wel)
 whq:qam K d.wc8 ["tree","holds","house"] []
 wes:Fun K "fixed" "fixed" s_fixed d.wce d.wak
 wgx:mg "fixed" =some (.ref d.wce)
 whb:qam K d.wak ["holds","rank","sure"] []
 w5g:Fun K "rooms_left" "rooms_left" s_rooms_left d.w4y d.w4a
 w7i:mg "rooms_left" =some (.ref d.w4y)
 w7n:qam K d.w4a ["tree","holds","line","amounts"] []
 w5j:Fun K "first_lack" "first_lack" s_first_lack d.w5i d.w4q
 w7p:mg "first_lack" =some (.ref d.w5i)
 w7w:qam K d.w4q ["tree","holds","line","amounts"] []
 wd4:Fun K "roomy" "roomy" s_roomy d.wcu d.wa8
 weu:mg "roomy" =some (.ref d.wcu)
 weg:qam K d.wa8 ["tree","holds","house","amounts"] []
 wa5:Fun K "parts_at" "parts_at" s_parts_at d.w6y d.w5y
 wdu:mg "parts_at" =some (.ref d.w6y)
 we0:qam K d.w5y ["tree","hold","places"] []
 w5v:Fun K "first_beyond" "first_beyond" s_first_beyond d.w3w d.w32
 w9r:mg "first_beyond" =some (.ref d.w3w)
 w9o:qam K d.w32 ["parts","rooms"] []
 wao:Fun K "claims" "claims" s_claims d.waw d.w9c
 wdn:mg "claims" =some (.ref d.waw)
 wdl:qam K d.w9c ["tree","holds","house","amounts","rank","sure"] []
 w6d:Fun K "left_over" "left_over" s_left_over d.w68 d.w5k
 w8p:mg "left_over" =some (.ref d.w68)
 w8c:qam K d.w5k ["holds","given"] []
 w8a:Fun K "is_claims" "is_claims" s_is_claims d.w63 d.w5c
 wdc:mg "is_claims" =some (.ref d.w63)
 wcd:qam K d.w5c ["tree","holds","house","amounts","rank","sure","given"] []
 w8w:Fun K "are_wares" "are_wares" s_are_wares d.w6c d.w5d
 wcf:mg "are_wares" =some (.ref d.w6c)
 wcb:qam K d.w5d ["thing"] []
 w5q:Fun K "check_name" "check_name" s_check_name d.w5h d.w4j
 w7m:mg "check_name" =some (.ref d.w5h)
 w7q:qam K d.w4j ["thing"] []
 w5n:Fun K "read_house" "read_house" s_read_house d.w54 d.w4i
 w7t:mg "read_house" =some (.ref d.w54)
 w7u:qam K d.w4i ["wares","elder","promise","cap","weight"] []
 w1i:Fun K "check_promises" "check_promises" s_check_promises d.w2q d.w2b
 w2p:mg "check_promises" =some (.ref d.w2q)
 w2o:qam K d.w2b ["name","promises","cap"] []
 w2w:Fun K "_law_cell" "_law_cell" s_cell d.wem d.wdd
 w38:mg "_law_cell" =some (.ref d.wem)
 w34:qam K d.wdd ["_law_script","_law_k"] []
 w1z:Fun K "_law_mix" "_law_mix" s_mix d.wgv d.wed
 w25:mg "_law_mix" =some (.ref d.wgv)
 w24:qam K d.wed ["_law_cell_here","_law_k","_law_many"] []
 wdi:Fun K "_law_name" "_law_name" s_name d.wec d.wcv
 wef:mg "_law_name" =some (.ref d.wec)
 wet:qam K d.wcv ["_law_script","_law_number"] []
 wfb:Fun K "_law_lines" "_law_lines" s_lines d.wd1 d.wad
 whe:mg "_law_lines" =some (.ref d.wd1)
 wgl:qam K d.wad ["_law_script","_law_many"] []
 wdg:Fun K "_law_parts" "_law_parts" s_parts d.wca d.wax
 weo:mg "_law_parts" =some (.ref d.wca)
 wep:qam K d.wax ["_law_cell_here","_law_kinds","_law_scale"] []
 wg5:Fun K "_law_rows" "_law_rows" s_rows d.web d.wcp
 whm:mg "_law_rows" =some (.ref d.web)
 whv:qam K d.wcp ["_law_script","_law_houses","_law_kinds","_law_scale","_law_many"] []
 wf4:Fun K "_law_ends" "_law_ends" s_ends d.wfe d.wci
 wgg:mg "_law_ends" =some (.ref d.wfe)
 wg9:qam K d.wci ["_law_row","_law_ask"] []
 wfp:Fun K "_law_sum" "_law_sum" s_sum d.wgy d.wew
 wgn:mg "_law_sum" =some (.ref d.wgy)
 whg:qam K d.wew ["_law_rows_here","_law_lines_here","_law_at","_law_j"] []
 wg8:Fun K "_law_caps" "_law_caps" s_caps d.wej d.wcw
 whu:mg "_law_caps" =some (.ref d.wej)
 whn:qam K d.wcw ["_law_script","_law_rows_here","_law_lines_here","_law_ask"] []
 weh:Fun K "_law_world" "_law_world" s_world d.wd6 d.wan
 wh0:mg "_law_world" =some (.ref d.wd6)
 whc:qam K d.wan ["_law_script","_law_many"] []
 w7s:Fun K "_law_told" "_law_told" s_told d.wfc d.wde
 w8r:mg "_law_told" =some (.ref d.wfc)
 w8f:qam K d.wde ["_law_wares","_law_parts_here"] []
 wa4:Fun K "_law_promises" "_law_promises" s_promises d.w78 d.w61
 wdz:mg "_law_promises" =some (.ref d.w78)
 we9:qam K d.w61 ["_law_script","_law_lines_here","_law_caps_here"] []
 wgi:Fun K "_law_tree" "_law_tree" s_tree d.wfh d.wcy
 wht:mg "_law_tree" =some (.ref d.wfh)
 why:qam K d.wcy ["_law_script","_law_world_here"] []
 wby:Fun K "_law_objects" "_law_objects" s_objects d.w8b d.w71
 wek:mg "_law_objects" =some (.ref d.w8b)
 wen:qam K d.w71 ["_law_world_here"] []
 w6j:Fun K "_law_stay_so" "_law_stay_so" s_stay_so d.w9b d.w79
 w9a:mg "_law_stay_so" =some (.ref d.w9b)
 w8m:qam K d.w79 ["_law_objects_here","_law_world_here"] []
 wex:Fun K "_law_short" "_law_short" s_short d.wd8 d.wae
 wgz:mg "_law_short" =some (.ref d.wd8)
 wgs:qam K d.wae ["_law_world_here","_law_some"] []
 wf1:Fun K "_law_drawn" "_law_drawn" s_drawn d.wcn d.wah
 wh2:mg "_law_drawn" =some (.ref d.wcn)
 wgk:qam K d.wah ["_law_script","_law_rows_here"] []
 w6a:Fun K "_law_room_told" "_law_room_told" s_room_told d.w60 d.w5e
 w8v:mg "_law_room_told" =some (.ref d.w60)
 w92:qam K d.w5e ["_law_world_here","_law_tree_here","_law_objects_here","_law_some"] []
 wbt:Fun K "_law_refused" "_law_refused" s_refused d.w94 d.w72
 wey:mg "_law_refused" =some (.ref d.w94)
 wf5:qam K d.w72 ["_law_tree_here","_law_objects_here","_law_thing","_law_amounts"] []
 wi4:Fun K "law" "law" s_law d.wd7 d.wbb
 wi5:mg "law" =some (.ref d.wd7)
 wbh:Fun K "__init__" "House.__init__" s_House_init d.w59 d.w4m
 wbu:qam K d.w4m ["self","elder","promise","cap","weight"] []
 wcq:My.FunD K "__init__" "Tree.__init__" s_Tree_init d.w65 d.w3r d.wch #[d.w0t]
 wh5:qam K d.w3r ["self","wares","name","promise","cap","weight"] []
 wbl:qam K d.w3r ["self","wares","name","promise","cap","weight"] [d.w0t]
 wc4:qbd [.int 1] [d.w0t]
 wb8:My.FunD K "found" "Tree.found" s_Tree_found d.w50 d.w2y d.wbq #[d.w0k]
 wgj:qam K d.w2y ["self","name","elder","promise","cap","weight"] []
 war:qam K d.w2y ["self","name","elder","promise","cap","weight"] [d.w0k]
 wat:qbd [.int 1] [d.w0k]
 wgh:Fun K "wares" "Tree.wares" s_Tree_wares d.w7g d.w6l
 wgd:qam K d.w6l ["self"] []
 wgc:Fun K "names" "Tree.names" s_Tree_names d.w7x d.w6o
 wgf:qam K d.w6o ["self"] []
 we4:Fun K "has" "Tree.has" s_Tree_has d.w75 d.w6g
 wa0:qam K d.w6g ["self","thing"] []
 w6k:Fun K "check_house" "Tree.check_house" s_Tree_check_house d.w22 d.w1m
 w1x:qam K d.w1m ["self","thing"] []
 w8t:Fun K "house_of" "Tree.house_of" s_Tree_house_of d.w35 d.w2v
 w5o:qam K d.w2v ["self","name"] []
 w89:Fun K "elder_of" "Tree.elder_of" s_Tree_elder_of d.w3n d.w2n
 w5b:qam K d.w2n ["self","name"] []
 wau:Fun K "cap_of" "Tree.cap_of" s_Tree_cap_of d.w4r d.w3s
 was:qam K d.w3s ["self","name"] []
 wd9:Fun K "kids" "Tree.kids" s_Tree_kids d.w67 d.w52
 wd2:qam K d.w52 ["self","name"] []
 wcr:Fun K "line" "Tree.line" s_Tree_line d.w6f d.w5p
 w3f:qam K d.w5p ["self","name"] []
 w9m:Fun K "beneath" "Tree.beneath" s_Tree_beneath d.w0w d.w0n
 w2f:qam K d.w0n ["self","name"] []
 w4g:Fun K "promised_beneath" "Tree.promised_beneath" s_Tree_promised_beneath d.w0v d.w0r
 w4k:qam K d.w0r ["self","name"] []
 w7d:Fun K "check_more" "Tree.check_more" s_Tree_check_more d.w2c d.w20
 w6x:qam K d.w20 ["self","names","more"] []
 wd0:Fun K "__init__" "Hold.__init__" s_Hold_init d.w4c d.w4z
 w93:qam K d.w4z ["self","number","house","amounts","rank","turns"] []
 w9s:Fun K "is_sure" "Hold.is_sure" s_Hold_is_sure d.w3z d.w3g
 w9n:qam K d.w3g ["self"] []
 w9g:Fun K "may_end" "Hold.may_end" s_Hold_may_end d.w3t d.w3a
 w5w:qam K d.w3a ["self","rank","sure"] []
 wct:Fun K "told" "Hold.told" s_Hold_told d.w4b d.w5a
 w8s:qam K d.w5a ["self"] []
 w9k:Fun K "is_sure" "Loan.is_sure" s_Loan_is_sure d.w41 d.w3l
 w9p:qam K d.w3l ["self"] []
 w9j:Fun K "may_end" "Loan.may_end" s_Loan_may_end d.w3y d.w37
 w5x:qam K d.w37 ["self","rank","sure"] []
 wfy:Fun K "__init__" "NoPromise.__init__" s_i_NoPromise d.w4t d.w40
 wb5:My.XClI K d.w1n d.w4t
 wav:qam K d.w40 ["self","house","ware"] []
 wgu:mg "House" =some (.ref d.w03)
 whp:mg "Tree" =some (.ref d.w00)
 whz:mg "Hold" =some (.ref d.w0c)
 whr:mg "Loan" =some (.ref d.w0b)
 wgm:mg "TreeError" =some (.ref d.w4d)
 wfu:mg "NoName" =some (.ref d.w5s)
 whi:mg "Taken" =some (.ref d.w77)
 w6u:mg "NoHouse" =some (.ref d.w04)
 wcg:mg "NoPromise" =some (.ref d.w1n)
 wdr:mg "NoWare" =some (.ref d.w5t)
 w9y:mg "NoAmount" =some (.ref d.w31)
 we3:mg "NoNumber" =some (.ref d.w30)
 wf8:mg "TooMany" =some (.ref d.w47)
 wf0:mg "TooDeep" =some (.ref d.w42)
 wf3:mg "LETTERS" =some d.w45
 w53:qbe (.str "abcdefghijklmnopqrstuvwxyz") d.w45
 w9l:mg "LONGEST_NAME" =some d.w0z
 w1g:qbe (.int 8) d.w0z
 wc3:mg "MOST_WARES" =some d.w1r
 w2j:qbe (.int 6) d.w1r
 waa:mg "MOST_HOUSES" =some d.w1c
 w1y:qbe (.int 40) d.w1c
 w9u:mg "LONGEST_LINE" =some d.w0y
 w1d:qbe (.int 12) d.w0y
 w7a:mg "GREATEST_WEIGHT" =some d.w0d
 w0q:qbe (.int 1000) d.w0d
 whk:mg "all" =none
 wi1:mg "any" =none
 wgb:mg "bool" =none
 wa2:mg "dict" =none
 wcc:mg "enumerate" =none
 wee:mg "int" =none
 w0h:mg "isinstance" =none
 w3o:mg "len" =none
 w7r:mg "list" =none
 whx:mg "max" =none
 whw:mg "min" =none
 w3i:mg "range" =none
 wdy:mg "reversed" =none
 wi3:mg "set" =none
 w6r:mg "sorted" =none
 wh4:mg "str" =none
 wi2:mg "sum" =none
 wi0:mg "zip" =none
 kcN:kitCls K (.ref d.w04) (.ref d.w04)=some true
 w19:Meth K d.w0c "is_sure" d.w3z
 w15:Meth K d.w0b "is_sure" d.w41
 w2g:Meth K d.w0c "told" d.w4b
 w2h:Meth K d.w0b "told" d.w4b
 w0o:Meth K d.w0c "may_end" d.w3t
 w0p:Meth K d.w0b "may_end" d.w3y
 w1j:Cls K d.w03
 w01:Cls K d.w00
 w6n:Mk K d.w03 d.w59
 w8q:Mk K d.w00 d.w65
 w4o:Cls K d.w0c
 w3x:Cls K d.w0b
 w8i:Mk K d.w0c d.w4c
 w8x:Mk K d.w0b d.w4c
 w1s:Meth K d.w00 "found" d.w50
 w2z:Meth K d.w00 "wares" d.w7g
 w2x:Meth K d.w00 "names" d.w7x
 w2a:Meth K d.w00 "has" d.w75
 w05:Meth K d.w00 "check_house" d.w22
 w0f:Meth K d.w00 "house_of" d.w35
 w0e:Meth K d.w00 "elder_of" d.w3n
 w1f:Meth K d.w00 "cap_of" d.w4r
 w2i:Meth K d.w00 "kids" d.w67
 w0g:Meth K d.w00 "line" d.w6f
 w09:Meth K d.w00 "beneath" d.w0w
 w06:Meth K d.w00 "promised_beneath" d.w0v
 w0i:Meth K d.w00 "check_more" d.w2c
 w0l:findIn K (.ref d.w03) "elder" =some none
 w08:findIn K (.ref d.w03) "promise" =some none
 w0j:findIn K (.ref d.w03) "cap" =some none
 w18:findIn K (.ref d.w03) "weight" =some none
 w07:findIn K (.ref d.w00) "sorted_wares" =some none
 w02:findIn K (.ref d.w00) "houses" =some none
 w1h:findIn K (.ref d.w0c) "number" =some none
 w23:findIn K (.ref d.w0c) "house" =some none
 w1a:findIn K (.ref d.w0c) "amounts" =some none
 w2l:findIn K (.ref d.w0c) "rank" =some none
 w1v:findIn K (.ref d.w0c) "turns" =some none
 w1e:findIn K (.ref d.w0b) "number" =some none
 w1t:findIn K (.ref d.w0b) "house" =some none
 w16:findIn K (.ref d.w0b) "amounts" =some none
 w1q:findIn K (.ref d.w0b) "rank" =some none
 w21:findIn K (.ref d.w0b) "turns" =some none
 wev:My.XCls K d.w04
 wa1:My.XCls K d.w31
 wdo:My.XCls K d.w5t
 wfv:My.XCls K d.w5s
 wdv:My.XCls K d.w30
 wgq:My.XCls K d.w77
 wf7:My.XCls K d.w47
 weq:My.XCls K d.w42
 w33:kitCls K (.ref d.w04) (.type "BaseException")=some true
def eV:Option Str->V
 |none=> .non
 |some z=> .str z
structure Ho where
 el:Option Str
 pa:Addr
 kp:List (Key × V)
 fp:Str->Option Int
 ca:Addr
 kc:List (Key × V)
 fc:Str->Option Int
 w:Int
structure He where
 n:Str
 a:Addr
 x:Ho
structure Ts where
 sw:Addr
 ws:List Str
 hs:Addr
 hl:List He
def fsH (x:Ho):List (Str × V):=[("elder",eV x.el),("promise",.ref x.pa),("cap",.ref x.ca),("weight",.int x.w)]
def HoAt (d:Ad) (H:Hp) (a:Addr) (x:Ho):Prop:=(∃dx,H a=some (.ins d.w03 dx (fsH x)))/\H x.pa=some (.dK x.kp)/\AD x.kp x.fp/\H x.ca=some (.dK x.kc)/\AD x.kc x.fc
theorem HoAt.same {d:Ad} {H H':Hp} {a:Addr} {x:Ho} (h:HoAt d H a x) (s:qaq H H'):HoAt d H' a x:=⟨let ⟨dx,e⟩:=h.1;⟨dx,s _ _ e⟩,s _ _ h.2.1,h.2.2.1,s _ _ h.2.2.2.1,h.2.2.2.2⟩
def Ts.keys (S:Ts):List (Str × Addr):=S.hl.map fun e=>(e.n,e.a)
def Ts.at (S:Ts) (z:Str):Option He:=S.hl.find? fun e=>decide (e.n=z)
def fsT (S:Ts):List (Str × V):=[("sorted_wares",.ref S.sw),("houses",.ref S.hs)]
def qed (d:Ad) (H:Hp) (t:Addr) (S:Ts):Prop:=(∃dx,H t=some (.ins d.w00 dx (fsT S)))/\H S.sw=some (.lst (S.ws.map V.str))/\H S.hs=some (.dK (oK S.keys))/\(S.hl.map (·.n)).Nodup/\S.hl.length<=60/\∀e∈S.hl,HoAt d H e.a e.x
theorem qed.same {d:Ad} {H H':Hp} {t:Addr} {S:Ts} (h:qed d H t S) (s:qaq H H'):qed d H' t S:=
 ⟨let ⟨dx,e⟩:=h.1;⟨dx,s _ _ e⟩,s _ _ h.2.1,s _ _ h.2.2.1,h.2.2.2.1,h.2.2.2.2.1,fun e he=>(h.2.2.2.2.2 e he).same s⟩
theorem qdq (S:Ts) (z:Str):qda S.keys z=(S.at z).map (·.a):=by
 obtain⟨sw,ws,hs,hl⟩:=S
 unfold Ts.keys Ts.at
 dsimp only
 induction hl with
 |nil=>rfl
 |cons e r ih=>
  rw [zS,yI]
  unfold qda
  by_cases q:e.n=z
  .rw [if_pos q,decide_eq_true q];rfl
  .rw [if_neg q,decide_eq_false q];exact ih
theorem qc6 {S:Ts} {z:Str} {e:He} (h:S.at z=some e):e∈S.hl/\e.n=z:=⟨List.mem_of_find?_eq_some h,by have:=List.find?_some h;simpa using this⟩
def NotS (K:Frag) (H:Hp) (x:V):Prop:=∃t,TyOf K H x t/\kitOne K t (.type "str")=some false
def qdl (K:Frag) (H:Hp) (x:V):Prop:=(∃z,x=.str z)\/(NotS K H x/\∀z,x≠ .str z)
def who (S:Ts):V->Option He
 | .str z=>S.at z
 |_=>none
theorem qd1 {S:Ts} {x:V} (h:∀z,x≠ .str z):who S x=none:=by
 cases x <;> first|rfl|(rename_i z;exact absurd rfl (h z))
def wd5 (K:Frag) (d:Ad):Sp:=fun vs H Q _=>∃(t:Addr) (S:Ts) (x:V),vs=[.ref t,x]/\qed d H t S/\qdl K H x/\Q (.bl (who S x).isSome) H
def w6e (K:Frag) (d:Ad):Sp:=fun vs H Q E=>∃(t:Addr) (S:Ts) (x:V),vs=[.ref t,x]/\qed d H t S/\qdl K H x/\(∀e,who S x=some e->Q .non H)/\(who S x=none->E (.ref d.w04) none H)
def w85 (K:Frag) (d:Ad):Sp:=fun vs H Q E=>∃(t:Addr) (S:Ts) (x:V),vs=[.ref t,x]/\qed d H t S/\qdl K H x/\(∀e,who S x=some e->Q (.ref e.a) H)/\(who S x=none->E (.ref d.w04) none H)
def w83 (K:Frag) (d:Ad):Sp:=fun vs H Q E=>∃(t:Addr) (S:Ts) (x:V),vs=[.ref t,x]/\qed d H t S/\qdl K H x/\(∀e,who S x=some e->Q (eV e.x.el) H)/\(who S x=none->E (.ref d.w04) none H)
def w9t (K:Frag) (d:Ad):Sp:=fun vs H Q E=>∃(t:Addr) (S:Ts) (x:V),vs=[.ref t,x]/\qed d H t S/\qdl K H x/\(∀e,who S x=some e->∀p,H p=none->Q (.ref p) (upd H p (.dK e.x.kc)))/\(who S x=none->E (.ref d.w04) none H)
theorem r_notNs {H:Hp} {Q:VK} {a:Str} (h:Q (.bl true) H):rNotN (.str a) .non H Q:=⟨rfl,h⟩
theorem TyOf.same {K:Frag} {H H':Hp} {x:V} {t:Value} (h:TyOf K H x t) (s:qaq H H'):TyOf K H' x t:=by
 cases h with
 |non=>exact .non
 |bl b=>exact .bl b
 |int i=>exact .int i
 |str z=>exact .str z
 |flt z=>exact .flt z
 |lst e=>exact .lst (s _ _ e)
 |frz e=>exact .frz (s _ _ e)
 |tup e=>exact .tup (s _ _ e)
 |dK e=>exact .dK (s _ _ e)
 |dT e=>exact .dT (s _ _ e)
 |ins e c a n k m=>exact .ins (s _ _ e) c a n k m
theorem qdl.same {K:Frag} {H H':Hp} {x:V} (h:qdl K H x) (s:qaq H H'):qdl K H' x:=by
 rcases h with h|⟨⟨t,a,b⟩,n⟩
 .exact .inl h
 .exact .inr ⟨⟨t,TyOf.same a s,b⟩,n⟩
inductive LineOf (S:Ts):Str->List Str->Prop
 |top {z:Str} {e:He} (h:S.at z=some e) (n:e.x.el=none):LineOf S z [z]
 |up {z y:Str} {e:He} {zs:List Str} (h:S.at z=some e) (n:e.x.el=some y) (r:LineOf S y zs):LineOf S z (z :: zs)
def RestOf (S:Ts):Option Str->List Str->Prop
 |none,zs=>zs=[]
 |some y,zs=>LineOf S y zs
theorem LineOf.open {S:Ts} {z:Str} {zs:List Str} (h:LineOf S z zs):∃e r,S.at z=some e/\zs=z :: r/\RestOf S e.x.el r:=by
 cases h with
 |top h n=>exact⟨_, [],h,rfl,by rw [n];rfl⟩
 |up h n r=>exact⟨_,_,h,rfl,by rw [n];exact r⟩
def lenAt (l:Addr) (H:Hp):Nat:=match H l with
 |some (.lst xs)=>xs.length
 |_=>0
theorem lenAt_eq {l:Addr} {H:Hp} {xs:List V} (e:H l=some (.lst xs)):lenAt l H=xs.length:=by unfold lenAt;rw [e]
def wb7 (K:Frag) (d:Ad):Sp:=fun vs H Q E=>∃(t:Addr) (S:Ts) (x:V),vs=[.ref t,x]/\qed d H t S/\
 ((∃z zs,x=.str z/\LineOf S z zs/\zs.length<=1000/\∀l,H l=none->Q (.ref l) (upd H l (.lst (zs.map V.str))))\/(qdl K H x/\who S x=none/\∀l,H l=none->E (.ref d.w04) none (upd H l (.lst [x]))))
def qbf (S:Ts) (z:Str):List Str:=(S.hl.filter fun e=>decide (e.x.el=some z)).map (·.n)
def wbo (K:Frag) (d:Ad):Sp:=fun vs H Q E=>∃(t:Addr) (S:Ts) (x:V),vs=[.ref t,x]/\qed d H t S/\qdl K H x/\(∀e,who S x=some e->∀l ss H',qaq H H'->H l=none->H' l=some (.lst (ss.map V.str))->ss.Perm (qbf S e.n)->PyProof.Rows.sortedS ss=true->Q (.ref l) H')/\(who S x=none->E (.ref d.w04) none H)
def w7o (K:Frag) (d:Ad):Sp:=fun vs H Q _=>∃(a:Addr) (kvs:List (Key × V)) (f:Str->Option Int) (z:Str),vs=[.ref a,.str z]/\Rd H a (.dK kvs)/\AD kvs f/\Q (.int (gN f z)) H
def w8h (K:Frag) (d:Ad):Sp:=fun vs H Q _=>∃(a:Addr) (kvs:List (Key × V)) (f:Str->Option Int),vs=[.ref a]/\H a=some (.dK kvs)/\AD kvs f/\kvs.length<=1000/\
 ∀l k' H',qaq H H'->H l=none->H' l=some (.dK k')->AD k' (qcj f)->Q (.ref l) H'
def wfm (K:Frag) (d:Ad):Sp:=fun vs H Q _=>∃(a b:Addr) (ka kb:List (Key × V)) (f g:Str->Option Int),vs=[.ref a,.ref b]/\Rd H a (.dK ka)/\H b=some (.dK kb)/\AD ka f/\AD kb g/\ka.length<=1000/\kb.length<=1000/\
 ∀l k' H',qaq H H'->H l=none->H' l=some (.dK k')->AD k' (addF f g)->Q (.ref l) H'
def wfa (K:Frag) (d:Ad):Sp:=fun vs H Q _=>∃(a b:Addr) (ka kb:List (Key × V)) (f g:Str->Option Int),vs=[.ref a,.ref b]/\Rd H a (.dK ka)/\Rd H b (.dK kb)/\AD ka f/\AD kb g/\ka.length < 64/\
 (∀H',qaq H H'->(∀y,¬viol f g y)->Q .non H')/\∀z H',qaq H H'->viol f g z->(∀y,viol f g y->leS z y)->Q (.str z) H'
structure Pt where
 a:Addr
 k:List (Key × V)
 f:Str->Option Int
def sumF (ts:List Pt):Str->Option Int:=ts.foldl (fun f t=>addF f t.f) noF
def PtOk (H:Hp) (ws:List Str) (t:Pt):Prop:=H t.a=some (.dK t.k)/\AD t.k t.f/\∀z,t.f z≠none->z∈ws
def wdf (K:Frag) (d:Ad):Sp:=fun vs H Q _=>∃(L:Addr) (ts:List Pt) (ws:List Str),vs=[.ref L]/\SqL K H L (ts.map fun t=> .ref t.a)/\ws.length<=100/\(∀t∈ts,PtOk H ws t)/\
 ∀l k' H',qaq H H'->H l=none->H' l=some (.dK k')->AD k' (sumF ts)->Q (.ref l) H'
section
variable {K: Frag} {d: Ad} {H: Hp} {Q: VK} {E: XK}
theorem u_amount {a:Addr} {kvs:List (Key × V)} {f:Str->Option Int} {z:Str} (hR:Rd H a (.dK kvs)) (hA:AD kvs f) (q:Q (.int (gN f z)) H):w7o K d [.ref a,.str z] H Q E:=⟨a,kvs,f,z,rfl,hR,hA,q⟩
end
local macro_rules | `(tactic| walk_at "kit") => `(tactic| (with_reducible (first
 |assumption|exact kit_int_int|exact kit_int_bool|exact qfv
 |exact kit_str_str|exact kit_lst_lst|exact kit_dct_dct)))
local macro_rules | `(tactic| walk_at "ty") => `(tactic| (first
 |(with_reducible assumption) |(with_reducible exact TyOf.int _) |(with_reducible exact TyOf.bl _) |(with_reducible exact TyOf.str _)
 |(with_reducible exact TyOf.non) |((with_reducible refine' TyOf.tup ?h);(case h=>walk_at "heap")) |((with_reducible refine' TyOf.lst ?h);(case h=>walk_at "heap")) |((with_reducible refine' TyOf.dK ?h);(case h=>walk_at "heap"))))
local macro_rules | `(tactic| walk_at "heap") => `(tactic| first
 |with_reducible assumption|with_reducible exact qa2|((with_reducible refine' qab ?h ?n);(case n=>with_reducible assumption);(case h=>walk_at "heap")))
local macro_rules | `(tactic| walk_at "sqL") => `(tactic| first
 |with_reducible assumption|((with_reducible refine' sqL_new ?h ?n);(case n=>with_reducible assumption);(case h=>walk_at "sqL")) |((with_reducible refine' SqL.of ?h);(case h=>walk_at "heap")))
local macro_rules | `(tactic| walk_at "sqT") => `(tactic| first
 |with_reducible assumption|((with_reducible refine' sqT_new ?h ?n);(case n=>with_reducible assumption);(case h=>walk_at "sqT")) |((with_reducible refine' SqT.of ?h);(case h=>walk_at "heap")))
local macro_rules | `(tactic| walk_at "side") => `(tactic| first
 |assumption|exact rfl|omega|decide
 |(simp only [zP,yR,zB];omega) |exact⟨by omega,by omega⟩ |exact⟨by decide,by decide⟩ |exact⟨by omega,by assumption⟩
 |exact⟨by assumption,by assumption⟩ |exact⟨by decide,by assumption⟩ |exact⟨by decide,by decide,by decide⟩)
local macro_rules | `(tactic| walk_at "size") => `(tactic| (first
 |assumption|(simp only [zP,yR,zB,zU];first|decide|(show _<=16777216;omega) |(show _ < 16777216;omega)) |(show _<=16777216;omega) |(show _ < 16777216;omega)))
local macro_rules | `(tactic| walk_at "sp") => `(tactic| fail)
local macro_rules | `(tactic| walk_at "r1") => `(tactic| first
 |(with_reducible refine r_var (by with_unfolding_all exact rfl) ?_) |(with_reducible first|refine r_c ?_|refine r_op ?_|refine r_I0 ?_) |((with_reducible refine r_I ?hc ?_);(case hc=>walk_at "side")) |(with_reducible first|refine r_eqI ?_|refine r_neI ?_|refine r_eqB ?_|refine r_exb ?_|refine r_test ?_|refine r_tB ?_|refine r_and ?_|refine r_or ?_|refine r_not ?_|refine r_andV ?_|refine r_orV ?_|refine r_notV ?_|refine r_ifE ?_|refine r_next ?_|refine r_seq ?_|refine r_drop ?_|refine r_ret ?_|refine r_if ?_|refine r_asg ?_)
 |(with_reducible refine r_name (by with_unfolding_all (simp only [List.set];exact rfl)) ?_) |(with_reducible first|refine r_gnil ?_|refine r_gcons ?_) |((with_reducible refine' r_gtup ?s ?n ?_);(case s=>walk_at "sqT");(case n=>exact rfl)) |(with_reducible first|refine r_for ?_|refine r_iL ?_|refine r_iR ?_)
 |((with_reducible refine' r_itL ?s ?_);(case s=>walk_at "sqL")) |((with_reducible refine' r_itR ?s ?t ?_);(case s=>walk_at "side");(case t=>walk_at "side")) |(with_reducible first|refine r_nx ?_|refine r_rt ?_|refine r_nil ?_|refine r_cons ?_|refine r_tup ?_|refine r_lst ?_) |((with_reducible refine r_new ?n ?_);(case n=>(simp only [zP,yR];decide)))
 |((with_reducible refine r_fresh ?_);intro p hp) |(with_reducible first|refine r_call ?_|refine r_callX ?_|refine r_cb ?_) |((with_reducible refine r_try ?_);intro pins) |(with_reducible refine r_raise ?_)
 |((with_reducible refine' r_ixT ?s ?e ?_);(case s=>walk_at "sqT");(case e=>exact rfl)) |(with_reducible first|refine r_comp ?_|refine r_true ?_|refine r_iS ?_|refine r_itS ?_|refine r_inS ?_) |((with_reducible refine' r_app ?a ?z ?_);(case a=>walk_at "heap");(case z=>walk_at "size")) |((with_reducible refine' r_catS ?z ?_);(case z=>walk_at "size"))
 |((with_reducible refine' r_lenS ?z ?_);(case z=>walk_at "size")) |(with_reducible first|refine r_sl ?_|refine r_noPart ?_|refine r_part ?_|refine r_exi ?_|refine r_chain ?_) |((with_reducible refine' r_lenL ?s ?_);(case s=>walk_at "sqL")) |(with_reducible first|refine r_isNn ?_|refine r_isNr ?_|refine r_notNn ?_)
 |((with_reducible refine' r_isi ?t ?k ?_);(case t=>walk_at "ty");(case k=>walk_at "kit")) |(with_reducible first|refine i_nT ?_|refine i_nF ?_|refine iteT ?_|refine iteF ?_) |((with_reducible refine i_t ?c ?_);(case c=>walk_at "side")) |((with_reducible refine i_f ?c ?_);(case c=>walk_at "side"))
 |((with_reducible refine i_nf ?c ?_);(case c=>walk_at "side")) |walk_at "sp")
local macro_rules | `(tactic| walk_at "g") => `(tactic| repeat walk_at "r1")
local macro_rules|`(tactic|left)=>`(tactic|walk_at "g")
local macro_rules | `(tactic| walk_at "d") => `(tactic| try dsimp only [L2.cxOf, L2.Cx.nox, L2.Cx.wish, My.xw, pnd, suite])
local macro_rules | `(tactic| walk_at "rd") => `(tactic| first
 |with_reducible assumption|((with_reducible refine' rd_new ?h ?n);(case n=>with_reducible assumption);(case h=>walk_at "rd")) |((with_reducible refine' Rd.of ?h);(case h=>walk_at "heap")))
local macro_rules | `(tactic| walk_at "same") => `(tactic| first
 |with_reducible assumption|exact qaq.refl _|((with_reducible refine' qdu ?h ?n);(case n=>with_reducible assumption);(case h=>walk_at "same")))
local macro_rules | `(tactic| walk_at "sp") => `(tactic| first
 |((with_reducible refine r_disp1 ?_);intro p hp) |((with_reducible refine' r_ds ?e ?_);(case e=>walk_at "heap")) |(with_reducible refine r_lrev ?_) |((with_reducible refine' r_lrevk ?s ?_);(case s=>walk_at "sqL");intro p hp)
 |((with_reducible refine' r_clear ?h ?_);(case h=>walk_at "heap")) |((with_reducible refine' u_amount ?r ?a ?_);(case r=>walk_at "rd");(case a=>with_reducible assumption)) |(with_reducible refine r_intB ?_) |((with_reducible refine' qb6 ?s ?e ?_);(case s=>walk_at "sqL");(case e=>exact rfl))
 |(with_reducible refine r_dg2 ?_) |((with_reducible refine' r_dg2a ?r ?_);(case r=>walk_at "rd")) |((with_reducible refine' r_dg2b ?r ?a ?_);(case r=>walk_at "rd");(case a=>with_reducible assumption)) |(with_reducible refine r_dg ?_)
 |((with_reducible refine' r_dgk ?r ?a ?e ?_);(case r=>walk_at "rd");(case a=>with_reducible assumption);(case e=>with_reducible assumption)) |(with_reducible refine r_dp ?_) |((with_reducible refine' r_dpk ?e ?z ?_);(case e=>walk_at "heap");(case z=>walk_at "size")) |((with_reducible refine r_dnew ?_);intro p hp)
 |(with_reducible first|refine r_thA ?_|refine r_iD ?_) |((with_reducible refine' r_dictCp ?e ?_);(case e=>walk_at "rd");intro p hp) |(with_reducible first|refine r_iZ ?_|refine r_lp ?_|refine r_max ?_|refine r_min ?_|refine r_mtX ?_) |((with_reducible refine' r_mtkX ?e ?l ?_);(case e=>walk_at "heap");(case l=>exact rfl))
 |(with_reducible refine r_mkX ?_) |((with_reducible refine' r_mtk ?e ?l ?_);(case e=>walk_at "heap");(case l=>exact rfl)) |(with_reducible first|refine r_notNs ?_|refine r_di ?_) |((with_reducible refine' r_diO ?r ?_);(case r=>walk_at "rd"))
 |(with_reducible first|refine r_mk ?_|refine r_mt ?_|refine r_fl ?_|refine r_fs ?_) |((with_reducible refine' r_flk ?e ?c ?n ?l ?_);(case e=>walk_at "heap");(case c=>with_reducible assumption);(case n=>with_reducible assumption);(case l=>exact rfl)) |((with_reducible refine' qfo ?e ?c ?n ?z ?_);(case e=>walk_at "heap");(case c=>with_reducible assumption);(case n=>with_reducible assumption);(case z=>(show _ < 1000;decide))) |(with_reducible first|refine r_bm ?_|refine r_bm0 ?_)
 |((with_reducible refine' r_tyL ?s ?_);(case s=>walk_at "sqL")) |((with_reducible refine' r_append ?h ?z ?_);(case h=>walk_at "heap");(case z=>walk_at "size")))
theorem wco:FnScope ["thing"] ["thing"] (qa8 s_is_whole):=⟨rfl,rfl,rfl,by decide+kernel,rfl,by decide+kernel,by decide+kernel⟩
theorem we6:FnScope ["thing"] ["thing"] (qa8 s_is_name):=⟨rfl,rfl,rfl,by decide+kernel,rfl,by decide+kernel,by decide+kernel⟩
theorem w7z:FnScope ["thing","least","most"] ["thing","least","most"] (qa8 s_is_whole_from):=⟨rfl,rfl,rfl,by decide+kernel,rfl,by decide+kernel,by decide+kernel⟩
theorem wbw:FnScope ["thing"] ["thing"] (qa8 s_is_amount):=⟨rfl,rfl,rfl,by decide+kernel,rfl,by decide+kernel,by decide+kernel⟩
theorem w4p:FnScope ["handed","wares","key","ware"] ["handed","wares"] (qa8 s_amounts_of):=⟨rfl,rfl,rfl,by decide+kernel,rfl,by decide+kernel,by decide+kernel⟩
theorem w3b:FnScope ["amounts","told","ware"] ["amounts"] (qa8 s_above_nought):=⟨rfl,rfl,rfl,by decide+kernel,rfl,by decide+kernel,by decide+kernel⟩
theorem wbf:FnScope ["amounts","ware"] ["amounts","ware"] (qa8 s_amount_of):=⟨rfl,rfl,rfl,by decide+kernel,rfl,by decide+kernel,by decide+kernel⟩
theorem wb1:FnScope ["one","other","told","ware"] ["one","other"] (qa8 s_added):=⟨rfl,rfl,rfl,by decide+kernel,rfl,by decide+kernel,by decide+kernel⟩
theorem wbr:FnScope ["one","other","ware"] ["one","other"] (qa8 s_beyond):=⟨rfl,rfl,rfl,by decide+kernel,rfl,by decide+kernel,by decide+kernel⟩
theorem w4e:FnScope ["many","total","amounts"] ["many"] (qa8 s_total_of):=⟨rfl,rfl,rfl,by decide+kernel,rfl,by decide+kernel,by decide+kernel⟩
theorem w2r:FnScope ["tree","holds","house","names"] ["tree","holds","house"] (qa8 s_holds_beneath):=⟨rfl,rfl,rfl,by decide+kernel,rfl,by decide+kernel,by decide+kernel⟩
theorem we5:FnScope ["holds"] ["holds"] (qa8 s_held_by):=⟨rfl,rfl,rfl,by decide+kernel,rfl,by decide+kernel,by decide+kernel⟩
theorem wc6:FnScope ["tree","holds","house","ware","there"] ["tree","holds","house","ware"] (qa8 s_taking):=⟨rfl,rfl,rfl,by decide+kernel,rfl,by decide+kernel,by decide+kernel⟩
theorem wgr:FnScope ["tree","holds","house"] ["tree","holds","house"] (qa8 s_used):=⟨rfl,rfl,rfl,by decide+kernel,rfl,by decide+kernel,by decide+kernel⟩
theorem wg3:FnScope ["holds","rank","sure"] ["holds","rank","sure"] (qa8 s_fixed):=⟨rfl,rfl,rfl,by decide+kernel,rfl,by decide+kernel,by decide+kernel⟩
theorem w1b:FnScope ["tree","holds","line","amounts","rooms","at","cap","use","ware"] ["tree","holds","line","amounts"] (qa8 s_rooms_left):=⟨rfl,rfl,rfl,by decide+kernel,rfl,by decide+kernel,by decide+kernel⟩
theorem w4s:FnScope ["tree","holds","line","amounts","rooms","place"] ["tree","holds","line","amounts"] (qa8 s_first_lack):=⟨rfl,rfl,rfl,by decide+kernel,rfl,by decide+kernel,by decide+kernel⟩
theorem wfr:FnScope ["tree","holds","house","amounts"] ["tree","holds","house","amounts"] (qa8 s_roomy):=⟨rfl,rfl,rfl,by decide+kernel,rfl,by decide+kernel,by decide+kernel⟩
theorem w4l:FnScope ["tree","hold","places","line","parts","place"] ["tree","hold","places"] (qa8 s_parts_at):=⟨rfl,rfl,rfl,by decide+kernel,rfl,by decide+kernel,by decide+kernel⟩
theorem w57:FnScope ["parts","rooms","place"] ["parts","rooms"] (qa8 s_first_beyond):=⟨rfl,rfl,rfl,by decide+kernel,rfl,by decide+kernel,by decide+kernel⟩
theorem w3d:FnScope ["tree","holds","house","amounts","rank","sure","rooms","given","hold","parts","place","taken"] ["tree","holds","house","amounts","rank","sure"] (qa8 s_claims):=⟨rfl,rfl,rfl,by decide+kernel,rfl,by decide+kernel,by decide+kernel⟩
theorem w7l:FnScope ["holds","given","numbers"] ["holds","given"] (qa8 s_left_over):=⟨rfl,rfl,rfl,by decide+kernel,rfl,by decide+kernel,by decide+kernel⟩
theorem wbn:FnScope ["tree","holds","house","amounts","rank","sure","given"] ["tree","holds","house","amounts","rank","sure","given"] (qa8 s_is_claims):=⟨rfl,rfl,rfl,by decide+kernel,rfl,by decide+kernel,by decide+kernel⟩
theorem wbj:FnScope ["thing"] ["thing"] (qa8 s_are_wares):=⟨rfl,rfl,rfl,by decide+kernel,rfl,by decide+kernel,by decide+kernel⟩
theorem wa9:FnScope ["thing"] ["thing"] (qa8 s_check_name):=⟨rfl,rfl,rfl,by decide+kernel,rfl,by decide+kernel,by decide+kernel⟩
theorem w4n:FnScope ["wares","elder","promise","cap","weight","own_promise","own_cap"] ["wares","elder","promise","cap","weight"] (qa8 s_read_house):=⟨rfl,rfl,rfl,by decide+kernel,rfl,by decide+kernel,by decide+kernel⟩
theorem w44:FnScope ["name","promises","cap","ware"] ["name","promises","cap"] (qa8 s_check_promises):=⟨rfl,rfl,rfl,by decide+kernel,rfl,by decide+kernel,by decide+kernel⟩
theorem wh9:FnScope ["_law_script","_law_k"] ["_law_script","_law_k"] (qa8 s_cell):=⟨rfl,rfl,rfl,by decide+kernel,rfl,by decide+kernel,by decide+kernel⟩
theorem wg7:FnScope ["_law_cell_here","_law_k","_law_many","_law_number"] ["_law_cell_here","_law_k","_law_many"] (qa8 s_mix):=⟨rfl,rfl,rfl,by decide+kernel,rfl,by decide+kernel,by decide+kernel⟩
theorem w2t:FnScope ["_law_script","_law_number","_law_letters","_law_cell_here","_law_size","_law_at","_law_shift","_law_tail","_law_name_here","_law_k"] ["_law_script","_law_number"] (qa8 s_name):=⟨rfl,rfl,rfl,by decide+kernel,rfl,by decide+kernel,by decide+kernel⟩
theorem w6i:FnScope ["_law_script","_law_many","_law_lines_here","_law_k","_law_elder"] ["_law_script","_law_many"] (qa8 s_lines):=⟨rfl,rfl,rfl,by decide+kernel,rfl,by decide+kernel,by decide+kernel⟩
theorem w86:FnScope ["_law_cell_here","_law_kinds","_law_scale","_law_parts_here","_law_j","_law_part"] ["_law_cell_here","_law_kinds","_law_scale"] (qa8 s_parts):=⟨rfl,rfl,rfl,by decide+kernel,rfl,by decide+kernel,by decide+kernel⟩
theorem w69:FnScope ["_law_script","_law_houses","_law_kinds","_law_scale","_law_many","_law_rows_here","_law_number","_law_k","_law_cell_here","_law_parts_here"] ["_law_script","_law_houses","_law_kinds","_law_scale","_law_many"] (qa8 s_rows):=⟨rfl,rfl,rfl,by decide+kernel,rfl,by decide+kernel,by decide+kernel⟩
theorem wh6:FnScope ["_law_row","_law_ask"] ["_law_row","_law_ask"] (qa8 s_ends):=⟨rfl,rfl,rfl,by decide+kernel,rfl,by decide+kernel,by decide+kernel⟩
theorem whs:FnScope ["_law_rows_here","_law_lines_here","_law_at","_law_j"] ["_law_rows_here","_law_lines_here","_law_at","_law_j"] (qa8 s_sum):=⟨rfl,rfl,rfl,by decide+kernel,rfl,by decide+kernel,by decide+kernel⟩
theorem w2d:FnScope ["_law_script","_law_rows_here","_law_lines_here","_law_ask","_law_cell_here","_law_stay","_law_go","_law_short_here","_law_caps_here","_law_at","_law_cap","_law_j","_law_low","_law_more","_law_near"] ["_law_script","_law_rows_here","_law_lines_here","_law_ask"] (qa8 s_caps):=⟨rfl,rfl,rfl,by decide+kernel,rfl,by decide+kernel,by decide+kernel⟩
theorem w2e:FnScope ["_law_script","_law_many","_law_cell_here","_law_lines_here","_law_kinds","_law_scale","_law_names","_law_wares","_law_rows_here","_law_parts_here","_law_ask"] ["_law_script","_law_many"] (qa8 s_world):=⟨rfl,rfl,rfl,by decide+kernel,rfl,by decide+kernel,by decide+kernel⟩
theorem wac:FnScope ["_law_wares","_law_parts_here","_law_told_here","_law_ware","_law_part"] ["_law_wares","_law_parts_here"] (qa8 s_told):=⟨rfl,rfl,rfl,by decide+kernel,rfl,by decide+kernel,by decide+kernel⟩
theorem w0u:FnScope ["_law_script","_law_lines_here","_law_caps_here","_law_cell_here","_law_left","_law_promises_here","_law_at","_law_j","_law_free","_law_part","_law_house"] ["_law_script","_law_lines_here","_law_caps_here"] (qa8 s_promises):=⟨rfl,rfl,rfl,by decide+kernel,rfl,by decide+kernel,by decide+kernel⟩
theorem w3u:FnScope ["_law_script","_law_world_here","_law_names","_law_wares","_law_lines_here","_law_rows_here","_law_ask","_law_caps_here","_law_due","_law_tree_here","_law_k"] ["_law_script","_law_world_here"] (qa8 s_tree):=⟨rfl,rfl,rfl,by decide+kernel,rfl,by decide+kernel,by decide+kernel⟩
theorem w0a:FnScope ["_law_world_here","_law_names","_law_wares","_law_lines_here","_law_rows_here","_law_ask","_law_caps_here","_law_objects_here","_law_number","_law_at","_law_parts_here","_law_rank","_law_sure","_law_turns"] ["_law_world_here"] (qa8 s_objects):=⟨rfl,rfl,rfl,by decide+kernel,rfl,by decide+kernel,by decide+kernel⟩
theorem w0x:FnScope ["_law_objects_here","_law_world_here","_law_names","_law_wares","_law_lines_here","_law_rows_here","_law_ask","_law_caps_here","_law_hold","_law_row","_law_turns"] ["_law_objects_here","_law_world_here"] (qa8 s_stay_so):=⟨rfl,rfl,rfl,by decide+kernel,rfl,by decide+kernel,by decide+kernel⟩
theorem w1w:FnScope ["_law_world_here","_law_some","_law_names","_law_wares","_law_lines_here","_law_rows_here","_law_ask","_law_caps_here","_law_at","_law_ware","_law_j","_law_here"] ["_law_world_here","_law_some"] (qa8 s_short):=⟨rfl,rfl,rfl,by decide+kernel,rfl,by decide+kernel,by decide+kernel⟩
theorem w5r:FnScope ["_law_script","_law_rows_here","_law_cell_here","_law_numbers"] ["_law_script","_law_rows_here"] (qa8 s_drawn):=⟨rfl,rfl,rfl,by decide+kernel,rfl,by decide+kernel,by decide+kernel⟩
theorem w0s:FnScope ["_law_world_here","_law_tree_here","_law_objects_here","_law_some","_law_names","_law_wares","_law_lines_here","_law_rows_here","_law_ask","_law_caps_here","_law_found"] ["_law_world_here","_law_tree_here","_law_objects_here","_law_some"] (qa8 s_room_told):=⟨rfl,rfl,rfl,by decide+kernel,rfl,by decide+kernel,by decide+kernel⟩
theorem w43:FnScope ["_law_tree_here","_law_objects_here","_law_thing","_law_amounts","_law_refused_here"] ["_law_tree_here","_law_objects_here","_law_thing","_law_amounts"] (qa8 s_refused):=⟨rfl,rfl,rfl,by decide+kernel,rfl,by decide+kernel,by decide+kernel⟩
theorem w26:FnScope ["_law_script","_law_world_here","_law_names","_law_wares","_law_lines_here","_law_rows_here","_law_ask","_law_caps_here","_law_tree_here","_law_objects_here","_law_numbers","_law_given","_law_handed","_law_found","_law_left","_law_other","_law_stranger","_law_thing"] ["_law_script"] (qa8 s_law):=⟨rfl,rfl,rfl,by decide+kernel,rfl,by decide+kernel,by decide+kernel⟩
theorem wb2:FnScope ["self","elder","promise","cap","weight"] ["self","elder","promise","cap","weight"] (qa8 s_House_init):=⟨rfl,rfl,rfl,by decide+kernel,rfl,by decide+kernel,by decide+kernel⟩
theorem w7v:FnScope ["self","wares","name","promise","cap","weight","house"] ["self","wares","name","promise","cap","weight"] (qa8 s_Tree_init):=⟨rfl,rfl,rfl,by decide+kernel,rfl,by decide+kernel,by decide+kernel⟩
theorem w4h:FnScope ["self","name","elder","promise","cap","weight","house","elders"] ["self","name","elder","promise","cap","weight"] (qa8 s_Tree_found):=⟨rfl,rfl,rfl,by decide+kernel,rfl,by decide+kernel,by decide+kernel⟩
theorem wcm:FnScope ["self","thing"] ["self","thing"] (qa8 s_Tree_has):=⟨rfl,rfl,rfl,by decide+kernel,rfl,by decide+kernel,by decide+kernel⟩
theorem w62:FnScope ["self","thing"] ["self","thing"] (qa8 s_Tree_check_house):=⟨rfl,rfl,rfl,by decide+kernel,rfl,by decide+kernel,by decide+kernel⟩
theorem w80:FnScope ["self","name"] ["self","name"] (qa8 s_Tree_house_of):=⟨rfl,rfl,rfl,by decide+kernel,rfl,by decide+kernel,by decide+kernel⟩
theorem w84:FnScope ["self","name"] ["self","name"] (qa8 s_Tree_elder_of):=⟨rfl,rfl,rfl,by decide+kernel,rfl,by decide+kernel,by decide+kernel⟩
theorem w9q:FnScope ["self","name"] ["self","name"] (qa8 s_Tree_cap_of):=⟨rfl,rfl,rfl,by decide+kernel,rfl,by decide+kernel,by decide+kernel⟩
theorem wbd:FnScope ["self","name"] ["self","name"] (qa8 s_Tree_kids):=⟨rfl,rfl,rfl,by decide+kernel,rfl,by decide+kernel,by decide+kernel⟩
theorem w3p:FnScope ["self","name","told","elder"] ["self","name"] (qa8 s_Tree_line):=⟨rfl,rfl,rfl,by decide+kernel,rfl,by decide+kernel,by decide+kernel⟩
theorem w3k:FnScope ["self","name","told","kid"] ["self","name"] (qa8 s_Tree_beneath):=⟨rfl,rfl,rfl,by decide+kernel,rfl,by decide+kernel,by decide+kernel⟩
theorem w49:FnScope ["self","name"] ["self","name"] (qa8 s_Tree_promised_beneath):=⟨rfl,rfl,rfl,by decide+kernel,rfl,by decide+kernel,by decide+kernel⟩
theorem w3q:FnScope ["self","names","more","name"] ["self","names","more"] (qa8 s_Tree_check_more):=⟨rfl,rfl,rfl,by decide+kernel,rfl,by decide+kernel,by decide+kernel⟩
theorem wc5:FnScope ["self","number","house","amounts","rank","turns"] ["self","number","house","amounts","rank","turns"] (qa8 s_Hold_init):=⟨rfl,rfl,rfl,by decide+kernel,rfl,by decide+kernel,by decide+kernel⟩
theorem w8n:FnScope ["self"] ["self"] (qa8 s_Hold_is_sure):=⟨rfl,rfl,rfl,by decide+kernel,rfl,by decide+kernel,by decide+kernel⟩
theorem w8k:FnScope ["self","rank","sure"] ["self","rank","sure"] (qa8 s_Hold_may_end):=⟨rfl,rfl,rfl,by decide+kernel,rfl,by decide+kernel,by decide+kernel⟩
theorem wbz:FnScope ["self"] ["self"] (qa8 s_Hold_told):=⟨rfl,rfl,rfl,by decide+kernel,rfl,by decide+kernel,by decide+kernel⟩
theorem w96:FnScope ["self"] ["self"] (qa8 s_Loan_is_sure):=⟨rfl,rfl,rfl,by decide+kernel,rfl,by decide+kernel,by decide+kernel⟩
theorem w98:FnScope ["self","rank","sure"] ["self","rank","sure"] (qa8 s_Loan_may_end):=⟨rfl,rfl,rfl,by decide+kernel,rfl,by decide+kernel,by decide+kernel⟩
variable {P: Program} {w: World} {K: Frag} {mg: Str -> Option Value} {base: Heap} {d: Ad} (T: Tx K mg d)
include T in
theorem w8l:FnOk P w K mg base CX0 1 d.w75 d.w6g ["self","thing"] (wd5 K d):=by
 refine T.we4.ok wcm (fun vs H Q E h=>?_) (fun cdv A outer s H vs Q E hr h=>?_)
 .obtain⟨t,S,x,rfl,_⟩:=h;rfl
 obtain⟨t,S,x,rfl,hT,hx,q⟩:=h
 refine⟨_,(qa5 (qai (qes (qaj qby rfl T.w0h PyProof.Rows.boot_isinstance (qa0 (pv 1) (qa0 (qcq (v:=.ty "str") rfl T.wh4 PyProof.Rows.boot_str rfl) qa1))) (qdv (pe_cmp (pc_din (qc9 hr) (pv 1) (qaz (pv 0) rfl))))))),?_⟩
 walk_at "d"
 refine qae (σ:=[some (.ref t),some (x)]) rfl ?_
 obtain⟨⟨dx,ht⟩,hw,hh,nd,hz,hE⟩:=hT
 have ct:=T.w01
 have nh:qav K d.w00 "houses":=T.w02
 rcases hx with ⟨z,rfl⟩ |⟨⟨ty,ht1,ht2⟩,nz⟩
 .left
  rw [qdq,Option.isSome_map]
  exact q
 .left
  rw [qd1 nz] at q
  exact q
include T in
theorem w1o:FnOk P w K mg base (My.CX1 P w) 2 d.w22 d.w1m ["self","thing"] (w6e K d):=by
 refine okX T.w6k w62 (fun vs H Q E h=>?_) (fun cdv A outer s H vs Q E hr h=>?_)
 .obtain⟨t,S,x,rfl,_⟩:=h;rfl
 obtain⟨t,S,x,rfl,hT,hx,q1,q2⟩:=h
 refine⟨_,(qa5 (qbk (qc8 (qbq (qe6 (pv 0) T.w01 T.w2a ((w8l T).mono (by decide)) hr T.wa0 .nil qah (qa0 (pv 1) qa1)))) (qa5 (qc2 rfl T.wev rfl T.w6u qas (qa0 qcl qa1))) qao)),?_⟩
 walk_at "d"
 refine qae (σ:=[some (.ref t),some (x)]) rfl ?_
 have hT0:=hT
 obtain⟨⟨dx,ht⟩,hw,hh,nd,hz,hE⟩:=hT
 have ct:=T.w01
 have nh:qav K d.w00 "houses":=T.w02
 left
 refine⟨t,S,x,rfl,hT0,hx,?_⟩
 cases hw':who S x with
 |none=>
  left
  show if (!false)=true then _ else _
  left
  exact q2 hw'
 |some e=>
  left
  exact q1 e hw'
include T in
theorem w4u:FnOk P w K mg base (My.CX1 P w) 3 d.w35 d.w2v ["self","name"] (w85 K d):=by
 refine okX T.w8t w80 (fun vs H Q E h=>?_) (fun cdv A outer s H vs Q E hr h=>?_)
 .obtain⟨t,S,x,rfl,_⟩:=h;rfl
 obtain⟨t,S,x,rfl,hT,hx,q1,q2⟩:=h
 refine⟨_,(qa3 (qb2 (qb1 (pv 0) T.w01 T.w05 ((w1o T).mono (by decide)) hr T.w1x .nil qas (qa0 (pv 1) qa1)))
  (qa5 (qai (qbt (qc9 hr) (qaz (pv 0) rfl) (pv 1) (fun _ _=>rfl))))),?_⟩
 walk_at "d"
 refine qae (σ:=[some (.ref t),some (x)]) rfl ?_
 have hT0:=hT
 obtain⟨⟨dx,ht⟩,hw,hh,nd,hz,hE⟩:=hT
 have ct:=T.w01
 have nh:qav K d.w00 "houses":=T.w02
 left
 refine⟨t,S,x,rfl,hT0,hx,fun e he=>?_,q2⟩
 have hz':∃z,x=.str z:=by
  rcases hx with h|⟨_,nz⟩
  .exact h
  .rw [qd1 nz] at he;cases he
 obtain⟨z,rfl⟩:=hz'
 left
 refine r_dgO (.inl hh) (h:=e.a) (by rw [qdq];show (S.at z).map _=_;rw [show S.at z=some e from he];rfl) ?_
 left
 exact q1 e he
include T in
theorem w4v:FnOk P w K mg base (My.CX1 P w) 4 d.w3n d.w2n ["self","name"] (w83 K d):=by
 refine okX T.w89 w84 (fun vs H Q E h=>?_) (fun cdv A outer s H vs Q E hr h=>?_)
 .obtain⟨t,S,x,rfl,_⟩:=h;rfl
 obtain⟨t,S,x,rfl,hT,hx,q1,q2⟩:=h
 refine⟨_,(qa5 (qai (qaz (qb1 (pv 0) T.w01 T.w0f ((w4u T).mono (by decide)) hr T.w5o .nil qas (qa0 (pv 1) qa1)) rfl))),?_⟩
 walk_at "d"
 refine qae (σ:=[some (.ref t),some (x)]) rfl ?_
 have hT0:=hT
 obtain⟨⟨dx,ht⟩,hw,hh,nd,hz,hE⟩:=hT
 have ct:=T.w01
 have nh:qav K d.w00 "houses":=T.w02
 left
 refine⟨t,S,x,rfl,hT0,hx,fun e he=>?_,q2⟩
 obtain⟨z,rfl⟩:∃z,x=.str z:=by
  rcases hx with h|⟨_,nz⟩
  .exact h
  .rw [qd1 nz] at he;cases he
 obtain⟨⟨dh,ho⟩,hp,hpA,hc,hcA⟩:=hE e (qc6 he).1
 have ch:=T.w1j
 have nf:qav K d.w03 "elder":=T.w0l
 have hRp:Rd H e.x.pa (.dK e.x.kp):=.inl hp
 have hRc:Rd H e.x.ca (.dK e.x.kc):=.inl hc
 left
 exact q1 e he
include T in
theorem w1p:FnOk P w K mg base CX0 1 d.w6h d.w5m ["amounts","ware"] (w7o K d):=by
 refine T.w1k.ok wbf (fun vs H Q E h=>?_) (fun cdv A outer s H vs Q E hr h=>?_)
 .obtain⟨a,kvs,f,z,rfl,_⟩:=h;rfl
 obtain⟨a,kvs,f,z,rfl,hR,hA,q⟩:=h
 refine⟨_,(qa5 (qai (pe_dget2 (qc9 hr) (pv 0) (pv 1) qa4 ⟨rfl,rfl,rfl,rfl⟩))),?_⟩
 walk_at "d"
 refine qae (σ:=[some (.ref a),some (.str z)]) rfl ?_
 left
 exact q
include T in
theorem w9e:FnOk P w K mg base CX0 1 d.w3v d.w3m ["amounts"] (w8h K d):=by
 refine T.w5u.ok w3b (fun vs H Q E h=>?_) (fun cdv A outer s H vs Q E hr h=>?_)
 .obtain⟨a,kvs,f,rfl,_⟩:=h;rfl
 obtain⟨a,kvs,f,rfl,hH,hA,hz,q⟩:=h
 refine⟨_,(qa3 (qaf (i:=1) w3b.nd rfl (Or.inl rfl) qfr)
  (qa3 (ps_thA (qb7 PassesOwn.never rfl (qer (pv 0)) (qac (i:=2) w3b.nd rfl (Or.inl rfl)) (qa5 (qd5 (qbk (qap qf6 (qbt (qc9 hr) (pv 0) (pv 2) (fun _ _=>rfl)) qa4 (qar _)) (qa5 (qe5 (qc9 hr) (pv 1) (pv 2) (qbt (qc9 hr) (pv 0) (pv 2) (fun _ _=>rfl)) rfl)) qao)))))
  (qa5 (qai (pv 1))))),?_⟩
 walk_at "d"
 refine qae (σ:=[some (.ref a),none,none]) rfl ?_
 left
 rename_i l hl
 have ea:=qab (o':=.dK []) hH hl
 have nla:l≠a:=(qaa hH hl).symm
 refine r_itD ea fun o=>?_
 refine f_dict (fun i σ H'=>∃(k':List (Key × V)) (w:Option V),σ=[some (.ref a),some (.ref l),w]/\SameBut a H H'/\H' a=some (.frz o (.dK kvs))/\H' l=some (.dK k')/\k'.length<=i/\AD k' (fun y=>if y∈(qdd kvs).take i then qcj f y else none))
  ⟨[],none,rfl,SameBut.at (SameBut.of (qa6 hl _)),qa2,by rw [qa7 nla];exact qa2,Nat.le_refl _,AD.nil.cast fun z=>by simp [noF]⟩ ?_ ?_ ?_
 .rintro i σ H' _ ⟨k',w,rfl,sb,fz,hl',_⟩;exact fz
 .rintro i k v σ H' hk ⟨k',w,rfl,sb,fz,hl',hlen,hA'⟩
  obtain⟨z,n,rfl,rfl,hf,hzi⟩:=hA.at hk
  have hi:i < kvs.length:=(List.getElem?_eq_some_iff.mp hk).1
  have hRd:Rd H' a (.dK kvs):=.inr ⟨o,fz⟩
  show qfz _ (.str z) _ _ _
  left
  refine r_cut0 ?_
  left
  refine i_2 (fun c=>?_) (fun c=>?_)
  .left
   refine⟨_,_,rfl,?_,by rw [qa7 nla.symm];exact fz,qa2,?_,(hA'.put z n).cast fun y=>?_⟩
   .exact sb_put sb hl
   .have:=qc1 k' (Sum.inr z) (.int n);omega
   .exact step_put hzi (qcj f) (fun _=>none) (by unfold qcj;rw [hf];exact if_pos c) y
  .left
   refine⟨_,_,rfl,sb,fz,hl',by omega,hA'.cast fun y=>?_⟩
   exact step_no hzi (qcj f) (fun _=>none) (by unfold qcj;rw [hf];exact if_neg c) y
 .rintro σ H' ⟨k',w,rfl,sb,fz,hl',_,hA'⟩
  refine r_thNx (thaw1 fz (qdx hH)) ?_
  left
  refine q l k' _ (qd3 hH sb) hl (by rw [qa7 nla];exact hl') (hA'.cast fun y=>?_)
  exact step_end hA (qcj f) (fun _=>none) (fun y e=>by unfold qcj;rw [e]) y
include T in
theorem wdj:FnOk P w K mg base CX0 2 d.wcj d.waq ["one","other"] (wfm K d):=by
 refine T.wck.ok wb1 (fun vs H Q E h=>?_) (fun cdv A outer s H vs Q E hr h=>?_)
 .obtain⟨a,b,ka,kb,f,g,rfl,_⟩:=h;rfl
 obtain⟨a,b,ka,kb,f,g,rfl,hRa,hb,hA,hB,za,zb,q⟩:=h
 refine⟨_,(qa3 (qaf (i:=2) wb1.nd rfl (Or.inl rfl) (qb8 qco rfl T.wa2 PyProof.Rows.boot_dict (qa0 (pv 0) qa1)))
  (qa3 (ps_thA (qb7 PassesOwn.never rfl (qer (pv 1)) (qac (i:=3) wb1.nd rfl (Or.inl rfl)) (qa5 (qe5 (qc9 hr) (pv 2) (pv 3) (qal qax (qa9 ((w1p T).mono (by decide)) hr rfl T.w28 T.w1k.kp T.w29 .nil qah (qa0 (pv 0) (qa0 (pv 3) qa1))) (qbt (qc9 hr) (pv 1) (pv 3) (fun _ _=>rfl))) rfl))))
  (qa5 (qai (pv 2))))),?_⟩
 walk_at "d"
 refine qae (σ:=[some (.ref a),some (.ref b),none,none]) rfl ?_
 left
 rename_i l hl
 have eb:=qab (o':=.dK ka) hb hl
 have nlb:l≠b:=(qaa hb hl).symm
 refine r_itD eb fun o=>?_
 refine f_dict (fun i σ H'=>∃(k':List (Key × V)) (w:Option V),σ=[some (.ref a),some (.ref b),some (.ref l),w]/\SameBut b H H'/\H' b=some (.frz o (.dK kb))/\H' l=some (.dK k')/\k'.length<=1000+i/\AD k' (fun y=>if y∈(qdd kb).take i then addF f g y else f y))
  ⟨ka,none,rfl,SameBut.at (SameBut.of (qa6 hl _)),qa2,by rw [qa7 nlb];exact qa2,by omega,hA.cast fun z=>by simp⟩ ?_ ?_ ?_
 .rintro i σ H' _ ⟨k',w,rfl,sb,fz,hl',_⟩;exact fz
 .rintro i k v σ H' hk ⟨k',w,rfl,sb,fz,hl',hlen,hA'⟩
  obtain⟨z,n,rfl,rfl,hf,hzi⟩:=hB.at hk
  have hi:i < kb.length:=(List.getElem?_eq_some_iff.mp hk).1
  have hRb:Rd H' b (.dK kb):=.inr ⟨o,fz⟩
  have hRa':Rd H' a (.dK ka):=rd_in hRa hb sb fz
  show qfz _ (.str z) _ _ _
  left
  refine⟨_,_,rfl,sb_put sb hl,by rw [qa7 nlb.symm];exact fz,qa2,?_,(hA'.put z _).cast fun y=>?_⟩
  .have:=qc1 k' (Sum.inr z) (.int (gN f z+n));omega
  .exact step_put hzi (addF f g) f (by unfold addF;rw [hf]) y
 .rintro σ H' ⟨k',w,rfl,sb,fz,hl',_,hA'⟩
  refine r_thNx (thaw1 fz (qdx hb)) ?_
  left
  refine q l k' _ (qd3 hb sb) hl (by rw [qa7 nlb];exact hl') (hA'.cast fun y=>?_)
  exact step_end hB (addF f g) f (fun y e=>by unfold addF;rw [e]) y
include T in
theorem wez:FnOk P w K mg base CX0 2 d.way d.w8y ["one","other"] (wfa K d):=by
 refine T.wdm.ok wbr (fun vs H Q E h=>?_) (fun cdv A outer s H vs Q E hr h=>?_)
 .obtain⟨a,b,ka,kb,f,g,rfl,_⟩:=h;rfl
 obtain⟨a,b,ka,kb,f,g,rfl,hRa,hRb,hA,hB,za,qn,qs⟩:=h
 refine⟨_,(qa3 (qb7 PassesOwn.never rfl (qau (qaj (qfg rfl) rfl T.w6r PyProof.Rows.boot_sorted (qa0 (pv 0) qa1))) (qac (i:=2) wbr.nd rfl (Or.inl rfl)) (qa5 (qbk (qap qf6 (qbt (qc9 hr) (pv 0) (pv 2) (fun _ _=>rfl)) (qa9 ((w1p T).mono (by decide)) hr rfl T.w28 T.w1k.kp T.w29 .nil qah (qa0 (pv 1) (qa0 (pv 2) qa1))) (qar _)) (qa5 (qai (pv 2))) qao)))
  (qa5 (qai qca))),?_⟩
 walk_at "d"
 refine qae (σ:=[some (.ref a),some (.ref b),none]) rfl ?_
 left
 refine r_sortD hRa hA.keys (by rw [hA.klen];exact za) fun l ss hl hp hs=>?_
 have pw:=qd2 hs
 have hin:∀y,y∈ss↔f y≠none:=fun y=>(hp.mem_iff).trans (hA.kin y)
 left
 have sm:=qa6 hl (.lst (ss.map V.str))
 have hRa':=rd_new hRa hl (u:=.lst (ss.map V.str))
 have hRb':=rd_new hRb hl (u:=.lst (ss.map V.str))
 refine qde (xs:=ss.map V.str) (fun i σ H'=>H'=upd H l (.lst (ss.map V.str))/\(∃w,σ=[some (.ref a),some (.ref b),w])/\∀j y,j < i->ss[j]?=some y->¬viol f g y) ⟨rfl,⟨_,rfl⟩,fun j y hj=>absurd hj (Nat.not_lt_zero j)⟩ ?_ ?_ ?_
 .rintro i σ H' _ ⟨rfl,_⟩;exact SqL.of qa2
 .rintro i v σ H' hv ⟨rfl,⟨w,rfl⟩,hno⟩
  rw [zC] at hv
  obtain⟨z,hz,rfl⟩:=Option.map_eq_some_iff.mp hv
  have hfz:=(hin z).mp (zD hz)
  obtain⟨n,hn⟩:∃n,f z=some n:=by
   cases e:f z with
   |none=>exact absurd e hfz
   |some n=>exact⟨n,rfl⟩
  have gz:gN f z=n:=by unfold gN;rw [hn];rfl
  left
  refine i_2 (fun c=>?_) (fun c=>?_)
  .left
   refine qs z _ sm ⟨hfz,by rw [gz];exact c⟩ fun y hy=>?_
   obtain⟨j,hj,e⟩:=zQ.mp ((hin y).mpr hy.1)
   have hji:i<=j:=by
    rcases Nat.lt_or_ge j i with h|h
    .exact absurd hy (hno j y h (by rw [zA hj,e]))
    .exact h
   obtain⟨hi,ez⟩:=List.getElem?_eq_some_iff.mp hz
   rcases Nat.eq_or_lt_of_le hji with h|h
   .subst h;rw [ez] at e;subst e;exact leS_refl _
   .have:=zY.mp pw i j hi hj h
    rw [ez,e] at this;exact this
  .left
   refine⟨rfl,⟨_,rfl⟩,fun j y hj hy=>?_⟩
   rcases Nat.lt_or_ge j i with h|h
   .exact hno j y h hy
   .have e:j=i:=by omega
    subst e
    rw [hz] at hy
    cases hy
    exact fun hv=>c (by have:=hv.2;rw [gz] at this;exact this)
 .rintro σ H' ⟨rfl,⟨w,rfl⟩,hno⟩
  left
  refine qn _ sm fun y hy=>?_
  obtain⟨j,hj,e⟩:=zQ.mp ((hin y).mpr hy.1)
  exact hno j y (by rw [zB];exact hj) (by rw [zA hj,e]) hy
theorem sum_sup {ts:List Pt} {ws:List Str} (h:∀t∈ts,∀z,t.f z≠none->z∈ws):∀f0:Str->Option Int,(∀z,f0 z≠none->z∈ws)->∀z,ts.foldl (fun f t=>addF f t.f) f0 z≠none->z∈ws:=by
 induction ts with
 |nil=>intro f0 h0 z hz;exact h0 z hz
 |cons t ts ih=>intro f0 h0 z hz;exact ih (fun t' ht=>h t' (zF _ ht)) (addF f0 t.f) (addF_sup h0 (h t (zL ..))) z hz
include T in
theorem w8u:FnOk P w K mg base CX0 3 d.w7b d.w5z ["many"] (wdf K d):=by
 refine T.w73.ok w4e (fun vs H Q E h=>?_) (fun cdv A outer s H vs Q E hr h=>?_)
 .obtain⟨L,ts,ws,rfl,_⟩:=h;rfl
 obtain⟨L,ts,ws,rfl,hS,hw,hts,q⟩:=h
 refine⟨_,(qa3 (qaf (i:=1) w4e.nd rfl (Or.inl rfl) qfr)
  (qa3 (qb7 PassesOwn.never rfl (qau (pv 0)) (qac (i:=2) w4e.nd rfl (Or.inl rfl)) (qa5 (qaf (i:=1) w4e.nd rfl (Or.inl rfl) (qa9 ((wdj T).mono (by decide)) hr rfl T.wf6 T.wck.kp T.wei .nil qah (qa0 (pv 1) (qa0 (pv 2) qa1))))))
  (qa5 (qai (pv 1))))),?_⟩
 walk_at "d"
 refine qae (σ:=[some (.ref L),none,none]) rfl ?_
 left
 rename_i l0 hl0
 refine qde (xs:=ts.map fun t=> .ref t.a) (fun i σ H'=>∃(l:Addr) (k':List (Key × V)) (w:Option V),σ=[some (.ref L),some (.ref l),w]/\qaq H H'/\H l=none/\H' l=some (.dK k')/\AD k' (sumF (ts.take i))) ⟨l0, [],none,rfl,qa6 hl0 _,hl0,qa2,AD.nil⟩ ?_ ?_ ?_
 .rintro i σ H' _ ⟨l,k',w,rfl,sm,_⟩;exact sm.seq hS
 .rintro i v σ H' hv ⟨l,k',w,rfl,sm,hl,hl',hA'⟩
  rw [zC] at hv
  obtain⟨t,ht,rfl⟩:=Option.map_eq_some_iff.mp hv
  have hm:=zD ht
  obtain⟨h1,h2,h3⟩:=hts t hm
  have sup:∀z,sumF (ts.take i) z≠none->z∈ws:=sum_sup (fun t' ht'=>(hts t' (List.mem_of_mem_take ht')).2.2) noF (fun z h=>absurd rfl h)
  have c1:=hA'.le sup
  have c2:=h2.le h3
  left
  refine⟨l,t.a,k',t.k,sumF (ts.take i),t.f,rfl,.inl hl',sm _ _ h1,hA',h2,by omega,by omega,fun l2 k2 H2 sm2 hl2 e2 hA2=>?_⟩
  left
  refine⟨l2,k2,_,rfl,sm.trans sm2,sm.free hl2,e2,?_⟩
  have e:ts.take (i+1)=ts.take i++ [t]:=by rw [zM,ht];rfl
  rw [e]
  unfold sumF
  rw [List.foldl_append]
  exact hA2
 .rintro σ H' ⟨l,k',w,rfl,sm,hl,hl',hA'⟩
  rw [zB,zR] at hA'
  left
  exact q l k' H' sm hl hl' hA'
include T in
theorem w2k:FnOk P w K mg base (My.CX1 P w) 5 d.w6f d.w5p ["self","name"] (wb7 K d):=by
 refine okX T.wcr w3p (fun vs H Q E h=>?_) (fun cdv A outer s H vs Q E hr h=>?_)
 .obtain⟨t,S,x,rfl,_⟩:=h;rfl
 obtain⟨t,S,x,rfl,hT,q⟩:=h
 refine⟨_,(qa3 (qaf (i:=2) w3p.nd rfl (Or.inl rfl) (qbm (qa0 (pv 1) qa1)))
  (qa3 (qaf (i:=3) w3p.nd rfl (Or.inl rfl) (qb1 (pv 0) T.w01 T.w0e ((w4v T).mono (by decide)) hr T.w5b .nil qas (qa0 (pv 1) qa1)))
  (qa3 (ps_while (qdp rfl rfl) (qap op_notNN (pv 3) qca (qar _)) (qa3 (qb2 (qe8 PySem.F.plainAttrs_list PySem.F.slot_list_append PySem.F.type_list_append qb9 (pv 2) (qa0 (pv 3) qa1)))
  (qa5 (qaf (i:=3) w3p.nd rfl (Or.inl rfl) (qb1 (pv 0) T.w01 T.w0e ((w4v T).mono (by decide)) hr T.w5b .nil qas (qa0 (pv 3) qa1))))))
  (qa5 (qai (pv 2)))))),?_⟩
 walk_at "d"
 refine qae (σ:=[some (.ref t),some (x),none,none]) rfl ?_
 have ct:=T.w01
 obtain⟨dx,ht⟩:=hT.1
 left
 rename_i l hl
 have sl:=qa6 hl (.lst [x])
 rcases q with ⟨z,zs,rfl,hL,hz,q⟩ |⟨hx,hn,q⟩
 .obtain⟨e0,r0,h0,rfl,hr0⟩:=hL.open
  refine⟨t,S,.str z,rfl,hT.same sl,.inl ⟨z,rfl⟩,fun e he=>?_,fun he=>?_⟩
  .have ee:e0=e:=Option.some.inj (h0.symm.trans he)
   subst ee
   left
   refine while_by (fun σ H'=>∃(ys rs:List Str) (o:Option Str),σ=[some (.ref t),some (.str z),some (.ref l),some (eV o)]/\H'=upd H l (.lst (ys.map V.str))/\ys++rs=z :: r0/\RestOf S o rs) (fun _ H'=>(r0.length+1) - lenAt l H') ⟨[z],r0,_,rfl,rfl,rfl,hr0⟩ ?_ ?_
   .rintro σ H' ⟨ys,rs,o,rfl,rfl,hyr,hR⟩
    have hlen:=congrArg List.length hyr
    rw [zH,zP] at hlen
    have hz2:(z :: r0).length<=1000:=hz
    rw [zP] at hz2
    cases o with
    |none=>
     have:rs=[]:=hR
     subst this
     rw [zZ] at hyr
     subst hyr
     rw [show eV none=V.non from rfl]
     left
     exact q l hl
    |some y=>
     obtain⟨e1,r1,h1,rfl,hr1⟩:=LineOf.open hR
     have sy:=qa6 hl (.lst (ys.map V.str))
     have eL:upd H l (.lst (ys.map V.str)) l=some (.lst (ys.map V.str)):=qa2
     have hzz:(ys.map V.str).length < sizeLine:=by rw [zB];show _ < 16777216;omega
     rw [show eV (some y)=V.str y from rfl]
     left
     rw [qbj]
     have s2:=qa6 hl (.lst (ys.map V.str++ [.str y]))
     have ht2:=s2 _ _ ht
     left
     refine⟨t,S,.str y,rfl,hT.same s2,.inl ⟨y,rfl⟩,fun e he=>?_,fun he=>?_⟩
     .have ee:e1=e:=Option.some.inj (h1.symm.trans he)
      subst ee
      left
      rw [zP] at hlen
      refine⟨⟨ys++ [y],r1,_,rfl,by rw [zE];rfl,by rw [List.append_assoc];exact hyr,hr1⟩,?_⟩
      have g1:=lenAt_eq eL
      have g2:lenAt l (upd H l (.lst (ys.map V.str++ [V.str y])))=(ys.map V.str++ [V.str y]).length:=lenAt_eq qa2
      rw [zH,zB] at g2
      rw [zB] at g1
      rw [g1,g2]
      simp only [zP,yR]
      omega
     .rw [show who S (.str y)=some e1 from h1] at he;cases he
   .rintro σ H' Q1 Q2 hm ⟨v,hv,w,k,hk,hq⟩
    exact⟨v,hv,w,k,hk,hm _ _ hq⟩
  .rw [show who S (.str z)=some e0 from h0] at he;cases he
 .refine⟨t,S,x,rfl,hT.same sl,hx.same sl,fun e he=>?_,fun _=>q l hl⟩
  rw [hn] at he;cases he
theorem at_of {S:Ts} {e:He} (nd:(S.hl.map (·.n)).Nodup) (h:e∈S.hl):S.at e.n=some e:=by
 have q:qda S.keys e.n=some e.a:=lookO_of (by unfold Ts.keys;rw [yU];exact nd) (zI.mpr ⟨e,h,rfl⟩)
 unfold Ts.at
 revert nd h
 obtain⟨sw,ws,hs,hl⟩:=S
 dsimp only
 clear q
 intro nd h
 induction hl with
 |nil=>simp at h
 |cons y r ih=>
  rw [zS,yA] at nd
  rw [yI]
  rcases zK.mp h with h|h
  .subst h;rw [decide_eq_true rfl]
  .have ne:y.n≠e.n:=fun z=>nd.1 (by rw [z];exact zI.mpr ⟨e,h,rfl⟩)
   rw [decide_eq_false ne]
   exact ih nd.2 h
theorem keys_at {S:Ts} {i:Nat} {k:Key} {v:V} (h:(oK S.keys)[i]?=some (k,v)):∃e,S.hl[i]?=some e/\k=Sum.inr e.n/\v=.ref e.a:=by
 unfold oK Ts.keys at h
 rw [zC,zC] at h
 cases q:S.hl[i]? with
 |none=>rw [q] at h;cases h
 |some e=>rw [q] at h;cases h;exact⟨e,rfl,rfl,rfl⟩
theorem qei (S:Ts):(oK S.keys).length=S.hl.length:=by unfold oK Ts.keys;rw [zB,zB]
theorem dec_el {o:Option Str} {z:Str}:decide (eV o=V.str z)=decide (o=some z):=by
 cases o with
 |none=>rfl
 |some y=>
  by_cases h:y=z
  .subst h;show decide (V.str y=V.str y)=_;rw [decide_eq_true rfl,decide_eq_true rfl]
  .rw [decide_eq_false (fun q=>h (by cases q;rfl)),decide_eq_false (fun q=>h (Option.some.inj q))]
theorem scal_el {o:Option Str} {z:Str}:scal (eV o) (V.str z)=true:=by cases o <;> rfl
include T in
theorem wbs:FnOk P w K mg base (My.CX1 P w) 3 d.w67 d.w52 ["self","name"] (wbo K d):=by
 refine okX T.wd9 wbd (fun vs H Q E h=>?_) (fun cdv A outer s H vs Q E hr h=>?_)
 .obtain⟨t,S,x,rfl,_⟩:=h;rfl
 obtain⟨t,S,x,rfl,hT,hx,q1,q2⟩:=h
 refine⟨_,(qa3 (qb2 (qb1 (pv 0) T.w01 T.w05 ((w1o T).mono (by decide)) hr T.w1x .nil qas (qa0 (pv 1) qa1)))
  (qa5 (qai (qaj qea rfl T.w6r PyProof.Rows.boot_sorted (qa0 (pe_thV (qbp (caps:=[0,1]) (cn:=["self","name"]) (qb4 rfl rfl (by rfl) (by rfl) rfl ⟨rfl,⟨rfl,trivial⟩⟩ (by rfl) rfl ⟨⟨rfl,rfl,rfl,rfl,_,rfl⟩,⟨⟨rfl,rfl,rfl,rfl,_,rfl⟩,trivial⟩⟩ (by decide)) rfl (qer (qaz (pv 0) rfl)) (fun _ _ _ _=>(qcu (qap qdk (qaz (qbt (qc9 hr) (qaz (pv 1) rfl) (pv 0) (fun _ _=>rfl)) rfl) (pv 2) (qar _)))) (fun _ _ _ _=>(pv 0)))) qa1))))),?_⟩
 walk_at "d"
 dsimp only [cxC]
 refine qae (σ:=[some (.ref t),some (x)]) rfl ?_
 have hT0:=hT
 obtain⟨⟨dx,ht⟩,hw,hh,nd,hz,hE⟩:=hT
 have ct:=T.w01
 have ch:=T.w1j
 have nh:qav K d.w00 "houses":=T.w02
 have nf:qav K d.w03 "elder":=T.w0l
 left
 refine⟨t,S,x,rfl,hT0,hx,fun e he=>?_,q2⟩
 obtain⟨z,rfl⟩:∃z,x=.str z:=by
  rcases hx with h|⟨_,nz⟩
  .exact h
  .rw [qd1 nz] at he;cases he
 obtain⟨hme,rfl⟩:=qc6 he
 left
 refine r_thV ?_
 left
 refine r_itD hh fun o=>?_
 intro C s0 H0 fp na hna
 have hF:upd H S.hs (.frz o (.dK (oK S.keys))) S.hs=some (.frz o (.dK (oK S.keys))):=qa2
 have sb:SameBut S.hs H (upd H S.hs (.frz o (.dK (oK S.keys)))):=sb_frz hh
 have ht2:=sb _ _ (ne_of ht hh (by intro z;cases z)) ht
 have hna0:H na=none:=by
  by_cases z:na=S.hs
  .subst z;rw [hF] at hna;cases hna
  .rw [qa7 z] at hna;exact hna
 have hE2:∀e∈S.hl,∃dx,upd H S.hs (.frz o (.dK (oK S.keys))) e.a=some (.ins d.w03 dx (fsH e.x)):=fun e he=>by
  obtain⟨⟨dx,q⟩,_⟩:=hE e he
  exact⟨dx,sb _ _ (ne_of q hh (by intro z;cases z)) q⟩
 generalize upd H S.hs (.frz o (.dK (oK S.keys)))=HF at*
 refine qf9 S.hl.length (fun i H'=>H'=upd HF na (.lst ((((S.hl.take i).filter fun y=>decide (y.x.el=some e.n)).map (·.n)).map V.str))) rfl ?_ ?_ ?_ ?_
 .rintro i H' hi rfl
  exact⟨qab hF hna,by rw [qei];exact hi⟩
 .rintro H' rfl
  exact⟨qab hF hna,by rw [qei];exact Nat.le_refl _⟩
 .rintro i H' v H'' hi rfl ⟨rfl,k,v',hk,rfl⟩
  obtain⟨y,hy,rfl,rfl⟩:=keys_at hk
  have hym:=zD hy
  obtain⟨dy,hya⟩:=hE2 y hym
  have nx:(S.hl.take (i+1)).filter (fun y=>decide (y.x.el=some e.n))=(S.hl.take i).filter (fun y=>decide (y.x.el=some e.n))++(if decide (y.x.el=some e.n)=true then [y] else []):=by
   rw [zM,hy,zX]
   congr 1
   simp only [Option.toList_some,zW,yN]
  have hlen:((S.hl.take i).filter (fun y=>decide (y.x.el=some e.n))).length<=S.hl.length:=Nat.le_trans (zT ..) (by rw [zU];omega)
  left
  refine r_dgO (h:=y.a) (rd_new (.inr ⟨o,hF⟩) hna) (by rw [qdq,at_of nd hym];rfl) ?_
  left
  refine⟨scal_el,?_⟩
  rw [dec_el]
  refine⟨_,rfl,?_⟩
  refine i_2 (fun c=>?_) (fun c=>?_)
  .left
   rw [qbj,nx,if_pos (decide_eq_true c),zE,zE];rfl
  .rw [nx,if_neg (by rw [decide_eq_false c];decide),zZ]
 rintro H' rfl
 rw [zR]
 have nns:na≠S.hs:=fun z=>by subst z;rw [hF] at hna;cases hna
 have eN:upd (upd HF na (.lst ((qbf S e.n).map V.str))) S.hs (.dK (oK S.keys)) na=some (.lst ((qbf S e.n).map V.str)):=by rw [qa7 nns];exact qa2
 have sm:qaq H (upd (upd HF na (.lst ((qbf S e.n).map V.str))) S.hs (.dK (oK S.keys))):=qd3 hh (sb_put sb hna0)
 have hkl:(qbf S e.n).length<=60:=by unfold qbf;rw [zB];exact Nat.le_trans (zT ..) hz
 refine⟨_,thaw1 (qab hF hna) (qdx hh),?_⟩
 show tNil _ (upd (upd HF na (.lst ((qbf S e.n).map V.str))) S.hs (.dK (oK S.keys))) _
 generalize upd (upd HF na (.lst ((qbf S e.n).map V.str))) S.hs (.dK (oK S.keys))=H3 at*
 left
 refine r_sortL (SqL.of eN) (by omega) fun l ss hl hp hs=>?_
 left
 exact q1 e he l ss _ (qdu sm hl) (sm.free hl) qa2 hp hs
theorem r_extend {H:Hp} {Q:VK} {l b:Addr} {xs zs:List V} (h:H l=some (.lst xs)) (hb:H b=some (.lst zs)) (hz:xs.length+zs.length<=sizeLine) (q:Q .non (upd H l (.lst (xs++zs)))):rExtend (.ref l) [.ref b] H Q:=⟨l,b,xs,zs,rfl,rfl,h,hb,hz,q⟩
def flat (parts:List (Str × List Str)):List Str:=(parts.map (·.2)).flatten
def Ben (S:Ts):Nat->Str->List Str->Prop
 |0,z,zs=>∃parts:List (Str × List Str),(parts.map (·.1)).Perm (qbf S z)/\zs=z :: flat parts/\∀p∈parts,False
 |n+1,z,zs=>∃parts:List (Str × List Str),(parts.map (·.1)).Perm (qbf S z)/\zs=z :: flat parts/\∀p∈parts,Ben S n p.1 p.2
def BenP (S:Ts):Nat->Str->List Str->Prop
 |0,z,zs=>∃(parts:List (Str × List Str)) (rest:List Str),(parts.map (·.1)++rest).Perm (qbf S z)/\zs=z :: flat parts/\∀p∈parts,False
 |n+1,z,zs=>∃(parts:List (Str × List Str)) (rest:List Str),(parts.map (·.1)++rest).Perm (qbf S z)/\zs=z :: flat parts/\∀p∈parts,BenP S n p.1 p.2
theorem Ben.part {S:Ts}:∀{n:Nat} {z:Str} {zs:List Str},Ben S n z zs->BenP S n z zs
 |0,_,_,⟨parts,a,b,c⟩=>⟨parts, [],by rw [zZ];exact a,b,c⟩
 |n+1,_,_,⟨parts,a,b,c⟩=>⟨parts, [],by rw [zZ];exact a,b,fun p hp=>Ben.part (c p hp)⟩
def BenK (S:Ts):Nat->Str->List Str->Prop
 |0,_,_=>False
 |n+1,z,zs=>Ben S n z zs
theorem ben_of {S:Ts} {n:Nat} {z:Str} {parts:List (Str × List Str)} (h:(parts.map (·.1)).Perm (qbf S z)) (hp:∀p∈parts,BenK S n p.1 p.2):Ben S n z (z :: flat parts):=by
 cases n with
 |zero=>exact⟨parts,h,rfl,hp⟩
 |succ n=>exact⟨parts,h,rfl,hp⟩
theorem benP_of {S:Ts} {n:Nat} {z:Str} {parts:List (Str × List Str)} {rest:List Str} (h:(parts.map (·.1)++rest).Perm (qbf S z)) (hp:∀p∈parts,BenK S n p.1 p.2):BenP S n z (z :: flat parts):=by
 cases n with
 |zero=>exact⟨parts,rest,h,rfl,hp⟩
 |succ n=>exact⟨parts,rest,h,rfl,fun p q=>Ben.part (hp p q)⟩
def Slim (S:Ts):Prop:=∀n z zs,BenP S n z zs->zs.length<=1000
def Dep (S:Ts):Nat->Str->Prop
 |0,z=>qbf S z=[]
 |n+1,z=>∀y∈qbf S z,Dep S n y
def wdp (n:Nat) (K:Frag) (d:Ad):Sp:=fun vs H Q E=>∃(t:Addr) (S:Ts) (x:V),vs=[.ref t,x]/\qed d H t S/\Slim S/\qdl K H x/\(∀e,who S x=some e->Dep S n e.n/\∀l zs H',qaq H H'->H l=none->H' l=some (.lst (zs.map V.str))->Ben S n e.n zs->Q (.ref l) H')/\(who S x=none->∀l,H l=none->E (.ref d.w04) none (upd H l (.lst [x])))
theorem kid_at {S:Ts} {y z:Str} (nd:(S.hl.map (·.n)).Nodup) (h:y∈qbf S z):∃e,S.at y=some e/\e.n=y:=by
 obtain⟨e,he,rfl⟩:=zI.mp h
 exact⟨e,at_of nd (yD.mp he).1,rfl⟩
theorem flat_app (a b:List (Str × List Str)):flat (a++b)=flat a++flat b:=by unfold flat;rw [zE,List.flatten_append]
theorem ben_step {P:Program} {w:World} {K:Frag} {mg:Str->Option Value} {base:Heap} {d:Ad} (T:Tx K mg d) (n:Nat) (spi:Sp) (IH:FnOk P w K mg base (My.CX1 P w) (3+n) d.w0w d.w0n ["self","name"] spi)
  (use:∀(t:Addr) (S:Ts) (z y:Str) (e:He) (H:Hp) (Q:VK) (E:XK),qed d H t S->Slim S->Dep S n z->y∈qbf S z->S.at y=some e->e.n=y->(∀l zs H',qaq H H'->H l=none->H' l=some (.lst (zs.map V.str))->BenK S n y zs->Q (.ref l) H')->spi [.ref t,.str y] H Q E):
  FnOk P w K mg base (My.CX1 P w) (3+n+1) d.w0w d.w0n ["self","name"] (wdp n K d):=by
 refine okX T.w9m w3k (fun vs H Q E h=>?_) (fun cdv A outer s H vs Q E hr h=>?_)
 .obtain⟨t,S,x,rfl,_⟩:=h;rfl
 obtain⟨t,S,x,rfl,hT,hS,hx,q1,q2⟩:=h
 refine⟨_,(qa3 (qaf (i:=2) w3k.nd rfl (Or.inl rfl) (qbm (qa0 (pv 1) qa1)))
  (qa3 (qb7 (qdp rfl rfl) rfl (qau (qb1 (pv 0) T.w01 T.w2i ((wbs T).mono (by omega)) hr T.wd2 .nil qas (qa0 (pv 1) qa1))) (qac (i:=3) w3k.nd rfl (Or.inl rfl)) (qa5 (qb2 (qe8 PySem.F.plainAttrs_list PySem.F.slot_list_extend PySem.F.type_list_extend mt_extend (pv 2) (qa0 (qb1 (pv 0) T.w01 T.w09 IH hr T.w2f .nil qas (qa0 (pv 3) qa1)) qa1)))))
  (qa5 (qai (pv 2))))),?_⟩
 walk_at "d"
 refine qae (σ:=[some (.ref t),some (x),none,none]) rfl ?_
 have ct:=T.w01
 obtain⟨dx,ht⟩:=hT.1
 have nd:=hT.2.2.2.1
 left
 rename_i lt hlt
 have sl:=qa6 hlt (.lst [x])
 refine⟨t,S,x,rfl,hT.same sl,hx.same sl,fun e he=>?_,fun he=>q2 he lt hlt⟩
 obtain⟨hD,q⟩:=q1 e he
 obtain⟨z,rfl⟩:∃z,x=.str z:=by
  rcases hx with h|⟨_,nz⟩
  .exact h
  .rw [qd1 nz] at he;cases he
 obtain⟨hme,rfl⟩:=qc6 he
 intro lk ss H1 s1 hlk ek hp hs
 have eT:=s1 _ _ (qa2 (H:=H) (a:=lt) (o:=.lst [V.str e.n]))
 left
 have ntk:lk≠lt:=fun z=>by subst z;rw [qa2] at hlk;cases hlk
 refine qde (xs:=ss.map V.str) (fun i σ H'=>∃(parts:List (Str × List Str)) (w:Option V),σ=[some (.ref t),some (.str e.n),some (.ref lt),w]/\parts.map (·.1)=ss.take i/\(∀p∈parts,BenK S n p.1 p.2)/\qaq H H'/\H' lk=some (.lst (ss.map V.str))/\H' lt=some (.lst ((e.n :: flat parts).map V.str)))
  ⟨[],_,rfl,rfl,fun p hp=>absurd hp (by simp),sl.trans s1,ek,eT⟩ ?_ ?_ ?_
 .rintro i σ H' _ ⟨parts,w,_,_,_,_,ek',_⟩;exact SqL.of ek'
 .rintro i v σ H' hv ⟨parts,w,rfl,hps,hB,sm,ek',eT'⟩
  rw [zC] at hv
  obtain⟨y,hy,rfl⟩:=Option.map_eq_some_iff.mp hv
  have hyk:y∈qbf S e.n:=hp.mem_iff.mp (zD hy)
  obtain⟨ey,h1,h2⟩:=kid_at nd hyk
  have ht':=sm _ _ ht
  left
  refine use t S e.n y ey H' _ _ (hT.same sm) hS hD hyk h1 h2 fun l zs H2 s2 hl el hBy=>?_
  have eT2:=s2 _ _ eT'
  have hps2:(parts++ [(y,zs)]).map (·.1)=ss.take (i+1):=by rw [zE,hps,zM,hy];rfl
  have hB2:∀p∈parts++ [(y,zs)],BenK S n p.1 p.2:=fun p hp=>by
   rcases zV.mp hp with h|h
   .exact hB p h
   .have:=zG.mp h
    subst this;exact hBy
  have ef:flat (parts++ [(y,zs)])=flat parts++zs:=by rw [flat_app];congr 1;simp [flat]
  have hlen:=hS _ _ _ (benP_of (n:=n) (z:=e.n) (parts:=parts++ [(y,zs)]) (rest:=ss.drop (i+1)) (by rw [hps2,List.take_append_drop];exact hp) hB2)
  rw [ef,zP,zH] at hlen
  left
  refine r_extend eT2 el (by rw [zB,zB,zP];show _<=16777216;omega) ?_
  left
  refine⟨parts++ [(y,zs)],_,rfl,hps2,hB2,qay (sm.trans s2) hlt,by rw [qa7 ntk];exact s2 _ _ ek',?_⟩
  rw [ef,<-zE];exact qa2
 .rintro σ H' ⟨parts,w,rfl,hps,hB,sm,ek',eT'⟩
  rw [zB,zR] at hps
  left
  exact q lt _ H' sm hlt eT' (ben_of (by rw [hps];exact hp) hB)
theorem wff {P:Program} {w:World} {K:Frag} {mg:Str->Option Value} {base:Heap} {CX:CXT} {k:Nat} {f:Addr} {fd:FuncData} {ps:List Str}:FnOk P w K mg base CX k f fd ps (fun _ _ _ _=>False):=
 ⟨fun _ _ _ _ h=>h.elim,fun _ _ _ _ _ _ _ _ _ _ _ _ _ h=>h.elim⟩
theorem wga {P:Program} {w:World} {K:Frag} {mg:Str->Option Value} {base:Heap} {d:Ad} (T:Tx K mg d):∀n:Nat,FnOk P w K mg base (My.CX1 P w) (3+n+1) d.w0w d.w0n ["self","name"] (wdp n K d)
 |0=>ben_step T 0 (fun _ _ _ _=>False) wff fun t S z y e H Q E _ _ hD hy _ _ _=>by
  have:qbf S z=[]:=hD
  rw [this] at hy;simp at hy
 |n+1=>ben_step T (n+1) (wdp n K d) (wga T n) fun t S z y e H Q E hT hS hD hy h1 h2 q=>by
  refine⟨t,S,.str y,rfl,hT,hS,.inl ⟨y,rfl⟩,fun e' he'=>?_,fun he'=>?_⟩
  .have ee:e=e':=Option.some.inj (h1.symm.trans he')
   subst ee
   rw [h2]
   exact⟨hD y hy,fun l zs H' sm hl el hB=>q l zs H' sm hl el hB⟩
  .rw [show who S (.str y)=some e from h1] at he';cases he'
def w87 (K:Frag) (d:Ad):Sp:=wdp 12 K d
include T in
theorem w3j:FnOk P w K mg base (My.CX1 P w) 16 d.w0w d.w0n ["self","name"] (w87 K d):=wga T 12
def upS (S:Ts) (y:Str):Option Str:=(S.at y).bind fun e=>e.x.el
def anc (S:Ts):Nat->Str->Option Str
 |0,y=>some y
 |k+1,y=>(upS S y).bind (anc S k)
theorem qds {S:Ts}:∀(i j:Nat) (y:Str),anc S (i+j) y=(anc S i y).bind (anc S j)
 |0,j,y=>by rw [Nat.zero_add];rfl
 |i+1,j,y=>by
  rw [show i+1+j=(i+j)+1 by omega]
  show (upS S y).bind (anc S (i+j))=((upS S y).bind (anc S i)).bind (anc S j)
  cases upS S y with
  |none=>rfl
  |some u=>exact qds i j u
def WF (S:Ts):Prop:=(S.hl.map (·.n)).Nodup/\∀e∈S.hl,∃zs,LineOf S e.n zs
theorem up_of {S:Ts} {z:Str} {e:He} (h:S.at z=some e):upS S z=e.x.el:=by unfold upS;rw [h];rfl
theorem line_end {S:Ts} {z:Str} {zs:List Str} (h:LineOf S z zs):anc S zs.length z=none:=by
 induction h with
 |top h n=>show (upS S _).bind _=none;rw [up_of h,n];rfl
 |up h n r ih=>show (upS S _).bind _=none;rw [up_of h,n];exact ih
theorem no_cycle {S:Ts} (w:WF S) {k:Nat} {z:Str}:anc S (k+1) z≠some z:=by
 intro c
 cases hz:S.at z with
 |none=>
  have:anc S (k+1) z=none:=by show (upS S z).bind _=none;unfold upS;rw [hz];rfl
  rw [this] at c;cases c
 |some e=>
  obtain⟨zs,hl⟩:=w.2 e (qc6 hz).1
  rw [(qc6 hz).2] at hl
  have he:=line_end hl
  have rep:∀m,anc S (m*(k+1)) z=some z:=by
   intro m
   induction m with
   |zero=>rw [Nat.zero_mul];rfl
   |succ m ih=>rw [Nat.succ_mul,qds,ih];exact c
  have h1:=rep zs.length
  have h2:zs.length*(k+1)=zs.length+zs.length*k:=by rw [Nat.mul_add,Nat.mul_one];omega
  rw [h2,qds,he] at h1
  cases h1
theorem kid_up {S:Ts} (w:WF S) {y z:Str} (h:y∈qbf S z):upS S y=some z:=by
 obtain⟨e,he,rfl⟩:=zI.mp h
 obtain⟨hm,hd⟩:=yD.mp he
 unfold upS
 rw [at_of w.1 hm]
 exact of_decide_eq_true hd
theorem kids_nodup {S:Ts} (w:WF S) (z:Str):(qbf S z).Nodup:=by
 unfold qbf
 exact List.Nodup.sublist (List.Sublist.map _ List.filter_sublist) w.1
theorem ben_anc {S:Ts} (w:WF S):∀{n:Nat} {z:Str} {zs:List Str},BenP S n z zs->∀y∈zs,∃k,anc S k y=some z
 |0,z,_,⟨parts,rest,hp,rfl,hb⟩,y,hy=>by
  rcases zK.mp hy with rfl|hy
  .exact⟨0,rfl⟩
  .obtain⟨l,hl,_⟩:=yM.mp hy
   obtain⟨p,hpp,_⟩:=zI.mp hl
   exact(hb p hpp).elim
 |n+1,z,_,⟨parts,rest,hp,rfl,hb⟩,y,hy=>by
  rcases zK.mp hy with rfl|hy
  .exact⟨0,rfl⟩
  .obtain⟨l,hl,hyl⟩:=yM.mp hy
   obtain⟨p,hpp,rfl⟩:=zI.mp hl
   obtain⟨k,hk⟩:=ben_anc w (hb p hpp) y hyl
   have hu:=kid_up w (hp.mem_iff.mp (yH _ (zI.mpr ⟨p,hpp,rfl⟩)))
   exact⟨k+1,by rw [qds,hk];show (upS S p.1).bind _=_;rw [hu];rfl⟩
theorem apart {S:Ts} (w:WF S) {p q z y:Str} {i j:Nat} (hp:upS S p=some z) (hq:upS S q=some z) (ne:p≠q) (hi:anc S i y=some p) (hj:anc S j y=some q) (le:i<=j):False:=by
 obtain⟨c,rfl⟩:=Nat.exists_eq_add_of_le le
 rw [qds,hi] at hj
 have hj':anc S c p=some q:=hj
 cases c with
 |zero=>exact ne (Option.some.inj hj')
 |succ c=>
  have h1:(upS S p).bind (anc S c)=some q:=hj'
  rw [hp] at h1
  have h2:anc S c z=some q:=h1
  refine no_cycle w (k:=c) (z:=z) ?_
  rw [qds,h2]
  show (upS S q).bind _=_
  rw [hq];rfl
theorem qet {S:Ts} (w:WF S) {z:Str}:∀{parts:List (Str × List Str)},(parts.map (·.1)).Nodup->(∀p∈parts,upS S p.1=some z)->(∀p∈parts,p.2.Nodup/\∀y∈p.2,∃k,anc S k y=some p.1)->(flat parts).Nodup
 | [],_,_,_=>yK
 |p :: r,nd,hu,hb=>by
  rw [zS,yA] at nd
  have ih:=qet w (z:=z) nd.2 (fun q hq=>hu q (zF _ hq)) fun q hq=>hb q (zF _ hq)
  show (p.2++flat r).Nodup
  rw [yL]
  refine⟨(hb p (zL ..)).1,ih,fun a ha b hbm e=>?_⟩
  subst e
  obtain⟨l,hl,hal⟩:=yM.mp hbm
  obtain⟨q,hq,rfl⟩:=zI.mp hl
  obtain⟨i,hi⟩:=(hb p (zL ..)).2 a ha
  obtain⟨j,hj⟩:=(hb q (zF _ hq)).2 a hal
  have ne:p.1≠q.1:=fun z=>nd.1 (by rw [z];exact zI.mpr ⟨q,hq,rfl⟩)
  have up:=hu p (zL ..)
  have uq:=hu q (zF _ hq)
  rcases Nat.le_total i j with h|h
  .exact apart w up uq ne hi hj h
  .exact apart w uq up ne.symm hj hi h
theorem qcp {S:Ts} (w:WF S):∀{n:Nat} {z:Str} {zs:List Str},BenP S n z zs->zs.Nodup/\∀y∈zs,y=z\/y∈S.hl.map (·.n)
 |0,z,_,⟨parts,rest,hp,rfl,hb⟩=>by
  have:parts=[]:=by
   cases parts with
   |nil=>rfl
   |cons p r=>exact(hb p (zL ..)).elim
  subst this
  exact⟨by simp [flat],fun y hy=> .inl (by simpa [flat] using hy)⟩
 |n+1,z,_,⟨parts,rest,hp,rfl,hb⟩=>by
  have kd:=kids_nodup w z
  have hk:∀p∈parts,p.1∈qbf S z:=fun p h=>hp.mem_iff.mp (yH _ (zI.mpr ⟨p,h,rfl⟩))
  have hu:∀p∈parts,upS S p.1=some z:=fun p h=>kid_up w (hk p h)
  have hn:(parts.map (·.1)).Nodup:=(yL.mp (hp.nodup_iff.mpr kd)).1
  have fl:=qet w (z:=z) hn hu fun p h=>⟨(qcp w (hb p h)).1,ben_anc w (hb p h)⟩
  refine⟨yA.mpr ⟨fun hm=>?_,fl⟩,fun y hy=>?_⟩
  .obtain⟨l,hl,hal⟩:=yM.mp hm
   obtain⟨q,hq,rfl⟩:=zI.mp hl
   obtain⟨k,hk'⟩:=ben_anc w (hb q hq) z hal
   refine no_cycle w (k:=k) (z:=z) ?_
   rw [qds,hk']
   show (upS S q.1).bind _=_
   rw [hu q hq];rfl
  .rcases zK.mp hy with rfl|hy
   .exact .inl rfl
   .obtain⟨l,hl,hal⟩:=yM.mp hy
    obtain⟨q,hq,rfl⟩:=zI.mp hl
    have hq1:q.1∈S.hl.map (·.n):=by
     obtain⟨e,he,e1⟩:=zI.mp (hk q hq)
     rw [<-e1];exact zI.mpr ⟨e,(yD.mp he).1,rfl⟩
    rcases(qcp w (hb q hq)).2 y hal with rfl|h
    .exact .inr hq1
    .exact .inr h
theorem qfm {S:Ts} (w:WF S) (hz:S.hl.length<=60):Slim S:=fun n z zs h=>by
 obtain⟨nd,hm⟩:=qcp w h
 have:=nd_le (m:=z :: S.hl.map (·.n)) nd fun y hy=>by
  rcases hm y hy with rfl|h
  .exact zL ..
  .exact zF _ h
 rw [zP,zB] at this
 omega
def ptOf (S:Ts) (y:Str):Pt:=match S.at y with
 |some e=>⟨e.x.pa,e.x.kp,e.x.fp⟩
 |none=>⟨0, [],noF⟩
theorem qfp {S:Ts} {y:Str} {e:He} (h:S.at y=some e):ptOf S y=⟨e.x.pa,e.x.kp,e.x.fp⟩:=by unfold ptOf;rw [h]
def qg4 (S:Ts):Prop:=S.ws.length<=100/\∀e∈S.hl,∀z,e.x.fp z≠none->z∈S.ws
def w46 (K:Frag) (d:Ad):Sp:=fun vs H Q E=>∃(t:Addr) (S:Ts) (x:V),vs=[.ref t,x]/\qed d H t S/\WF S/\qg4 S/\qdl K H x/\
 (∀e,who S x=some e->Dep S 12 e.n/\∀l zs k' H',qaq H H'->H l=none->H' l=some (.dK k')->Ben S 12 e.n zs->AD k' (sumF (zs.map (ptOf S)))->Q (.ref l) H')/\(who S x=none->∀l,H l=none->E (.ref d.w04) none (upd H l (.lst [x])))
include T in
theorem w48:FnOk P w K mg base (My.CX1 P w) 17 d.w0v d.w0r ["self","name"] (w46 K d):=by
 refine okX T.w4g w49 (fun vs H Q E h=>?_) (fun cdv A outer s H vs Q E hr h=>?_)
 .obtain⟨t,S,x,rfl,_⟩:=h;rfl
 obtain⟨t,S,x,rfl,hT,hW,hO,hx,q1,q2⟩:=h
 refine⟨_,(qa5 (qai (qa9 ((w8u T).mono (by decide)) hr rfl T.w9z T.w73.kp T.wa6 .nil qah (qa0 (qbp (caps:=[0]) (cn:=["self"]) (qb4 rfl rfl (by rfl) (by rfl) rfl ⟨rfl,trivial⟩ (by rfl) rfl ⟨⟨rfl,rfl,rfl,rfl,_,rfl⟩,trivial⟩ (by decide)) rfl (qau (qb1 (pv 0) T.w01 T.w09 ((w3j T).mono (by decide)) hr T.w2f .nil qas (qa0 (pv 1) qa1))) (fun _ _ _ _=>qck) (fun _ _ _ _=>(qaz (qbt (qc9 hr) (qaz (pv 1) rfl) (pv 0) (fun _ _=>rfl)) rfl))) qa1)))),?_⟩
 walk_at "d"
 dsimp only [cxC]
 refine qae (σ:=[some (.ref t),some (x)]) rfl ?_
 have ct:=T.w01
 have ch:=T.w1j
 have nh:qav K d.w00 "houses":=T.w02
 have nf:qav K d.w03 "promise":=T.w08
 obtain⟨dx,ht⟩:=hT.1
 have nd:=hT.2.2.2.1
 left
 refine⟨t,S,x,rfl,hT,qfm hW hT.2.2.2.2.1,hx,fun e he=>⟨(q1 e he).1,?_⟩,q2⟩
 obtain⟨hD,q⟩:=q1 e he
 intro lb zs H1 s1 hlb eb hB
 left
 have hT1:=hT.same s1
 obtain⟨⟨_,ht1⟩,hw,hh,_,hz,hE⟩:=hT1
 have hbn:=qcp hW (Ben.part hB)
 have hzs:=qfm hW hz 12 _ _ (Ben.part hB)
 have hin:∀y∈zs,∃ey,S.at y=some ey/\ey∈S.hl:=fun y hy=>by
  have hy':y∈S.hl.map (·.n):=by
   rcases hbn.2 y hy with rfl|h
   .obtain⟨z,rfl⟩:∃z,x=.str z:=by
     rcases hx with h|⟨_,nz⟩
     .exact h
     .rw [qd1 nz] at he;cases he
    exact zI.mpr ⟨e,(qc6 he).1,rfl⟩
   .exact h
  obtain⟨ey,hm,rfl⟩:=zI.mp hy'
  exact⟨ey,at_of nd hm,hm⟩
 intro C s0 H0 fp na hna
 refine qf9 zs.length (fun i H'=>H'=upd H1 na (.lst (((zs.take i).map (ptOf S)).map fun u=> .ref u.a))) rfl ?_ ?_ ?_ ?_
 .rintro i H' hi rfl
  exact⟨_,.str zs[i],SqL.of (qab eb hna),by rw [zC,zA hi];rfl⟩
 .rintro H' rfl
  exact⟨_,SqL.of (qab eb hna),by rw [zB];exact Nat.le_refl _⟩
 .rintro i H' v H'' hi rfl ⟨rfl,hy⟩
  have hv:=hy _ (SqL.of (qab eb hna))
  rw [zC,zA hi] at hv
  cases hv
  obtain⟨ey,h1,hm⟩:=hin _ (zO hi)
  obtain⟨⟨dy,hya⟩,_⟩:=hE ey hm
  left
  refine r_dgO (h:=ey.a) (rd_new (.inl hh) hna) (by rw [qdq,h1];rfl) ?_
  left
  rw [qbj,zM,zA hi]
  congr 2
  simp only [Option.toList_some,zE,zS,List.map_nil,qfp h1]
 rintro H' rfl
 rw [zR]
 have s2:=qa6 hna (.lst ((zs.map (ptOf S)).map fun u=>V.ref u.a))
 have eN:upd H1 na (.lst ((zs.map (ptOf S)).map fun u=>V.ref u.a)) na=some (.lst ((zs.map (ptOf S)).map fun u=>V.ref u.a)):=qa2
 left
 refine⟨na,zs.map (ptOf S),S.ws,rfl,SqL.of eN,hO.1,fun u hu=>?_,fun l k' H2 s3 hl el hA=>q l zs k' H2 ((s1.trans s2).trans s3) ((s1.trans s2).free hl) el hB hA⟩
 obtain⟨y,hy,rfl⟩:=zI.mp hu
 obtain⟨ey,h1,hm⟩:=hin y hy
 obtain⟨_,hp,hA,_⟩:=hE ey hm
 rw [qfp h1]
 exact⟨s2 _ _ hp,hA,hO.2 ey hm⟩
include T in
theorem w9i:FnOk P w K mg base CX0 1 d.w4t d.w40 ["self","house","ware"] (fun _ _ _ _=>False):=wff
def w76 (K:Frag) (d:Ad):Sp:=fun vs H Q _=>∃(x:V) (a b:Addr) (ka kb:List (Key × V)) (f g:Str->Option Int),vs=[x,.ref a,.ref b]/\Rd H a (.dK ka)/\Rd H b (.dK kb)/\AD ka f/\AD kb g/\ka.length < 64/\(∀z n,f z=some n->n<=gN g z)/\∀H',qaq H H'->Q .non H'
include T in
theorem w27:FnOk P w K mg base (My.CX1 P w) 3 d.w2q d.w2b ["name","promises","cap"] (w76 K d):=by
 refine okX T.w1i w44 (fun vs H Q E h=>?_) (fun cdv A outer s H vs Q E hr h=>?_)
 .obtain⟨x,a,b,ka,kb,f,g,rfl,_⟩:=h;rfl
 obtain⟨x,a,b,ka,kb,f,g,rfl,ha,hb,hf,hg,hz,hw,q⟩:=h
 refine⟨_,(qa3 (qaf (i:=3) w44.nd rfl (Or.inl rfl) (qa9 ((wez T).mono (by decide)) hr rfl T.wfk T.wdm.kp T.wfq .nil qah (qa0 (pv 1) (qa0 (pv 2) qa1))))
  (qa5 (qbk (qap op_notNN (pv 3) qca (qar _)) (qa5 (ps_raiseI rfl T.wb5 ((w9i T).mono (by decide)) hr T.wav rfl T.wcg qas (qa0 (pv 0) (qa0 (pv 3) qa1)))) qao))),?_⟩
 walk_at "d"
 refine qae (σ:=[some (x),some (.ref a),some (.ref b),none]) rfl ?_
 left
 refine⟨a,b,ka,kb,f,g,rfl,ha,hb,hf,hg,hz,fun H' sm _=>?_,fun z H' sm hv _=>?_⟩
 .left
  exact q _ sm
 .obtain⟨h1,h2⟩:=hv
  cases e:f z with
  |none=>exact absurd e h1
  |some n=>
   have h3:=hw z n e
   have h4:gN f z=n:=by unfold gN;rw [e];rfl
   omega
def w6w (K:Frag) (d:Ad):Sp:=fun vs H Q _=>∃(t lb m:Addr) (S:Ts) (zs:List Str) (km:List (Key × V)) (fm:Str->Option Int),vs=[.ref t,.ref lb,.ref m]/\qed d H t S/\WF S/\qg4 S/\SqL K H lb (zs.map V.str)/\H m=some (.dK km)/\AD km fm/\S.ws.length<=50/\(∀z,fm z≠none->z∈S.ws)/\
 (∀y∈zs,∃e,S.at y=some e/\Dep S 12 y/\∀bs,Ben S 12 y bs->∀z n,addF (sumF (bs.map (ptOf S))) fm z=some n->n<=gN e.x.fc z)/\∀H',qaq H H'->Q .non H'
include T in
theorem w6s:FnOk P w K mg base (My.CX1 P w) 18 d.w2c d.w20 ["self","names","more"] (w6w K d):=by
 refine okX T.w7d w3q (fun vs H Q E h=>?_) (fun cdv A outer s H vs Q E hr h=>?_)
 .obtain⟨t,lb,m,S,zs,km,fm,rfl,_⟩:=h;rfl
 obtain⟨t,lb,m,S,zs,km,fm,rfl,hT,hW,hO,hL,hm,hA,hws,hfm,hy,q⟩:=h
 refine⟨_,(qa5 (qb7 (qdp rfl rfl) rfl (qau (pv 1)) (qac (i:=3) w3q.nd rfl (Or.inl rfl)) (qa5 (qb2 (qbb ((w27 T).mono (by decide)) hr rfl T.w2p T.w1i.kp T.w2o .nil qas (qa0 (pv 3) (qa0 (qa9 ((wdj T).mono (by decide)) hr rfl T.wf6 T.wck.kp T.wei .nil qah (qa0 (qb1 (pv 0) T.w01 T.w06 ((w48 T).mono (by decide)) hr T.w4k .nil qas (qa0 (pv 3) qa1)) (qa0 (pv 2) qa1))) (qa0 (qaz (qbt (qc9 hr) (qaz (pv 0) rfl) (pv 3) (fun _ _=>rfl)) rfl) qa1)))))))),?_⟩
 walk_at "d"
 refine qae (σ:=[some (.ref t),some (.ref lb),some (.ref m),none]) rfl ?_
 have ct:=T.w01
 have ch:=T.w1j
 have nh:qav K d.w00 "houses":=T.w02
 have nf:qav K d.w03 "cap":=T.w0j
 left
 refine qde (xs:=zs.map V.str) (fun i σ H'=>qaq H H'/\∃w,σ=[some (.ref t),some (.ref lb),some (.ref m),w]) ⟨qaq.refl _,_,rfl⟩ ?_ ?_ ?_
 .rintro i σ H' _ ⟨sm,_⟩;exact sm.seq hL
 .rintro i v σ H' hv ⟨sm,w,rfl⟩
  rw [zC] at hv
  obtain⟨y,hyi,rfl⟩:=Option.map_eq_some_iff.mp hv
  obtain⟨e,h1,hD,hb⟩:=hy y (zD hyi)
  obtain⟨dx,ht⟩:=(hT.same sm).1
  left
  have sup:∀bs:List Str,(∀b∈bs,∃eb,S.at b=some eb/\eb∈S.hl)->∀z,sumF (bs.map (ptOf S)) z≠none->z∈S.ws:=fun bs hbs=>by
   refine sum_sup (fun u hu z hz=>?_) noF (fun z hz=>absurd rfl hz)
   obtain⟨b,hb1,rfl⟩:=zI.mp hu
   obtain⟨eb,h3,h4⟩:=hbs b hb1
   rw [qfp h3] at hz
   exact hO.2 eb h4 z hz
  refine⟨t,S,.str y,rfl,hT.same sm,hW,hO,.inl ⟨y,rfl⟩,fun e' he'=>?_,fun hn=>?_⟩
  .have ee:e=e':=Option.some.inj (h1.symm.trans he')
   subst ee
   have hme:=qc6 h1
   rw [hme.2]
   refine⟨hD,fun l bs k' H2 s2 hl el hB hA2=>?_⟩
   have hbs:∀b∈bs,∃eb,S.at b=some eb/\eb∈S.hl:=fun b hb1=>by
    have hb2:b∈S.hl.map (·.n):=by
     rcases(qcp hW (Ben.part hB)).2 b hb1 with rfl|h
     .exact zI.mpr ⟨e,hme.1,hme.2⟩
     .exact h
    obtain⟨eb,h3,rfl⟩:=zI.mp hb2
    exact⟨eb,at_of hW.1 h3,h3⟩
   have l1:=hA2.le (sup bs hbs)
   have l2:=hA.le hfm
   left
   refine⟨l,m,k',km,_,fm,rfl,.inl el,(sm.trans s2) _ _ hm,hA2,hA,by omega,by omega,fun lx kx H3 s3 hlx elx hA3=>?_⟩
   have sx:=(sm.trans s2).trans s3
   obtain⟨⟨dx3,ht3⟩,_,hh3,_,_,hE3⟩:=hT.same sx
   obtain⟨⟨dh,ho⟩,_,_,hc,hcA⟩:=hE3 e hme.1
   left
   refine r_dgO (h:=e.a) (.inl hh3) (by rw [qdq,h1];rfl) ?_
   left
   refine⟨.str y,lx,e.x.ca,kx,e.x.kc,_,e.x.fc,rfl,.inl elx,.inl hc,hA3,hcA,?_,hb bs hB,fun H4 s4=>⟨sx.trans s4,_,rfl⟩⟩
   have l3:=hA3.le (ws:=S.ws) (addF_sup (sup bs hbs) hfm)
   omega
  .rw [show who S (.str y)=some e from h1] at hn;cases hn
 .rintro σ H' ⟨sm,w,rfl⟩
  left
  exact q _ sm
def wcz (K:Frag) (d:Ad):Sp:=fun vs H Q _=>∃i:Int,vs=[.int i]/\Q (.bl true) H
def w82 (K:Frag) (d:Ad):Sp:=fun vs H Q _=>∃i a b:Int,vs=[.int i,.int a,.int b]/\a<=i/\i<=b/\Q (.bl true) H
def wbe (K:Frag) (d:Ad):Sp:=fun vs H Q _=>∃i:Int,vs=[.int i]/\0<=i/\i<=10^30/\Q (.bl true) H
include T in
theorem wcx:FnOk P w K mg base CX0 1 d.w70 d.w64 ["thing"] (wcz K d):=by
 refine T.wa3.ok wco (fun vs H Q E h=>?_) (fun cdv A outer s H vs Q E hr h=>?_)
 .obtain⟨i,rfl,_⟩:=h;rfl
 obtain⟨i,rfl,q⟩:=h
 refine⟨_,(qa5 (qai (qes (qaj qby rfl T.w0h PyProof.Rows.boot_isinstance (qa0 (pv 0) (qa0 (qcq (v:=.ty "int") rfl T.wee PyProof.Rows.boot_int rfl) qa1))) (qdv (pe_not (qaj qby rfl T.w0h PyProof.Rows.boot_isinstance (qa0 (pv 0) (qa0 (qcq (v:=.ty "bool") rfl T.wgb PyProof.Rows.boot_bool rfl) qa1)))))))),?_⟩
 walk_at "d"
 refine qae (σ:=[some (.int i)]) rfl ?_
 left
 exact q
include T in
theorem w4w:FnOk P w K mg base CX0 2 d.w3c d.w2m ["thing","least","most"] (w82 K d):=by
 refine T.w36.ok w7z (fun vs H Q E h=>?_) (fun cdv A outer s H vs Q E hr h=>?_)
 .obtain⟨i,a,b,rfl,_⟩:=h;rfl
 obtain⟨i,a,b,rfl,h1,h2,q⟩:=h
 refine⟨_,(qa5 (qai (qes (qa9 ((wcx T).mono (by decide)) hr rfl T.wds T.wa3.kp T.wdx .nil qah (qa0 (pv 0) qa1)) (qdv (pe_chain op_le op_le (pv 1) (pv 0) (pv 2)))))),?_⟩
 walk_at "d"
 refine qae (σ:=[some (.int i),some (.int a),some (.int b)]) rfl ?_
 left
 refine⟨i,rfl,?_⟩
 left
 rw [decide_eq_true h2]
 exact q
include T in
theorem wb9:FnOk P w K mg base CX0 3 d.w66 d.w56 ["thing"] (wbe K d):=by
 refine T.w99.ok wbw (fun vs H Q E h=>?_) (fun cdv A outer s H vs Q E hr h=>?_)
 .obtain⟨i,rfl,_⟩:=h;rfl
 obtain⟨i,rfl,h1,h2,q⟩:=h
 refine⟨_,(qa5 (qai (qa9 ((w4w T).mono (by decide)) hr rfl T.w5f T.w36.kp T.w4x .nil qah (qa0 (pv 0) (qa0 qa4 (qa0 (qal op_pow qa4 qa4) qa1)))))),?_⟩
 walk_at "d"
 refine qae (σ:=[some (.int i)]) rfl ?_
 left
 refine⟨i,0,_,rfl,h1,?_,?_⟩
 .exact h2
 left
 exact q
theorem qfx {z:Str} {ws:List Str} (h:z∈ws):inV (.str z) (ws.map V.str)=true:=by
 unfold inV
 rw [yS]
 exact⟨.str z,zI.mpr ⟨z,h,rfl⟩,by simp [eqV]⟩
theorem r_notInT {K:Frag} {H:Hp} {Q:VK} {p:Addr} {z:Str} {ws:List Str} (hS:SqL K H p (ws.map V.str)) (h:z∈ws) (q:Q (.bl false) H):rIn K true (.str z) (.ref p) H Q:=by
 refine⟨p,_,rfl,.inl hS,rfl,?_,?_⟩
 .rw [yE]
  intro x hx
  obtain⟨y,_,rfl⟩:=zI.mp hx
  rfl
 .rw [qfx h];exact q
def wab (K:Frag) (d:Ad):Sp:=fun vs H Q _=>∃(a w:Addr) (k:List (Key × V)) (f:Str->Option Int) (ws:List Str),vs=[.ref a,.ref w]/\H a=some (.dK k)/\AD k f/\k.length<=1000/\H w=some (.lst (ws.map V.str))/\(∀z n,f z=some n->z∈ws/\0<=n/\n<=10^30)/\
 ∀l k' H',qaq H H'->H l=none->H' l=some (.dK k')->AD k' (qcj f)->Q (.ref l) H'
include T in
theorem w6v:FnOk P w K mg base (My.CX1 P w) 4 d.w5l d.w4f ["handed","wares"] (wab K d):=by
 refine okX T.w58 w4p (fun vs H Q E h=>?_) (fun cdv A outer s H vs Q E hr h=>?_)
 .obtain⟨a,w,k,f,ws,rfl,_⟩:=h;rfl
 obtain⟨a,w,kvs,f,ws,rfl,ha,hA,hz,hw,hf,q⟩:=h
 refine⟨_,(qa3 (qbk (qc8 (qbq (qaj qby rfl T.w0h PyProof.Rows.boot_isinstance (qa0 (pv 0) (qa0 (qcq (v:=.ty "dict") rfl T.wa2 PyProof.Rows.boot_dict rfl) qa1))))) (qa5 (qc2 rfl T.wa1 rfl T.w9y qas (qa0 qcl qa1))) qao)
  (qa3 (ps_thA (qb7 (qdp rfl rfl) rfl (qer (pv 0)) (qac (i:=2) w4p.nd rfl (Or.inl rfl)) (qa5 (qbk (PW.pt (pw_or (qc8 (qbq (qaj qby rfl T.w0h PyProof.Rows.boot_isinstance (qa0 (pv 2) (qa0 (qcq (v:=.ty "str") rfl T.wh4 PyProof.Rows.boot_str rfl) qa1))))) (pw_or1 (qap qd7 (pv 2) (pv 1) (by rfl))))) (qa5 (qc2 rfl T.wdo rfl T.wdr qas (qa0 qcl qa1))) qao))))
  (qa3 (ps_thA (qb7 (qdp rfl rfl) rfl (qer (pv 0)) (qac (i:=3) w4p.nd rfl (Or.inl rfl)) (qa5 (qbk (qc8 (qbq (qa9 ((wb9 T).mono (by decide)) hr rfl T.wda T.w99.kp T.wd3 .nil qah (qa0 (qbt (qc9 hr) (pv 0) (pv 3) (fun _ _=>rfl)) qa1)))) (qa5 (qc2 rfl T.wa1 rfl T.w9y qas (qa0 qcl qa1))) qao))))
  (qa5 (qai (qa9 ((w9e T).mono (by decide)) hr rfl T.w9v T.w5u.kp T.w9h .nil qah (qa0 (pv 0) qa1))))))),?_⟩
 walk_at "d"
 refine qae (σ:=[some (.ref a),some (.ref w),none,none]) rfl ?_
 left
 refine r_itD ha fun o=>?_
 have hwa:w≠a:=ne_of hw ha (by intro z;cases z)
 refine f_dict (fun i σ H'=>H'=upd H a (.frz o (.dK kvs))/\∃w2 w3,σ=[some (.ref a),some (.ref w),w2,w3]) ⟨rfl,_,_,rfl⟩ ?_ ?_ ?_
 .rintro i σ H' _ ⟨rfl,_⟩;exact qa2
 .rintro i k v σ H' hk ⟨rfl,w2,w3,rfl⟩
  obtain⟨z,n,rfl,rfl,hfz,hzi⟩:=hA.at hk
  have hw':upd H a (.frz o (.dK kvs)) w=some (.lst (ws.map V.str)):=by rw [qa7 hwa];exact hw
  show qfz _ (.str z) _ _ _
  left
  refine r_notInT (SqL.of hw') (hf z n hfz).1 ?_
  left
  exact⟨rfl,_,_,rfl⟩
 .rintro σ H' ⟨rfl,w2,w3,rfl⟩
  refine r_thNx (thaw1 qa2 (qdx ha)) ?_
  have s2:=qd3 ha (sb_frz (o:=o) ha)
  have ha2:upd (upd H a (.frz o (.dK kvs))) a (.dK kvs) a=some (.dK kvs):=qa2
  generalize upd (upd H a (.frz o (.dK kvs))) a (.dK kvs)=H2 at*
  left
  refine r_itD ha2 fun o2=>?_
  refine f_dict (fun i σ H'=>H'=upd H2 a (.frz o2 (.dK kvs))/\∃w3,σ=[some (.ref a),some (.ref w),w2,w3]) ⟨rfl,_,rfl⟩ ?_ ?_ ?_
  .rintro i σ H' _ ⟨rfl,_⟩;exact qa2
  .rintro i k v σ H' hk ⟨rfl,w3,rfl⟩
   obtain⟨z,n,rfl,rfl,hfz,hzi⟩:=hA.at hk
   have hRd:Rd (upd H2 a (.frz o2 (.dK kvs))) a (.dK kvs):=.inr ⟨o2,qa2⟩
   show qfz _ (.str z) _ _ _
   left
   refine⟨n,rfl,(hf z n hfz).2.1,(hf z n hfz).2.2,?_⟩
   left
   exact⟨rfl,_,rfl⟩
  .rintro σ H' ⟨rfl,w3,rfl⟩
   refine r_thNx (thaw1 qa2 ?_) ?_
   .exact qdx ha
   have s3:=qd3 ha2 (sb_frz (o:=o2) ha2)
   have ha3:upd (upd H2 a (.frz o2 (.dK kvs))) a (.dK kvs) a=some (.dK kvs):=qa2
   generalize upd (upd H2 a (.frz o2 (.dK kvs))) a (.dK kvs)=H3 at*
   left
   refine⟨a,kvs,f,rfl,ha3,hA,hz,fun l k' H4 s4 hl el hA4=>?_⟩
   left
   exact q l k' H4 ((s2.trans s3).trans s4) ((s2.trans s3).free hl) el hA4
def wb0 (K:Frag) (d:Ad):Sp:=fun vs H Q _=>∃(x dx:Addr) (o:Ho),vs=[.ref x,eV o.el,.ref o.pa,.ref o.ca,.int o.w]/\H x=some (.ins d.w03 dx [])/\∀H',H' x=some (.ins d.w03 dx (fsH o))->SameBut x H H'->Q .non H'
include T in
theorem waz:FnOk P w K mg base CX0 1 d.w59 d.w4m ["self","elder","promise","cap","weight"] (wb0 K d):=by
 refine T.wbh.ok wb2 (fun vs H Q E h=>?_) (fun cdv A outer s H vs Q E hr h=>?_)
 .obtain⟨x,dx,o,rfl,_⟩:=h;rfl
 obtain⟨x,dx,o,rfl,hx,q⟩:=h
 refine⟨_,(qa3 (qd4 (pv 0) (pv 1) rfl)
  (qa3 (qd4 (pv 0) (pv 2) rfl)
  (qa3 (qd4 (pv 0) (pv 3) rfl)
  (qa5 (qd4 (pv 0) (pv 4) rfl))))),?_⟩
 walk_at "d"
 refine qae (σ:=[some (.ref x),some (eV o.el),some (.ref o.pa),some (.ref o.ca),some (.int o.w)]) rfl ?_
 have cl:=T.w1j
 have n1:qav K d.w03 "elder":=T.w0l
 have n2:qav K d.w03 "promise":=T.w08
 have n3:qav K d.w03 "cap":=T.w0j
 have n4:qav K d.w03 "weight":=T.w18
 left
 refine qfo qa2 cl n2 (by show 1 < 1000;decide) ?_
 left
 refine qfo qa2 cl n3 (by show 2 < 1000;decide) ?_
 left
 refine qfo qa2 cl n4 (by show 3 < 1000;decide) ?_
 left
 refine q _ (by rw [qa2];rfl) fun b u hb e=>?_
 rw [qa7 hb,qa7 hb,qa7 hb,qa7 hb]
 exact e
def wam (K:Frag) (d:Ad):Sp:=fun vs H Q _=>∃(w a b:Addr) (el:Option Str) (ws:List Str) (ka kb:List (Key × V)) (f g:Str->Option Int) (wt:Int),vs=[.ref w,eV el,.ref a,.ref b,.int wt]/\H w=some (.lst (ws.map V.str))/\
 H a=some (.dK ka)/\AD ka f/\ka.length<=1000/\H b=some (.dK kb)/\AD kb g/\kb.length<=1000/\(∀z n,f z=some n->z∈ws/\0<=n/\n<=10^30)/\(∀z n,g z=some n->z∈ws/\0<=n/\n<=10^30)/\1<=wt/\wt<=1000/\
 ∀h o H',qaq H H'->H h=none->H o.pa=none->H o.ca=none->HoAt d H' h o->o.el=el->o.w=wt->(∀z,o.fp z=qcj f z)->(∀z,o.fc z=qcj g z)->Q (.ref h) H'
include T in
theorem w6t:FnOk P w K mg base (My.CX1 P w) 5 d.w54 d.w4i ["wares","elder","promise","cap","weight"] (wam K d):=by
 refine okX T.w5n w4n (fun vs H Q E h=>?_) (fun cdv A outer s H vs Q E hr h=>?_)
 .obtain⟨w,a,b,el,ws,ka,kb,f,g,wt,rfl,_⟩:=h;rfl
 obtain⟨w,a,b,el,ws,ka,kb,f,g,wt,rfl,hw,ha,hA,hz,hb,hB,hz2,hf,hg,w0,w1,q⟩:=h
 refine⟨_,(qa3 (qaf (i:=5) w4n.nd rfl (Or.inl rfl) (qbb ((w6v T).mono (by decide)) hr rfl T.w7e T.w58.kp T.w7y .nil qas (qa0 (pv 2) (qa0 (pv 0) qa1))))
  (qa3 (qaf (i:=6) w4n.nd rfl (Or.inl rfl) (qbb ((w6v T).mono (by decide)) hr rfl T.w7e T.w58.kp T.w7y .nil qas (qa0 (pv 3) (qa0 (pv 0) qa1))))
  (qa3 (qbk (qc8 (qbq (qa9 ((w4w T).mono (by decide)) hr rfl T.w5f T.w36.kp T.w4x .nil qah (qa0 (pv 4) (qa0 qa4 (qa0 (qe7 rfl T.w7a T.w0q) qa1)))))) (qa5 (qc2 rfl T.wdv rfl T.we3 qas (qa0 qcl qa1))) qao)
  (qa5 (qai (pe_make T.w6n ((waz T).mono (by decide)) hr rfl T.wgu T.wbu .nil qah (qa0 (pv 1) (qa0 (pv 5) (qa0 (pv 6) (qa0 (pv 4) qa1)))))))))),?_⟩
 walk_at "d"
 refine qae (σ:=[some (.ref w),some (eV el),some (.ref a),some (.ref b),some (.int wt),none,none]) rfl ?_
 left
 refine⟨a,w,ka,f,ws,rfl,ha,hA,hz,hw,hf,fun lp kp H1 s1 hlp ep hAp=>?_⟩
 left
 refine⟨b,w,kb,g,ws,rfl,s1 _ _ hb,hB,hz2,s1 _ _ hw,hg,fun lc kc H2 s2 hlc ec hAc=>?_⟩
 left
 refine⟨wt,1,1000,rfl,w0,w1,?_⟩
 left
 intro x dx hx hdx ne
 have ep2:=s2 _ _ ep
 refine⟨x,dx,⟨el,lp,kp,qcj f,lc,kc,qcj g,wt⟩,rfl,qa2,fun H3 ex sb=>⟨rfl,?_⟩⟩
 have s3:qaq H2 H3:=fun c o hc=>sb c o (qaa hc hx) (by rw [qa7 (qaa hc hx),qa7 (qaa hc hdx)];exact hc)
 left
 exact q x ⟨el,lp,kp,qcj f,lc,kc,qcj g,wt⟩ H3 ((s1.trans s2).trans s3) ((s1.trans s2).free hx) hlp (s1.free hlc) ⟨⟨dx,ex⟩,s3 _ _ ep2,hAp,s3 _ _ ec,hAc⟩ rfl rfl (fun _=>rfl) fun _=>rfl
theorem qay {H H':Hp} {a:Addr} {o:HO} (s:qaq H H') (n:H a=none):qaq H (upd H' a o):=fun b u e=>by rw [qa7 (qaa e n)];exact s b u e
def isL (c:Nat):Bool:=decide (97<=c) && decide (c<=122)
theorem inL:∀c:Nat,c < 128->(!(Builtin.Str.occurrences (Str.ofString "abcdefghijklmnopqrstuvwxyz") ⟨#[c]⟩ 0 (Str.ofString "abcdefghijklmnopqrstuvwxyz").length 1).isEmpty)=isL c:=by decide+kernel
def qe9 (x:Str):List Nat:=x.cps.toList
def qdr (x:Str):Bool:=decide (1<=x.length) && decide (x.length<=8) && (qe9 x).all isL
theorem len_codes (x:Str):(qe9 x).length=x.length:=by simp [qe9,Str.length]
theorem goodS_of {z:Str} (h:qdr z=true):1<=z.length/\z.length<=8/\∀c∈qe9 z,isL c=true:=by
 unfold qdr at h
 rw [Bool.and_eq_true,Bool.and_eq_true,yE] at h
 exact⟨of_decide_eq_true h.1.1,of_decide_eq_true h.1.2,h.2⟩
theorem isL_lt {c:Nat} (h:isL c=true):c < 128:=by
 unfold isL at h
 rw [Bool.and_eq_true] at h
 have:=of_decide_eq_true h.2
 omega
def we1 (K:Frag) (d:Ad):Sp:=fun vs H Q _=>∃z,vs=[.str z]/\qdr z=true/\∀H',qaq H H'->Q (.bl true) H'
include T in
theorem w9x:FnOk P w K mg base CX0 1 d.w88 d.w74 ["thing"] (we1 K d):=by
 refine T.w8o.ok we6 (fun vs H Q E h=>?_) (fun cdv A outer s H vs Q E hr h=>?_)
 .obtain⟨z,rfl,_⟩:=h;rfl
 obtain⟨z,rfl,hg,q⟩:=h
 obtain⟨h1,h8,hL⟩:=goodS_of hg
 have lz:=len_codes z
 refine⟨_,(qa3 (qbk (qc8 (qbq (qaj qby rfl T.w0h PyProof.Rows.boot_isinstance (qa0 (pv 0) (qa0 (qcq (v:=.ty "str") rfl T.wh4 PyProof.Rows.boot_str rfl) qa1))))) (qa5 (qai qdw)) qao)
  (qa3 (qbk (PW.pt (pw_or (qap op_lt (qaj call_lenS rfl T.w3o PySem.boot_len (qa0 (pv 0) qa1)) qa4 (qar _)) (pw_or1 (qap qf6 (qaj call_lenS rfl T.w3o PySem.boot_len (qa0 (pv 0) qa1)) (qe7 rfl T.w9l T.w1g) (qar _))))) (qa5 (qai qdw)) qao)
  (qa5 (qai (qaj (call_allB rfl) rfl T.whk PyProof.Rows.boot_all (qa0 (qbp (caps:=[]) (cn:=[]) (qb4 rfl rfl (by rfl) (by rfl) rfl trivial (by rfl) rfl trivial (by decide)) rfl (pi_str (pv 0)) (fun _ _ _ _=>qck) (fun _ _ _ _=>(qbn op_inS (pv 0) (qe7 rfl T.wf3 T.w53) (by rfl)))) qa1)))))),?_⟩
 walk_at "d"
 try dsimp only [cxC]
 refine qae (σ:=[some (.str z)]) rfl ?_
 left
 intro C s0 H0 fp acc hacc
 refine qf9 z.length (fun i H'=>H'=upd H acc (.lst (((qe9 z).take i).map fun c=>V.bl (isL c)))) (by simp) (fun i H' hi _=>hi) (fun H' _=>rfl) ?_ ?_
 .rintro i H' v H'' hi rfl ⟨rfl,c,hc,rfl⟩
  have hc':(qe9 z)[i]?=some c:=by unfold qe9;rw [Array.getElem?_toList];exact hc
  have c128:=isL_lt (hL c (zD hc'))
  left
  rw [inL c c128,qbj]
  congr 2
  rw [zM,hc',zE]
  rfl
 .rintro H' rfl
  left
  have e1:((qe9 z).take z.length).map (fun c=>V.bl (isL c))=((qe9 z).map isL).map V.bl:=by
   rw [<-lz,zR,yU];rfl
  rw [e1]
  refine r_all (bs:=(qe9 z).map isL) (SqL.of qa2) ?_
  have e2:((qe9 z).map isL).all id=true:=by
   rw [List.all_map,yE]
   exact hL
  rw [e2]
  left
  exact q _ (qa6 hacc _)
def wal (K:Frag) (d:Ad):Sp:=fun vs H Q _=>∃z,vs=[.str z]/\qdr z=true/\∀H',qaq H H'->Q .non H'
include T in
theorem w6p:FnOk P w K mg base (My.CX1 P w) 2 d.w5h d.w4j ["thing"] (wal K d):=by
 refine okX T.w5q wa9 (fun vs H Q E h=>?_) (fun cdv A outer s H vs Q E hr h=>?_)
 .obtain⟨z,rfl,_⟩:=h;rfl
 obtain⟨z,rfl,hg,q⟩:=h
 refine⟨_,(qa5 (qbk (qc8 (qbq (qa9 ((w9x T).mono (by decide)) hr rfl T.wbp T.w8o.kp T.wbi .nil qah (qa0 (pv 0) qa1)))) (qa5 (qc2 rfl T.wfv rfl T.wfu qas (qa0 qcl qa1))) qao)),?_⟩
 walk_at "d"
 refine qae (σ:=[some (.str z)]) rfl ?_
 left
 refine⟨z,rfl,hg,fun H' sm=>?_⟩
 left
 exact q _ sm
structure GoodT (ws:List Str):Prop where
 lo:1<=ws.length
 hi:ws.length<=6
 ok:∀z∈ws,qdr z=true
 nd:ws.Nodup
def wc2 (K:Frag) (d:Ad):Sp:=fun vs H Q _=>∃(a:Addr) (ws:List Str),vs=[.ref a]/\H a=some (.lst (ws.map V.str))/\GoodT ws/\∀H',qaq H H'->Q (.bl true) H'
include T in
theorem wbg:FnOk P w K mg base CX0 2 d.w6c d.w5d ["thing"] (wc2 K d):=by
 refine T.w8w.ok wbj (fun vs H Q E h=>?_) (fun cdv A outer s H vs Q E hr h=>?_)
 .obtain⟨a,ws,rfl,_⟩:=h;rfl
 obtain⟨a,ws,rfl,ha,g,q⟩:=h
 have g1:=g.lo
 have g2:=g.hi
 have hl:(ws.map V.str).length=ws.length:=zB _
 refine⟨_,(qa3 (qbk (PW.pt (pw_or (qc8 (qbq (qaj qby rfl T.w0h PyProof.Rows.boot_isinstance (qa0 (pv 0) (qa0 (qcq (v:=.ty "list") rfl T.w7r PyProof.Rows.boot_list rfl) qa1))))) (pw_or (qap op_lt (qaj qb0 rfl T.w3o PySem.boot_len (qa0 (pv 0) qa1)) qa4 (qar _)) (pw_or1 (qap qf6 (qaj qb0 rfl T.w3o PySem.boot_len (qa0 (pv 0) qa1)) (qe7 rfl T.wc3 T.w2j) (qar _)))))) (qa5 (qai qdw)) qao)
  (qa5 (qai (qes (qaj (call_allB rfl) rfl T.whk PyProof.Rows.boot_all (qa0 (qbp (caps:=[]) (cn:=[]) (qb4 rfl rfl (by rfl) (by rfl) rfl trivial (by rfl) rfl trivial (by decide)) rfl (qau (pv 0)) (fun _ _ _ _=>qck) (fun _ _ _ _=>(qa9 ((w9x T).mono (by decide)) hr rfl T.wbp T.w8o.kp T.wbi .nil qah (qa0 (pv 0) qa1)))) qa1)) (qdv (qbn qdk (qaj call_lenT rfl T.w3o PySem.boot_len (qa0 (qb8 call_setT rfl T.wi3 PyProof.Rows.boot_set (qa0 (pv 0) qa1)) qa1)) (qaj qb0 rfl T.w3o PySem.boot_len (qa0 (pv 0) qa1)) (qar _))))))),?_⟩
 walk_at "d"
 try dsimp only [cxC]
 refine qae (σ:=[some (.ref a)]) rfl ?_
 left
 intro C s0 H0 fp acc hacc
 refine qf9 ws.length (fun i H'=>qaq H H'/\H' acc=some (.lst ((List.replicate i true).map V.bl))) ⟨qa6 hacc _,qa2⟩ ?_ ?_ ?_ ?_
 .rintro i H' hi ⟨sm,_⟩
  exact⟨_,.str ws[i],SqL.of (sm _ _ ha),by rw [zC,zA hi];rfl⟩
 .rintro H' ⟨sm,_⟩
  exact⟨_,SqL.of (sm _ _ ha),by rw [hl];exact Nat.le_refl _⟩
 .rintro i H' v H'' hi ⟨sm,ea⟩ ⟨rfl,hy⟩
  have hv:=hy _ (SqL.of (sm _ _ ha))
  rw [zC,zA hi] at hv
  cases hv
  left
  refine⟨ws[i],rfl,g.ok _ (zO hi),fun H2 s2=>?_⟩
  refine⟨_,s2 _ _ ea,by rw [zB,List.length_replicate];show _ < 16777216;omega,qay (sm.trans s2) hacc,?_⟩
  rw [qa2,List.replicate_succ',zE];rfl
 rintro H' ⟨sm,ea⟩
 left
 refine r_all (bs:=List.replicate ws.length true) (SqL.of ea) ?_
 have e2:(List.replicate ws.length true).all id=true:=by simp
 rw [e2]
 left
 refine r_setT (zs:=ws) (SqL.of (sm _ _ ha)) g.nd (by omega) fun c hc=>?_
 left
 refine r_lenT2 qa2 ?_
 left
 refine r_lenL (SqL.of (qab (sm _ _ ha) hc)) ?_
 left
 rw [hl,decide_eq_true rfl]
 exact q _ (sm.trans (qa6 hc _))
def Fin (ws:List Str) (f:Str->Option Int):Prop:=∀z n,f z=some n->z∈ws/\0<=n/\n<=10^30
theorem posF_some {f:Str->Option Int} {y:Str} {n:Int} (h:qcj f y=some n):f y=some n/\0 < n:=by
 unfold qcj at h
 cases e:f y with
 |none=>rw [e] at h;cases h
 |some m=>
  rw [e] at h
  by_cases c:0 < m
  .have h':some m=some n:=by simpa [c] using h
   cases h'
   exact⟨rfl,c⟩
  .exact absurd h (by simp [c])
theorem qez {ws:List Str} {f:Str->Option Int} (hf:Fin ws f) (y:Str):gN (qcj f) y=gN f y:=by
 unfold gN qcj
 cases e:f y with
 |none=>rfl
 |some m=>
  have:=(hf y m e).2.1
  by_cases c:0 < m
  .simp [c]
  .have z:m=0:=by omega
   subst z
   rfl
theorem pos_le {ws:List Str} {f g:Str->Option Int} (hg:Fin ws g) (h:∀y,gN f y<=gN g y):∀z n,qcj f z=some n->n<=gN (qcj g) z:=fun z n e=>by
 have e1:=(posF_some e).1
 have:=h z
 rw [qez hg]
 unfold gN at this ⊢
 rw [e1] at this
 exact this
theorem pos_in {ws:List Str} {f:Str->Option Int} (hf:Fin ws f):∀z,qcj f z≠none->z∈ws:=fun z h=>by
 cases e:qcj f z with
 |none=>exact absurd e h
 |some n=>exact(hf z n (posF_some e).1).1
def wb4 (K:Frag) (d:Ad):Sp:=fun vs H Q _=>∃(x dx w a b:Addr) (z:Str) (ws:List Str) (ka kb:List (Key × V)) (f g:Str->Option Int) (wt:Int),vs=[.ref x,.ref w,.str z,.ref a,.ref b,.int wt]/\H x=some (.ins d.w00 dx [])/\
 H w=some (.lst (ws.map V.str))/\GoodT ws/\qdr z=true/\H a=some (.dK ka)/\AD ka f/\ka.length<=1000/\H b=some (.dK kb)/\AD kb g/\kb.length<=1000/\Fin ws f/\Fin ws g/\1<=wt/\wt<=1000/\(∀y,gN f y<=gN g y)/\
 ∀(S:Ts) (e:He) H',SameBut x H H'->qed d H' x S->H S.hs=none->H S.sw=none->H e.a=none->H e.x.pa=none->H e.x.ca=none->S.hl=[e]->e.n=z->e.x.el=none->e.x.w=wt->(∀y,e.x.fp y=qcj f y)->(∀y,e.x.fc y=qcj g y)->S.ws.Perm ws->PyProof.Rows.sortedS S.ws=true->Q .non H'
include T in
theorem wc0:FnOk P w K mg base (My.CX1 P w) 6 d.w65 d.w3r ["self","wares","name","promise","cap","weight"] (wb4 K d):=by
 refine okDX T.wcq w7v (fun vs H Q E h=>?_) (fun cdv A outer s H vs Q E hr h=>?_)
 .obtain⟨x,dx,w,a,b,z,ws,ka,kb,f,g,wt,rfl,_⟩:=h;rfl
 obtain⟨x,dx,w,a,b,z,ws,ka,kb,f,g,wt,rfl,hx,hw,gt,gz,ha,hA,za,hb,hB,zb,ff,fg,w0,w1,le,q⟩:=h
 have g2:=gt.hi
 refine⟨_,(qa3 (qbk (qc8 (qbq (qa9 ((wbg T).mono (by decide)) hr rfl T.wcf T.w8w.kp T.wcb .nil qah (qa0 (pv 1) qa1)))) (qa5 (qc2 rfl T.wdo rfl T.wdr qas (qa0 qcl qa1))) qao)
  (qa3 (qb2 (qbb ((w6p T).mono (by decide)) hr rfl T.w7m T.w5q.kp T.w7q .nil qas (qa0 (pv 2) qa1)))
  (qa3 (qaf (i:=6) w7v.nd rfl (Or.inl rfl) (qbb ((w6t T).mono (by decide)) hr rfl T.w7t T.w5n.kp T.w7u .nil qas (qa0 (pv 1) (qa0 qca (qa0 (pv 3) (qa0 (pv 4) (qa0 (pv 5) qa1)))))))
  (qa3 (qb2 (qbb ((w27 T).mono (by decide)) hr rfl T.w2p T.w1i.kp T.w2o .nil qas (qa0 (pv 2) (qa0 (qaz (pv 6) rfl) (qa0 (qaz (pv 6) rfl) qa1)))))
  (qa3 (qd4 (pv 0) (qaj qea rfl T.w6r PyProof.Rows.boot_sorted (qa0 (pv 1) qa1)) rfl)
  (qa5 (qd4 (pv 0) (pe_disp (qfq (pv 2) (pv 6) pps_nil) rfl rfl (by simp) (by decide)) rfl))))))),?_⟩
 walk_at "d"
 refine qae (σ:=[some (.ref x),some (.ref w),some (.str z),some (.ref a),some (.ref b),some (.int wt),none]) rfl ?_
 have ct:=T.w01
 have ch:=T.w1j
 have n1:qav K d.w00 "sorted_wares":=T.w07
 have n2:qav K d.w00 "houses":=T.w02
 have n3:qav K d.w03 "promise":=T.w08
 have n4:qav K d.w03 "cap":=T.w0j
 left
 refine⟨w,ws,rfl,hw,gt,fun H1 s1=>?_⟩
 left
 refine⟨z,rfl,gz,fun H2 s2=>?_⟩
 have t2:=s1.trans s2
 left
 refine⟨w,a,b,none,ws,ka,kb,f,g,wt,rfl,t2 _ _ hw,t2 _ _ ha,hA,za,t2 _ _ hb,hB,zb,ff,fg,w0,w1,fun h o H3 s3 nh np nc hO eel ew efp efc=>?_⟩
 obtain⟨⟨dh,ho⟩,hp,hpA,hc,hcA⟩:=id hO
 have efp':o.fp=qcj f:=funext efp
 have efc':o.fc=qcj g:=funext efc
 have lk:o.kp.length<=ws.length:=hpA.le (by rw [efp'];exact pos_in ff)
 left
 refine⟨.str z,o.pa,o.ca,o.kp,o.kc,o.fp,o.fc,rfl,.inl hp,.inl hc,hpA,hcA,by omega,by rw [efp',efc'];exact pos_le fg le,fun H4 s4=>?_⟩
 have t4:=(t2.trans s3).trans s4
 have hx4:=t4 _ _ hx
 have hO4:=hO.same s4
 left
 refine r_sortL (SqL.of (t4 _ _ hw)) (by omega) fun l ss hl hpm hs=>?_
 left
 rename_i p hpp
 rw [qbj]
 refine qfo (qab qa2 hpp) ct n2 (by show 1 < 1000;decide) ?_
 left
 have npx:p≠x:=fun e=>by subst e;rw [qa2] at hpp;cases hpp
 have np4':upd H4 l (.lst (ss.map V.str)) p=none:=by rw [qa7 npx] at hpp;exact hpp
 have nlx:x≠l:=qaa hx4 hl
 have npl:p≠l:=fun e=>by subst e;rw [qa2] at np4';cases np4'
 have np4:H4 p=none:=by rw [qa7 npl] at np4';exact np4'
 have sF:∀b u,b≠x->H4 b=some u->upd (upd (upd (upd H4 l (.lst (ss.map V.str))) x (.ins d.w00 dx (qep "sorted_wares" (V.ref l) []))) p (.dK [(Sum.inr z,V.ref h)])) x (.ins d.w00 dx (qep "houses" (V.ref p) (qep "sorted_wares" (V.ref l) []))) b=some u:=fun b u hb e=>by
  rw [qa7 hb,qa7 (qaa e np4),qa7 hb,qa7 (qaa e hl)];exact e
 obtain⟨⟨dh4,ho4⟩,hp4,hpA4,hc4,hcA4⟩:=hO4
 refine q ⟨l,ss,p, [⟨z,h,o⟩]⟩ ⟨z,h,o⟩ _ (fun b u hb e=>sF b u hb (t4 _ _ e)) ⟨⟨dx,by rw [qa2];rfl⟩,?_,?_,yA.mpr ⟨by simp,yK⟩,by show 1<=60;decide,fun e he=>?_⟩ (t4.free np4) (t4.free hl) (t2.free nh) (t2.free np) (t2.free nc) rfl rfl eel ew efp efc hpm hs
 .show upd _ _ _ l=_
  rw [qa7 nlx.symm,qa7 npl.symm,qa7 nlx.symm,qa2]
 .show upd _ _ _ p=_
  rw [qa7 npx,qa2]
  rfl
 .have e':e=⟨z,h,o⟩:=by simpa using he
  subst e'
  have n1:∀{b:Addr} {u:HO},H4 b=some u->u≠ .ins d.w00 dx []->b≠x:=fun e1 e2 e3=>by
   subst e3;rw [hx4] at e1;exact e2 (Option.some.inj e1).symm
  refine⟨⟨dh4,sF _ _ (n1 ho4 fun e=>?_) ho4⟩,sF _ _ (n1 hp4 fun e=>by cases e) hp4,hpA4,sF _ _ (n1 hc4 fun e=>by cases e) hc4,hcA4⟩
  have:=congrArg (fun u:HO=>match u with| .ins _ _ fs=>fs.length|_=>0) e
  simp [fsH] at this
def upL (el:Nat->Nat):Nat->Nat->List Nat
 |0,k=> [k]
 |f+1,k=>k ::(if k=0 then [] else upL el f (el k))
def qad (el:Nat->Nat) (k:Nat):List Nat:=upL el k k
def Low (el:Nat->Nat) (n:Nat):Prop:=∀k,0 < k->k < n->el k < k
theorem upL_eq {el:Nat->Nat} {n:Nat} (lo:Low el n):∀(f k:Nat),k < n->k<=f->upL el f k=qad el k:=by
 intro f
 induction f using Nat.strongRecOn with
 |ind f ih=>
  intro k kn kf
  cases f with
  |zero=>have:k=0:=(by omega);subst this;rfl
  |succ f=>
   cases k with
   |zero=>rfl
   |succ k=>
    have l:=lo (k+1) (by omega) kn
    show (k+1) ::(if k+1=0 then [] else upL el f (el (k+1)))=(k+1) ::(if k+1=0 then [] else upL el k (el (k+1)))
    rw [if_neg (by omega),if_neg (by omega),ih f (by omega) (el (k+1)) (by omega) (by omega)]
    rcases Nat.lt_or_ge k f with h|h
    .rw [ih k (by omega) (el (k+1)) (by omega) (by omega)]
    .have:f=k:=by omega
     subst this
     rw [ih f (by omega) (el (f+1)) (by omega) (by omega)]
theorem qdh (el:Nat->Nat):qad el 0=[0]:=rfl
theorem qc3 {el:Nat->Nat} {n k:Nat} (lo:Low el n) (k0:0 < k) (kn:k < n):qad el k=k :: qad el (el k):=by
 cases k with
 |zero=>omega
 |succ k=>
  have l:=lo (k+1) k0 kn
  show (k+1) ::(if k+1=0 then [] else upL el k (el (k+1)))=_
  rw [if_neg (by omega),upL_eq lo k _ (by omega) (by omega)]
theorem qcb {el:Nat->Nat} {n:Nat} (lo:Low el n):∀k,k < n->(qad el k).length<=k+1:=by
 intro k
 induction k using Nat.strongRecOn with
 |ind k ih=>
  intro kn
  cases k with
  |zero=>exact Nat.le_refl _
  |succ k=>
   have l:=lo (k+1) (by omega) kn
   rw [qc3 lo (by omega) kn,zP]
   have:=ih (el (k+1)) l (by omega)
   omega
theorem qcm {el:Nat->Nat} {n k:Nat} (lo:Low el n) (kn:k < n):k∈qad el k:=by
 cases k with
 |zero=>exact zL ..
 |succ k=>rw [qc3 lo (by omega) kn];exact zL ..
theorem qcr {el:Nat->Nat} {n:Nat} (lo:Low el n):∀k,k < n->∀j∈qad el k,j<=k:=by
 intro k
 induction k using Nat.strongRecOn with
 |ind k ih=>
  intro kn j hj
  cases k with
  |zero=>rw [qdh] at hj;simp at hj;omega
  |succ k=>
   have l:=lo (k+1) (by omega) kn
   rw [qc3 lo (by omega) kn] at hj
   rcases zK.mp hj with h|h
   .omega
   .have:=ih (el (k+1)) l (by omega) j h
    omega
theorem lineN_in {el:Nat->Nat} {n:Nat} (lo:Low el n) {j:Nat} (j0:0 < j):∀k,k < n->j∈qad el k->el j∈qad el k:=by
 intro k
 induction k using Nat.strongRecOn with
 |ind k ih=>
  intro kn hj
  cases k with
  |zero=>rw [qdh] at hj;simp at hj;omega
  |succ k=>
   have l:=lo (k+1) (by omega) kn
   rw [qc3 lo (by omega) kn] at hj ⊢
   rcases zK.mp hj with h|h
   .subst h;exact zF _ (qcm lo (by omega))
   .exact zF _ (ih (el (k+1)) l (by omega) h)
structure Pl (S:Ts) (nm:Nat->Str) (el:Nat->Nat) (n:Nat):Prop where
 len:S.hl.length=n
 nam:∀k e,S.hl[k]?=some e->e.n=nm k/\e.x.el=if k=0 then none else some (nm (el k))
 inj:∀i j,i < n->j < n->nm i=nm j->i=j
 low:Low el n
section
variable {S: Ts} {nm: Nat -> Str} {el: Nat -> Nat} {n: Nat}
theorem Pl.get (p:Pl S nm el n) {k:Nat} (kn:k < n):∃e,S.hl[k]?=some e/\e.n=nm k/\e.x.el=if k=0 then none else some (nm (el k)):=by
 have h:k < S.hl.length:=by rw [p.len];exact kn
 have e:=zA h
 exact⟨_,e,p.nam k _ e⟩
theorem Pl.ix (p:Pl S nm el n) {e:He} (h:e∈S.hl):∃k,k < n/\S.hl[k]?=some e/\e.n=nm k/\e.x.el=if k=0 then none else some (nm (el k)):=by
 obtain⟨k,hk,q⟩:=zQ.mp h
 have e1:S.hl[k]?=some e:=by rw [zA hk,q]
 exact⟨k,by rw [<-p.len];exact hk,e1,p.nam k e e1⟩
theorem Pl.nodup (p:Pl S nm el n):(S.hl.map (·.n)).Nodup:=by
 show List.Pairwise _ _
 rw [yQ,zY]
 intro i j hi hj lt q
 have h1:=(p.nam i _ (zA hi)).1
 have h2:=(p.nam j _ (zA hj)).1
 have:=p.inj i j (by rw [<-p.len];exact hi) (by rw [<-p.len];exact hj) (by rw [<-h1,<-h2];exact q)
 omega
theorem Pl.at (p:Pl S nm el n) {k:Nat} (kn:k < n):∃e,S.at (nm k)=some e/\S.hl[k]?=some e/\e.x.el=if k=0 then none else some (nm (el k)):=by
 obtain⟨e,h1,h2,h3⟩:=p.get kn
 have:=at_of p.nodup (zD h1)
 rw [h2] at this
 exact⟨e,this,h1,h3⟩
theorem Pl.line (p:Pl S nm el n):∀k,k < n->LineOf S (nm k) ((qad el k).map nm):=by
 intro k
 induction k using Nat.strongRecOn with
 |ind k ih=>
  intro kn
  obtain⟨e,h1,_,h3⟩:=p.at kn
  cases k with
  |zero=>exact .top h1 h3
  |succ k=>
   have l:=p.low (k+1) (by omega) kn
   rw [if_neg (by omega)] at h3
   rw [qc3 p.low (by omega) kn,zS]
   exact .up h1 h3 (ih _ l (by omega))
theorem Pl.wf (p:Pl S nm el n):WF S:=⟨p.nodup,fun e he=>by
 obtain⟨k,kn,_,h,_⟩:=p.ix he
 rw [h]
 exact⟨_,p.line k kn⟩⟩
theorem Pl.kid (p:Pl S nm el n) {j:Nat} {y:Str} (jn:j < n) (h:y∈qbf S (nm j)):∃k,0 < k/\k < n/\el k=j/\y=nm k:=by
 obtain⟨e,he,rfl⟩:=zI.mp h
 obtain⟨hm,hd⟩:=yD.mp he
 obtain⟨k,kn,_,h1,h2⟩:=p.ix hm
 have hd':e.x.el=some (nm j):=of_decide_eq_true hd
 rw [h2] at hd'
 by_cases z:k=0
 .rw [if_pos z] at hd';cases hd'
 .rw [if_neg z] at hd'
  have l:=p.low k (by omega) kn
  exact⟨k,by omega,kn,p.inj _ _ (by omega) jn (Option.some.inj hd'),h1⟩
theorem Pl.dep (p:Pl S nm el n):∀m j,j < n->n<=j+m+1->Dep S m (nm j):=by
 intro m
 induction m with
 |zero=>
  intro j jn hn
  show qbf S (nm j)=[]
  cases e:qbf S (nm j) with
  |nil=>rfl
  |cons y r=>
   obtain⟨k,k0,kn,ke,_⟩:=p.kid jn (y:=y) (by rw [e];exact zL ..)
   have:=p.low k k0 kn
   omega
 |succ m ih=>
  intro j jn hn y hy
  obtain⟨k,k0,kn,ke,rfl⟩:=p.kid jn hy
  have:=p.low k k0 kn
  exact ih k kn (by omega)
theorem Pl.ben (p:Pl S nm el n):∀(m j:Nat) (zs:List Str),j < n->BenP S m (nm j) zs->∀y∈zs,∃k,k < n/\y=nm k/\j∈qad el k:=by
 intro m
 induction m with
 |zero=>
  rintro j _ jn ⟨parts,rest,hp,rfl,hb⟩ y hy
  rcases zK.mp hy with h|h
  .exact⟨j,jn,h,qcm p.low jn⟩
  .obtain⟨l,hl,_⟩:=yM.mp h
   obtain⟨q,hq,_⟩:=zI.mp hl
   exact(hb q hq).elim
 |succ m ih=>
  rintro j _ jn ⟨parts,rest,hp,rfl,hb⟩ y hy
  rcases zK.mp hy with h|h
  .exact⟨j,jn,h,qcm p.low jn⟩
  .obtain⟨l,hl,hyl⟩:=yM.mp h
   obtain⟨q,hq,rfl⟩:=zI.mp hl
   obtain⟨k,k0,kn,ke,e⟩:=p.kid jn (hp.mem_iff.mp (yH _ (zI.mpr ⟨q,hq,rfl⟩)))
   have hB:=hb q hq
   rw [e] at hB
   obtain⟨i,i1,i2,i3⟩:=ih k q.2 kn hB y hyl
   refine⟨i,i1,i2,?_⟩
   have:=lineN_in p.low k0 i i1 i3
   rw [ke] at this
   exact this
end
def qdo:Nat->(Nat->Int)->Int
 |0,_=>0
 |n+1,f=>qdo n f+f n
theorem sumR_le {f g:Nat->Int}:∀{n:Nat},(∀k,k < n->f k<=g k)->qdo n f<=qdo n g
 |0,_=>Int.le_refl _
 |n+1,h=>by
  have h1:=sumR_le (n:=n) fun k hk=>h k (by omega)
  have h2:=h n (by omega)
  show qdo n f+f n<=qdo n g+g n
  omega
theorem sumR_nn {f:Nat->Int}:∀{n:Nat},(∀k,k < n->0<=f k)->0<=qdo n f
 |0,_=>Int.le_refl _
 |n+1,h=>by
  have h1:=sumR_nn (n:=n) fun k hk=>h k (by omega)
  have h2:=h n (by omega)
  show 0<=qdo n f+f n
  omega
theorem sumR_mono {f:Nat->Int} {n m:Nat} (hm:n<=m) (h:∀k,k < m->0<=f k):qdo n f<=qdo m f:=by
 induction m with
 |zero=>have:n=0:=(by omega);subst this;exact Int.le_refl _
 |succ m ih=>
  rcases Nat.lt_or_ge n (m+1) with c|c
  .have h1:=ih (by omega) fun k hk=>h k (by omega)
   have h2:=h m (by omega)
   show _<=qdo m f+f m
   omega
  .have:n=m+1:=by omega
   subst this;exact Int.le_refl _
def sumL (f:Nat->Int):List Nat->Int
 | []=>0
 |k :: r=>f k+sumL f r
theorem sumL_perm {f:Nat->Int} {a b:List Nat} (h:a.Perm b):sumL f a=sumL f b:=by
 induction h with
 |nil=>rfl
 |cons x _ ih=>show _+_=_+_;rw [ih]
 |swap x y l=>show f y+(f x+sumL f l)=f x+(f y+sumL f l);omega
 |trans _ _ h1 h2=>rw [h1,h2]
theorem qfk {f:Nat->Int}:∀{n:Nat} {ks:List Nat},ks.Nodup->(∀k∈ks,k < n)->(∀k,k < n->0<=f k)->sumL f ks<=qdo n f
 |0,ks,_,h,_=>by
  cases ks with
  |nil=>exact Int.le_refl _
  |cons k r=>exact absurd (h k (zL ..)) (by omega)
 |n+1,ks,nd,h,p=>by
  show _<=qdo n f+f n
  by_cases m:n∈ks
  .rw [sumL_perm (List.perm_cons_erase m)]
   have nd2:=nd.erase n
   have:=qfk (n:=n) nd2 (fun k hk=>by
    have h1:=h k (List.mem_of_mem_erase hk)
    have:k≠n:=fun z=>by subst z;exact(List.Nodup.not_mem_erase nd) hk
    omega) fun k hk=>p k (by omega)
   show f n+_<=_
   omega
  .have:=qfk (n:=n) nd (fun k hk=>by
    have h1:=h k hk
    have:k≠n:=fun z=>m (z ▸ hk)
    omega) fun k hk=>p k (by omega)
   have:=p n (by omega)
   omega
theorem gN_add (f g:Str->Option Int) (z:Str):gN (addF f g) z=gN f z+gN g z:=by
 unfold gN addF
 cases e:g z with
 |none=>simp
 |some b=>rfl
theorem gN_sum (z:Str):∀(ts:List Pt) (f0:Str->Option Int),gN (ts.foldl (fun f t=>addF f t.f) f0) z=gN f0 z+(ts.map fun t=>gN t.f z).sum
 | [],f0=>by simp
 |t :: ts,f0=>by
  rw [yT,gN_sum z ts,gN_add,zS,yW]
  omega
section
variable {S: Ts} {nm: Nat -> Str} {el: Nat -> Nat} {n: Nat}
theorem Pl.sums (p:Pl S nm el n) {v:Str} {pr:Nat->Int} (hp:∀k e,S.hl[k]?=some e->gN e.x.fp v=pr k) (h0:∀k,k < n->0<=pr k) {m j:Nat} {bs:List Str} (jn:j < n) (hb:Ben S m (nm j) bs):
  gN (sumF (bs.map (ptOf S))) v<=qdo n fun k=>if j∈qad el k then pr k else 0:=by
 have nd:=(qcp p.wf hb.part).1
 have hk:=p.ben m j bs jn hb.part
 have key:∀bs:List Str,bs.Nodup->(∀y∈bs,∃k,k < n/\y=nm k/\j∈qad el k)->∃ks:List Nat,ks.Nodup/\(∀k∈ks,k < n/\nm k∈bs)/\((bs.map (ptOf S)).map fun t=>gN t.f v).sum=sumL (fun k=>if j∈qad el k then pr k else 0) ks:=by
  intro bs
  induction bs with
  |nil=>intro _ _;exact⟨[],yK,fun k hk=>absurd hk (by simp),rfl⟩
  |cons y r ih=>
   intro nd h
   rw [yA] at nd
   obtain⟨ks,k1,k2,k3⟩:=ih nd.2 fun y' hy=>h y' (zF _ hy)
   obtain⟨k,kn,rfl,kj⟩:=h y (zL ..)
   obtain⟨e,e1,e2,_⟩:=p.at kn
   refine⟨k :: ks,yA.mpr ⟨fun m=>nd.1 (k2 k m).2,k1⟩,fun k' hk'=>?_,?_⟩
   .rcases zK.mp hk' with rfl|hk'
    .exact⟨kn,zL ..⟩
    .exact⟨(k2 k' hk').1,zF _ (k2 k' hk').2⟩
   .rw [zS,zS,yW,k3,qfp e1]
    show gN e.x.fp v+_=(if j∈qad el k then pr k else 0)+_
    rw [hp k e e2,if_pos kj]
 obtain⟨ks,k1,k2,k3⟩:=key bs nd hk
 unfold sumF
 rw [gN_sum,k3]
 have z:gN noF v=0:=rfl
 rw [z,Int.zero_add]
 exact qfk k1 (fun k hk=>(k2 k hk).1) fun k hk=>by
  split
  .exact h0 k hk
  .exact Int.le_refl _
end
theorem ad_oK {k:List (Key × V)} {f:Str->Option Int} (hk:AD k f) {ks:List (Str × Addr)} {z:Str} {h:Addr} (hl:qda ks z=some h):HO.dK k≠ .dK (oK ks):=fun e=>by
 have e2:k=oK ks:=by injection e
 subst e2
 have g1:=hk.get z
 rw [qfi,hl] at g1
 cases hf:f z with
 |none=>rw [hf] at g1;cases g1
 |some n=>rw [hf] at g1;cases g1
def wai (K:Frag) (d:Ad):Sp:=fun vs H Q E=>∃(t a b:Addr) (S:Ts) (z:Str) (xe:V) (ka kb:List (Key × V)) (f g:Str->Option Int) (wt:Int),vs=[.ref t,.str z,xe,.ref a,.ref b,.int wt]/\qed d H t S/\qdr z=true/\S.at z=none/\qdl K H xe/\
 (who S xe=none->∀H',qaq H H'->E (.ref d.w04) none H')/\
 ∀e,who S xe=some e->WF S/\qg4 S/\S.ws.length<=50/\H a=some (.dK ka)/\AD ka f/\ka.length<=1000/\H b=some (.dK kb)/\AD kb g/\kb.length<=1000/\Fin S.ws f/\Fin S.ws g/\1<=wt/\wt<=1000/\S.hl.length < 40/\
  (∃zs,LineOf S e.n zs/\zs.length < 12/\∀y∈zs,∃e',S.at y=some e'/\Dep S 12 y/\∀bs,Ben S 12 y bs->∀v n,addF (sumF (bs.map (ptOf S))) (qcj f) v=some n->n<=gN e'.x.fc v)/\(∀y,gN f y<=gN g y)/\
  ∀(e2:He) H',SameBut S.hs H H'->H e2.a=none->H e2.x.pa=none->H e2.x.ca=none->qed d H' t {S with hl:=S.hl++ [e2]}->e2.n=z->e2.x.el=some e.n->e2.x.w=wt->(∀y,e2.x.fp y=qcj f y)->(∀y,e2.x.fc y=qcj g y)->Q .non H'
include T in
theorem wap:FnOk P w K mg base (My.CX1 P w) 19 d.w50 d.w2y ["self","name","elder","promise","cap","weight"] (wai K d):=by
 refine okDX T.wb8 w4h (fun vs H Q E h=>?_) (fun cdv A outer s H vs Q E hr h=>?_)
 .obtain⟨t,a,b,S,z,xe,ka,kb,f,g,wt,rfl,_⟩:=h;rfl
 obtain⟨t,a,b,S,z,xe,ka,kb,f,g,wt,rfl,hT,gz,nz,hx,q2,q1⟩:=h
 refine⟨_,(qa3 (qb2 (qbb ((w6p T).mono (by decide)) hr rfl T.w7m T.w5q.kp T.w7q .nil qas (qa0 (pv 1) qa1)))
  (qa3 (qbk (qbq (qe6 (pv 0) T.w01 T.w2a ((w8l T).mono (by decide)) hr T.wa0 .nil qah (qa0 (pv 1) qa1))) (qa5 (qc2 rfl T.wgq rfl T.whi qas (qa0 qcl qa1))) qao)
  (qa3 (qb2 (qb1 (pv 0) T.w01 T.w05 ((w1o T).mono (by decide)) hr T.w1x .nil qas (qa0 (pv 2) qa1)))
  (qa3 (qaf (i:=6) w4h.nd rfl (Or.inl rfl) (qbb ((w6t T).mono (by decide)) hr rfl T.w7t T.w5n.kp T.w7u .nil qas (qa0 (qaz (pv 0) rfl) (qa0 (pv 2) (qa0 (pv 3) (qa0 (pv 4) (qa0 (pv 5) qa1)))))))
  (qa3 (qbk (qap op_ge (qaj call_lenDD rfl T.w3o PySem.boot_len (qa0 (qaz (pv 0) rfl) qa1)) (qe7 rfl T.waa T.w1y) (qar _)) (qa5 (qc2 rfl T.wf7 rfl T.wf8 qas (qa0 qcl qa1))) qao)
  (qa3 (qaf (i:=7) w4h.nd rfl (Or.inl rfl) (qb1 (pv 0) T.w01 T.w0g ((w2k T).mono (by decide)) hr T.w3f .nil qas (qa0 (pv 2) qa1)))
  (qa3 (qbk (qap op_ge (qaj qb0 rfl T.w3o PySem.boot_len (qa0 (pv 7) qa1)) (qe7 rfl T.w9u T.w1d) (qar _)) (qa5 (qc2 rfl T.weq rfl T.wf0 qas (qa0 qcl qa1))) qao)
  (qa3 (qb2 (qbb ((w27 T).mono (by decide)) hr rfl T.w2p T.w1i.kp T.w2o .nil qas (qa0 (pv 1) (qa0 (qaz (pv 6) rfl) (qa0 (qaz (pv 6) rfl) qa1)))))
  (qa3 (qb2 (qb1 (pv 0) T.w01 T.w0i ((w6s T).mono (by decide)) hr T.w6x .nil qas (qa0 (pv 7) (qa0 (qaz (pv 6) rfl) qa1))))
  (qa5 (qe5 (qc9 hr) (qaz (pv 0) rfl) (pv 1) (pv 6) rfl))))))))))),?_⟩
 walk_at "d"
 refine qae (σ:=[some (.ref t),some (.str z),some (xe),some (.ref a),some (.ref b),some (.int wt),none,none]) rfl ?_
 have ct:=T.w01
 have ch:=T.w1j
 have n1:qav K d.w00 "sorted_wares":=T.w07
 have n2:qav K d.w00 "houses":=T.w02
 have n3:qav K d.w03 "promise":=T.w08
 have n4:qav K d.w03 "cap":=T.w0j
 left
 refine⟨z,rfl,gz,fun H1 s1=>?_⟩
 have hT1:=hT.same s1
 obtain⟨dx,ht⟩:=id hT1.1
 left
 refine⟨t,S,.str z,rfl,hT1,.inl ⟨z,rfl⟩,?_⟩
 rw [show who S (.str z)=none from nz]
 left
 show if false=true then _ else _
 left
 refine⟨t,S,xe,rfl,hT1,hx.same s1,fun e he=>?_,fun he=>q2 he H1 s1⟩
 obtain⟨hW,hO,hws,ha,hA,za,hb,hB,zb,ff,fg,w0,w1,h40,⟨zs,hL,hz12,hy⟩,le,q⟩:=q1 e he
 obtain⟨y,rfl⟩:∃y,xe=.str y:=by
  rcases hx with h|⟨_,nz'⟩
  .exact h
  .rw [qd1 nz'] at he;cases he
 have ey:e.n=y:=(qc6 he).2
 have hsw:=hT1.2.1
 left
 refine⟨S.sw,a,b,some y,S.ws,ka,kb,f,g,wt,rfl,hsw,s1 _ _ ha,hA,za,s1 _ _ hb,hB,zb,ff,fg,w0,w1,fun h o H3 s3 nh np nc hOo eel ew efp efc=>?_⟩
 obtain⟨⟨dh,ho⟩,hp,hpA,hc,hcA⟩:=id hOo
 have efp':o.fp=qcj f:=funext efp
 have efc':o.fc=qcj g:=funext efc
 have lk:o.kp.length<=S.ws.length:=hpA.le (by rw [efp'];exact pos_in ff)
 have hT3:=hT1.same s3
 obtain⟨⟨dx3,ht3⟩,hw3,hh3,nd3,hz3,hE3⟩:=id hT3
 left
 refine r_lenD hh3 ?_
 rw [qei]
 left
 refine⟨t,S,.str y,rfl,hT3,.inl ⟨y,zs,rfl,by rw [<-ey];exact hL,by omega,fun l hl=>?_⟩⟩
 have s4:=qa6 hl (.lst (zs.map V.str))
 have eL:upd H3 l (.lst (zs.map V.str)) l=some (.lst (zs.map V.str)):=qa2
 have hzl:(zs.map V.str).length=zs.length:=zB _
 generalize upd H3 l (.lst (zs.map V.str))=H4 at*
 have ho4:=s4 _ _ ho
 have hp4:=s4 _ _ hp
 have hc4:=s4 _ _ hc
 left
 refine⟨.str z,o.pa,o.ca,o.kp,o.kc,o.fp,o.fc,rfl,.inl hp4,.inl hc4,hpA,hcA,by omega,by rw [efp',efc'];exact pos_le fg le,fun H5 s5=>?_⟩
 have s35:=s4.trans s5
 have ho5:=s35 _ _ ho
 have hT5:=hT3.same s35
 obtain⟨dx5,ht5⟩:=id hT5.1
 left
 refine⟨t,l,o.pa,S,zs,o.kp,o.fp,rfl,hT5,hW,hO,SqL.of (s5 _ _ eL),s35 _ _ hp,hpA,hws,by rw [efp'];exact pos_in ff,by rw [efp'];exact hy,fun H6 s6=>?_⟩
 have s36:=s35.trans s6
 have s16:=s3.trans s36
 have s06:=s1.trans s16
 obtain⟨⟨dx6,ht6⟩,hw6,hh6,nd6,hz6,hE6⟩:=hT3.same s36
 left
 have lkn:qda S.keys z=none:=by rw [qdq,nz];rfl
 have hksz:(oK S.keys).length < sizeLine:=by rw [qei];show _ < 16777216;omega
 refine r_dpk hh6 hksz ?_
 rw [putK_oK lkn]
 left
 have sF:∀b u,b≠S.hs->H6 b=some u->upd H6 S.hs (.dK (oK (S.keys++ [(z,h)]))) b=some u:=fun b u hb e=>by rw [qa7 hb];exact e
 have nH:∀{b:Addr} {u:HO},H6 b=some u->u≠ .dK (oK S.keys)->b≠S.hs:=fun e1 e2 e3=>by
  subst e3;rw [hh6] at e1;exact e2 (Option.some.inj e1).symm
 have hT1':=hT1
 have fresh:∀{b:Addr} {u:HO},H1 b=none->H6 b=some u->b≠S.hs:=fun e1 _ e3=>by
  subst e3;rw [hT1'.2.2.1] at e1;cases e1
 refine q ⟨z,h,o⟩ _ (fun b u hb e=>sF b u hb (s06 _ _ e)) (s1.free nh) (s1.free np) (s1.free nc) ⟨⟨dx6,sF _ _ (nH ht6 (by intro e;cases e)) ht6⟩,sF _ _ (nH hw6 (by intro e;cases e)) hw6,?_,?_,?_,fun e1 he1=>?_⟩ rfl (by rw [ey];exact eel) ew efp efc
 .show upd _ _ _ S.hs=some (.dK (oK (Ts.keys _)))
  rw [qa2]
  unfold Ts.keys
  rw [zE];rfl
 .show (List.map _ (S.hl++ [_])).Nodup
  rw [zE,yL]
  refine⟨nd6,yA.mpr ⟨by simp,yK⟩,fun x hx1 y' hy1 e=>?_⟩
  have:y'=z:=by simpa using hy1
  subst this
  subst e
  obtain⟨e2,m2,rfl⟩:=zI.mp hx1
  rw [at_of nd6 m2] at nz
  cases nz
 .show (S.hl++ [_]).length<=60
  rw [zH]
  show _+1<=60
  omega
 .rcases zV.mp he1 with m|m
  .obtain⟨⟨dy,hy1⟩,hy2,hy3,hy4,hy5⟩:=hE6 e1 m
   have no:∀{k:List (Key × V)} {f:Str->Option Int},AD k f->HO.dK k≠ .dK (oK S.keys):=fun hk=>ad_oK hk (z:=e1.n) (h:=e1.a) (by rw [qdq,at_of nd6 m];rfl)
   exact⟨⟨dy,sF _ _ (nH hy1 (by intro e;cases e)) hy1⟩,sF _ _ (nH hy2 (no hy3)) hy2,hy3,sF _ _ (nH hy4 (no hy5)) hy4,hy5⟩
  .have:e1=⟨z,h,o⟩:=by simpa using m
   subst this
   have h6:=s36 _ _ ho
   refine⟨⟨dh,sF _ _ (fresh nh h6) h6⟩,sF _ _ (fresh np (s36 _ _ hp)) (s36 _ _ hp),hpA,sF _ _ (fresh nc (s36 _ _ hc)) (s36 _ _ hc),hcA⟩
abbrev ABC:Str:=Str.ofString "abcdefghijklmnopqrstuvwxyz"
def letc (i:Int):Nat:=97+(i%26).toNat
theorem letAt (g:Int):atI ABC.cps.toList (g%26)=some (letc g):=by
 have e0:=Int.emod_nonneg g (show (26:Int)≠0 by decide)
 have e1:=Int.emod_lt_of_pos g (show (0:Int) < 26 by decide)
 have h:∀k:Nat,k < 26->ABC.cps.toList[k]?=some (97+k):=by decide+kernel
 have e:g%26=(((g%26).toNat:Nat):Int):=by omega
 rw [e]
 rw [qaw (h (g%26).toNat (by omega))]
 rfl
theorem letc_isL (g:Int):isL (letc g)=true:=by
 have e0:=Int.emod_nonneg g (show (26:Int)≠0 by decide)
 have e1:=Int.emod_lt_of_pos g (show (0:Int) < 26 by decide)
 unfold isL letc
 rw [Bool.and_eq_true,decide_eq_true_iff,decide_eq_true_iff]
 omega
theorem letc_inj {g g':Int} (h:letc g=letc g'):g%26=g'%26:=by
 have e0:=Int.emod_nonneg g (show (26:Int)≠0 by decide)
 have f0:=Int.emod_nonneg g' (show (26:Int)≠0 by decide)
 unfold letc at h
 omega
def ofL (l:List Nat):Str:=⟨l.toArray⟩
theorem qf0 (l:List Nat):qe9 (ofL l)=l:=by simp [qe9,ofL]
theorem ofL_inj {l m:List Nat} (h:ofL l=ofL m):l=m:=by rw [<-qf0 l,<-qf0 m,h]
theorem ofL_snoc (l:List Nat) (c:Nat):ofL l++(⟨#[c]⟩:Str)=ofL (l++ [c]):=by
 have e:(ofL l++(⟨#[c]⟩:Str)).cps=(ofL (l++ [c])).cps:=by
  rw [Str.cps_append]
  simp [ofL]
 exact congrArg Str.mk e
theorem qft (l:List Nat):(ofL l).length=l.length:=by simp [ofL,Str.length]
def iV (e:Nat):V:=.int (e:Int)
def FinB (ws:List Str) (B:Int) (f:Str->Option Int):Prop:=∀z n,f z=some n->z∈ws/\0<=n/\n<=B
def elN (es:List Nat) (k:Nat):Nat:=(es[k - 1]?).getD 0
def ptN (ts:List Pt) (k:Nat) (v:Str):Int:=match ts[k]? with
 |some t=>gN t.f v
 |none=>0
theorem lineN_pw {el:Nat->Nat} {n:Nat} (lo:Low el n):∀k,k < n->(qad el k).Pairwise (fun a b=>b < a):=by
 intro k
 induction k using Nat.strongRecOn with
 |ind k ih=>
  intro kn
  cases k with
  |zero=>rw [qdh];exact List.pairwise_singleton ..
  |succ k=>
   have l:=lo (k+1) (by omega) kn
   rw [qc3 lo (by omega) kn,List.pairwise_cons]
   refine⟨fun a ha=>?_,ih _ l (by omega)⟩
   have:=qcr lo (el (k+1)) (by omega) a ha
   omega
structure PL where
 lw:Addr
 ln:Addr
 le:Addr
 lp:Addr
 lc:Addr
 ws:List Str
 nm:List Str
 es:List Nat
 tp:List Pt
 tc:List Pt
structure PlF (P:PL):Prop where
 w1:1<=P.ws.length
 w3:P.ws.length<=6
 wg:∀z∈P.ws,qdr z=true
 wn:P.ws.Nodup
 nl:P.nm.length=P.es.length+1
 n12:P.nm.length<=12
 ng:∀z∈P.nm,qdr z=true
 nn:P.nm.Nodup
 lo:∀(k e:Nat),P.es[k]?=some e->e<=k/\e<=10
 pl:P.tp.length=P.nm.length
 cl:P.tc.length=P.nm.length
 pa:∀t∈P.tp,AD t.k t.f/\FinB P.ws (10^30) t.f
 ca:∀t∈P.tc,AD t.k t.f/\FinB P.ws (10^30) t.f
 le:∀(j:Nat) (t:Pt),P.tc[j]?=some t->∀v∈P.ws,(qdo P.tp.length fun k=>if j∈qad (elN P.es) k then ptN P.tp k v else 0)<=gN t.f v
theorem qdf {es:List Nat} (lo:∀(k e:Nat),es[k]?=some e->e<=k) (n:Nat):Low (elN es) n:=fun k k0 kn=>by
 unfold elN
 cases e:es[k - 1]? with
 |none=>exact k0
 |some a=>have:=lo _ _ e;show a < k;omega
theorem elN_at {es:List Nat} {b:Nat} (hb:b < es.length):elN es (b+1)=es[b]:=by unfold elN;rw [Nat.add_sub_cancel,zA hb];rfl
theorem FinB.fin {ws:List Str} {B:Int} {f:Str->Option Int} (h:FinB ws B f) (hB:B<=10^30):Fin ws f:=fun z n e=>by
 obtain⟨a,b,c⟩:=h z n e
 exact⟨a,b,by omega⟩
theorem fin_perm {ws ws':List Str} {f:Str->Option Int} (h:Fin ws f) (p:ws'.Perm ws):Fin ws' f:=fun z n e=>by
 obtain⟨a,b,c⟩:=h z n e
 exact⟨p.mem_iff.mpr a,b,c⟩
def nmF (P:PL) (k:Nat):Str:=(P.nm[k]?).getD (ofL [])
def tfF (ts:List Pt) (k:Nat):Str->Option Int:=match ts[k]? with
 |some t=>t.f
 |none=>noF
theorem ptN_eq (ts:List Pt) (k:Nat) (v:Str):ptN ts k v=gN (tfF ts k) v:=by
 unfold ptN tfF
 cases ts[k]? <;> rfl
structure TInv (S:Ts) (P:PL) (n:Nat) (wt:Nat->Int):Prop where
 pl:Pl S (nmF P) (elN P.es) n
 wp:S.ws.Perm P.ws
 ws:PyProof.Rows.sortedS S.ws=true
 da:∀(k:Nat) (e:He),S.hl[k]?=some e->(∀v,e.x.fp v=qcj (tfF P.tp k) v)/\(∀v,e.x.fc v=qcj (tfF P.tc k) v)/\e.x.w=wt k
theorem qd9 {P:PL} {k:Nat} (h:k < P.nm.length):nmF P k=P.nm[k]:=by unfold nmF;rw [zA h];rfl
theorem nmF_inj {P:PL} (f:PlF P) {n:Nat} (hn:n<=P.nm.length):∀i j,i < n->j < n->nmF P i=nmF P j->i=j:=fun i j hi hj e=>by
 rw [qd9 (by omega),qd9 (by omega)] at e
 rcases Nat.lt_trichotomy i j with h|h|h
 .exact absurd e ((zY.mp f.nn) i j (by omega) (by omega) h)
 .exact h
 .exact absurd e.symm ((zY.mp f.nn) j i (by omega) (by omega) h)
theorem PlF.low {P:PL} (f:PlF P) (n:Nat):Low (elN P.es) n:=qdf (fun k e h=>(f.lo k e h).1) n
theorem qel {P:PL} (f:PlF P) {k:Nat} (hk:k < P.nm.length):∃t,P.tp[k]?=some t/\t∈P.tp/\tfF P.tp k=t.f/\AD t.k t.f/\Fin P.ws t.f:=by
 have h:k < P.tp.length:=by rw [f.pl];exact hk
 have e:=zA h
 refine⟨_,e,zO h,by unfold tfF;rw [e],(f.pa _ (zO h)).1,(f.pa _ (zO h)).2.fin (by decide)⟩
theorem tc_fin {P:PL} (f:PlF P) {k:Nat} (hk:k < P.nm.length):∃t,P.tc[k]?=some t/\t∈P.tc/\tfF P.tc k=t.f/\AD t.k t.f/\Fin P.ws t.f:=by
 have h:k < P.tc.length:=by rw [f.cl];exact hk
 have e:=zA h
 refine⟨_,e,zO h,by unfold tfF;rw [e],(f.ca _ (zO h)).1,(f.ca _ (zO h)).2.fin (by decide)⟩
theorem fin_nn {ws:List Str} {f:Str->Option Int} (h:Fin ws f) (v:Str):0<=gN f v:=by
 unfold gN
 cases e:f v with
 |none=>exact Int.le_refl _
 |some n=>exact(h v n e).2.1
theorem fin_out {ws:List Str} {f:Str->Option Int} (h:Fin ws f) {v:Str} (hv:v∉ws):gN f v=0:=by
 unfold gN
 cases e:f v with
 |none=>rfl
 |some n=>exact absurd (h v n e).1 hv
theorem pr_nn {P:PL} (f:PlF P) {k:Nat} (hk:k < P.nm.length) (v:Str):0<=gN (tfF P.tp k) v:=by
 obtain⟨t,_,_,e,_,h⟩:=qel f hk
 rw [e];exact fin_nn h v
theorem cap_ge {P:PL} (f:PlF P) {j:Nat} (hj:j < P.nm.length) (v:Str):(qdo P.nm.length fun k=>if j∈qad (elN P.es) k then gN (tfF P.tp k) v else 0)<=gN (tfF P.tc j) v:=by
 obtain⟨t,e1,e2,e3,e4,e5⟩:=tc_fin f hj
 rw [e3]
 by_cases hv:v∈P.ws
 .have z:=f.le j t e1 v hv
  rw [f.pl] at z
  have:(fun k=>if j∈qad (elN P.es) k then ptN P.tp k v else 0)=fun k=>if j∈qad (elN P.es) k then gN (tfF P.tp k) v else 0:=funext fun k=>by rw [ptN_eq]
  rw [this] at z
  exact z
 .have z:(qdo P.nm.length fun k=>if j∈qad (elN P.es) k then gN (tfF P.tp k) v else 0)<=qdo P.nm.length fun _=>0:=sumR_le fun k hk=>by
   split
   .obtain⟨t',_,_,q,_,h⟩:=qel f hk
    rw [q,fin_out h hv];exact Int.le_refl _
   .exact Int.le_refl _
  have z0:∀n,(qdo n fun _=>0)=0:=fun n=>by
   induction n with
   |zero=>rfl
   |succ n ih=>show qdo n _+0=0;rw [ih];rfl
  rw [z0] at z
  have:=fin_nn e5 v
  omega
theorem own_le {P:PL} (f:PlF P) {k:Nat} (hk:k < P.nm.length) (v:Str):gN (tfF P.tp k) v<=gN (tfF P.tc k) v:=by
 have z:=cap_ge f hk v
 have h:gN (tfF P.tp k) v<=qdo P.nm.length fun i=>if k∈qad (elN P.es) i then gN (tfF P.tp i) v else 0:=by
  have h1:sumL (fun i=>if k∈qad (elN P.es) i then gN (tfF P.tp i) v else 0) [k]<=qdo P.nm.length fun i=>if k∈qad (elN P.es) i then gN (tfF P.tp i) v else 0:=
   qfk (yA.mpr ⟨by simp,yK⟩) (fun i hi=>by have:i=k:=(by simpa using hi);omega) fun i hi=>by
    split
    .exact pr_nn f hi v
    .exact Int.le_refl _
  have h2:sumL (fun i=>if k∈qad (elN P.es) i then gN (tfF P.tp i) v else 0) [k]=gN (tfF P.tp k) v:=by
   show (if k∈qad (elN P.es) k then gN (tfF P.tp k) v else 0)+0=_
   rw [if_pos (qcm (f.low P.nm.length) hk),Int.add_zero]
  omega
 omega
theorem TInv.ask {S:Ts} {P:PL} {k:Nat} {wt:Nat->Int} (h:TInv S P k wt) (f:PlF P) (k0:0 < k) (kn:k < P.nm.length):∃e,S.at (nmF P (elN P.es k))=some e/\e.n=nmF P (elN P.es k)/\WF S/\qg4 S/\S.ws.length<=50/\S.hl.length < 40/\S.at (nmF P k)=none/\
  ∃zs,LineOf S e.n zs/\zs.length < 12/\∀y∈zs,∃e',S.at y=some e'/\Dep S 12 y/\∀bs,Ben S 12 y bs->∀v n,addF (sumF (bs.map (ptOf S))) (qcj (tfF P.tp k)) v=some n->n<=gN e'.x.fc v:=by
 have low:=f.low P.nm.length
 have lk:=low k k0 kn
 have n12:=f.n12
 obtain⟨e,h1,h2,h3⟩:=h.pl.at lk
 have en:e.n=nmF P (elN P.es k):=(qc6 h1).2
 refine⟨e,h1,en,h.pl.wf,⟨by have:=h.wp.length_eq;have:=f.w3;omega,fun e' he z hz=>?_⟩,by have:=h.wp.length_eq;have:=f.w3;omega,by rw [h.pl.len];omega,?_,(qad (elN P.es) (elN P.es k)).map (nmF P),by rw [en];exact h.pl.line _ lk,?_,fun y hy=>?_⟩
 .obtain⟨i,hi,q,_⟩:=h.pl.ix he
  obtain⟨t,_,_,q2,_,q3⟩:=qel f (k:=i) (by omega)
  rw [(h.da i e' q).1,q2] at hz
  exact h.wp.mem_iff.mpr (pos_in q3 z hz)
 .cases c:S.at (nmF P k) with
  |none=>rfl
  |some e'=>
   obtain⟨i,hi,_,q,_⟩:=h.pl.ix (qc6 c).1
   have:=nmF_inj f (n:=P.nm.length) (Nat.le_refl _) i k (by omega) kn (by rw [<-q,(qc6 c).2])
   omega
 .rw [zB]
  have hl:=qcb low (elN P.es k) (by omega)
  have:elN P.es k<=10:=by
   obtain⟨b,rfl⟩:∃b,k=b+1:=⟨k - 1,by omega⟩
   have hb:b < P.es.length:=by have:=f.nl;omega
   rw [elN_at hb]
   exact(f.lo b _ (zA hb)).2
  omega
 .obtain⟨j,hj,rfl⟩:=zI.mp hy
  have jl:=qcr low (elN P.es k) (by omega) j hj
  have jk:j < k:=by omega
  obtain⟨e',q1,q2,_⟩:=h.pl.at jk
  refine⟨e',q1,h.pl.dep 12 j jk (by omega),fun bs hb v n hn=>?_⟩
  have hs:=h.pl.sums (v:=v) (pr:=fun i=>gN (tfF P.tp i) v) (fun i e2 he2=>?_) (fun i hi=>pr_nn f (by omega) v) jk hb
  .have g1:n=gN (addF (sumF (bs.map (ptOf S))) (qcj (tfF P.tp k))) v:=by unfold gN;rw [hn];rfl
   obtain⟨t,_,_,t3,_,t5⟩:=qel f kn
   rw [gN_add,t3,qez t5,<-t3] at g1
   obtain⟨u,_,_,u3,_,u5⟩:=tc_fin f (k:=j) (by omega)
   have fc:e'.x.fc=qcj u.f:=by rw [<-u3];exact funext (h.da j e' q2).2.1
   rw [fc,qez u5,<-u3]
   have cg:=cap_ge f (j:=j) (by omega) v
   have mono:=sumR_mono (f:=fun i=>if j∈qad (elN P.es) i then gN (tfF P.tp i) v else 0) (n:=k+1) (m:=P.nm.length) (by omega) fun i hi=>by
    try dsimp only
    split
    .exact pr_nn f hi v
    .exact Int.le_refl _
   have top:(qdo (k+1) fun i=>if j∈qad (elN P.es) i then gN (tfF P.tp i) v else 0)=(qdo k fun i=>if j∈qad (elN P.es) i then gN (tfF P.tp i) v else 0)+gN (tfF P.tp k) v:=by
    show qdo k _+(if j∈qad (elN P.es) k then gN (tfF P.tp k) v else 0)=_
    rw [if_pos]
    rw [qc3 low k0 kn]
    exact zF _ hj
   omega
  .obtain⟨t,_,_,t3,_,t5⟩:=qel f (k:=i) (by have:=(List.getElem?_eq_some_iff.mp he2).1;rw [h.pl.len] at this;omega)
   rw [show e2.x.fp=qcj (tfF P.tp i) from funext (h.da i e2 he2).1,t3]
   exact qez t5 v
theorem TInv.next {S:Ts} {P:PL} {k:Nat} {wt:Nat->Int} (h:TInv S P k wt) (f:PlF P) (k0:0 < k) (kn:k < P.nm.length) {e2:He} {w:Int} (en:e2.n=nmF P k) (el:e2.x.el=some (nmF P (elN P.es k))) (ew:e2.x.w=w) (ep:∀v,e2.x.fp v=qcj (tfF P.tp k) v) (ec:∀v,e2.x.fc v=qcj (tfF P.tc k) v):
  TInv {S with hl:=S.hl++ [e2]} P (k+1) (fun i=>if i=k then w else wt i):=by
 have hl:=h.pl.len
 have split:∀(i:Nat) (e:He),(S.hl++ [e2])[i]?=some e->(i < k/\S.hl[i]?=some e)\/(i=k/\e=e2):=fun i e he=>by
  rcases Nat.lt_or_ge i S.hl.length with c|c
  .rw [yF c] at he
   exact .inl ⟨by omega,he⟩
  .have:=(List.getElem?_eq_some_iff.mp he).1
   rw [zH,yB] at this
   have ei:i=S.hl.length:=by omega
   rw [yC c,ei,Nat.sub_self] at he
   exact .inr ⟨by omega,by simpa using he.symm⟩
 refine⟨⟨by show (S.hl++ [e2]).length=_;rw [zH,hl];rfl,fun i e he=>?_,nmF_inj f (by omega),fun i i0 ik=>f.low P.nm.length i i0 (by omega)⟩,h.wp,h.ws,fun i e he=>?_⟩
 .rcases split i e he with ⟨a,b⟩ |⟨rfl,rfl⟩
  .exact h.pl.nam i e b
  .exact⟨en,by rw [if_neg (by omega)];exact el⟩
 .rcases split i e he with ⟨a,b⟩ |⟨rfl,rfl⟩
  .obtain⟨x,y,z⟩:=h.da i e b
   exact⟨x,y,by rw [if_neg (by omega)];exact z⟩
  .exact⟨ep,ec,by rw [if_pos rfl];exact ew⟩
structure Apart (S:Ts) (t q:Addr):Prop where
 t:t≠q
 sw:S.sw≠q
 hs:S.hs≠q
 ho:∀e∈S.hl,e.a≠q/\e.x.pa≠q/\e.x.ca≠q
theorem sort_eq {ss ss':List Str} (h:ss.Perm ss') (a:PyProof.Rows.sortedS ss=true) (b:PyProof.Rows.sortedS ss'=true):ss=ss':=
 List.Perm.eq_of_pairwise (le:=leS) (fun x y _ _ h1 h2=>leS_anti h1 h2) (qd2 a) (qd2 b) h
theorem pl_one {S:Ts} {P:PL} {e:He} (f:PlF P) (hl:S.hl=[e]) (en:e.n=nmF P 0) (el:e.x.el=none):Pl S (nmF P) (elN P.es) 1:=by
 refine⟨by rw [hl];rfl,fun k e' he=>?_,fun i j hi hj _=>by omega,fun k k0 k1=>by omega⟩
 rw [hl] at he
 have hk:=(List.getElem?_eq_some_iff.mp he).1
 have e0:k=0:=by rw [yB] at hk;omega
 subst e0
 have:e'=e:=by simpa using he.symm
 subst this
 exact⟨en,el⟩
theorem TInv.cast {S:Ts} {P:PL} {n:Nat} {wt wt':Nat->Int} (h:TInv S P n wt) (e:∀j,j < n->wt j=wt' j):TInv S P n wt':=⟨h.pl,h.wp,h.ws,fun k x hx=>by
 have hk:=(List.getElem?_eq_some_iff.mp hx).1
 rw [h.pl.len] at hk
 obtain⟨a,b,c⟩:=h.da k x hx
 exact⟨a,b,c.trans (e k hk)⟩⟩
def tV:Option Int->V
 |none=> .non
 |some n=> .int n
def qf8 (d:Ad) (s:Bool):Addr:=if s=true then d.w0c else d.w0b
def fsB (n:Int) (z:Str) (m:Addr) (r:Int) (t:Option Int):List (Str × V):=[("number",.int n),("house",.str z),("amounts",.ref m),("rank",.int r),("turns",tV t)]
theorem clsOk {K:Frag} {mg:Str->Option Value} {d:Ad} (T:Tx K mg d) (s:Bool):Cls K (qf8 d s)/\qav K (qf8 d s) "number"/\qav K (qf8 d s) "house"/\qav K (qf8 d s) "amounts"/\qav K (qf8 d s) "rank"/\qav K (qf8 d s) "turns":=by
 cases s
 .exact⟨T.w3x,T.w1e,T.w1t,T.w16,T.w1q,T.w21⟩
 .exact⟨T.w4o,T.w1h,T.w23,T.w1a,T.w2l,T.w1v⟩
def wbc (K:Frag) (d:Ad):Sp:=fun vs H Q _=>∃(x dx a:Addr) (s:Bool) (n:Int) (z:Str) (k:List (Key × V)) (r:Int) (t:Option Int),vs=[.ref x,.int n,.str z,.ref a,.int r,tV t]/\H x=some (.ins (qf8 d s) dx [])/\H a=some (.dK k)/\
 ∀m H',H m=none->H' x=some (.ins (qf8 d s) dx (fsB n z m r t))->H' m=some (.dK k)->SameBut x H H'->Q .non H'
include T in
theorem w7f:FnOk P w K mg base CX0 1 d.w4c d.w4z ["self","number","house","amounts","rank","turns"] (wbc K d):=by
 refine T.wd0.ok wc5 (fun vs H Q E h=>?_) (fun cdv A outer s H vs Q E hr h=>?_)
 .obtain⟨x,dx,a,s,n,z,k,r,t,rfl,_⟩:=h;rfl
 obtain⟨x,dx,a,s,n,z,k,r,t,rfl,hx,ha,q⟩:=h
 refine⟨_,(qa3 (qd4 (pv 0) (pv 1) rfl)
  (qa3 (qd4 (pv 0) (pv 2) rfl)
  (qa3 (qd4 (pv 0) (qb8 qco rfl T.wa2 PyProof.Rows.boot_dict (qa0 (pv 3) qa1)) rfl)
  (qa3 (qd4 (pv 0) (pv 4) rfl)
  (qa5 (qd4 (pv 0) (pv 5) rfl)))))),?_⟩
 walk_at "d"
 refine qae (σ:=[some (.ref x),some (.int n),some (.str z),some (.ref a),some (.int r),some (tV t)]) rfl ?_
 obtain⟨cl,n1,n2,n3,n4,n5⟩:=clsOk T s
 left
 refine qfo qa2 cl n2 (by show 1 < 1000;decide) ?_
 rw [qbj]
 have nxa:a≠x:=fun z=>by subst z;rw [hx] at ha;cases ha
 have hRa:Rd (upd H x (.ins (qf8 d s) dx (qep "house" (.str z) (qep "number" (.int n) [])))) a (.dK k):=.inl (by rw [qa7 nxa];exact ha)
 left
 rename_i m hm
 have nmx:m≠x:=fun z=>by subst z;rw [qa2] at hm;cases hm
 have hm0:H m=none:=by rw [qa7 nmx] at hm;exact hm
 refine qfo (qab qa2 hm) cl n3 (by show 2 < 1000;decide) ?_
 left
 refine qfo qa2 cl n4 (by show 3 < 1000;decide) ?_
 left
 refine qfo qa2 cl n5 (by show 4 < 1000;decide) ?_
 left
 refine q m _ hm0 (by rw [qa2];rfl) (by rw [qa7 nmx,qa7 nmx,qa7 nmx];exact qa2) fun b o hb e=>?_
 rw [qa7 hb,qa7 hb,qa7 hb,qa7 (qaa e hm0),qa7 hb]
 exact e
def InW (ws:List Str) (f:Str->Option Int):Prop:=∀z,f z≠none->z∈ws
structure Rr where
 p:Addr
 e:Addr
 n:Int
 i:Nat
 k:List (Key × V)
 f:Str->Option Int
 r:Int
 s:Bool
structure Ob where
 R:Rr
 o:Addr
 m:Addr
 t:Option Int
structure ObAt (d:Ad) (H:Hp) (P:PL) (b:Ob):Prop where
 obj:∃dx,H b.o=some (.ins (qf8 d b.R.s) dx (fsB b.R.n (nmF P b.R.i) b.m b.R.r b.t))
 amt:H b.m=some (.dK b.R.k)
 ad:AD b.R.k b.R.f
 inw:InW P.ws b.R.f
 il:b.R.i < P.nm.length
theorem ObAt.same {d:Ad} {H H':Hp} {P:PL} {b:Ob} (h:ObAt d H P b) (s:qaq H H'):ObAt d H' P b:=⟨let ⟨dx,e⟩:=h.obj;⟨dx,s _ _ e⟩,s _ _ h.amt,h.ad,h.inw,h.il⟩
theorem line_kid {el:Nat->Nat} {n:Nat} (lo:Low el n) {j:Nat}:∀k,k < n->j∈qad el k->j≠k->∃c,0 < c/\c < n/\el c=j/\c∈qad el k:=by
 intro k
 induction k using Nat.strongRecOn with
 |ind k ih=>
  intro kn hj ne
  cases k with
  |zero=>rw [qdh] at hj;simp at hj;omega
  |succ k=>
   have l:=lo (k+1) (by omega) kn
   rw [qc3 lo (by omega) kn] at hj ⊢
   rcases zK.mp hj with h|h
   .exact absurd h ne
   .by_cases c:j=el (k+1)
    .exact⟨k+1,by omega,kn,c.symm,zL ..⟩
    .obtain⟨x,x0,x1,x2,x3⟩:=ih (el (k+1)) l (by omega) h c
     exact⟨x,x0,x1,x2,zF _ x3⟩
theorem Pl.isKid {S:Ts} {nm:Nat->Str} {el:Nat->Nat} {n:Nat} (p:Pl S nm el n) {c:Nat} (c0:0 < c) (cn:c < n):nm c∈qbf S (nm (el c)):=by
 obtain⟨e,h1,h2,h3⟩:=p.get cn
 rw [if_neg (by omega)] at h3
 rw [<-h2]
 exact zI.mpr ⟨e,yD.mpr ⟨zD h1,decide_eq_true h3⟩,rfl⟩
theorem flat_in {parts:List (Str × List Str)} {q:Str × List Str} {y:Str} (hq:q∈parts) (hy:y∈q.2):y∈flat parts:=yM.mpr ⟨q.2,zI.mpr ⟨q,hq,rfl⟩,hy⟩
theorem Pl.allBen {S:Ts} {nm:Nat->Str} {el:Nat->Nat} {n:Nat} (p:Pl S nm el n):∀(m j:Nat) (zs:List Str),j < n->Ben S m (nm j) zs->∀k,k < n->j∈qad el k->nm k∈zs:=by
 intro m
 induction m with
 |zero=>
  rintro j _ jn ⟨parts,hp,rfl,hb⟩ k kn hk
  by_cases c:j=k
  .rw [c];exact zL ..
  .obtain⟨x,x0,x1,x2,x3⟩:=line_kid p.low k kn hk c
   have z:=p.isKid x0 x1
   rw [x2] at z
   obtain⟨q,hq,_⟩:=zI.mp (hp.mem_iff.mpr z)
   exact(hb q hq).elim
 |succ m ih=>
  rintro j _ jn ⟨parts,hp,rfl,hb⟩ k kn hk
  by_cases c:j=k
  .rw [c];exact zL ..
  .obtain⟨x,x0,x1,x2,x3⟩:=line_kid p.low k kn hk c
   have z:=p.isKid x0 x1
   rw [x2] at z
   obtain⟨q,hq,e⟩:=zI.mp (hp.mem_iff.mpr z)
   have hB:=hb q hq
   rw [e] at hB
   exact zF _ (flat_in hq (ih x q.2 x1 hB k kn x3))
theorem Pl.benIff {S:Ts} {nm:Nat->Str} {el:Nat->Nat} {n:Nat} (p:Pl S nm el n) {m j:Nat} {zs:List Str} (jn:j < n) (h:Ben S m (nm j) zs) {k:Nat} (kn:k < n):nm k∈zs↔j∈qad el k:=by
 refine⟨fun hk=>?_,p.allBen m j zs jn h k kn⟩
 obtain⟨i,i1,i2,i3⟩:=p.ben m j zs jn h.part _ hk
 rw [p.inj k i kn i1 i2]
 exact i3
def bsV (bs:List Ob):List V:=bs.map fun b=> .ref b.o
def inZ (P:PL) (zs:List Str) (b:Ob):Bool:=decide (nmF P b.R.i∈zs)
def NoHs (K:Frag) (d:Ad) (H:Hp) (t:Addr) (x:V) (E:XK):Prop:=∃S:Ts,qed d H t S/\WF S/\qdl K H x/\who S x=none/\∀H',qaq H H'->E (.ref d.w04) none H'
def w81 (K:Frag) (d:Ad):Sp:=fun vs H Q E=>(∃(t:Addr) (l x:V),vs=[.ref t,l,x]/\NoHs K d H t x E)\/∃(t lh:Addr) (S:Ts) (P:PL) (bs:List Ob) (z:Str) (e:He),vs=[.ref t,.ref lh,.str z]/\qed d H t S/\WF S/\S.at z=some e/\Dep S 12 z/\H lh=some (.lst (bsV bs))/\bs.length<=63/\(∀b∈bs,ObAt d H P b)/\
 ∀(l:Addr) (zs:List Str) H',qaq H H'->H l=none->Ben S 12 z zs->H' l=some (.lst (bsV (bs.filter (inZ P zs))))->Q (.ref l) H'
include T in
theorem w2s:FnOk P w K mg base (My.CX1 P w) 17 d.w39 d.w2u ["tree","holds","house"] (w81 K d):=by
 refine okX T.w1u w2r (fun vs H Q E h=>?_) (fun cdv A outer s H vs Q E hr h=>?_)
 .rcases h with ⟨t,l,x,rfl,_⟩ |⟨t,lh,S,P,bs,z,e,rfl,_⟩ <;> rfl
 rcases h with ⟨t,l,x,rfl,S,hT,hW,hx,wn,q⟩ |h
 .refine⟨_,(qa3 (qaf (i:=3) w2r.nd rfl (Or.inr rfl) (qb1 (pv 0) T.w01 T.w09 ((w3j T).mono (by decide)) hr T.w2f .nil qas (qa0 (pv 2) qa1)))
  (qa5 (qai (qbp (caps:=[3]) (cn:=["names"]) (qb4 rfl rfl (by rfl) (by rfl) rfl ⟨rfl,trivial⟩ (by rfl) rfl ⟨⟨rfl,rfl,rfl,rfl,_,rfl⟩,trivial⟩ (by decide)) rfl (qau (pv 1)) (fun _ _ _ _=>(qcu (qap qd8 (qaz (pv 0) rfl) (pv 1) (by rfl)))) (fun _ _ _ _=>(pv 0)))))),?_⟩
  walk_at "d"
  try dsimp only [cxC]
  refine qae (σ:=[some (.ref t),some (l),some (x),none]) rfl ?_
  have ct:=T.w01
  obtain⟨dx,ht⟩:=id hT.1
  left
  refine⟨t,S,x,rfl,hT,qfm hW hT.2.2.2.2.1,hx,fun e he=>?_,fun _ ll hll=>?_⟩
  .rw [wn] at he;cases he
  exact q _ (qa6 hll _)
 obtain⟨t,lh,S,P,bs,z,e,rfl,hT,hW,ae,hD,hL,h63,hB,q⟩:=h
 have een:=(qc6 ae).2
 refine⟨_,(qa3 (qaf (i:=3) w2r.nd rfl (Or.inr rfl) (qb1 (pv 0) T.w01 T.w09 ((w3j T).mono (by decide)) hr T.w2f .nil qas (qa0 (pv 2) qa1)))
  (qa5 (qai (qbp (caps:=[3]) (cn:=["names"]) (qb4 rfl rfl (by rfl) (by rfl) rfl ⟨rfl,trivial⟩ (by rfl) rfl ⟨⟨rfl,rfl,rfl,rfl,_,rfl⟩,trivial⟩ (by decide)) rfl (qau (pv 1)) (fun _ _ _ _=>(qcu (qap qd8 (qaz (pv 0) rfl) (pv 1) (by rfl)))) (fun _ _ _ _=>(pv 0)))))),?_⟩
 walk_at "d"
 try dsimp only [cxC]
 refine qae (σ:=[some (.ref t),some (.ref lh),some (.str z),none]) rfl ?_
 have ct:=T.w01
 obtain⟨dx,ht⟩:=id hT.1
 left
 refine⟨t,S,.str z,rfl,hT,qfm hW hT.2.2.2.2.1,.inl ⟨_,rfl⟩,fun e' he'=>?_,fun hn=>?_⟩
 rotate_left
 .rw [show who S (.str z)=some e from ae] at hn;cases hn
 have ee:e=e':=Option.some.inj (ae.symm.trans he')
 subst ee
 rw [een]
 refine⟨hD,fun lb zs H1 s1 hlb elb hBen=>?_⟩
 have hL1:=s1 _ _ hL
 have hB1:∀b∈bs,ObAt d H1 P b:=fun b hb=>(hB b hb).same s1
 clear hT hD he' ht hL hB
 left
 intro C s0 H0 fp acc hacc
 refine qf9 bs.length (fun i H'=>H'=upd H1 acc (.lst (bsV ((bs.take i).filter (inZ P zs))))) rfl ?_ ?_ ?_ ?_
 .rintro i H' hi rfl
  exact⟨_,.ref bs[i].o,SqL.of (qab hL1 hacc),by unfold bsV;rw [zC,zA hi];rfl⟩
 .rintro H' rfl
  exact⟨_,SqL.of (qab hL1 hacc),by unfold bsV;rw [zB];exact Nat.le_refl _⟩
 .rintro i H' v H'' hi rfl ⟨rfl,hy⟩
  have hv:=hy _ (SqL.of (qab hL1 hacc))
  unfold bsV at hv
  rw [zC,zA hi] at hv
  cases hv
  have hb:=hB1 _ (zO hi)
  have tk:bs.take (i+1)=bs.take i++ [bs[i]]:=by rw [zM,zA hi];rfl
  generalize hbi:bs[i]=b at*
  obtain⟨dx,hbo⟩:=hb.obj
  have hbo':=qab (o':=.lst (bsV ((bs.take i).filter (inZ P zs)))) hbo hacc
  have elb':=qab (o':=.lst (bsV ((bs.take i).filter (inZ P zs)))) elb hacc
  obtain⟨cl,n1,n2,n3,n4,n5⟩:=clsOk T b.R.s
  have zl:(bsV ((bs.take i).filter (inZ P zs))).length < sizeLine:=by
   unfold bsV
   rw [zB]
   have h1:=zT (inZ P zs) (bs.take i)
   rw [zU] at h1
   show _ < 16777216
   omega
  left
  refine r_inSs (SqL.of elb') ?_
  by_cases m:nmF P b.R.i∈zs
  .rw [decide_eq_true m]
   left
   rw [qbj,tk,zX,zW,if_pos (show inZ P zs b=true from decide_eq_true m)]
   congr 2
   unfold bsV
   rw [zE];rfl
  .rw [decide_eq_false m]
   left
   rw [tk,zX,zW,if_neg (show ¬inZ P zs b=true by rw [show inZ P zs b=false from decide_eq_false m];decide),yN,zZ]
 rintro H' rfl
 rw [zR]
 left
 exact q acc zs _ (s1.trans (qa6 hacc _)) (s1.free hacc) hBen qa2
def obPt (b:Ob):Pt:=⟨b.m,b.R.k,b.R.f⟩
def wdw (K:Frag) (d:Ad):Sp:=fun vs H Q _=>∃(lh:Addr) (P:PL) (bs:List Ob),vs=[.ref lh]/\H lh=some (.lst (bsV bs))/\bs.length<=63/\P.ws.length<=6/\(∀b∈bs,ObAt d H P b)/\
 ∀(l:Addr) (k:List (Key × V)) H',qaq H H'->H l=none->H' l=some (.dK k)->AD k (sumF (bs.map obPt))->Q (.ref l) H'
include T in
theorem wa7:FnOk P w K mg base CX0 4 d.w8z d.w6z ["holds"] (wdw K d):=by
 refine T.w91.ok we5 (fun vs H Q E h=>?_) (fun cdv A outer s H vs Q E hr h=>?_)
 .obtain⟨lh,P,bs,rfl,_⟩:=h;rfl
 obtain⟨lh,P,bs,rfl,hL,h63,w3,hB,q⟩:=h
 refine⟨_,(qa5 (qai (qa9 ((w8u T).mono (by decide)) hr rfl T.w9z T.w73.kp T.wa6 .nil qah (qa0 (qbp (caps:=[]) (cn:=[]) (qb4 rfl rfl (by rfl) (by rfl) rfl trivial (by rfl) rfl trivial (by decide)) rfl (qau (pv 0)) (fun _ _ _ _=>qck) (fun _ _ _ _=>(qaz (pv 0) rfl))) qa1)))),?_⟩
 walk_at "d"
 try dsimp only [cxC]
 refine qae (σ:=[some (.ref lh)]) rfl ?_
 left
 intro C s0 H0 fp acc hacc
 refine qf9 bs.length (fun i H'=>H'=upd H acc (.lst (((bs.take i).map obPt).map fun u=> .ref u.a))) rfl ?_ ?_ ?_ ?_
 .rintro i H' hi rfl
  exact⟨_,.ref bs[i].o,SqL.of (qab hL hacc),by unfold bsV;rw [zC,zA hi];rfl⟩
 .rintro H' rfl
  exact⟨_,SqL.of (qab hL hacc),by unfold bsV;rw [zB];exact Nat.le_refl _⟩
 .rintro i H' v H'' hi rfl ⟨rfl,hy⟩
  have hv:=hy _ (SqL.of (qab hL hacc))
  unfold bsV at hv
  rw [zC,zA hi] at hv
  cases hv
  have hb:=hB _ (zO hi)
  have tk:bs.take (i+1)=bs.take i++ [bs[i]]:=by rw [zM,zA hi];rfl
  generalize hbi:bs[i]=b at*
  obtain⟨dx,hbo⟩:=hb.obj
  have hbo':=qab (o':=.lst (((bs.take i).map obPt).map fun u=> .ref u.a)) hbo hacc
  obtain⟨cl,n1,n2,n3,n4,n5⟩:=clsOk T b.R.s
  left
  rw [qbj,tk,zE,zE]
  rfl
 rintro H' rfl
 rw [zR]
 have s2:=qa6 hacc (.lst ((bs.map obPt).map fun u=>V.ref u.a))
 have eN:upd H acc (.lst ((bs.map obPt).map fun u=>V.ref u.a)) acc=some (.lst ((bs.map obPt).map fun u=>V.ref u.a)):=qa2
 left
 refine⟨acc,bs.map obPt,P.ws,rfl,SqL.of eN,by omega,fun u hu=>?_,fun l k' H2 s3 hl el hA=>q l k' H2 (s2.trans s3) (s2.free hl) el hA⟩
 obtain⟨b,hb,rfl⟩:=zI.mp hu
 have hb':=hB b hb
 exact⟨s2 _ _ hb'.amt,hb'.ad,hb'.inw⟩
def wh1 (K:Frag) (d:Ad):Sp:=fun vs H Q E=>(∃(t:Addr) (l x:V),vs=[.ref t,l,x]/\NoHs K d H t x E)\/∃(t lh:Addr) (S:Ts) (P:PL) (bs:List Ob) (z:Str) (e:He),vs=[.ref t,.ref lh,.str z]/\qed d H t S/\WF S/\S.at z=some e/\Dep S 12 z/\H lh=some (.lst (bsV bs))/\bs.length<=63/\P.ws.length<=6/\(∀b∈bs,ObAt d H P b)/\
 ∀(l:Addr) (zs:List Str) (k:List (Key × V)) H',qaq H H'->H l=none->Ben S 12 z zs->H' l=some (.dK k)->AD k (sumF ((bs.filter (inZ P zs)).map obPt))->Q (.ref l) H'
include T in
theorem wh8:FnOk P w K mg base (My.CX1 P w) 18 d.wel d.wc8 ["tree","holds","house"] (wh1 K d):=by
 refine okX T.wg6 wgr (fun vs H Q E h=>?_) (fun cdv A outer s H vs Q E hr h=>?_)
 .rcases h with ⟨t,l,x,rfl,_⟩ |⟨t,lh,S,P,bs,z,e,rfl,_⟩ <;> rfl
 rcases h with ⟨t,l,x,rfl,hN⟩ |h
 .refine⟨_,(qa5 (qai (qa9 ((wa7 T).mono (by decide)) hr rfl T.wbx T.w91.kp T.wb3 .nil qah (qa0 (qbb ((w2s T).mono (by decide)) hr rfl T.w3e T.w1u.kp T.w3h .nil qas (qa0 (pv 0) (qa0 (pv 1) (qa0 (pv 2) qa1)))) qa1)))),?_⟩
  walk_at "d"
  refine qae (σ:=[some (.ref t),some (l),some (x)]) rfl ?_
  left
  exact .inl ⟨t,l,x,rfl,hN⟩
 obtain⟨t,lh,S,P,bs,z,e,rfl,hT,hW,ae,hD,hL,h63,w3,hB,q⟩:=h
 refine⟨_,(qa5 (qai (qa9 ((wa7 T).mono (by decide)) hr rfl T.wbx T.w91.kp T.wb3 .nil qah (qa0 (qbb ((w2s T).mono (by decide)) hr rfl T.w3e T.w1u.kp T.w3h .nil qas (qa0 (pv 0) (qa0 (pv 1) (qa0 (pv 2) qa1)))) qa1)))),?_⟩
 walk_at "d"
 refine qae (σ:=[some (.ref t),some (.ref lh),some (.str z)]) rfl ?_
 left
 refine .inr ⟨t,lh,S,P,bs,z,e,rfl,hT,hW,ae,hD,hL,h63,hB,fun l zs H1 s1 hl hBen el=>?_⟩
 left
 refine⟨l,P,_,rfl,el,Nat.le_trans (zT ..) h63,w3,fun b hb=>(hB b (yD.mp hb).1).same s1,fun l2 k H2 s2 hl2 el2 hA=>?_⟩
 exact q l2 zs k H2 (s1.trans s2) (s1.free hl2) hBen el2 hA
theorem inV_nat {k:Nat}:∀L:List Nat,inV (.int ((k:Nat):Int)) (L.map iV)=decide (k∈L)
 | []=>rfl
 |z :: r=>by
  have ih:=inV_nat (k:=k) r
  unfold inV at ih ⊢
  rw [zS,yV,ih]
  by_cases c:z=k
  .subst c
   rw [show eqV (iV z) (V.int ((z:Nat):Int))=true from beq_self_eq_true _,decide_eq_true (zL ..)]
   rfl
  .rw [show eqV (iV z) (V.int ((k:Nat):Int))=false from beq_false_of_ne fun e=>c (by omega),Bool.false_or]
   by_cases m:k∈r
   .rw [decide_eq_true m,decide_eq_true (zF _ m)]
   .rw [decide_eq_false m,decide_eq_false fun h=>(zK.mp h).elim (fun e=>c e.symm) m]
theorem flat_nats (L:List Nat):(L.map iV).all qcz=true:=by
 rw [List.all_map]
 exact yE.mpr fun _ _=>rfl
theorem r_inN {K:Frag} {H:Hp} {Q:VK} {p:Addr} {k:Nat} {ki:Int} {L:List Nat} (h:SqL K H p (L.map iV)) (e:((k:Nat):Int)=ki) (q:Q (.bl (decide (k∈L))) H):rIn K false (.int ki) (.ref p) H Q:=⟨p,_,rfl,.inl h,rfl,flat_nats L,by rw [<-e,inV_nat];exact q⟩
theorem ObAt.put {d:Ad} {H:Hp} {P:PL} {b:Ob} {q:Addr} {o:HO} (h:ObAt d H P b) (n1:b.o≠q) (n2:b.m≠q):ObAt d (upd H q o) P b:=⟨let ⟨dx,e⟩:=h.obj;⟨dx,by rw [qa7 n1];exact e⟩,by rw [qa7 n2];exact h.amt,h.ad,h.inw,h.il⟩
def qbg (ns:List Int) (k:Int):Int:=if k <((ns.length:Nat):Int) then cell ns k else if ns=[] then 7919*k else (cell ns (k%((ns.length:Nat):Int))).fdiv (k+1)+7919*k
def wgo (K:Frag) (d:Ad):Sp:=fun vs H Q _=>∃(a:Addr) (ns:List Int) (k:Int),vs=[.ref a,.int k]/\SqL K H a (ns.map V.int)/\0<=k/\k<=1000/\ns.length<=63/\∀H',qaq H H'->Q (.int (qbg ns k)) H'
def wge (K:Frag) (d:Ad):Sp:=fun vs H Q _=>∃c k m:Int,vs=[.int c,.int k,.int m]/\0<=k/\k<=100000/\1<=m/\m<=100000/\∀r:Int,0<=r->r < m->Q (.int r) H
section
variable {K: Frag} {d: Ad} {H: Hp} {Q: VK} {E: XK}
theorem qbz {c k m:Int} (k0:0<=k) (k1:k<=100000) (m0:1<=m) (m1:m<=100000) (q:∀r:Int,0<=r->r < m->Q (.int r) H):wge K d [.int c,.int k,.int m] H Q E:=⟨c,k,m,rfl,k0,k1,m0,m1,q⟩
end
include T in
theorem w1l:FnOk P w K mg base CX0 1 d.wem d.wdd ["_law_script","_law_k"] (wgo K d):=by
 refine T.w2w.ok wh9 (fun vs H Q E h=>?_) (fun cdv A outer s H vs Q E hr h=>?_)
 .obtain⟨a,ns,k,rfl,_⟩:=h;rfl
 obtain⟨a,ns,k,rfl,hS,k0,k1,hn,q⟩:=h
 refine⟨_,(qa3 (qbk (qap op_lt (pv 1) (qaj qb0 rfl T.w3o PySem.boot_len (qa0 (pv 0) qa1)) (qar _)) (qa5 (qai (qan qak (pv 0) (pv 1) (fun _ _=>rfl)))) qao)
  (qa3 (qbk (qap (op_eqD (hu8 hr)) (pv 0) pe_lst0 (qar _)) (qa5 (qai (qal qbw qa4 (pv 1)))) qao)
  (qa5 (qai (qal qax (qal qcg (qan qak (pv 0) (qal qc5 (pv 1) (qaj qb0 rfl T.w3o PySem.boot_len (qa0 (pv 0) qa1))) (fun _ _=>rfl)) (qal qax (pv 1) qa4)) (qal qbw qa4 (pv 1))))))),?_⟩
 walk_at "d"
 refine qae (σ:=[some (.ref a),some (.int k)]) rfl ?_
 left
 have hl:(ns.map V.int).length=ns.length:=zB _
 have ks:k.natAbs < 2^600:=Nat.lt_of_le_of_lt (show k.natAbs<=1000 by omega) (by decide)
 rw [hl]
 refine i_2 (fun c=>?_) (fun c=>?_)
 .have q:=q H (qaq.refl _)
  unfold qbg at q
  rw [if_pos c] at q
  left
  refine qb6 hS (cell_at k0 c) ?_
  left
  exact q
 .left
  refine r_lst0 fun pe hpe npe=>?_
  have s1:=qa6 hpe (.lst [])
  have hS1:=s1.seq hS
  have q:=q _ s1
  have epe:upd H pe (.lst []) pe=some (.lst []):=qa2
  generalize upd H pe (.lst [])=H1 at*
  have ne:=npe a _ hS
  refine r_eqD ne (by decide) (deq_nilL (n:=0) hS1 (SqL.of epe) ne) ?_
  have em:(ns.map V.int=[])=(ns=[]):=propext ⟨fun e=>by simpa using e,fun e=>by rw [e];rfl⟩
  simp only [em]
  unfold qbg at q
  rw [if_neg c] at q
  by_cases c2:ns=[]
  .rw [if_pos c2] at q
   rw [decide_eq_true c2]
   left
   exact q
  .rw [if_neg c2] at q
   rw [decide_eq_false c2]
   have l0:0 < ns.length:=List.length_pos_iff.mpr c2
   left
   rw [hl]
   have e0:=Int.emod_nonneg k (show ((ns.length:Nat):Int)≠0 by omega)
   have e1:=Int.emod_lt_of_pos k (show (0:Int) <((ns.length:Nat):Int) by omega)
   left
   refine qb6 hS1 (cell_at e0 e1) ?_
   left
   exact q
include T in
theorem w0m:FnOk P w K mg base CX0 1 d.wgv d.wed ["_law_cell_here","_law_k","_law_many"] (wge K d):=by
 refine T.w1z.ok wg7 (fun vs H Q E h=>?_) (fun cdv A outer s H vs Q E hr h=>?_)
 .obtain⟨c,k,m,rfl,_⟩:=h;rfl
 obtain⟨c,k,m,rfl,k0,k1,m0,m1,q⟩:=h
 refine⟨_,(qa3 (qaf (i:=3) wg7.nd rfl (Or.inl rfl) (qal qc5 (qal qbw (qal qax (qal qc5 (pv 0) qa4) (qal qbw qa4 (pv 1))) qa4) qa4))
  (qa5 (qai (qal qc5 (qal qcg (qal qc5 (qal qax (qal qbw (pv 3) (pv 3)) (pv 3)) qa4) qa4) (pv 2))))),?_⟩
 walk_at "d"
 refine qae (σ:=[some (.int c),some (.int k),some (.int m),none]) rfl ?_
 left
 have a0:=Int.emod_nonneg c (show (1000003:Int)≠0 by decide)
 have a1:=Int.emod_lt_of_pos c (show (0:Int) < 1000003 by decide)
 generalize c%1000003=u at*
 left
 have n0:=Int.emod_nonneg ((u+7919*k)*48271) (show (2147483647:Int)≠0 by decide)
 have n1:=Int.emod_lt_of_pos ((u+7919*k)*48271) (show (0:Int) < 2147483647 by decide)
 generalize (u+7919*k)*48271%2147483647=y at*
 left
 exact q _ (Int.emod_nonneg _ (by omega)) (Int.emod_lt_of_pos _ (by omega))
def nJ (c1 sh A:Int) (j:Nat):Nat:=letc (c1.fdiv (0+(j:Int)+1)+(0+(j:Int))*(0+(j:Int))+sh*if decide (0+(j:Int)=A)=true then 1 else 0)
def nB (c1 sh A:Int) (L:Nat):List Nat:=(List.range L).map (nJ c1 sh A)
def nE (c0:Int):Int:=c0.fdiv 64%2
def nL (c0:Int):Nat:=(1+c0%(8 - nE c0)).toNat
def nA (c0:Int):Int:=c0.fdiv 8%((nL c0:Nat):Int)
def nmC (c0 c1:Int) (m:Int):List Nat:=if nE c0=1 then nB c1 (m.fdiv 2) (nA c0) (nL c0)++(if m%2=1 then [letc c1] else []) else nB c1 m (nA c0) (nL c0)
def nmS (c0 c1:Int) (m:Int):Str:=ofL (nmC c0 c1 m)
theorem nE_or (c0:Int):nE c0=0\/nE c0=1:=by unfold nE;omega
theorem nL_ok (c0:Int):1<=nL c0/\((nL c0:Nat):Int)<=8 - nE c0/\((nL c0:Nat):Int)=1+c0%(8 - nE c0):=by
 have h:=nE_or c0
 unfold nL
 generalize nE c0=e at*
 have f0:=Int.emod_nonneg c0 (show (8 - e:Int)≠0 by omega)
 have f1:=Int.emod_lt_of_pos c0 (show (0:Int) < 8 - e by omega)
 omega
theorem nA_ok (c0:Int):0<=nA c0/\nA c0 <((nL c0:Nat):Int):=by
 have h:=(nL_ok c0).1
 unfold nA
 exact⟨Int.emod_nonneg _ (by omega),Int.emod_lt_of_pos _ (by omega)⟩
theorem qcw (c1 sh A:Int) (L:Nat):(nB c1 sh A L).length=L:=by unfold nB;rw [zB,yO]
theorem nB_inj {c1 sh sh' A:Int} {L:Nat} (a0:0<=A) (a1:A < L) (h0:0<=sh) (h1:sh < 26) (h2:0<=sh') (h3:sh' < 26) (h:nB c1 sh A L=nB c1 sh' A L):sh=sh':=by
 have hj:=congrArg (fun l:List Nat=>l[A.toNat]?) h
 unfold nB at hj
 simp only [zC] at hj
 rw [List.getElem?_range (by omega)] at hj
 have hj':nJ c1 sh A A.toNat=nJ c1 sh' A A.toNat:=by simpa using hj
 unfold nJ at hj'
 have e:decide ((0:Int)+(A.toNat:Int)=A)=true:=decide_eq_true (by omega)
 rw [e,if_pos rfl] at hj'
 have z:=letc_inj hj'
 generalize c1.fdiv (0+(A.toNat:Int)+1)+(0+(A.toNat:Int))*(0+(A.toNat:Int))=x at z
 omega
theorem qfy {l:List Nat} (h1:1<=l.length) (h8:l.length<=8) (h:∀x∈l,isL x=true):qdr (ofL l)=true:=by
 unfold qdr
 rw [qft,qf0,Bool.and_eq_true,Bool.and_eq_true,decide_eq_true_iff,decide_eq_true_iff,yE]
 exact⟨⟨h1,h8⟩,h⟩
theorem nB_isL (c1 sh A:Int) (L:Nat):∀x∈nB c1 sh A L,isL x=true:=fun x hx=>by
 unfold nB at hx
 obtain⟨j,_,rfl⟩:=zI.mp hx
 exact letc_isL _
theorem nmS_good (c0 c1 m:Int):qdr (nmS c0 c1 m)=true:=by
 obtain⟨h1,h2,_⟩:=nL_ok c0
 unfold nmS nmC
 rcases nE_or c0 with e|e
 .rw [if_neg (by omega)]
  exact qfy (by rw [qcw];exact h1) (by rw [qcw];omega) (nB_isL _ _ _ _)
 .rw [if_pos e]
  by_cases c:m%2=1
  .rw [if_pos c]
   refine qfy (by rw [zH,qcw];omega) (by rw [zH,qcw,yB];omega) fun x hx=>?_
   rcases zV.mp hx with h|h
   .exact nB_isL _ _ _ _ x h
   .rw [zG.mp h];exact letc_isL _
  .rw [if_neg c,zZ]
   exact qfy (by rw [qcw];exact h1) (by rw [qcw];omega) (nB_isL _ _ _ _)
theorem nmS_inj {c0 c1 m m':Int} (m0:0<=m) (m1:m < 26) (m2:0<=m') (m3:m' < 26) (h:nmS c0 c1 m=nmS c0 c1 m'):m=m':=by
 have z:=ofL_inj h
 obtain⟨a0,a1⟩:=nA_ok c0
 unfold nmC at z
 have d1:m.fdiv 2=m / 2:=Int.fdiv_eq_ediv_of_nonneg m (by decide)
 have d2:m'.fdiv 2=m' / 2:=Int.fdiv_eq_ediv_of_nonneg m' (by decide)
 rcases nE_or c0 with e|e
 .rw [if_neg (by omega),if_neg (by omega)] at z
  exact nB_inj a0 a1 m0 m1 m2 m3 z
 .rw [if_pos e,if_pos e,d1,d2] at z
  have hl:=congrArg List.length z
  rw [zH,zH,qcw,qcw] at hl
  have hx:=nB_inj a0 a1 (show 0<=m / 2 by omega) (by omega) (show 0<=m' / 2 by omega) (by omega) (List.append_inj_left z (by rw [qcw,qcw]))
  by_cases c:m%2=1
  .by_cases c':m'%2=1
   .omega
   .rw [if_pos c,if_neg c'] at hl
    have hl:nL c0+1=nL c0+0:=hl
    omega
  .by_cases c':m'%2=1
   .rw [if_neg c,if_pos c'] at hl
    have hl:nL c0+0=nL c0+1:=hl
    omega
   .omega
structure Nms (ss:List Str) (n:Nat):Prop where
 len:ss.length=n
 nd:ss.Nodup
 good:∀z∈ss,qdr z=true
theorem nms_of {c0 c1 b:Int} {n:Nat} (b0:0<=b) (b1:b+n<=26):Nms ((List.range n).map fun(k:Nat)=>nmS c0 c1 (b+(k:Int))) n:=by
 refine⟨by rw [zB,yO],?_,fun z hz=>?_⟩
 .show List.Pairwise _ _
  rw [yQ]
  refine List.Pairwise.imp_of_mem (R:=fun a b=>a < b) (fun {x y} hx hy lt e=>?_) List.pairwise_lt_range
  have h1:=yP.mp hx
  have h2:=yP.mp hy
  have:=nmS_inj (by omega) (by omega) (by omega) (by omega) e
  omega
 .obtain⟨k,_,rfl⟩:=zI.mp hz
  exact nmS_good _ _ _
theorem ofL_app (l l':List Nat):ofL l++ofL l'=ofL (l++l'):=by
 have e:(ofL l++ofL l').cps=(ofL (l++l')).cps:=by
  rw [Str.cps_append]
  simp [ofL]
 exact congrArg Str.mk e
def wgw (K:Frag) (d:Ad):Sp:=fun vs H Q _=>∃(a:Addr) (ns:List Int) (m:Int),vs=[.ref a,.int m]/\SqL K H a (ns.map V.int)/\ns.length<=63/\0<=m/\m<=25/\∀H',qaq H H'->Q (.str (nmS (qbg ns 0) (qbg ns 1) m)) H'
include T in
theorem wc7:FnOk P w K mg base CX0 2 d.wec d.wcv ["_law_script","_law_number"] (wgw K d):=by
 refine T.wdi.ok w2t (fun vs H Q E h=>?_) (fun cdv A outer s H vs Q E hr h=>?_)
 .obtain⟨a,ns,m,rfl,_⟩:=h;rfl
 obtain⟨a,ns,m,rfl,hS,h63,m0,m1,q⟩:=h
 refine⟨_,(qa3 (qaf (i:=2) w2t.nd rfl (Or.inl rfl) qcl)
  (qa3 (qaf (i:=3) w2t.nd rfl (Or.inl rfl) (qa9 ((w1l T).mono (by decide)) hr rfl T.w38 T.w2w.kp T.w34 .nil qah (qa0 (pv 0) (qa0 qa4 qa1))))
  (qa3 (qaf (i:=4) w2t.nd rfl (Or.inl rfl) (qal qax qa4 (qal qc5 (pv 3) (qal qeu qa4 (qal qc5 (qal qcg (pv 3) qa4) qa4)))))
  (qa3 (qaf (i:=5) w2t.nd rfl (Or.inl rfl) (qal qc5 (qal qcg (pv 3) qa4) (pv 4)))
  (qa3 (qaf (i:=6) w2t.nd rfl (Or.inl rfl) (pv 1))
  (qa3 (qaf (i:=7) w2t.nd rfl (Or.inl rfl) qcl)
  (qa3 (qd5 (qbk (qap qdk (qal qc5 (qal qcg (pv 3) qa4) qa4) qa4 (qar _)) (qa3 (qaf (i:=6) w2t.nd rfl (Or.inl rfl) (qal qcg (pv 1) qa4))
  (qa5 (qaf (i:=7) w2t.nd rfl (Or.inl rfl) (qal op_rep (qan ix_str (pv 2) (qal qc5 (qa9 ((w1l T).mono (by decide)) hr rfl T.w38 T.w2w.kp T.w34 .nil qah (qa0 (pv 0) (qa0 qa4 qa1))) qa4) (fun _ _=>rfl)) (qal qc5 (pv 1) qa4))))) qao))
  (qa3 (qaf (i:=8) w2t.nd rfl (Or.inl rfl) qcl)
  (qa3 (qb7 PassesOwn.never rfl (qbv rfl T.w3i (qa0 (pv 4) qa1)) (qac (i:=9) w2t.nd rfl (Or.inl rfl)) (qa5 (qaf (i:=8) w2t.nd rfl (Or.inl rfl) (qal op_catS (pv 8) (qan ix_str (pv 2) (qal qc5 (qal qax (qal qax (qal qcg (qa9 ((w1l T).mono (by decide)) hr rfl T.w38 T.w2w.kp T.w34 .nil qah (qa0 (pv 0) (qa0 qa4 qa1))) (qal qax (pv 9) qa4)) (qal qbw (pv 9) (pv 9))) (qal qbw (pv 6) (qb8 qe1 rfl T.wee PyProof.Rows.boot_int (qa0 (qbn qdk (pv 9) (pv 5) (qar _)) qa1)))) qa4) (fun _ _=>rfl))))))
  (qa5 (qai (qal op_catS (pv 8) (pv 7))))))))))))),?_⟩
 walk_at "d"
 refine qae (σ:=[some (.ref a),some (.int m),none,none,none,none,none,none,none,none]) rfl ?_
 left
 refine⟨a,ns,0,rfl,hS,by decide,by decide,h63,fun H1 s1=>?_⟩
 generalize hc0:qbg ns 0=c0 at*
 generalize hc1:qbg ns 1=c1 at*
 have hS1:=s1.seq hS
 obtain⟨L1,L8,eL⟩:=nL_ok c0
 obtain⟨A0,A1⟩:=nA_ok c0
 have E01:=nE_or c0
 have q:∀H',qaq H1 H'->Q (.str (nmS c0 c1 m)) H':=fun H' s'=>q H' (s1.trans s')
 left
 have eL':1+c0%(8 - c0.fdiv 64%2)=((nL c0:Nat):Int):=eL.symm
 rw [eL']
 refine r_I (by omega) ?_
 have eA:c0.fdiv 8%((nL c0:Nat):Int)=nA c0:=rfl
 rw [eA]
 clear eL eL' eA
 have eN:((nL c0:Nat):Int).toNat=nL c0:=by omega
 generalize hLi:((nL c0:Nat):Int)=Li at*
 generalize hAi:nA c0=A at*
 left
 refine r_cut (fun σ' H'=>∃(sh:Int) (tl:List Nat),σ'=[some (.ref a),some (.int m),some (.str ABC),some (.int c0),some (.int Li),some (.int A),some (.int sh),some (.str (ofL tl)),none,none]/\qaq H1 H'/\0<=sh/\sh<=25/\tl.length<=1/\nmC c0 c1 m=nB c1 sh A (nL c0)++tl) ?_ ?_
 .left
  refine i_2 (fun c=>?_) (fun c=>?_)
  .have ed:m.fdiv 2=m / 2:=Int.fdiv_eq_ediv_of_nonneg m (by decide)
   have ez:nmC c0 c1 m=nB c1 (m.fdiv 2) A (nL c0)++(if m%2=1 then [letc c1] else []):=by unfold nmC;rw [if_pos (show nE c0=1 from c),hAi]
   left
   refine⟨a,ns,1,rfl,hS1,by decide,by decide,h63,fun H2 s2=>?_⟩
   rw [hc1]
   left
   refine r_ixS (by decide) (letAt _) ?_
   left
   refine r_rep (by omega) (by omega) ?_
   left
   refine⟨m.fdiv 2,if m%2=1 then [letc c1] else [],?_,s2,by omega,by omega,by split;exact Nat.le_refl _;exact Nat.zero_le _,ez⟩
   by_cases c3:m%2=1
   .rw [if_pos c3,if_neg (by omega)];rfl
   .rw [if_neg c3,if_pos (by omega)];rfl
  .left
   refine⟨m, [],rfl,qaq.refl _,m0,by omega,by decide,?_⟩
   unfold nmC
   rw [if_neg (show ¬nE c0=1 from c),zZ,hAi]
 rintro σ' H2 ⟨sh,tl,rfl,s2,h0,h1,ht,ez⟩
 left
 rw [eN]
 have shs:sh.natAbs < 2^600:=Nat.lt_of_le_of_lt (show sh.natAbs<=25 by omega) (by decide)
 refine qcs (fun i σ H'=>∃(w:Option V),σ=[some (.ref a),some (.int m),some (.str ABC),some (.int c0),some (.int Li),some (.int A),some (.int sh),some (.str (ofL tl)),some (.str (ofL (nB c1 sh A i))),w]/\qaq H2 H') ⟨_,rfl,qaq.refl _⟩ ?_ ?_
 .rintro i σ H' hi ⟨w,rfl,s3⟩
  have ki:((0:Int)+(i:Int)).natAbs < 2^600:=Nat.lt_of_le_of_lt (show ((0:Int)+(i:Int)).natAbs<=8 by omega) (by decide)
  have ez:nB c1 sh A (i+1)=nB c1 sh A i++ [nJ c1 sh A i]:=by unfold nB;rw [List.range_succ,zE];rfl
  have lz:(ofL (nB c1 sh A i)).length=i:=by rw [qft,qcw]
  left
  refine⟨a,ns,1,rfl,(s2.trans s3).seq hS1,by decide,by decide,h63,fun H4 s4=>?_⟩
  rw [hc1]
  left
  refine r_ixS (by decide) (letAt _) ?_
  refine r_catS ?_ ?_
  .rw [lz];show _+1<=16777216;omega
  left
  rw [ez,<-ofL_snoc]
  exact⟨_,rfl,s3.trans s4⟩
 .rintro σ H' ⟨w,rfl,s3⟩
  have ln:(ofL (nB c1 sh A (nL c0))).length=nL c0:=by rw [qft,qcw]
  left
  refine r_catS (by rw [ln,qft];show nL c0+_<=16777216;omega) ?_
  left
  have en:ofL (nB c1 sh A (nL c0))++ofL tl=nmS c0 c1 m:=by
   unfold nmS
   rw [ez]
   exact ofL_app _ _
  rw [en]
  exact q _ (s2.trans s3)
theorem upL_congr {el el':Nat->Nat} {n:Nat} (lo:∀j,0 < j->j<=n->el j < j) (h:∀j,0 < j->j<=n->el j=el' j):∀(f k:Nat),k<=n->upL el f k=upL el' f k
 |0,_,_=>rfl
 |f+1,k,hk=>by
  show k ::(if k=0 then [] else upL el f (el k))=k ::(if k=0 then [] else upL el' f (el' k))
  by_cases c:k=0
  .rw [if_pos c,if_pos c]
  .rw [if_neg c,if_neg c,<-h k (by omega) hk,upL_congr lo h f (el k) (by have:=lo k (by omega) hk;omega)]
structure LnsAt (H:Hp) (le:Addr) (las:List Addr) (es:List Nat):Prop where
 top:H le=some (.lst (las.map V.ref))
 len:las.length=es.length+1
 row:∀(k:Nat) (a:Addr),las[k]?=some a->H a=some (.lst ((qad (elN es) k).map iV))
 lo:∀(k e:Nat),es[k]?=some e->e<=k/\e<=10
theorem LnsAt.same {H H':Hp} {le:Addr} {las:List Addr} {es:List Nat} (h:LnsAt H le las es) (s:qaq H H'):LnsAt H' le las es:=⟨s _ _ h.top,h.len,fun k a e=>s _ _ (h.row k a e),h.lo⟩
theorem LnsAt.at {H:Hp} {le:Addr} {las:List Addr} {es:List Nat} (h:LnsAt H le las es) {k:Nat} (hk:k < es.length+1):∃a,las[k]?=some a/\atI (las.map V.ref) ((k:Nat):Int)=some (.ref a)/\H a=some (.lst ((qad (elN es) k).map iV)):=by
 have e:=zA (show k < las.length by rw [h.len];exact hk)
 exact⟨_,e,qaw (by rw [zC,e];rfl),h.row k _ e⟩
theorem es_snoc {es:List Nat} {x:Nat} (h:∀(k e:Nat),es[k]?=some e->e<=k/\e<=10) (hx:x<=es.length) (h10:x<=10):∀(k e:Nat),(es++ [x])[k]?=some e->e<=k/\e<=10:=fun k e hk=>by
 by_cases c:k < es.length
 .rw [yF c] at hk
  exact h k e hk
 .rw [yC (by omega)] at hk
  by_cases z:k - es.length=0
  .rw [z] at hk
   have:x=e:=by simpa using hk
   subst this
   exact⟨by omega,h10⟩
  .rw [yJ (by rw [yB];omega)] at hk
   cases hk
theorem elN_snoc {es:List Nat} {x j:Nat} (h0:0 < j) (h:j<=es.length):elN (es++ [x]) j=elN es j:=by
 cases j with
 |zero=>omega
 |succ b=>
  have h1:b < es.length:=by omega
  rw [elN_at (es:=es++ [x]) (b:=b) (by rw [zH];omega),elN_at h1,List.getElem_append_left h1]
theorem line_snoc {es:List Nat} {x j:Nat} (lo:∀(k e:Nat),es[k]?=some e->e<=k/\e<=10) (h:j<=es.length):qad (elN (es++ [x])) j=qad (elN es) j:=by
 have low:=qdf (fun k e h=>(lo k e h).1) (es.length+1)
 exact(upL_congr (n:=es.length) (fun i h0 h1=>low i h0 (by omega)) (fun i h0 h1=>(elN_snoc h0 h1).symm) j j h).symm
theorem line_new {es:List Nat} {x:Nat} (lo:∀(k e:Nat),es[k]?=some e->e<=k/\e<=10) (hx:x<=es.length) (h10:x<=10):qad (elN (es++ [x])) (es.length+1)=(es.length+1) :: qad (elN es) x:=by
 have low:=qdf (fun k e h=>(es_snoc lo hx h10 k e h).1) (es.length+2)
 rw [qc3 low (by omega) (by omega)]
 have e:elN (es++ [x]) (es.length+1)=x:=by
  rw [elN_at (es:=es++ [x]) (b:=es.length) (by rw [zH];show _ < _+1;omega)]
  simp
 rw [e,line_snoc lo hx]
theorem LnsAt.snoc {H:Hp} {le p:Addr} {las:List Addr} {es:List Nat} {x:Nat} (h:LnsAt H le las es) (hx:x<=es.length) (h10:x<=10) (hp:H p=some (.lst (((es.length+1) :: qad (elN es) x).map iV))) (np:p≠le) (nl:∀a∈las,a≠le):LnsAt (upd H le (.lst (las.map V.ref++ [V.ref p]))) le (las++ [p]) (es++ [x]):=by
 refine⟨by rw [qa2,zE];rfl,by rw [zH,zH,h.len];rfl,fun k a e=>?_,es_snoc h.lo hx h10⟩
 have hl:=h.len
 by_cases c:k < las.length
 .rw [yF c] at e
  rw [qa7 (nl a (zD e)),line_snoc h.lo (by omega)]
  exact h.row k a e
 .have h1:=(List.getElem?_eq_some_iff.mp e).1
  rw [zH,yB] at h1
  have ek:k=las.length:=by omega
  rw [yC (by omega),ek,Nat.sub_self] at e
  have e:p=a:=by simpa using e
  rw [<-e,qa7 np,ek,hl,line_new h.lo hx h10]
  exact hp
def wfj (K:Frag) (d:Ad):Sp:=fun vs H Q _=>∃(a:Addr) (ns:List Int) (n:Nat),vs=[.ref a,.int (n:Int)]/\SqL K H a (ns.map V.int)/\ns.length<=63/\1<=n/\n<=6/\
 ∀(le:Addr) (las:List Addr) (es:List Nat) (H':Hp),qaq H H'->LnsAt H' le las es->es.length+1=n->Q (.ref le) H'
include T in
theorem wg0:FnOk P w K mg base CX0 2 d.wd1 d.wad ["_law_script","_law_many"] (wfj K d):=by
 refine T.wfb.ok w6i (fun vs H Q E h=>?_) (fun cdv A outer s H vs Q E hr h=>?_)
 .obtain⟨a,ns,n,rfl,_⟩:=h;rfl
 obtain⟨a,ns,n,rfl,hS,h63,n1,n6,q⟩:=h
 refine⟨_,(qa3 (qaf (i:=2) w6i.nd rfl (Or.inl rfl) (qbm (qa0 (qbm (qa0 qa4 qa1)) qa1)))
  (qa3 (qb7 PassesOwn.never rfl (pi_range2 rfl T.w3i (qa0 qa4 (qa0 (pv 1) qa1))) (qac (i:=3) w6i.nd rfl (Or.inl rfl)) (qa3 (qaf (i:=4) w6i.nd rfl (Or.inl rfl) (qa9 ((w0m T).mono (by decide)) hr rfl T.w25 T.w1z.kp T.w24 .nil qah (qa0 (qa9 ((w1l T).mono (by decide)) hr rfl T.w38 T.w2w.kp T.w34 .nil qah (qa0 (pv 0) (qa0 qa4 qa1))) (qa0 (pv 3) (qa0 (pv 3) qa1)))))
  (qa3 (qd5 (qbk (qap qdk (qal qc5 (qa9 ((w1l T).mono (by decide)) hr rfl T.w38 T.w2w.kp T.w34 .nil qah (qa0 (pv 0) (qa0 qa4 qa1))) qa4) qa4 (qar _)) (qa5 (qaf (i:=4) w6i.nd rfl (Or.inl rfl) (qal qeu (pv 3) qa4))) qao))
  (qa5 (qb2 (qe8 PySem.F.plainAttrs_list PySem.F.slot_list_append PySem.F.type_list_append qb9 (pv 2) (qa0 (qal op_cat (qbm (qa0 (pv 3) qa1)) (qan qak (pv 2) (pv 4) (fun _ _=>rfl))) qa1)))))))
  (qa5 (qai (pv 2))))),?_⟩
 walk_at "d"
 refine qae (σ:=[some (.ref a),some (.int (n:Int)),none,none,none]) rfl ?_
 left
 rename_i l0 hl0 le hle
 have s1:=qa6 hl0 (.lst [.int 0])
 have e0:upd H l0 (.lst [.int 0]) l0=some (.lst [.int 0]):=qa2
 generalize upd H l0 (.lst [.int 0])=H1 at*
 have s2:=s1.trans (qa6 hle (.lst [V.ref l0]))
 have e02:=qab (o':=.lst [V.ref l0]) e0 hle
 have ele:upd H1 le (.lst [V.ref l0]) le=some (.lst [V.ref l0]):=qa2
 have nl0:l0≠le:=qaa e0 hle
 have fle:H le=none:=s1.free hle
 generalize upd H1 le (.lst [V.ref l0])=H2 at*
 have L0:LnsAt H2 le [l0] []:=⟨ele,rfl,fun k x e=>by
  have hk:k=0:=by
   have:=(List.getElem?_eq_some_iff.mp e).1
   rw [yB] at this
   omega
  subst hk
  have e:l0=x:=by simpa using e
  rw [<-e];exact e02,fun k e h=>by simp at h⟩
 clear e0 e02 ele hl0 hle s1
 generalize hni:((n:Nat):Int)=ni at*
 unfold iRng2
 left
 refine⟨1,_,rfl,⟨by decide,by decide,by omega,by omega⟩,?_⟩
 refine qcs (fun i σ H'=>∃(las:List Addr) (es:List Nat) (w3 w4:Option V),σ=[some (V.ref a),some (V.int ni),some (V.ref le),w3,w4]/\qaq H H'/\LnsAt H' le las es/\es.length=i/\∀x∈las,x≠le) ⟨[l0], [],_,_,rfl,s2,L0,rfl,fun x hx=>by rw [zG.mp hx];exact nl0⟩ ?_ ?_
 .rintro i σ H' hi ⟨las,es,w3,w4,rfl,sm,L,hel,nla⟩
  have hi:i <(ni - 1).toNat:=hi
  have hS':=sm.seq hS
  left
  refine⟨a,ns,2,rfl,hS',by decide,by decide,h63,fun H3 s3=>?_⟩
  left
  refine qbz (by omega) (by omega) (by omega) (by omega) fun r r0 r1=>?_
  left
  refine r_cut (fun σ' H4=>∃e:Nat,σ'=[some (V.ref a),some (V.int ni),some (V.ref le),some (V.int (1+(i:Int))),some (V.int (e:Int))]/\qaq H3 H4/\e<=i) ?_ ?_
  .left
   refine⟨a,ns,2,rfl,s3.seq hS',by decide,by decide,h63,fun H4 s4=>?_⟩
   left
   refine i_2 (fun c=>?_) (fun c=>?_)
   .left
    exact⟨i,by rw [show (1:Int)+(i:Int) - 1=(i:Int) by omega],s4,Nat.le_refl _⟩
   .left
    exact⟨r.toNat,by rw [Int.toNat_of_nonneg r0],s4,by omega⟩
  rintro σ' H4 ⟨e,rfl,s4,he⟩
  have t4:=s3.trans s4
  have L4:=L.same t4
  obtain⟨x,hx,ax,ex⟩:=L4.at (k:=e) (by omega)
  have etop:=L4.top
  have zl:(las.map V.ref).length < sizeLine:=by rw [zB,L.len];show _ < 16777216;omega
  have ll:=qcb (qdf (fun k e h=>(L.lo k e h).1) (es.length+1)) e (by omega)
  clear r0 r1
  generalize hei:((e:Nat):Int)=ei at*
  left
  rename_i pk hpk
  have s5:=qa6 hpk (.lst [V.int (1+(i:Int))])
  have epk:upd H4 pk (.lst [V.int (1+(i:Int))]) pk=some (.lst [V.int (1+(i:Int))]):=qa2
  have L5:=L4.same s5
  generalize upd H4 pk (.lst [V.int (1+(i:Int))])=H5 at*
  refine qb6 (SqL.of L5.top) ax ?_
  refine r_cat epk (s5 _ _ ex) (by rw [zB];show 1+_<=16777216;omega) fun p hp=>?_
  have eap: [V.int (1+(i:Int))]++(qad (elN es) e).map iV=((es.length+1) :: qad (elN es) e).map iV:=by
   rw [zS]
   show V.int (1+(i:Int)) :: _=V.int (((es.length+1:Nat)):Int) :: _
   rw [show (1:Int)+(i:Int)=((es.length+1:Nat):Int) by omega];rfl
  rw [eap]
  have s6:=qa6 hp (.lst (((es.length+1) :: qad (elN es) e).map iV))
  have ep:upd H5 p (.lst (((es.length+1) :: qad (elN es) e).map iV)) p=some (.lst (((es.length+1) :: qad (elN es) e).map iV)):=qa2
  have L6:=L5.same s6
  have np:p≠le:=(qaa L5.top hp).symm
  generalize upd H5 p (.lst (((es.length+1) :: qad (elN es) e).map iV))=H6 at*
  clear etop epk ex ax hpk hp eap
  have etop:=L6.top
  left
  refine⟨las++ [p],es++ [e],_,_,rfl,qay (((sm.trans t4).trans s5).trans s6) fle,L6.snoc (by omega) (by omega) ep np nla,by rw [zH,hel];rfl,fun y hy=>?_⟩
  rcases zV.mp hy with hy|hy
  .exact nla y hy
  .rw [zG.mp hy];exact np
 .rintro σ H' ⟨las,es,w3,w4,rfl,sm,L,hel,nla⟩
  left
  exact q le las es H' sm L (by omega)
def tdS (f:Str->Option Int) (p:Str × Int):Str->Option Int:=if 0 < p.2 then putF' f p.1 p.2 else f
def tdP (k:List (Key × V)) (p:Str × Int):List (Key × V):=if 0 < p.2 then qcy k (Sum.inr p.1) (.int p.2) else k
def tdF (l:List (Str × Int)):Str->Option Int:=l.foldl tdS noF
def tdK (l:List (Str × Int)):List (Key × V):=l.foldl tdP []
theorem td_snoc (l:List (Str × Int)) (p:Str × Int):tdF (l++ [p])=tdS (tdF l) p/\tdK (l++ [p])=tdP (tdK l) p:=by
 unfold tdF tdK
 rw [List.foldl_append,List.foldl_append]
 exact⟨rfl,rfl⟩
theorem td_ad0:∀(l:List (Str × Int)) {k:List (Key × V)} {f:Str->Option Int},AD k f->AD (l.foldl tdP k) (l.foldl tdS f)
 | [],_,_,h=>h
 |p :: l,k,f,h=>by
  rw [yT,yT]
  refine td_ad0 l ?_
  unfold tdP tdS
  by_cases c:0 < p.2
  .rw [if_pos c,if_pos c];exact h.put _ _
  .rw [if_neg c,if_neg c];exact h
theorem qem (l:List (Str × Int)):AD (tdK l) (tdF l):=td_ad0 l AD.nil
theorem td_len0:∀(l:List (Str × Int)) (k:List (Key × V)),(l.foldl tdP k).length<=k.length+l.length
 | [],k=>Nat.le_refl _
 |p :: l,k=>by
  rw [yT,zP]
  have h:=td_len0 l (tdP k p)
  have:(tdP k p).length<=k.length+1:=by
   unfold tdP
   by_cases c:0 < p.2
   .rw [if_pos c];have:=qc1 k (Sum.inr p.1) (.int p.2);omega
   .rw [if_neg c];omega
  omega
theorem td_len (l:List (Str × Int)):(tdK l).length<=l.length:=by
 have:=td_len0 l []
 rw [yR,Nat.zero_add] at this
 exact this
theorem td_miss:∀(l:List (Str × Int)) (f:Str->Option Int) (z:Str),z∉l.map (·.1)->l.foldl tdS f z=f z
 | [],_,_,_=>rfl
 |p :: l,f,z,h=>by
  rw [zS,zK,not_or] at h
  rw [yT,td_miss l _ z h.2]
  unfold tdS
  by_cases c:0 < p.2
  .rw [if_pos c];unfold putF';rw [if_neg h.1]
  .rw [if_neg c]
theorem td_hit:∀(l:List (Str × Int)) (f:Str->Option Int) (p:Str × Int),(l.map (·.1)).Nodup->p∈l->f p.1=none->l.foldl tdS f p.1=if 0 < p.2 then some p.2 else none
 | [],_,_,_,h,_=>absurd h (by simp)
 |x :: l,f,p,nd,h,hf=>by
  rw [zS,yA] at nd
  rw [yT]
  rcases zK.mp h with e|e
  .subst e
   rw [td_miss l _ _ nd.1]
   unfold tdS
   by_cases c:0 < p.2
   .rw [if_pos c,if_pos c];unfold putF';rw [if_pos rfl]
   .rw [if_neg c,if_neg c];exact hf
  .have ne:p.1≠x.1:=fun z=>nd.1 (z ▸ zI.mpr ⟨p,e,rfl⟩)
   refine td_hit l _ p nd.2 e ?_
   unfold tdS
   by_cases c:0 < x.2
   .rw [if_pos c];unfold putF';rw [if_neg ne];exact hf
   .rw [if_neg c];exact hf
theorem zip_fst {ws:List Str} {ps:List Int} (h:ws.length=ps.length):(ws.zip ps).map (·.1)=ws:=by
 rw [List.map_fst_zip (by omega)]
theorem tdF_at {ws:List Str} {ps:List Int} (h:ws.length=ps.length) (nd:ws.Nodup) {j:Nat} (h1:j < ws.length) (h2:j < ps.length):tdF (ws.zip ps) ws[j]=if 0 < ps[j] then some ps[j] else none:=by
 have hm:(ws[j],ps[j])∈ws.zip ps:=by
  refine zQ.mpr ⟨j,by rw [List.length_zip];omega,?_⟩
  rw [List.getElem_zip]
 exact td_hit (ws.zip ps) noF (ws[j],ps[j]) (by rw [zip_fst h];exact nd) hm rfl
theorem tdF_in {ws:List Str} {ps:List Int} (h:ws.length=ps.length):InW ws (tdF (ws.zip ps)):=fun z hz=>by
 apply Classical.byContradiction
 intro c
 exact hz (td_miss (ws.zip ps) noF z (by rw [zip_fst h];exact c))
theorem qfj {ws:List Str} {ps:List Int} {B:Int} (h:ws.length=ps.length) (nd:ws.Nodup) (hp:∀p∈ps,p<=B):FinB ws B (tdF (ws.zip ps)):=fun z n e=>by
 have hz:=tdF_in h z (by rw [e];simp)
 obtain⟨j,hj,rfl⟩:=zQ.mp hz
 have hj2:j < ps.length:=by omega
 rw [tdF_at h nd hj hj2] at e
 by_cases c:0 < ps[j]
 .rw [if_pos c] at e
  have e:ps[j]=n:=Option.some.inj e
  exact⟨hz,by omega,by rw [<-e];exact hp _ (zO hj2)⟩
 .rw [if_neg c] at e;cases e
theorem tdF_gN {ws:List Str} {ps:List Int} (h:ws.length=ps.length) (nd:ws.Nodup) (h0:∀p∈ps,0<=p) {j:Nat} (h1:j < ws.length) (h2:j < ps.length):gN (tdF (ws.zip ps)) ws[j]=ps[j]:=by
 unfold gN
 rw [tdF_at h nd h1 h2]
 have:=h0 _ (zO h2)
 by_cases c:0 < ps[j]
 .rw [if_pos c];rfl
 .rw [if_neg c];show (0:Int)=_;omega
def wh7 (K:Frag) (d:Ad):Sp:=fun vs H Q _=>∃(lw lp:Addr) (ws:List Str) (ps:List Int),vs=[.ref lw,.ref lp]/\SqL K H lw (ws.map V.str)/\SqL K H lp (ps.map V.int)/\ws.length=ps.length/\ws.length<=100/\
 ∀(l:Addr) (H':Hp),qaq H H'->H l=none->H' l=some (.dK (tdK (ws.zip ps)))->Q (.ref l) H'
include T in
theorem w6b:FnOk P w K mg base CX0 1 d.wfc d.wde ["_law_wares","_law_parts_here"] (wh7 K d):=by
 refine T.w7s.ok wac (fun vs H Q E h=>?_) (fun cdv A outer s H vs Q E hr h=>?_)
 .obtain⟨lw,lp,ws,ps,rfl,_⟩:=h;rfl
 obtain⟨lw,lp,ws,ps,rfl,hW,hP,hwp,h100,q⟩:=h
 refine⟨_,(qa3 (qaf (i:=2) wac.nd rfl (Or.inl rfl) qfr)
  (qa3 (qb7 PassesOwn.never rfl (pi_zip rfl T.wi0 (qa0 (pv 0) (qa0 (pv 1) qa1))) (qdm rfl (qag (qac (i:=3) wac.nd rfl (Or.inl rfl)) (qag (qac (i:=4) wac.nd rfl (Or.inl rfl)) qch))) (qa5 (qd5 (qbk (qap qf6 (pv 4) qa4 (qar _)) (qa5 (qe5 (qc9 hr) (pv 2) (pv 3) (pv 4) rfl)) qao))))
  (qa5 (qai (pv 2))))),?_⟩
 walk_at "d"
 refine qae (σ:=[some (.ref lw),some (.ref lp),none,none,none]) rfl ?_
 left
 rename_i l hl
 have s1:=qa6 hl (.dK [])
 refine r_itZ (s1.seq hW) (s1.seq hP) ?_
 refine f_zip (by rw [zB,zB];exact hwp) (fun i σ H'=>∃w1 w2:Option V,σ=[some (V.ref lw),some (V.ref lp),some (V.ref l),w1,w2]/\qaq H H'/\H' l=some (.dK (tdK ((ws.zip ps).take i)))) ⟨_,_,rfl,s1,qa2⟩ ?_ ?_ ?_
 .rintro i σ H' ⟨w1,w2,rfl,sm,el⟩
  exact⟨sm.seq hW,sm.seq hP⟩
 .rintro i x y Tt σ H' hx hy ⟨w1,w2,rfl,sm,el⟩ hTt
  rw [zC] at hx hy
  obtain⟨z,hz,rfl⟩:=Option.map_eq_some_iff.mp hx
  obtain⟨n,hn,rfl⟩:=Option.map_eq_some_iff.mp hy
  have hzn:(ws.zip ps)[i]?=some (z,n):=by rw [List.getElem?_zip_eq_some];exact⟨hz,hn⟩
  have tk:(ws.zip ps).take (i+1)=(ws.zip ps).take i++ [(z,n)]:=by rw [zM,hzn];rfl
  have st:=td_snoc ((ws.zip ps).take i) (z,n)
  rw [<-tk] at st
  have s2:=qa6 hTt (.tup [.str z,.int n])
  have el2:=s2 _ _ el
  have tT:upd H' Tt (.tup [.str z,.int n]) Tt=some (.tup [.str z,.int n]):=qa2
  generalize upd H' Tt (.tup [.str z,.int n])=H2 at*
  have kl:(tdK ((ws.zip ps).take i)).length < sizeLine:=by
   have:=td_len ((ws.zip ps).take i)
   rw [zU,List.length_zip] at this
   show _ < 16777216
   omega
  rw [st.2]
  unfold tdP
  clear hx hy hz hn hzn tk st
  left
  refine r_cut0 ?_
  left
  refine i_2 (fun c=>?_) (fun c=>?_)
  .left
   exact⟨_,_,rfl,qay (sm.trans s2) hl,by rw [qa2,if_pos c]⟩
  .left
   exact⟨_,_,rfl,sm.trans s2,by rw [if_neg c];exact el2⟩
 .rintro σ H' ⟨w1,w2,rfl,sm,el⟩
  left
  rw [zB,show (ws.zip ps).take ws.length=ws.zip ps from List.take_of_length_le (by rw [List.length_zip];omega)] at el
  exact q l H' sm hl el
structure Sc (sc:Int):Prop where
 lo:1<=sc
 hi:sc<=10^27
structure PpOk (p:Int):Prop where
 lo:0<=p
 hi:p<=6*10^27
structure XuOk (x:Int):Prop where
 hi:x<=5*10^27
def wfl (K:Frag) (d:Ad):Sp:=fun vs H Q _=>∃(c sc:Int) (k:Nat),vs=[.int c,.int (k:Int),.int sc]/\1<=k/\k<=6/\Sc sc/\
 ∀(l:Addr) (ps:List Int) (H':Hp),qaq H H'->H l=none->H' l=some (.lst (ps.map V.int))->ps.length=k->(∀p∈ps,PpOk p)->Q (.ref l) H'
include T in
theorem wdk:FnOk P w K mg base CX0 2 d.wca d.wax ["_law_cell_here","_law_kinds","_law_scale"] (wfl K d):=by
 refine T.wdg.ok w86 (fun vs H Q E h=>?_) (fun cdv A outer s H vs Q E hr h=>?_)
 .obtain⟨c,sc,k,rfl,_⟩:=h;rfl
 obtain⟨c,sc,k,rfl,k1,k3,hsc,q⟩:=h
 refine⟨_,(qa3 (qaf (i:=3) w86.nd rfl (Or.inl rfl) (qbm qa1))
  (qa3 (qb7 PassesOwn.never rfl (qbv rfl T.w3i (qa0 (pv 1) qa1)) (qac (i:=4) w86.nd rfl (Or.inl rfl)) (qa3 (qaf (i:=5) w86.nd rfl (Or.inl rfl) (qal qax (qal qbw (qa9 ((w0m T).mono (by decide)) hr rfl T.w25 T.w1z.kp T.w24 .nil qah (qa0 (pv 0) (qa0 (qal qax qa4 (pv 4)) (qa0 qa4 qa1)))) (pv 2)) (qa9 ((w0m T).mono (by decide)) hr rfl T.w25 T.w1z.kp T.w24 .nil qah (qa0 (pv 0) (qa0 (qal qax qa4 (pv 4)) (qa0 qa4 qa1))))))
  (qa5 (qb2 (qe8 PySem.F.plainAttrs_list PySem.F.slot_list_append PySem.F.type_list_append qb9 (pv 3) (qa0 (qal qbw (pv 5) (qaj (call_minR rfl) rfl T.whw PyProof.Rows.boot_min (qa0 qa4 (qa0 (qa9 ((w0m T).mono (by decide)) hr rfl T.w25 T.w1z.kp T.w24 .nil qah (qa0 (pv 0) (qa0 (qal qax qa4 (pv 4)) (qa0 qa4 qa1)))) qa1)))) qa1))))))
  (qa3 (qd5 (qbk (qap qdk (qaj (call_maxL rfl) rfl T.whx PyProof.Rows.boot_max (qa0 (pv 3) qa1)) qa4 (qar _)) (qa5 (ps_lput (pv 3) (qa9 ((w0m T).mono (by decide)) hr rfl T.w25 T.w1z.kp T.w24 .nil qah (qa0 (pv 0) (qa0 qa4 (qa0 (pv 1) qa1)))) (pv 2) rfl)) qao))
  (qa5 (qai (pv 3)))))),?_⟩
 walk_at "d"
 refine qae (σ:=[some (.int c),some (.int (k:Int)),some (.int sc),none,none,none]) rfl ?_
 have ek:((k:Nat):Int).toNat=k:=by omega
 generalize hki:((k:Nat):Int)=ki at*
 have sb:sc.natAbs < 2^200:=by
  have a:=hsc.lo
  have b:=hsc.hi
  exact Nat.lt_of_le_of_lt (show sc.natAbs<=10^28 by omega) (by decide)
 have s0:0<=sc:=by have:=hsc.lo;omega
 have sb6:sc.natAbs < 2^600:=Nat.lt_trans sb (by decide)
 left
 rename_i l hl
 rw [ek]
 refine qcs (fun i σ H'=>∃(ps:List Int) (w1 w2:Option V),σ=[some (V.int c),some (V.int ki),some (V.int sc),some (V.ref l),w1,w2]/\H'=upd H l (.lst (ps.map V.int))/\ps.length=i/\∀p∈ps,PpOk p) ⟨[],_,_,rfl,rfl,rfl,fun p h=>by simp at h⟩ ?_ ?_
 .rintro i σ H' hi ⟨ps,w1,w2,rfl,rfl,hlen,hp⟩
  have zl:(ps.map V.int).length < sizeLine:=by rw [zB];show _ < 16777216;omega
  have b2:((2:Int)).natAbs < 2^600/\((0:Int)+(i:Int)).natAbs < 2^600:=⟨by decide,Nat.lt_of_le_of_lt (show ((0:Int)+(i:Int)).natAbs<=5 by omega) (by decide)⟩
  left
  refine qbz (by omega) (by omega) (by decide) (by decide) fun r r0 r1=>?_
  have rb:r.natAbs < 2^600:=Nat.lt_of_le_of_lt (show r.natAbs<=5 by omega) (by decide)
  left
  refine qbz (by omega) (by omega) (by decide) (by decide) fun r2 a0 a1=>?_
  left
  refine qbz (by omega) (by omega) (by decide) (by decide) fun r3 d0 d1=>?_
  have x0:0<=r*sc:=Int.mul_nonneg r0 s0
  have xu:XuOk (r*sc):=⟨Int.mul_le_mul (show r<=5 by omega) hsc.hi s0 (by decide)⟩
  have xb:(r*sc).natAbs < 2^300:=by
   rw [Int.natAbs_mul]
   exact Nat.lt_of_le_of_lt (Nat.mul_le_mul (show r.natAbs<=5 by omega) (Nat.le_of_lt sb)) (by decide)
  generalize r*sc=x at*
  have yb:(x+r2).natAbs < 2^600:=Nat.lt_of_le_of_lt (show (x+r2).natAbs<=2^300+10 by omega) (by decide)
  have y0:0<=x+r2:=by omega
  have yu:PpOk (x+r2):=⟨y0,by have:=xu.hi;omega⟩
  generalize x+r2=y at*
  left
  have m0:(if r3 < 1 then r3 else (1:Int))=0\/(if r3 < 1 then r3 else (1:Int))=1:=by split <;> omega
  have m1:(if r3 < 1 then r3 else (1:Int)).natAbs < 2^600:=Nat.lt_of_le_of_lt (show _<=5 by split <;> omega) (by decide)
  generalize (if r3 < 1 then r3 else (1:Int))=z at*
  refine⟨ps++ [y*z],_,_,rfl,by rw [qbj,zE];rfl,by rw [zH,hlen];rfl,fun p h=>?_⟩
  rcases zV.mp h with h|h
  .exact hp p h
  .rw [zG.mp h]
   rcases m0 with e|e
   .rw [e,Int.mul_zero];exact⟨by decide,by decide⟩
   .rw [e,Int.mul_one];exact yu
 .rintro σ H' ⟨ps,w1,w2,rfl,rfl,hlen,hp⟩
  left
  refine r_cut (fun σ' H'=>∃(ps:List Int) (w1 w2:Option V),σ'=[some (V.int c),some (V.int ki),some (V.int sc),some (V.ref l),w1,w2]/\H'=upd H l (.lst (ps.map V.int))/\ps.length=k/\∀p∈ps,PpOk p) ?_ ?_
  .left
   refine r_maxL (SqL.of qa2) (by omega) fun m _ _=>?_
   left
   refine i_2 (fun c0=>?_) (fun c0=>?_)
   .left
    refine qbz (by decide) (by decide) (by omega) (by omega) fun r r0 r1=>?_
    refine r_lpk qa2 (k:=r.toNat) (by rw [zB];omega) ?_ (by omega)
    left
    refine⟨ps.set r.toNat sc,_,_,rfl,by rw [qbj,<-List.map_set],by rw [List.length_set];exact hlen,fun p h=>?_⟩
    rcases List.mem_or_eq_of_mem_set h with h|h
    .exact hp p h
    .rw [h];exact⟨s0,by have:=hsc.hi;omega⟩
   .left
    exact⟨ps,_,_,rfl,rfl,hlen,hp⟩
  .rintro σ' H' ⟨ps,w1,w2,rfl,rfl,hlen,hp⟩
   left
   exact q l ps _ (qa6 hl _) hl qa2 hlen hp
structure Rw where
 p:Addr
 e:Addr
 n:Int
 i:Nat
 ps:List Int
 r:Int
 s:Bool
structure RwAt (H:Hp) (nh kd:Nat) (R:Rw):Prop where
 row:H R.p=some (.tup [.int R.n,.int ((R.i:Nat):Int),.ref R.e,.int R.r,.bl R.s])
 par:H R.e=some (.lst (R.ps.map V.int))
 len:R.ps.length=kd
 nn:∀p∈R.ps,PpOk p
 il:R.i < nh
 n1:1<=R.n
theorem RwAt.same {H H':Hp} {nh kd:Nat} {R:Rw} (h:RwAt H nh kd R) (s:qaq H H'):RwAt H' nh kd R:=⟨s _ _ h.row,s _ _ h.par,h.len,h.nn,h.il,h.n1⟩
def rwV (Rs:List Rw):List V:=Rs.map fun R=> .ref R.p
def whd (K:Frag) (d:Ad):Sp:=fun vs H Q _=>∃(a:Addr) (ns:List Int) (sc:Int) (nh kd m:Nat),vs=[.ref a,.int (nh:Int),.int (kd:Int),.int sc,.int (m:Int)]/\SqL K H a (ns.map V.int)/\ns.length<=63/\Sc sc/\1<=nh/\nh<=12/\1<=kd/\kd<=6/\m<=30/\
 ∀(l:Addr) (Rs:List Rw) (H':Hp),qaq H H'->H' l=some (.lst (rwV Rs))->Rs.length=m->(∀R∈Rs,RwAt H' nh kd R)->(Rs.map fun R=>R.n).Pairwise (·< ·)->Q (.ref l) H'
include T in
theorem wgp:FnOk P w K mg base CX0 3 d.web d.wcp ["_law_script","_law_houses","_law_kinds","_law_scale","_law_many"] (whd K d):=by
 refine T.wg5.ok w69 (fun vs H Q E h=>?_) (fun cdv A outer s H vs Q E hr h=>?_)
 .obtain⟨a,ns,sc,nh,kd,m,rfl,_⟩:=h;rfl
 obtain⟨a,ns,sc,nh,kd,mm,rfl,hS,h63,hsc,n1,n12,k1,k3,m30,q⟩:=h
 refine⟨_,(qa3 (qaf (i:=5) w69.nd rfl (Or.inl rfl) (qbm qa1))
  (qa3 (qaf (i:=6) w69.nd rfl (Or.inl rfl) (qa9 ((w0m T).mono (by decide)) hr rfl T.w25 T.w1z.kp T.w24 .nil qah (qa0 (qa9 ((w1l T).mono (by decide)) hr rfl T.w38 T.w2w.kp T.w34 .nil qah (qa0 (pv 0) (qa0 qa4 qa1))) (qa0 qa4 (qa0 qa4 qa1)))))
  (qa3 (qb7 PassesOwn.never rfl (qbv rfl T.w3i (qa0 (pv 4) qa1)) (qac (i:=7) w69.nd rfl (Or.inl rfl)) (qa3 (qaf (i:=8) w69.nd rfl (Or.inl rfl) (qa9 ((w1l T).mono (by decide)) hr rfl T.w38 T.w2w.kp T.w34 .nil qah (qa0 (pv 0) (qa0 (qal qax qa4 (pv 7)) qa1))))
  (qa3 (qaf (i:=6) w69.nd rfl (Or.inl rfl) (qal qax (qal qax (pv 6) qa4) (qa9 ((w0m T).mono (by decide)) hr rfl T.w25 T.w1z.kp T.w24 .nil qah (qa0 (pv 8) (qa0 qa4 (qa0 qa4 qa1))))))
  (qa3 (qaf (i:=9) w69.nd rfl (Or.inl rfl) (qa9 ((wdk T).mono (by decide)) hr rfl T.weo T.wdg.kp T.wep .nil qah (qa0 (pv 8) (qa0 (pv 2) (qa0 (pv 3) qa1)))))
  (qa5 (qb2 (qe8 PySem.F.plainAttrs_list PySem.F.slot_list_append PySem.F.type_list_append qb9 (pv 5) (qa0 (qcv (qa0 (pv 6) (qa0 (qa9 ((w0m T).mono (by decide)) hr rfl T.w25 T.w1z.kp T.w24 .nil qah (qa0 (pv 8) (qa0 qa4 (qa0 (pv 1) qa1)))) (qa0 (pv 9) (qa0 (qa9 ((w0m T).mono (by decide)) hr rfl T.w25 T.w1z.kp T.w24 .nil qah (qa0 (pv 8) (qa0 qa4 (qa0 qa4 qa1)))) (qa0 (qbn qdk (qa9 ((w0m T).mono (by decide)) hr rfl T.w25 T.w1z.kp T.w24 .nil qah (qa0 (pv 8) (qa0 qa4 (qa0 qa4 qa1)))) qa4 (qar _)) qa1)))))) qa1))))))))
  (qa5 (qai (pv 5)))))),?_⟩
 walk_at "d"
 refine qae (σ:=[some (.ref a),some (.int (nh:Int)),some (.int (kd:Int)),some (.int sc),some (.int (mm:Int)),none,none,none,none,none]) rfl ?_
 have emm:((mm:Nat):Int).toNat=mm:=by omega
 generalize hni:((nh:Nat):Int)=ni
 generalize hki:((kd:Nat):Int)=ki
 generalize hmi:((mm:Nat):Int)=mi at*
 left
 rename_i l hl
 have s1:=qa6 hl (.lst [])
 have e1:upd H l (.lst []) l=some (.lst []):=qa2
 generalize upd H l (.lst [])=H1 at*
 refine⟨a,ns,3,rfl,s1.seq hS,by decide,by decide,h63,fun H2 s2=>?_⟩
 have e2:=s2 _ _ e1
 have t2:=s1.trans s2
 left
 refine qbz (by decide) (by decide) (by decide) (by decide) fun r2 r20 _=>?_
 left
 rw [emm]
 refine qcs (fun i σ H'=>∃(Rs:List Rw) (m:Int) (w1 w2 w3:Option V),σ=[some (V.ref a),some (V.int ni),some (V.int ki),some (V.int sc),some (V.int mi),some (V.ref l),some (V.int m),w1,w2,w3]/\qaq H H'/\H' l=some (.lst (rwV Rs))/\Rs.length=i/\(∀R∈Rs,RwAt H' nh kd R/\R.e≠l)/\(Rs.map fun R=>R.n).Pairwise (·< ·)/\(∀R∈Rs,R.n<=m)/\0<=m)
  ⟨[],_,_,_,_,rfl,t2,e2,rfl,fun R h=>by simp at h,List.Pairwise.nil,fun R h=>by simp at h,r20⟩ ?_ ?_
 .rintro i σ H' hi ⟨Rs,m,w1,w2,w3,rfl,sm,el,hlen,hR,hup,hle,m0⟩
  left
  refine⟨a,ns,8+(0+(i:Int)),rfl,sm.seq hS,by omega,by omega,h63,fun H2' s2'=>?_⟩
  generalize qbg ns (8+(0+(i:Int)))=c3
  left
  refine qbz (by decide) (by decide) (by decide) (by decide) fun r4 r40 _=>?_
  left
  refine⟨c3,sc,kd,by rw [hki],k1,k3,hsc,fun e ps H3 s3 he ee hps h0=>?_⟩
  have el3:=s3 _ _ (s2' _ _ el)
  left
  refine qbz (by decide) (by decide) (by omega) (by omega) fun r6 d0 d1=>?_
  left
  refine qbz (by decide) (by decide) (by decide) (by decide) fun r7 _ _=>?_
  left
  refine qbz (by decide) (by decide) (by decide) (by decide) fun r5 _ _=>?_
  have zl:(rwV Rs).length < sizeLine:=by unfold rwV;rw [zB];show _ < 16777216;omega
  left
  rename_i pr hpr
  have er:r6=((r6.toNat:Nat):Int):=by omega
  have s4:=qa6 hpr (.tup [.int (m+1+r4),.int r6,.ref e,.int r7,.bl (decide (r5=0))])
  have epr:upd H3 pr (.tup [.int (m+1+r4),.int r6,.ref e,.int r7,.bl (decide (r5=0))]) pr=some (.tup [.int (m+1+r4),.int r6,.ref e,.int r7,.bl (decide (r5=0))]):=qa2
  have el4:=s4 _ _ el3
  have nel:e≠l:=(qaa (s2' _ _ el) he).symm
  generalize upd H3 pr (.tup [.int (m+1+r4),.int r6,.ref e,.int r7,.bl (decide (r5=0))])=H4 at*
  have putR:∀{R:Rw} {o:HO},RwAt H4 nh kd R->R.e≠l->RwAt (upd H4 l o) nh kd R:=fun {R o} h ne=>by
   have np:R.p≠l:=ne_of h.row el4 (by simp)
   exact⟨by rw [qa7 np];exact h.row,by rw [qa7 ne];exact h.par,h.len,h.nn,h.il,h.n1⟩
  obtain⟨R0,e01,e02,e03,e04⟩:∃R0:Rw,R0.p=pr/\R0.e≠l/\RwAt H4 nh kd R0/\R0.n=m+1+r4:=⟨⟨pr,e,m+1+r4,r6.toNat,ps,r7,decide (r5=0)⟩,rfl,nel,⟨by rw [<-er];exact epr,s4 _ _ ee,hps,h0,by show r6.toNat < nh;omega,by show 1<=m+1+r4;omega⟩,rfl⟩
  have e05:upd H4 l (.lst (rwV Rs++ [.ref pr])) l=some (.lst (rwV (Rs++ [R0]))):=by rw [qa2];unfold rwV;rw [zE,<-e01];rfl
  have sm4:qaq H (upd H4 l (.lst (rwV Rs++ [.ref pr]))):=qay (((sm.trans s2').trans s3).trans s4) hl
  have hlen4:(Rs++ [R0]).length=i+1:=by rw [zH,hlen];rfl
  have hR4:∀R∈Rs++ [R0],RwAt (upd H4 l (.lst (rwV Rs++ [.ref pr]))) nh kd R/\R.e≠l:=fun R hr=>by
   rcases zV.mp hr with h|h
   .obtain⟨h1,h2⟩:=hR R h
    exact⟨putR (h1.same ((s2'.trans s3).trans s4)) h2,h2⟩
   .rw [zG.mp h]
    exact⟨putR e03 e02,e02⟩
  have hup4:((Rs++ [R0]).map fun R=>R.n).Pairwise (·< ·):=by
   rw [zE,List.pairwise_append]
   refine⟨hup,List.pairwise_singleton _ _,fun x hx y hy=>?_⟩
   obtain⟨R,hr,rfl⟩:=zI.mp hx
   have hy:y=R0.n:=by simpa using hy
   have:=hle R hr
   omega
  have hle4:∀R∈Rs++ [R0],R.n<=m+1+r4:=fun R hr=>by
   rcases zV.mp hr with h|h
   .have:=hle R h;omega
   .rw [zG.mp h,e04];exact Int.le_refl _
  clear hR putR e03 epr hl hS s1 s2 s3 s4 hup hle
  exact⟨Rs++ [R0],_,_,_,_,rfl,sm4,e05,hlen4,hR4,hup4,hle4,by omega⟩
 .rintro σ H' ⟨Rs,m,w1,w2,w3,rfl,sm,el,hlen,hR,hup,hle,m0⟩
  left
  exact q l Rs H' sm el (by omega) (fun R h=>(hR R h).1) hup
def rrOf (ws:List Str) (R:Rw):Rr:=⟨R.p,R.e,R.n,R.i,tdK (ws.zip R.ps),tdF (ws.zip R.ps),R.r,R.s⟩
def colV (kd:Nat) (f:Nat->Int):List V:=(List.range kd).map fun j=>V.int (f j)
theorem colV_len (kd:Nat) (f:Nat->Int):(colV kd f).length=kd:=by unfold colV;rw [zB,yO]
theorem colV_at {kd j:Nat} (f:Nat->Int) (h:j < kd):atI (colV kd f) ((j:Nat):Int)=some (V.int (f j)):=qaw (by unfold colV;rw [zC,List.getElem?_range h];rfl)
theorem colV_set {kd j:Nat} (f:Nat->Int) (v:Int) (h:j < kd):(colV kd f).set j (V.int v)=colV kd fun i=>if i=j then v else f i:=by
 unfold colV
 refine List.ext_getElem (by rw [List.length_set,zB,zB]) fun i g1 g2=>?_
 rw [List.getElem_set,List.getElem_map,List.getElem_map,List.getElem_range]
 by_cases c:j=i
 .show (if j=i then V.int v else _)=V.int (if i=j then v else f i)
  rw [if_pos c,if_pos c.symm]
 .show (if j=i then V.int v else V.int (f i))=V.int (if i=j then v else f i)
  rw [if_neg c,if_neg (fun z=>c z.symm)]
theorem colV_congr {kd:Nat} {f g:Nat->Int} (h:∀j,j < kd->f j=g j):colV kd f=colV kd g:=by
 unfold colV
 refine List.map_congr_left fun j hj=>?_
 rw [h j (yP.mp hj)]
def qc0 (H:Hp) (ls:List Addr) (kd:Nat) (X:Nat->Nat->Int):Prop:=∀(h:Nat) (l:Addr),ls[h]?=some l->H l=some (.lst (colV kd (X h)))
theorem qc0.cast {H:Hp} {ls:List Addr} {kd:Nat} {X Y:Nat->Nat->Int} (h:qc0 H ls kd X) (e:∀i j,i < ls.length->j < kd->X i j=Y i j):qc0 H ls kd Y:=fun i l hl=>by
 rw [h i l hl]
 rw [colV_congr fun j hj=>e i j (List.getElem?_eq_some_iff.mp hl).1 hj]
theorem qc0.put {H:Hp} {ls:List Addr} {kd:Nat} {X:Nat->Nat->Int} (nd:ls.Nodup) (h:qc0 H ls kd X) {i:Nat} {l:Addr} (hl:ls[i]?=some l) {f:Nat->Int}:qc0 (upd H l (.lst (colV kd f))) ls kd fun k=>if k=i then f else X k:=fun k l' hl'=>by
 try dsimp only
 by_cases c:k=i
 .subst c
  rw [hl] at hl'
  cases hl'
  rw [if_pos rfl,qa2]
 .rw [if_neg c,qa7]
  .exact h k l' hl'
  .intro z
   subst z
   obtain⟨h1,e1⟩:=List.getElem?_eq_some_iff.mp hl
   obtain⟨h2,e2⟩:=List.getElem?_eq_some_iff.mp hl'
   rcases Nat.lt_trichotomy k i with lt|lt|lt
   .exact(zY.mp nd) k i h2 h1 lt (e2.trans e1.symm)
   .exact c lt
   .exact(zY.mp nd) i k h1 h2 lt (e1.trans e2.symm)
theorem qc0.other {H:Hp} {ls:List Addr} {kd:Nat} {X:Nat->Nat->Int} (h:qc0 H ls kd X) {a:Addr} {o:HO} (ha:a∉ls):qc0 (upd H a o) ls kd X:=fun i l hl=>by
 rw [qa7 (show l≠a from fun z=>ha (z ▸ zD hl))]
 exact h i l hl
theorem qc0.same {H H':Hp} {ls:List Addr} {kd:Nat} {X:Nat->Nat->Int} (h:qc0 H ls kd X) (s:qaq H H'):qc0 H' ls kd X:=fun i l hl=>s _ _ (h i l hl)
def SB (ls:List Addr) (H H':Hp):Prop:=∀b o,H b=some o->b∉ls->H' b=some o
theorem SB.new {ls:List Addr} {H H' H'':Hp} (s:SB ls H H') (t:qaq H' H''):SB ls H H'':=fun b o hb hn=>t _ _ (s b o hb hn)
theorem SB.put {ls:List Addr} {H H':Hp} (s:SB ls H H') {a:Addr} {o:HO} (h:H a=none\/a∈ls):SB ls H (upd H' a o):=fun b u hb hn=>by
 rw [qa7]
 .exact s b u hb hn
 .intro z
  subst z
  rcases h with h|h
  .rw [h] at hb;cases hb
  .exact hn h
abbrev Pq:=Addr × List Int
def qsV (qs:List Pq):List V:=qs.map fun q=> .ref q.1
def atQ (qs:List Pq) (k j:Nat):Int:=match qs[k]? with
 |some q=>(q.2[j]?).getD 0
 |none=>0
structure QsAt (H1 H:Hp) (lp:Addr) (kd:Nat) (qs:List Pq):Prop where
 top:H lp=some (.lst (qsV qs))
 row:∀q∈qs,H q.1=some (.lst (q.2.map V.int))/\H1 q.1=none/\q.1≠lp
 nd:(qs.map (·.1)).Nodup
 val:∀q∈qs,q.2.length=kd/\∀x∈q.2,0<=x/\x<=10^30
def sumQ (el:Nat->Nat) (qs:List Pq) (n h j:Nat):Int:=qdo n fun k=>if h∈qad el k then atQ qs k j else 0
theorem qe3 {f g:Nat->Int}:∀{n:Nat},(∀k,k < n->f k=g k)->qdo n f=qdo n g
 |0,_=>rfl
 |n+1,h=>by
  show qdo n f+f n=qdo n g+g n
  rw [qe3 fun k hk=>h k (by omega),h n (by omega)]
theorem atQ_old {qs:List Pq} {q:Pq} {k j:Nat} (h:k < qs.length):atQ (qs++ [q]) k j=atQ qs k j:=by
 unfold atQ
 rw [yF h]
theorem atQ_new {qs:List Pq} {q:Pq} {j:Nat}:atQ (qs++ [q]) qs.length j=(q.2[j]?).getD 0:=by
 unfold atQ
 rw [yC (Nat.le_refl _),Nat.sub_self]
 rfl
theorem sumQ_snoc (el:Nat->Nat) (qs:List Pq) (q:Pq) (h j:Nat):sumQ el (qs++ [q]) (qs.length+1) h j=sumQ el qs qs.length h j+if h∈qad el qs.length then (q.2[j]?).getD 0 else 0:=by
 show (qdo qs.length fun k=>if h∈qad el k then atQ (qs++ [q]) k j else 0)+(if h∈qad el qs.length then atQ (qs++ [q]) qs.length j else 0)=_
 rw [atQ_new]
 congr 1
 refine qe3 fun k hk=>?_
 rw [atQ_old hk]
theorem atQ_nn {qs:List Pq} (hv:∀q∈qs,∀x∈q.2,0<=x) (k j:Nat):0<=atQ qs k j:=by
 unfold atQ
 cases e:qs[k]? with
 |none=>exact Int.le_refl _
 |some q=>
  show 0<=(q.2[j]?).getD 0
  cases e2:q.2[j]? with
  |none=>exact Int.le_refl _
  |some x=>exact hv q (zD e) x (zD e2)
theorem sumQ_nn {el:Nat->Nat} {qs:List Pq} (hv:∀q∈qs,∀x∈q.2,0<=x) (n h j:Nat):0<=sumQ el qs n h j:=sumR_nn fun k _=>by
 by_cases c:h∈qad el k
 .rw [if_pos c];exact atQ_nn hv k j
 .rw [if_neg c];exact Int.le_refl _
def CsAt (H:Hp) (kd:Nat) (cs:List Pq):Prop:=∀c∈cs,H c.1=some (.lst (c.2.map V.int))/\c.2.length=kd/\∀x∈c.2,0<=x/\x<=10^30
theorem CsAt.same {H H':Hp} {kd:Nat} {cs:List Pq} (h:CsAt H kd cs) (s:qaq H H'):CsAt H' kd cs:=fun c hc=>⟨s _ _ (h c hc).1,(h c hc).2⟩
theorem CsAt.bd {H:Hp} {kd:Nat} {cs:List Pq} (h:CsAt H kd cs) (i j:Nat):0<=atQ cs i j/\atQ cs i j<=10^30:=by
 unfold atQ
 cases e:cs[i]? with
 |none=>exact⟨Int.le_refl _,show (0:Int)<=10^30 by decide⟩
 |some q=>
  show 0<=(q.2[j]?).getD 0/\(q.2[j]?).getD 0<=10^30
  cases e2:q.2[j]? with
  |none=>exact⟨Int.le_refl _,show (0:Int)<=10^30 by decide⟩
  |some x=>exact(h q (zD e)).2.2 x (zD e2)
theorem CsAt.col {H:Hp} {kd:Nat} {cs:List Pq} (h:CsAt H kd cs) {i:Nat} {c:Pq} (hc:cs[i]?=some c):c.2.map V.int=colV kd fun j=>atQ cs i j:=by
 unfold colV
 have hl:=(h c (zD hc)).2.1
 refine List.ext_getElem (by rw [zB,zB,yO,hl]) fun j g1 g2=>?_
 rw [zB] at g1
 rw [List.getElem_map,List.getElem_map,List.getElem_range]
 unfold atQ
 rw [hc]
 show _=V.int ((c.2[j]?).getD 0)
 rw [zA g1];rfl
def wcs (K:Frag) (d:Ad):Sp:=fun vs H Q _=>∃(a:Addr) (ns:List Int) (le lc:Addr) (las:List Addr) (cs:List Pq) (es:List Nat) (kd:Nat),vs=[.ref a,.ref le,.ref lc]/\SqL K H a (ns.map V.int)/\ns.length<=63/\LnsAt H le las es/\es.length<=11/\H lc=some (.lst (qsV cs))/\cs.length=es.length+1/\CsAt H kd cs/\kd<=6/\
 ∀(l:Addr) (qs:List Pq) (H':Hp),qaq H H'->H' l=some (.lst (qsV qs))->qs.length=es.length+1->(∀q∈qs,H' q.1=some (.lst (q.2.map V.int))/\q.2.length=kd/\∀x∈q.2,0<=x/\x<=10^30)->(∀h j,h < es.length+1->j < kd->sumQ (elN es) qs (es.length+1) h j<=atQ cs h j)->Q (.ref l) H'
include T in
theorem wdb:FnOk P w K mg base CX0 2 d.w78 d.w61 ["_law_script","_law_lines_here","_law_caps_here"] (wcs K d):=by
 refine T.wa4.ok w0u (fun vs H Q E h=>?_) (fun cdv A outer s H vs Q E hr h=>?_)
 .obtain⟨a,ns,le,lc,las,cs,es,kd,rfl,_⟩:=h;rfl
 obtain⟨a,ns,le,lc,las,cs,es,kd,rfl,hSa,h63,hE,h11,hC,hcl,h9,k3,q⟩:=h
 have lo:∀(k e:Nat),es[k]?=some e->e<=k:=fun k e h=>(hE.lo k e h).1
 have low:=qdf lo (es.length+1)
 refine⟨_,(qa3 (qaf (i:=3) w0u.nd rfl (Or.inl rfl) (qa9 ((w1l T).mono (by decide)) hr rfl T.w38 T.w2w.kp T.w34 .nil qah (qa0 (pv 0) (qa0 qa4 qa1))))
  (qa3 (qaf (i:=4) w0u.nd rfl (Or.inr rfl) (qbp (caps:=[]) (cn:=[]) (qb4 rfl rfl (by rfl) (by rfl) rfl trivial (by rfl) rfl trivial (by decide)) rfl (qau (pv 2)) (fun _ _ _ _=>qck) (fun _ _ _ _=>(qb8 qcn rfl T.w7r PyProof.Rows.boot_list (qa0 (pv 0) qa1)))))
  (qa3 (qaf (i:=5) w0u.nd rfl (Or.inl rfl) (qbm qa1))
  (qa3 (qb7 PassesOwn.never rfl (qbv rfl T.w3i (qa0 (qaj qb0 rfl T.w3o PySem.boot_len (qa0 (pv 1) qa1)) qa1)) (qac (i:=6) w0u.nd rfl (Or.inl rfl)) (qa3 (qb2 (qe8 PySem.F.plainAttrs_list PySem.F.slot_list_append PySem.F.type_list_append qb9 (pv 5) (qa0 (qbm qa1) qa1)))
  (qa5 (qb7 PassesOwn.never rfl (qbv rfl T.w3i (qa0 (qaj qb0 rfl T.w3o PySem.boot_len (qa0 (qan qak (pv 2) (pv 6) (fun _ _=>rfl)) qa1)) qa1)) (qac (i:=7) w0u.nd rfl (Or.inr rfl)) (qa3 (qaf (i:=8) w0u.nd rfl (Or.inl rfl) (qaj (call_minL rfl) rfl T.whw PyProof.Rows.boot_min (qa0 (qbp (caps:=[4,7]) (cn:=["_law_left","_law_j"]) (qb4 rfl rfl (by rfl) (by rfl) rfl ⟨rfl,⟨rfl,trivial⟩⟩ (by rfl) rfl ⟨⟨rfl,rfl,rfl,rfl,_,rfl⟩,⟨⟨rfl,rfl,rfl,rfl,_,rfl⟩,trivial⟩⟩ (by decide)) rfl (qau (qan qak (pv 1) (pv 6) (fun _ _=>rfl))) (fun _ _ _ _=>qck) (fun _ _ _ _=>(qan qak (qan qak (pv 1) (pv 0) (fun _ _=>rfl)) (pv 2) (fun _ _=>rfl)))) qa1)))
  (qa3 (qaf (i:=9) w0u.nd rfl (Or.inl rfl) (qan qak (qbm (qa0 qa4 (qa0 (pv 8) (qa0 (qal qcg (pv 8) qa4) qa1)))) (qa9 ((w0m T).mono (by decide)) hr rfl T.w25 T.w1z.kp T.w24 .nil qah (qa0 (pv 3) (qa0 (qal qax (qal qax qa4 (qal qbw qa4 (pv 6))) (pv 7)) (qa0 qa4 qa1)))) (fun _ _=>rfl)))
  (qa3 (qb2 (qe8 PySem.F.plainAttrs_list PySem.F.slot_list_append PySem.F.type_list_append qb9 (qan qak (pv 5) (pv 6) (fun _ _=>rfl)) (qa0 (pv 9) qa1)))
  (qa5 (qb7 PassesOwn.never rfl (qau (qan qak (pv 1) (pv 6) (fun _ _=>rfl))) (qac (i:=10) w0u.nd rfl (Or.inl rfl)) (qa5 (ps_lput (qan qak (pv 4) (pv 10) (fun _ _=>rfl)) (pv 7) (qal qeu (qan qak (qan qak (pv 4) (pv 10) (fun _ _=>rfl)) (pv 7) (fun _ _=>rfl)) (pv 9)) rfl)))))))))))
  (qa5 (qai (pv 5))))))),?_⟩
 walk_at "d"
 try dsimp only [cxC]
 refine qae (σ:=[some (.ref a),some (.ref le),some (.ref lc),none,none,none,none,none,none,none,none]) rfl ?_
 left
 refine⟨a,ns,5,rfl,hSa,by decide,by decide,h63,fun H sc=>?_⟩
 have hE:=hE.same sc
 have hC:=sc _ _ hC
 have h9:=h9.same sc
 have q:=fun l qs H' (s:qaq H H')=>q l qs H' (sc.trans s)
 generalize qbg ns 5=c
 left
 intro C s0 H0 fp ll hll
 refine qf9 (es.length+1) (fun i H'=>∃ls:List Addr,qaq H H'/\H' ll=some (.lst (ls.map V.ref))/\ls.length=i/\ls.Nodup/\(∀l∈ls,l≠ll/\H l=none)/\qc0 H' ls kd (atQ cs)) ⟨[],qa6 hll _,qa2,rfl,yK,fun l h=>by simp at h,fun h l hl=>by simp at hl⟩ ?_ ?_ ?_ ?_
 .rintro i H' hi ⟨ls,sm,_⟩
  exact⟨_,.ref (cs[i]'(by omega)).1,SqL.of (sm _ _ hC),by unfold qsV;rw [zC,zA (by omega)];rfl⟩
 .rintro H' ⟨ls,sm,_⟩
  exact⟨_,SqL.of (sm _ _ hC),by unfold qsV;rw [zB];omega⟩
 .rintro i H' v H'' hi ⟨ls,sm,eL,hlen,nd,hls,hA⟩ ⟨rfl,hv⟩
  have hv:=hv _ (SqL.of (sm _ _ hC))
  unfold qsV at hv
  have hci:cs[i]?=some (cs[i]'(by omega)):=zA (by omega)
  rw [zC,hci] at hv
  cases hv
  have h9i:=(h9 _ (zD hci)).1
  have e9:=h9.col hci
  generalize cs[i]'(by omega)=ci at*
  left
  refine qeo (SqL.of (sm _ _ h9i)) fun l hl=>?_
  have s1:=qa6 hl (.lst (ci.2.map V.int))
  have eL1:=s1 _ _ eL
  have el:upd H'' l (.lst (ci.2.map V.int)) l=some (.lst (colV kd fun j=>atQ cs i j)):=by rw [qa2,e9]
  have nl:l≠ll:=(qaa eL hl).symm
  have nls:l∉ls:=fun hm=>by
   obtain⟨j,hj,e⟩:=zQ.mp hm
   have:=hA j l (by rw [zA hj,e])
   rw [hl] at this;cases this
  generalize upd H'' l (.lst (ci.2.map V.int))=H2 at*
  have zl:(ls.map V.ref).length < sizeLine:=by rw [zB];show _ < 16777216;omega
  left
  refine⟨ls++ [l],qay (sm.trans s1) hll,by rw [qa2,zE];rfl,by rw [zH,hlen];rfl,?_,fun x hx=>?_,fun h x hx=>?_⟩
  .exact yL.mpr ⟨nd,yA.mpr ⟨by simp,yK⟩,fun a ha b hb=>by rw [zG.mp hb];exact fun z=>nls (z ▸ ha)⟩
  .rcases zV.mp hx with h|h
   .exact hls x h
   .rw [zG.mp h];exact⟨nl,sm.free hl⟩
  .by_cases cc:h < ls.length
   .rw [yF cc] at hx
    rw [qa7 (hls x (zD hx)).1]
    exact s1 _ _ (hA h x hx)
   .rw [yC (by omega)] at hx
    have:x=l:=by
     have hm:=zD hx
     exact zG.mp hm
    subst this
    rw [qa7 nl]
    have hh:h=i:=by
     have:=(List.getElem?_eq_some_iff.mp hx).1
     rw [yB] at this
     omega
    rw [hh]
    exact el
 rintro H1 ⟨ls,s1,eL1,hlen,nd,hls,hA1⟩
 have hE1:=(hE.same s1).top
 have hle:(las.map V.ref).length=es.length+1:=by rw [zB,hE.len]
 have hrn:(((las.map V.ref).length:Nat):Int).toNat=es.length+1:=by rw [hle];omega
 have inLs:∀{H':Hp} {X:Nat->Nat->Int} {a:Addr},qc0 H' ls kd X->H' a=none->a∉ls:=fun {H' X a} hA ha hm=>by
  obtain⟨j,hj,e⟩:=zQ.mp hm
  have:=hA j a (by rw [zA hj,e])
  rw [ha] at this;cases this
 have notL:∀{b:Addr} {o:HO},H b=some o->b∉ls:=fun {b o} hb hm=>by rw [(hls b hm).2] at hb;cases hb
 left
 rename_i lp hlp
 rw [hrn]
 have nlpL:lp∉ls:=inLs hA1 hlp
 refine qcs (fun i σ H'=>∃(qs:List Pq) (X:Nat->Nat->Int) (w1 w2 w3 w4 w5:Option V),σ=[some (V.ref a),some (V.ref le),some (V.ref lc),some (V.int c),some (V.ref ll),some (V.ref lp),w1,w2,w3,w4,w5]/\SB ls H1 H'/\QsAt H1 H' lp kd qs/\qs.length=i/\qc0 H' ls kd X/\∀h j,h < es.length+1->j < kd->0<=X h j/\X h j=atQ cs h j - sumQ (elN es) qs i h j)
  ⟨[],atQ cs,_,_,_,_,_,rfl,SB.put (fun b o hb _=>hb) (.inl hlp),⟨qa2,fun q hq=>by simp at hq,yK,fun q hq=>by simp at hq⟩,rfl,hA1.other nlpL,fun h j _ _=>⟨(h9.bd h j).1,by show _=_ - (0:Int);omega⟩⟩ ?_ ?_
 .rintro i σ H' hi ⟨qs,X,w1,w2,w3,w4,w5,rfl,sb,hq,hql,hA,hX⟩
  have smH:∀{H'':Hp},SB ls H1 H''->qaq H H'':=fun {H''} sb b o hb=>sb b o (s1 b o hb) (notL hb)
  have sm:=smH sb
  rw [Int.zero_add]
  have hci:cs[i]?=some (cs[i]'(by omega)):=zA (by omega)
  obtain⟨h9i,h9l,_⟩:=h9 _ (zD hci)
  have xc:atI (qsV cs) ((i:Nat):Int)=some (.ref (cs[i]'(by omega)).1):=qaw (by unfold qsV;rw [zC,hci];rfl)
  generalize cs[i]'(by omega)=ci at*
  have kb:((i:Nat):Int).natAbs < 2^600:=Nat.lt_of_le_of_lt (show ((i:Nat):Int).natAbs<=12 by omega) (by decide)
  have pw:=lineN_pw low i hi
  have lle:=qcr low i hi
  obtain⟨lh,_,alh,elh0⟩:=hE.at hi
  generalize hki:((i:Nat):Int)=ki at*
  have nlhL:lh∉ls:=notL elh0
  have elh:=sm _ _ elh0
  have nlhp:lp≠lh:=fun z=>by rw [z,s1 _ _ elh0] at hlp;cases hlp
  have nq:∀q∈qs,q.1≠lh:=fun q h z=>by
   have:=(hq.row q h).2.1
   rw [z,s1 _ _ elh0] at this;cases this
  have hq2:=hq
  have hA2:=hA
  have sb2:=sb
  have etop:=hq2.top
  have zq:(qsV qs).length < sizeLine:=by unfold qsV;rw [zB];show _ < 16777216;omega
  left
  rename_i pi hpi
  have nplp:lp≠pi:=qaa etop hpi
  have nplh:lh≠pi:=qaa elh hpi
  have npL:pi∉ls:=inLs hA2 hpi
  have n1pi:H1 pi=none:=by
   cases e:H1 pi with
   |none=>rfl
   |some o=>have:=sb2 pi o e npL;rw [hpi] at this;cases this
  have npq:∀q∈qs,q.1≠pi:=fun q hq=>qaa (hq2.row q hq).1 hpi
  have e3lp:(upd (upd H' pi (.lst [])) lp (.lst (qsV qs++ [.ref pi]))) lp=some (.lst (qsV qs++ [.ref pi])):=qa2
  have e3pi:(upd (upd H' pi (.lst [])) lp (.lst (qsV qs++ [.ref pi]))) pi=some (.lst (([]:List Int).map V.int)):=by rw [qa7 nplp.symm];exact qa2
  have e3lh:(upd (upd H' pi (.lst [])) lp (.lst (qsV qs++ [.ref pi]))) lh=some (.lst ((qad (elN es) i).map iV)):=by rw [qa7 nlhp.symm,qa7 nplh];exact elh
  have e3q:∀q∈qs,(upd (upd H' pi (.lst [])) lp (.lst (qsV qs++ [.ref pi]))) q.1=some (.lst (q.2.map V.int)):=fun q h=>by rw [qa7 (hq2.row q h).2.2,qa7 (npq q h)];exact(hq2.row q h).1
  have hA3:qc0 (upd (upd H' pi (.lst [])) lp (.lst (qsV qs++ [.ref pi]))) ls kd X:=(hA2.other npL).other nlpL
  have sb3:SB ls H1 (upd (upd H' pi (.lst [])) lp (.lst (qsV qs++ [.ref pi]))):=(sb2.put (.inl n1pi)).put (.inl hlp)
  generalize upd (upd H' pi (.lst [])) lp (.lst (qsV qs++ [.ref pi]))=H3 at*
  have nlhq:∀q∈qs,q.1≠lh/\q.1≠pi/\q.1≠lp/\q.1∉ls:=fun q h=>⟨nq q h,npq q h,(hq2.row q h).2.2,fun hm=>by
   obtain⟨j,hj,e⟩:=zQ.mp hm
   have e2:=hA1 j q.1 (by rw [zA hj,e])
   rw [(hq2.row q h).2.1] at e2;cases e2⟩
  have hk9:(ci.2.map V.int).length=kd:=by rw [zB];exact h9l
  have hkn:(((ci.2.map V.int).length:Nat):Int).toNat=kd:=by rw [hk9];omega
  have h93:=(smH sb3) _ _ h9i
  have nn:=fun h j=>sumQ_nn (el:=elN es) (fun q hq x hx=>((hq2.val q hq).2 x hx).1) i h j
  have nd1:=hq2.nd
  have val1:=hq2.val
  have row1:=fun q h=>(hq2.row q h).2
  clear hq2 hA2 sb2 hq hA sb sm etop elh zq hpi npq
  refine qb6 (SqL.of ((smH sb3) _ _ hC)) xc ?_
  left
  rw [hkn]
  have lnd:(qad (elN es) i).Nodup:=List.Pairwise.imp (fun h z=>by omega) pw
  refine qcs (fun j σ H4=>∃(cur:List Int) (Y:Nat->Nat->Int) (w1 w2 w3 w4:Option V),σ=[some (V.ref a),some (V.ref le),some (V.ref lc),some (V.int c),some (V.ref ll),some (V.ref lp),some (V.int ki),w1,w2,w3,w4]/\SB ls H1 H4/\H4 lp=some (.lst (qsV qs++ [.ref pi]))/\H4 pi=some (.lst (cur.map V.int))/\H4 lh=some (.lst ((qad (elN es) i).map iV))/\(∀q∈qs,H4 q.1=some (.lst (q.2.map V.int)))/\cur.length=j/\(∀x∈cur,0<=x/\x<=10^30)/\qc0 H4 ls kd Y/\
    ∀h j',h < es.length+1->j' < kd->0<=Y h j'/\Y h j'=atQ cs h j' - sumQ (elN es) qs i h j' - (if h∈qad (elN es) i then (cur[j']?).getD 0 else 0))
   ⟨[],X,_,_,_,_,rfl,sb3,e3lp,e3pi,e3lh,e3q,rfl,fun x h=>by simp at h,hA3,fun h j' hh hj'=>⟨(hX h j' hh hj').1,by rw [(hX h j' hh hj').2];simp⟩⟩ ?_ ?_
  .rintro j σ H4 hj ⟨cur,Y,w1,w2,w3,w4,rfl,sb4,e4lp,e4pi,e4lh,e4q,hcl,hcur,hA4,hY⟩
   clear e3lp e3pi e3lh e3q hA3 sb3 hX h93 hkn hk9
   rw [Int.zero_add]
   have e4le:H4 le=some (.lst (las.map V.ref)):=sb4 le _ (s1 _ _ hE.top) (notL hE.top)
   have e4ll:H4 ll=some (.lst (ls.map V.ref)):=sb4 ll _ eL1 fun hm=>(hls ll hm).1 rfl
   have xl:∀h,h < es.length+1->∃l,ls[h]?=some l/\atI (ls.map V.ref) ((h:Nat):Int)=some (.ref l):=fun h hh=>⟨ls[h],zA (by omega),qaw (by rw [zC,zA (by omega)];rfl)⟩
   have xj:∀f:Nat->Int,atI (colV kd f) ((j:Nat):Int)=some (V.int (f j)):=fun f=>colV_at f hj
   generalize hji:((j:Nat):Int)=ji at*
   left
   refine qb6 (SqL.of e4le) alh ?_
   left
   intro C s0 H0 fp acc hacc
   refine qf9 (qad (elN es) i).length (fun c Hc=>Hc=upd H4 acc (.lst ((((qad (elN es) i).take c).map fun h=>Y h j).map V.int))) rfl ?_ ?_ ?_ ?_
   .rintro c Hc hc rfl
    exact⟨_,iV (qad (elN es) i)[c],SqL.of (qab e4lh hacc),by rw [zC,zA hc];rfl⟩
   .rintro Hc rfl
    exact⟨_,SqL.of (qab e4lh hacc),by rw [zB];exact Nat.le_refl _⟩
   .rintro c Hc v Hd hc rfl ⟨rfl,hv⟩
    have hv:=hv _ (SqL.of (qab e4lh hacc))
    rw [zC,zA hc] at hv
    cases hv
    have tk:(qad (elN es) i).take (c+1)=(qad (elN es) i).take c++ [(qad (elN es) i)[c]]:=by rw [zM,zA hc];rfl
    have hh:=lle _ (zO hc)
    have hcl2:=qcb low i hi
    generalize (qad (elN es) i)[c]=h at*
    obtain⟨l,hl,al⟩:=xl h (by omega)
    have zl:((((qad (elN es) i).take c).map fun h=>Y h j).map V.int).length < sizeLine:=by rw [zB,zB,zU];show _ < 16777216;omega
    unfold iV
    left
    refine qb6 (SqL.of (qab e4ll hacc)) al ?_
    left
    refine qb6 (SqL.of (qab (hA4 h l hl) hacc)) (xj _) ?_
    left
    rw [qbj,tk,zE,zE]
    rfl
   rintro Hc rfl
   rw [zR]
   have s5:=qa6 hacc (.lst (((qad (elN es) i).map fun h=>Y h j).map V.int))
   have e5:upd H4 acc (.lst (((qad (elN es) i).map fun h=>Y h j).map V.int)) acc=some (.lst (((qad (elN es) i).map fun h=>Y h j).map V.int)):=qa2
   generalize upd H4 acc (.lst (((qad (elN es) i).map fun h=>Y h j).map V.int))=H5 at*
   left
   refine r_minL (SqL.of e5) (by rw [zB];exact List.length_pos_of_mem (qcm low hi)) fun m hm hmin=>?_
   have mle:∀h∈qad (elN es) i,m<=Y h j:=fun h hh=>hmin _ (zI.mpr ⟨h,hh,rfl⟩)
   have cj:(cur[j]?).getD 0=0:=by rw [yJ (by omega)];rfl
   obtain⟨m0,m9⟩:0<=m/\m<=10^30:=by
    obtain⟨h,hh,rfl⟩:=zI.mp hm
    have z:=hY h j (by have:=lle h hh;omega) hj
    have z2:=nn h j
    rw [cj] at z
    have:(if h∈qad (elN es) i then (0:Int) else 0)=0:=by split <;> rfl
    rw [this] at z
    have:=(h9.bd h j).2
    omega
   clear hm hmin e5 hacc
   left
   rename_i pm hpm
   refine qbz (by omega) (by omega) (by decide) (by decide) fun r r0 r1=>?_
   refine r_menu (xs:=[0,m,m.fdiv 2]) (SqL.of qa2) r0 r1 fun pt hpt=>?_
   obtain⟨p0,pm'⟩:0<=pt/\pt<=m:=by
    have ed:m.fdiv 2=m / 2:=Int.fdiv_eq_ediv_of_nonneg m (by decide)
    simp only [zK,yG,or_false] at hpt
    rw [ed] at hpt
    omega
   have s6:=s5.trans (qa6 hpm (.lst [.int 0,.int m,.int (m.fdiv 2)]))
   generalize upd H5 pm (.lst [.int 0,.int m,.int (m.fdiv 2)])=H6 at*
   have e6lp:=s6 _ _ e4lp
   have e6pi:=s6 _ _ e4pi
   have e6lh:=s6 _ _ e4lh
   have e6q:∀q∈qs,H6 q.1=some (.lst (q.2.map V.int)):=fun q h=>s6 _ _ (e4q q h)
   have hA6:=hA4.same s6
   have sb6:=sb4.new s6
   have zc:(cur.map V.int).length < sizeLine:=by rw [zB];show _ < 16777216;omega
   have xpi:atI (qsV qs++ [V.ref pi]) ki=some (.ref pi):=by
    rw [<-hki]
    refine qaw ?_
    rw [yC (by unfold qsV;rw [zB];omega)]
    unfold qsV
    rw [zB,hql,Nat.sub_self]
    rfl
   clear hpt r0 r1 s5 s6 e4lp e4pi e4lh e4q hA4 sb4 e4ll hpm
   left
   refine qb6 (SqL.of e6lp) xpi ?_
   left
   have ecur:cur.map V.int++ [V.int pt]=(cur++ [pt]).map V.int:=by rw [zE];rfl
   rw [ecur]
   have e7lp:upd H6 pi (.lst ((cur++ [pt]).map V.int)) lp=some (.lst (qsV qs++ [.ref pi])):=by rw [qa7 nplp];exact e6lp
   have e7pi:upd H6 pi (.lst ((cur++ [pt]).map V.int)) pi=some (.lst ((cur++ [pt]).map V.int)):=qa2
   have e7lh:upd H6 pi (.lst ((cur++ [pt]).map V.int)) lh=some (.lst ((qad (elN es) i).map iV)):=by rw [qa7 nplh];exact e6lh
   have e7q:∀q∈qs,upd H6 pi (.lst ((cur++ [pt]).map V.int)) q.1=some (.lst (q.2.map V.int)):=fun q h=>by rw [qa7 (nlhq q h).2.1];exact e6q q h
   have hA7:=hA6.other (o:=.lst ((cur++ [pt]).map V.int)) npL
   have sb7:SB ls H1 (upd H6 pi (.lst ((cur++ [pt]).map V.int))):=sb6.put (.inl n1pi)
   generalize upd H6 pi (.lst ((cur++ [pt]).map V.int))=H7 at*
   clear e6lp e6pi e6lh e6q hA6 sb6 zc
   have e7le:H7 le=some (.lst (las.map V.ref)):=sb7 le _ (s1 _ _ hE.top) (notL hE.top)
   left
   refine qb6 (SqL.of e7le) alh ?_
   left
   refine qde (xs:=(qad (elN es) i).map iV) (fun c' σ H8=>∃w:Option V,σ=[some (V.ref a),some (V.ref le),some (V.ref lc),some (V.int c),some (V.ref ll),some (V.ref lp),some (V.int ki),some (V.int ji),some (V.int m),some (V.int pt),w]/\SB ls H1 H8/\H8 lp=some (.lst (qsV qs++ [.ref pi]))/\H8 pi=some (.lst ((cur++ [pt]).map V.int))/\H8 lh=some (.lst ((qad (elN es) i).map iV))/\(∀q∈qs,H8 q.1=some (.lst (q.2.map V.int)))/\qc0 H8 ls kd fun h j'=>if h∈(qad (elN es) i).take c'/\j'=j then Y h j' - pt else Y h j')
    ⟨_,rfl,sb7,e7lp,e7pi,e7lh,e7q,hA7.cast fun h j' _ _=>by rw [if_neg (by simp)]⟩ ?_ ?_ ?_
   .rintro c' σ H8 _ ⟨w,_,_,_,_,e,_⟩
    exact SqL.of e
   .rintro c' x σ H8 hx ⟨w,rfl,sb8,e8lp,e8pi,e8lh,e8q,hA8⟩
    rw [zC] at hx
    obtain⟨h,hh,rfl⟩:=Option.map_eq_some_iff.mp hx
    have hc':c' <(qad (elN es) i).length:=(List.getElem?_eq_some_iff.mp hh).1
    have tk:(qad (elN es) i).take (c'+1)=(qad (elN es) i).take c'++ [h]:=by rw [zM,hh];rfl
    have hin:=lle h (zD hh)
    have hnt:h∉(qad (elN es) i).take c':=fun hm=>by
     obtain⟨b,hb,e⟩:=zQ.mp hm
     rw [zU] at hb
     rw [List.getElem_take] at e
     obtain⟨g1,g2⟩:=List.getElem?_eq_some_iff.mp hh
     exact(zY.mp lnd) b c' (by omega) hc' (by omega) (e.trans g2.symm)
    obtain⟨l,hl,al⟩:=xl h (by omega)
    have hlm:=zD hl
    have e8ll:H8 ll=some (.lst (ls.map V.ref)):=sb8 ll _ eL1 fun hm=>(hls ll hm).1 rfl
    have e8l:=hA8 h l hl
    have yv:(if h∈(qad (elN es) i).take c'/\j=j then Y h j - pt else Y h j)=Y h j:=if_neg fun z=>hnt z.1
    have xv:=xj fun j'=>if h∈(qad (elN es) i).take c'/\j'=j then Y h j' - pt else Y h j'
    rw [yv] at xv
    clear hx
    unfold iV
    left
    refine qb6 (SqL.of e8ll) al ?_
    left
    refine qb6 (SqL.of e8l) xv ?_
    left
    refine qb6 (SqL.of e8ll) al ?_
    left
    refine r_lpk e8l (k:=j) (by rw [colV_len];exact hj) ?_ hji.symm
    rw [colV_set _ _ hj]
    have nl:∀a,a∉ls->a≠l:=fun a ha z=>ha (z ▸ hlm)
    left
    refine⟨_,rfl,sb8.put (.inr hlm),by rw [qa7 (nl lp nlpL)];exact e8lp,by rw [qa7 (nl pi npL)];exact e8pi,by rw [qa7 (nl lh nlhL)];exact e8lh,fun q hq=>by rw [qa7 (nl q.1 (nlhq q hq).2.2.2)];exact e8q q hq,(hA8.put nd hl).cast fun a b ha hb=>?_⟩
    try dsimp only
    rw [tk]
    by_cases ca:a=h
    .rw [if_pos ca,ca]
     by_cases cb:b=j
     .rw [if_pos cb,if_pos ⟨zJ _ (zG.mpr rfl),cb⟩,cb]
     .rw [if_neg cb,if_neg (fun z=>cb z.2),if_neg (fun z=>cb z.2)]
    .rw [if_neg ca]
     by_cases cm:a∈(qad (elN es) i).take c'/\b=j
     .rw [if_pos cm,if_pos ⟨yH _ cm.1,cm.2⟩]
     .rw [if_neg cm,if_neg fun z=>(zV.mp z.1).elim (fun z1=>cm ⟨z1,z.2⟩) fun z1=>ca (zG.mp z1)]
   .rintro σ H8 ⟨w,rfl,sb8,e8lp,e8pi,e8lh,e8q,hA8⟩
    rw [zB,zR] at hA8
    left
    refine⟨cur++ [pt],_,_,_,_,_,rfl,sb8,e8lp,e8pi,e8lh,e8q,by rw [zH,hcl];rfl,fun x hx=>?_,hA8,fun h j' hh hj'=>?_⟩
    .rcases zV.mp hx with z|z
     .exact hcur x z
     .rw [zG.mp z];omega
    .obtain⟨y0,y1⟩:=hY h j' hh hj'
     by_cases cj':j'=j
     .subst cj'
      rw [cj] at y1
      have eg:((cur++ [pt])[j']?).getD 0=pt:=by rw [yC (by omega),hcl,Nat.sub_self];rfl
      rw [eg]
      by_cases ch:h∈qad (elN es) i
      .have:=mle h ch
       rw [if_pos ch] at y1 ⊢
       rw [if_pos ⟨ch,rfl⟩]
       omega
      .rw [if_neg ch] at y1 ⊢
       rw [if_neg fun z=>ch z.1]
       exact⟨y0,y1⟩
     .have eg:((cur++ [pt])[j']?).getD 0=(cur[j']?).getD 0:=by
       by_cases lt:j' < cur.length
       .rw [yF lt]
       .rw [yJ (l:=cur) (by omega),yJ (by rw [zH,yB];omega)]
      rw [eg,if_neg fun z=>cj' z.2]
      exact⟨y0,y1⟩
  .rintro σ H4 ⟨cur,Y,w1,w2,w3,w4,rfl,sb4,e4lp,e4pi,e4lh,e4q,hcl,hcur,hA4,hY⟩
   left
   refine⟨qs++ [(pi,cur)],Y,_,_,_,_,_,rfl,sb4,⟨by rw [e4lp];unfold qsV;rw [zE];rfl,fun q hq=>?_,?_,fun q hq=>?_⟩,by rw [zH,hql];rfl,hA4,fun h j' hh hj'=>?_⟩
   .rcases zV.mp hq with z|z
    .exact⟨e4q q z,row1 q z⟩
    .rw [zG.mp z];exact⟨e4pi,n1pi,nplp.symm⟩
   .rw [zE]
    exact yL.mpr ⟨nd1,yA.mpr ⟨by simp,yK⟩,fun a ha b hb=>by
     have eb:b=pi:=by simpa using hb
     obtain⟨q,hq,rfl⟩:=zI.mp ha
     rw [eb]
     exact(nlhq q hq).2.1⟩
   .rcases zV.mp hq with z|z
    .exact val1 q z
    .rw [zG.mp z];exact⟨hcl,hcur⟩
   .have z:sumQ (elN es) (qs++ [(pi,cur)]) (qs.length+1) h j'=sumQ (elN es) qs qs.length h j'+(if h∈qad (elN es) qs.length then (cur[j']?).getD 0 else 0):=sumQ_snoc (elN es) qs (pi,cur) h j'
    rw [hql] at z
    rw [z]
    obtain⟨y0,y1⟩:=hY h j' hh hj'
    exact⟨y0,by rw [y1,Int.sub_sub]⟩
 .rintro σ H' ⟨qs,X,w1,w2,w3,w4,w5,rfl,sb,hq,hql,hA,hX⟩
  left
  exact q lp qs H' (fun b o hb=>sb b o (s1 b o hb) (notL hb)) hq.top hql (fun x hx=>⟨(hq.row x hx).1,hq.val x hx⟩) fun h j hh hj=>by
   have:=hX h j hh hj
   omega
def csD (cs:List Pq) (k:Nat):List Int:=match cs[k]? with
 |some c=>c.2
 |none=> []
def csA (cs:List Pq) (k:Nat):Addr:=match cs[k]? with
 |some c=>c.1
 |none=>0
def csT (ws:List Str) (cs:List Pq):List Pt:=cs.map fun c=>⟨0,tdK (ws.zip c.2),tdF (ws.zip c.2)⟩
theorem CsAt.at {H:Hp} {kd:Nat} {cs:List Pq} (h:CsAt H kd cs) {k:Nat} (hk:k < cs.length):H (csA cs k)=some (.lst ((csD cs k).map V.int))/\(csD cs k).length=kd/\(∀x∈csD cs k,0<=x/\x<=10^30)/\atI (qsV cs) ((k:Nat):Int)=some (.ref (csA cs k)):=by
 have e:=zA hk
 have z:=h _ (zO hk)
 unfold csA csD
 rw [e]
 exact⟨z.1,z.2.1,z.2.2,qaw (by unfold qsV;rw [zC,e];rfl)⟩
theorem csT_at {ws:List Str} {cs:List Pq} {k:Nat} (hk:k < cs.length):(csT ws cs)[k]?=some ⟨0,tdK (ws.zip (csD cs k)),tdF (ws.zip (csD cs k))⟩:=by
 have e:=zA hk
 unfold csT csD
 rw [zC,e];rfl
def mkP (ws nm:List Str) (es:List Nat) (ts:List Pt) (cs:List Pq):PL:=⟨0,0,0,0,0,ws,nm,es,ts,csT ws cs⟩
theorem mkP_ok {H:Hp} {ws nm:List Str} {es:List Nat} {ts:List Pt} {qs cs:List Pq} (hcl:cs.length=es.length+1) (hcs:CsAt H ws.length cs) (hw:Nms ws ws.length) (w1:1<=ws.length) (w3:ws.length<=6) (hn:Nms nm (es.length+1)) (h11:es.length<=11) (lo:∀(k e:Nat),es[k]?=some e->e<=k/\e<=10)
  (hts:ts.map (fun t=>(t.k,t.f))=qs.map fun q=>(tdK (ws.zip q.2),tdF (ws.zip q.2))) (hql:qs.length=es.length+1) (hq:∀q∈qs,q.2.length=ws.length/\∀x∈q.2,0<=x/\x<=10^30) (hs:∀h j,h < es.length+1->j < ws.length->sumQ (elN es) qs (es.length+1) h j<=atQ cs h j):PlF (mkP ws nm es ts cs):=by
 have htl:ts.length=es.length+1:=by have:=congrArg List.length hts;rw [zB,zB] at this;omega
 have htk:∀(k:Nat) (t:Pt),ts[k]?=some t->∃q,qs[k]?=some q/\t.k=tdK (ws.zip q.2)/\t.f=tdF (ws.zip q.2):=fun k t ht=>by
  have z:=congrArg (fun l=>l[k]?) hts
  simp only [zC,ht] at z
  cases e:qs[k]? with
  |none=>rw [e] at z;cases z
  |some q=>
   rw [e] at z
   have z':(t.k,t.f)=(tdK (ws.zip q.2),tdF (ws.zip q.2)):=Option.some.inj z
   exact⟨q,rfl,(Prod.mk.inj z').1,(Prod.mk.inj z').2⟩
 refine⟨w1,w3,hw.good,hw.nd,hn.len,by show nm.length<=12;rw [hn.len];omega,hn.good,hn.nd,lo,by show ts.length=nm.length;rw [hn.len];exact htl,by show (csT ws cs).length=nm.length;unfold csT;rw [zB,hn.len];exact hcl,fun t ht=>?_,fun t ht=>?_,fun j t ht v hv=>?_⟩
 .obtain⟨k,hk,e⟩:=zQ.mp ht
  obtain⟨q,h1,h2,h3⟩:=htk k t (by rw [<-e];exact zA hk)
  rw [h2,h3]
  exact⟨qem _,qfj (hq q (zD h1)).1.symm hw.nd fun p hp=>((hq q (zD h1)).2 p hp).2⟩
 .obtain⟨c,hc,rfl⟩:=zI.mp ht
  exact⟨qem _,qfj (hcs c hc).2.1.symm hw.nd fun p hp=>((hcs c hc).2.2 p hp).2⟩
 .have hj:j < es.length+1:=by
   have:=(List.getElem?_eq_some_iff.mp ht).1
   rw [show (mkP ws nm es ts cs).tc=csT ws cs from rfl] at this
   unfold csT at this
   rw [zB] at this
   omega
  have e:t=⟨0,tdK (ws.zip (csD cs j)),tdF (ws.zip (csD cs j))⟩:=Option.some.inj (ht.symm.trans (csT_at (by omega)))
  subst e
  obtain⟨_,cl,cb,_⟩:=hcs.at (show j < cs.length by omega)
  obtain⟨a,ha,rfl⟩:=zQ.mp hv
  have ha:a < ws.length:=ha
  have g9:gN (tdF (ws.zip (csD cs j))) ws[a]=atQ cs j a:=by
   rw [tdF_gN cl.symm hw.nd (fun p hp=>(cb p hp).1) ha (by rw [cl];exact ha)]
   have e:=zA (show j < cs.length by omega)
   unfold atQ
   rw [e]
   show _=((cs[j]'(by omega)).2[a]?).getD 0
   have e2:csD cs j=(cs[j]'(by omega)).2:=by unfold csD;rw [e]
   rw [<-e2,zA (by rw [cl];exact ha)];rfl
  show (qdo ts.length fun k=>if j∈qad (elN es) k then ptN ts k ws[a] else 0)<=gN (tdF (ws.zip (csD cs j))) ws[a]
  rw [g9,htl]
  refine Int.le_trans (Int.le_of_eq ?_) (hs j a hj ha)
  unfold sumQ
  refine qe3 fun k hk=>?_
  have hkt:k < ts.length:=by omega
  obtain⟨q,h1,h2,h3⟩:=htk k ts[k] (zA hkt)
  have hqm:=hq q (zD h1)
  have e1:ptN ts k ws[a]=atQ qs k a:=by
   unfold ptN atQ
   rw [zA hkt,h1]
   show gN ts[k].f ws[a]=(q.2[a]?).getD 0
   rw [h3,tdF_gN hqm.1.symm hw.nd (fun p hp=>(hqm.2 p hp).1) ha (by omega),zA (by omega)]
   rfl
  rw [e1]
theorem line_head (el:Nat->Nat) (k:Nat):(qad el k)[0]?=some k:=by cases k <;> rfl
def whf (K:Frag) (d:Ad):Sp:=fun vs H Q _=>∃(a:Addr) (ns:List Int) (wt ln lw le lr la lc:Addr) (las:List Addr) (cs:List Pq) (nm ws:List Str) (es:List Nat),vs=[.ref a,.ref wt]/\SqL K H a (ns.map V.int)/\ns.length<=63/\H wt=some (.tup [.ref ln,.ref lw,.ref le,.ref lr,.ref la,.ref lc])/\H ln=some (.lst (nm.map V.str))/\H lw=some (.lst (ws.map V.str))/\LnsAt H le las es/\H lc=some (.lst (qsV cs))/\cs.length=es.length+1/\CsAt H ws.length cs/\
 Nms nm (es.length+1)/\Nms ws ws.length/\1<=ws.length/\ws.length<=6/\es.length<=11/\
 ∀(t:Addr) (S:Ts) (P:PL) (wt:Nat->Int) (H':Hp),qaq H H'->P.nm=nm->P.ws=ws->P.es=es->P.tc=csT ws cs->PlF P->qed d H' t S->TInv S P nm.length wt->Q (.ref t) H'
include T in
theorem wh3:FnOk P w K mg base CX0 20 d.wfh d.wcy ["_law_script","_law_world_here"] (whf K d):=by
 refine T.wgi.ok w3u (fun vs H Q E h=>?_) (fun cdv A outer s H vs Q E hr h=>?_)
 .obtain⟨a,ns,wt,ln,lw,le,lr,la,lc,las,cs,nm,ws,es,rfl,_⟩:=h;rfl
 obtain⟨a,ns,wt,ln,lw,le,lr,la,lc,las,cs,nm,ws,es,rfl,hSa,h63,hwt,hN,hW,hE,hC,hcl,h9,hn,hw,w1,w3,h11,q⟩:=h
 have lo:=hE.lo
 refine⟨_,(qa3 (qfb (pv 1) (qdm rfl (qag (qac (i:=2) w3u.nd rfl (Or.inl rfl)) (qag (qac (i:=3) w3u.nd rfl (Or.inr rfl)) (qag (qac (i:=4) w3u.nd rfl (Or.inl rfl)) (qag (qac (i:=5) w3u.nd rfl (Or.inl rfl)) (qag (qac (i:=6) w3u.nd rfl (Or.inl rfl)) (qag (qac (i:=7) w3u.nd rfl (Or.inl rfl)) qch))))))))
  (qa3 (qd6 (j:=8) (caps:=[3]) (cn:=["_law_wares"]) (qb4 rfl rfl (by rfl) (by rfl) rfl ⟨rfl,trivial⟩ (by rfl) rfl ⟨⟨rfl,rfl,rfl,rfl,_,rfl⟩,trivial⟩ (by decide)) rfl w3u.nd rfl rfl (qau (qa9 ((wdb T).mono (by decide)) hr rfl T.wdz T.wa4.kp T.we9 .nil qah (qa0 (pv 0) (qa0 (pv 4) (qa0 (pv 7) qa1))))) (fun _ _ _ _=>qck) (fun _ _ _ _=>(qa9 ((w6b T).mono (by decide)) hr rfl T.w8r T.w7s.kp T.w8f .nil qah (qa0 (pv 1) (qa0 (pv 0) qa1)))))
  (qa3 (qaf (i:=9) w3u.nd rfl (Or.inl rfl) (pe_makeX (W:=fun _ _ _ _=>False) T.w8q ((wc0 T).mono (by decide)) hr rfl T.whp T.wbl T.wc4 qej (qa0 (qb8 qcn rfl T.w7r PyProof.Rows.boot_list (qa0 (pv 3) qa1)) (qa0 (qan qak (pv 2) qa4 (fun _ _=>rfl)) (qa0 (qan qak (pv 8) qa4 (fun _ _=>rfl)) (qa0 (qa9 ((w6b T).mono (by decide)) hr rfl T.w8r T.w7s.kp T.w8f .nil qah (qa0 (pv 3) (qa0 (qan qak (pv 7) qa4 (fun _ _=>rfl)) qa1))) qa1))))))
  (qa3 (qb7 PassesOwn.never rfl (pi_range2 rfl T.w3i (qa0 qa4 (qa0 (qaj qb0 rfl T.w3o PySem.boot_len (qa0 (pv 2) qa1)) qa1))) (qac (i:=10) w3u.nd rfl (Or.inl rfl)) (qa5 (qb2 (qb1 (W:=fun _ _ _ _=>False) (pv 9) T.w01 T.w1s ((wap T).mono (by decide)) hr T.war T.wat qej (qa0 (qan qak (pv 2) (pv 10) (fun _ _=>rfl)) (qa0 (qan qak (pv 2) (qan qak (qan qak (pv 4) (pv 10) (fun _ _=>rfl)) qa4 (fun _ _=>rfl)) (fun _ _=>rfl)) (qa0 (qan qak (pv 8) (pv 10) (fun _ _=>rfl)) (qa0 (qa9 ((w6b T).mono (by decide)) hr rfl T.w8r T.w7s.kp T.w8f .nil qah (qa0 (pv 3) (qa0 (qan qak (pv 7) (pv 10) (fun _ _=>rfl)) qa1))) qa1))))))))
  (qa5 (qai (pv 9))))))),?_⟩
 walk_at "d"
 try dsimp only [cxC]
 refine qae (σ:=[some (.ref a),some (.ref wt),none,none,none,none,none,none,none,none,none]) rfl ?_
 have ct:=T.w01
 left
 refine⟨a,ns,le,lc,las,cs,es,ws.length,rfl,hSa,h63,hE,h11,hC,hcl,h9,w3,fun lq qs H1 s1 elq hql hq hsum=>?_⟩
 have hW1:=s1 _ _ hW
 left
 intro C s0 H0 fp ld hld
 refine qf9 qs.length (fun i H'=>∃ts:List Pt,qaq H1 H'/\H' ld=some (.lst (ts.map fun t=> .ref t.a))/\ts.map (fun t=>(t.k,t.f))=(qs.take i).map (fun q=>(tdK (ws.zip q.2),tdF (ws.zip q.2)))/\∀t∈ts,H' t.a=some (.dK t.k)/\t.a≠ld) ⟨[],qa6 hld _,qa2,rfl,fun t h=>by simp at h⟩ ?_ ?_ ?_ ?_
 .rintro i H' hi ⟨ts,sm,_⟩
  exact⟨_,.ref qs[i].1,SqL.of (sm _ _ elq),by unfold qsV;rw [zC,zA hi];rfl⟩
 .rintro H' ⟨ts,sm,_⟩
  exact⟨_,SqL.of (sm _ _ elq),by unfold qsV;rw [zB];exact Nat.le_refl _⟩
 .rintro i H' v H'' hi ⟨ts,sm,eD,hts,hT⟩ ⟨rfl,hv⟩
  have hv:=hv _ (SqL.of (sm _ _ elq))
  unfold qsV at hv
  rw [zC,zA hi] at hv
  cases hv
  have tk:qs.take (i+1)=qs.take i++ [qs[i]]:=by rw [zM,zA hi];rfl
  obtain⟨q1,q2,q3⟩:=hq _ (zO hi)
  have htl:ts.length=i:=by have:=congrArg List.length hts;rw [zB,zB,zU] at this;omega
  generalize qs[i]=qi at*
  have zl:(ts.map fun t=>V.ref t.a).length < sizeLine:=by rw [zB];show _ < 16777216;omega
  left
  refine⟨lw,qi.1,ws,qi.2,rfl,SqL.of (sm _ _ hW1),SqL.of (sm _ _ q1),q2.symm,by omega,fun l H3 s3 hl el=>?_⟩
  have eD3:=s3 _ _ eD
  have nl:l≠ld:=(qaa eD hl).symm
  refine⟨_,eD3,zl,ts++ [⟨l,tdK (ws.zip qi.2),tdF (ws.zip qi.2)⟩],qay (sm.trans s3) hld,by rw [qa2,zE];rfl,by rw [zE,hts,tk,zE];rfl,fun t ht=>?_⟩
  rcases zV.mp ht with h|h
  .exact⟨by rw [qa7 (hT t h).2];exact s3 _ _ (hT t h).1,(hT t h).2⟩
  .rw [zG.mp h]
   exact⟨by rw [qa7 nl];exact el,nl⟩
 rintro H2 ⟨ts,s2,eD,hts,hT⟩
 rw [zR] at hts
 have pf:PlF (mkP ws nm es ts cs):=mkP_ok hcl h9 hw w1 w3 hn h11 lo hts hql (fun q h=>(hq q h).2) hsum
 have s02:=s1.trans s2
 have hlen:=hn.len
 have etp:(mkP ws nm es ts cs).tp=ts:=rfl
 have etc:(mkP ws nm es ts cs).tc=csT ws cs:=rfl
 have ews:(mkP ws nm es ts cs).ws=ws:=rfl
 have enm:(mkP ws nm es ts cs).nm=nm:=rfl
 have ees:(mkP ws nm es ts cs).es=es:=rfl
 generalize mkP ws nm es ts cs=P at*
 subst etp ews enm ees
 have nlc:P.nm.length=cs.length:=by have:=pf.nl;omega
 have tcE:∀k,k < P.nm.length->tfF P.tc k=tdF (P.ws.zip (csD cs k)):=fun k hk=>by unfold tfF;rw [etc,csT_at (by omega)]
 have tcF:∀k,k < P.nm.length->Fin P.ws (tdF (P.ws.zip (csD cs k))):=fun k hk=>(qfj (h9.at (by omega)).2.1.symm hw.nd fun p hp=>((h9.at (by omega)).2.2.1 p hp).2).fin (by decide)
 have tcL:∀k,k < P.nm.length->(tdK (P.ws.zip (csD cs k))).length<=1000:=fun k hk=>by
  have:=td_len (P.ws.zip (csD cs k))
  rw [List.length_zip] at this
  omega
 have nl:=pf.nl
 have n12:=pf.n12
 have gt:GoodT P.ws:=⟨pf.w1,by have:=pf.w3;omega,pf.wg,pf.wn⟩
 have hz0:P.nm[0]?=some (nmF P 0):=by rw [qd9 (by omega)];exact zA (by omega)
 have gz:qdr (nmF P 0)=true:=pf.ng _ (zD hz0)
 have xn0:atI (P.nm.map V.str) 0=some (.str (nmF P 0)):=qaw (j:=0) (by rw [zC,hz0];rfl)
 obtain⟨tp,tp1,tp2,tp3,tp4,tp5⟩:=qel pf (k:=0) (by omega)
 have xp:atI (P.tp.map fun t=>V.ref t.a) 0=some (.ref tp.a):=qaw (j:=0) (by rw [zC,tp1];rfl)
 obtain⟨h90,h90l,_,xc0⟩:=h9.at (k:=0) (by omega)
 have xc0:atI (qsV cs) 0=some (.ref (csA cs 0)):=xc0
 have lp1:tp.k.length<=1000:=by have:=tp4.le (fun z hz=>by cases e:tp.f z with|none=>exact absurd e hz|some n=>exact(tp5 z n e).1);omega
 have ole:=own_le pf (k:=0) (by omega)
 rw [tcE 0 (by omega)] at ole
 have hW2:=s02 _ _ hW
 left
 refine qeo (SqL.of hW2) fun h0 hh0=>?_
 have s3:=qa6 hh0 (.lst (P.ws.map V.str))
 have e0:upd H2 h0 (.lst (P.ws.map V.str)) h0=some (.lst (P.ws.map V.str)):=qa2
 generalize upd H2 h0 (.lst (P.ws.map V.str))=H3 at*
 have s03:=s02.trans s3
 have eD3:=s3 _ _ eD
 left
 refine qb6 (SqL.of (s03 _ _ hN)) xn0 ?_
 left
 refine qb6 (SqL.of eD3) xp ?_
 left
 refine qb6 (SqL.of (s03 _ _ hC)) xc0 ?_
 left
 refine⟨lw,csA cs 0,P.ws,csD cs 0,rfl,SqL.of (s03 _ _ hW),SqL.of (s03 _ _ h90),h90l.symm,by omega,fun h2 H4 s4 hh2 e2=>?_⟩
 have s04:=s03.trans s4
 have e1:=s4 _ _ (s3 _ _ (hT tp tp2).1)
 have e04:=s4 _ _ e0
 left
 intro x dx hx hdx ne
 have sN:∀b u,H4 b=some u->upd (upd H4 dx (.own x)) x (.ins d.w00 dx []) b=some u:=fun b u e=>by rw [qa7 (qaa e hx),qa7 (qaa e hdx)];exact e
 refine⟨x,dx,h0,tp.a,h2,nmF P 0,P.ws,tp.k,tdK (P.ws.zip (csD cs 0)),tp.f,tdF (P.ws.zip (csD cs 0)),1,rfl,qa2,sN _ _ e04,gt,gz,sN _ _ e1,tp4,lp1,sN _ _ e2,qem _,tcL 0 (by omega),tp5,tcF 0 (by omega),by decide,by decide,fun y=>by rw [<-tp3];exact ole y,fun S e H5 sb hTr hs' f1 f2 f3 f4 hl en' ee ew' efp efc hpm hso=>⟨rfl,?_⟩⟩
 have s5:qaq H4 H5:=fun b u e=>sb b u (qaa e hx) (sN b u e)
 have fr:H4 S.hs=none:=by
  cases r:H4 S.hs with
  |none=>rfl
  |some u=>rw [sN _ _ r] at hs';cases hs'
 have s05:=s04.trans s5
 have s25:=(s3.trans s4).trans s5
 have hs2:H2 S.hs=none:=(s3.trans s4).free fr
 have tI:TInv S P (1+0) (fun _=>(1:Int)):=⟨pl_one pf hl en' ee,hpm,hso,fun k e' he=>by
  rw [hl] at he
  have hk:=(List.getElem?_eq_some_iff.mp he).1
  have e0:k=0:=by rw [yB] at hk;omega
  subst e0
  have:e'=e:=by simpa using he.symm
  subst this
  exact⟨by rw [tp3];exact efp,by rw [tcE 0 (by omega)];exact efc,by rw [ew']⟩⟩
 have hnl2:(P.nm.map V.str).length=P.nm.length:=zB _
 have hrn1:((((P.nm.map V.str).length:Nat):Int) - 1).toNat=P.nm.length - 1:=by rw [hnl2];omega
 have en5:=s05 _ _ hN
 clear sN fr hs' sb f1 f2 f3 f4 hpm hso efp efc ew' ee hl en' s5 s4 s3 e0 e1 e2 e04 hx hdx ne hh0 hh2 xp xc0 tp4 tp5 tp1 tp2 tp3 lp1 ole gt xn0 gz hz0 hld eD3 elq hW1 hW2 s1 s03 s04
 left
 unfold iRng2
 left
 refine⟨1,_,rfl,⟨by decide,by decide,by rw [hnl2];omega,by rw [hnl2];omega⟩,?_⟩
 rw [hrn1]
 refine qcs (fun i σ H'=>∃(w:Option V) (S':Ts),σ=[some (V.ref a),some (V.ref wt),some (V.ref ln),some (V.ref lw),some (V.ref le),some (V.ref lr),some (V.ref la),some (V.ref lc),some (V.ref ld),some (V.ref x),w]/\H2 S'.hs=none/\qed d H' x S'/\TInv S' P (1+i) (fun _=>(1:Int))/\qaq H2 H') ⟨_,S,rfl,hs2,hTr,tI,s25⟩ ?_ ?_
 .rintro i σ H' hi ⟨w,S',rfl,hs1,hT',hI',sm⟩
  clear hTr tI s05 s25 hs2 en5
  have kn:1+i < P.nm.length:=by omega
  obtain⟨e',ae,een,hWf,hOw,hw50,h40,nk,line⟩:=hI'.ask pf (by omega) kn
  obtain⟨tp,tp1,tp2,tp3,tp4,tp5⟩:=qel pf kn
  have low:=pf.low P.nm.length (1+i) (by omega) kn
  have hb:i < P.es.length:=by omega
  have eb:elN P.es (1+i)=P.es[i]:=by rw [Nat.add_comm 1 i];exact elN_at hb
  obtain⟨lk,_,xl,elk⟩:=hE.at (k:=1+i) (by omega)
  have xe:atI ((qad (elN P.es) (1+i)).map iV) ((1:Nat):Int)=some (V.int ((elN P.es (1+i):Nat):Int)):=qaw (by rw [qc3 (pf.low P.nm.length) (by omega) kn,zS,List.getElem?_cons_succ,zC,line_head];try rfl)
  have xe:atI ((qad (elN P.es) (1+i)).map iV) 1=some (V.int ((elN P.es (1+i):Nat):Int)):=xe
  have xn2:atI (P.nm.map V.str) ((elN P.es (1+i):Nat):Int)=some (.str (nmF P (elN P.es (1+i)))):=by rw [qd9 (by omega)];exact qaw (by rw [zC,zA (by omega)];rfl)
  have xp:atI (P.tp.map fun t=>V.ref t.a) (((1+i:Nat)):Int)=some (.ref tp.a):=qaw (by rw [zC,tp1];rfl)
  obtain⟨h9k,h9kl,_,xc⟩:=h9.at (k:=1+i) (by omega)
  have xn:atI (P.nm.map V.str) (((1+i:Nat)):Int)=some (.str (nmF P (1+i))):=by rw [qd9 kn];exact qaw (by rw [zC,zA kn];rfl)
  have gzk:qdr (nmF P (1+i))=true:=by rw [qd9 kn];exact pf.ng _ (zO kn)
  have lp1:tp.k.length<=1000:=by have:=tp4.le (fun z hz=>by cases e:tp.f z with|none=>exact absurd e hz|some n=>exact(tp5 z n e).1);omega
  have ole:=own_le pf kn
  rw [tcE _ kn] at ole
  rw [show (1:Int)+(i:Int)=(((1+i:Nat)):Int) by omega]
  generalize ((elN P.es (1+i):Nat):Int)=ej at xe xn2
  generalize hki:(((1+i:Nat)):Int)=ki at*
  have s0':=s02.trans sm
  obtain⟨dx',ht'⟩:=id hT'.1
  have eD':=sm _ _ eD
  clear hrn1 hnl2
  left
  refine qb6 (SqL.of (s0' _ _ hN)) xn ?_
  left
  refine qb6 (SqL.of (s0' _ _ hE.top)) xl ?_
  left
  refine qb6 (SqL.of (s0' _ _ elk)) xe ?_
  left
  refine qb6 (SqL.of (s0' _ _ hN)) xn2 ?_
  left
  refine qb6 (SqL.of eD') xp ?_
  left
  refine qb6 (SqL.of (s0' _ _ hC)) xc ?_
  left
  refine⟨lw,csA cs (1+i),P.ws,csD cs (1+i),rfl,SqL.of (s0' _ _ hW),SqL.of (s0' _ _ h9k),h9kl.symm,by omega,fun h2 H4 s4 hh2 e2=>?_⟩
  have e1:=s4 _ _ (sm _ _ (hT tp tp2).1)
  left
  refine⟨x,tp.a,h2,S',nmF P (1+i),.str (nmF P (elN P.es (1+i))),tp.k,tdK (P.ws.zip (csD cs (1+i))),tp.f,tdF (P.ws.zip (csD cs (1+i))),1,rfl,hT'.same s4,gzk,nk,.inl ⟨_,rfl⟩,fun hn=>?_,fun e3 he3=>?_⟩
  .rw [show who S' (.str (nmF P (elN P.es (1+i))))=some e' from ae] at hn;cases hn
  .have e33:e'=e3:=Option.some.inj (ae.symm.trans he3)
   subst e33
   refine⟨hWf,hOw,hw50,e1,tp4,lp1,e2,qem _,tcL _ kn,fin_perm tp5 hI'.wp,fin_perm (tcF _ kn) hI'.wp,by decide,by decide,h40,by rw [<-tp3];exact line,fun y=>by rw [<-tp3];exact ole y,fun e4 H5 sb f1 f2 f3 hT5 n1 n2 n3 n4 n5=>?_⟩
   left
   refine⟨_,{S' with hl:=S'.hl++ [e4]},rfl,hs1,hT5,(hI'.next pf (by omega) kn n1 (by rw [n2,een]) n3 (by rw [tp3];exact n4) (by rw [tcE _ kn];exact n5)).cast fun j hj=>?_,fun b u e=>sb b u (qaa e hs1) ((sm.trans s4) b u e)⟩
   split <;> rfl
 rintro σ H' ⟨w,S',rfl,hs1,hT',hI',sm⟩
 left
 exact q x S' P _ H' (s02.trans sm) rfl rfl rfl etc pf hT' (by rw [show P.nm.length=1+(P.nm.length - 1) by omega];exact hI')
def tuO (n r:Int):Option Int:=if n%2=0 then none else some (1+r)
def we7 (K:Frag) (d:Ad):Sp:=fun vs H Q _=>∃(wt ln lw le lr la lc:Addr) (P:PL) (Rs:List Rw),vs=[.ref wt]/\H wt=some (.tup [.ref ln,.ref lw,.ref le,.ref lr,.ref la,.ref lc])/\H lr=some (.lst (rwV Rs))/\H ln=some (.lst (P.nm.map V.str))/\H lw=some (.lst (P.ws.map V.str))/\P.ws.length<=6/\Rs.length<=30/\(∀R∈Rs,RwAt H P.nm.length P.ws.length R)/\
 ∀(l:Addr) (bs:List Ob) (H':Hp),qaq H H'->H' l=some (.lst (bsV bs))->bs.map (·.R)=Rs.map (rrOf P.ws)->(∀b∈bs,ObAt d H' P b)->(∀b∈bs,b.t=tuO b.R.n b.R.r)->Q (.ref l) H'
include T in
theorem we2:FnOk P w K mg base CX0 3 d.w8b d.w71 ["_law_world_here"] (we7 K d):=by
 refine T.wby.ok w0a (fun vs H Q E h=>?_) (fun cdv A outer s H vs Q E hr h=>?_)
 .obtain⟨wt,ln,lw,le,lr,la,lc,P,Rs,rfl,_⟩:=h;rfl
 obtain⟨wt,ln,lw,le,lr,la,lc,P,Rs,rfl,hwt,hL,hN,hW,w3,h9,hR,q⟩:=h
 refine⟨_,(qa3 (qfb (pv 0) (qdm rfl (qag (qac (i:=1) w0a.nd rfl (Or.inl rfl)) (qag (qac (i:=2) w0a.nd rfl (Or.inl rfl)) (qag (qac (i:=3) w0a.nd rfl (Or.inl rfl)) (qag (qac (i:=4) w0a.nd rfl (Or.inl rfl)) (qag (qac (i:=5) w0a.nd rfl (Or.inl rfl)) (qag (qac (i:=6) w0a.nd rfl (Or.inl rfl)) qch))))))))
  (qa3 (qaf (i:=7) w0a.nd rfl (Or.inl rfl) (qbm qa1))
  (qa3 (qb7 PassesOwn.never rfl (qau (pv 4)) (qdm rfl (qag (qac (i:=8) w0a.nd rfl (Or.inl rfl)) (qag (qac (i:=9) w0a.nd rfl (Or.inl rfl)) (qag (qac (i:=10) w0a.nd rfl (Or.inl rfl)) (qag (qac (i:=11) w0a.nd rfl (Or.inl rfl)) (qag (qac (i:=12) w0a.nd rfl (Or.inl rfl)) qch)))))) (qa3 (qaf (i:=13) w0a.nd rfl (Or.inl rfl) (qan qak (qbm (qa0 qca (qa0 (qal qax qa4 (pv 11)) qa1))) (qal qc5 (pv 8) qa4) (fun _ _=>rfl)))
  (qa5 (qd5 (qbk (qbq (pv 12)) (qa5 (qb2 (qe8 PySem.F.plainAttrs_list PySem.F.slot_list_append PySem.F.type_list_append qb9 (pv 7) (qa0 (pe_make T.w8i ((w7f T).mono (by decide)) hr rfl T.whz T.w93 .nil qah (qa0 (pv 8) (qa0 (qan qak (pv 1) (pv 9) (fun _ _=>rfl)) (qa0 (qa9 ((w6b T).mono (by decide)) hr rfl T.w8r T.w7s.kp T.w8f .nil qah (qa0 (pv 2) (qa0 (pv 10) qa1))) (qa0 (pv 11) (qa0 (pv 13) qa1)))))) qa1)))) (qa5 (qb2 (qe8 PySem.F.plainAttrs_list PySem.F.slot_list_append PySem.F.type_list_append qb9 (pv 7) (qa0 (pe_make T.w8x ((w7f T).mono (by decide)) hr rfl T.whr T.w93 .nil qah (qa0 (pv 8) (qa0 (qan qak (pv 1) (pv 9) (fun _ _=>rfl)) (qa0 (qa9 ((w6b T).mono (by decide)) hr rfl T.w8r T.w7s.kp T.w8f .nil qah (qa0 (pv 2) (qa0 (pv 10) qa1))) (qa0 (pv 11) (qa0 (pv 13) qa1)))))) qa1)))))))))
  (qa5 (qai (pv 7)))))),?_⟩
 walk_at "d"
 refine qae (σ:=[some (.ref wt),none,none,none,none,none,none,none,none,none,none,none,none,none]) rfl ?_
 left
 rename_i l hl
 have s1:=qa6 hl (.lst [])
 have hL1:=s1 _ _ hL
 left
 refine qde (xs:=rwV Rs) (fun i σ H'=>∃(bs:List Ob) (w1 w2 w3 w4 w5 w6:Option V),σ=[some (V.ref wt),some (V.ref ln),some (V.ref lw),some (V.ref le),some (V.ref lr),some (V.ref la),some (V.ref lc),some (V.ref l),w1,w2,w3,w4,w5,w6]/\qaq H H'/\H' l=some (.lst (bsV bs))/\bs.map (·.R)=(Rs.take i).map (rrOf P.ws)/\(∀b∈bs,ObAt d H' P b)/\∀b∈bs,b.t=tuO b.R.n b.R.r)
  ⟨[],_,_,_,_,_,_,rfl,s1,qa2,rfl,fun b h=>by simp at h,fun b h=>by simp at h⟩ ?_ ?_ ?_
 .rintro i σ H' hi ⟨bs,w1,w2,w3,w4,w5,w6,rfl,sm,el,hbs,hB,hU⟩
  exact SqL.of (sm _ _ hL)
 .rintro i x σ H' hx ⟨bs,w1,w2,w3,w4,w5,w6,rfl,sm,el,hbs,hB,hU⟩
  unfold rwV at hx
  rw [zC] at hx
  obtain⟨R,hr,rfl⟩:=Option.map_eq_some_iff.mp hx
  have tk:Rs.take (i+1)=Rs.take i++ [R]:=by rw [zM,hr];rfl
  have hi9:i < Rs.length:=(List.getElem?_eq_some_iff.mp hr).1
  have hRi:=(hR R (zD hr)).same sm
  have hrow:=hRi.row
  have hbl:bs.length<=30:=by have:=congrArg List.length hbs;rw [zB,zB,zU] at this;omega
  have xn:atI (P.nm.map V.str) ((R.i:Nat):Int)=some (.str (nmF P R.i)):=by rw [qd9 hRi.il];exact qaw (by rw [zC,zA hRi.il];rfl)
  generalize hri:((R.i:Nat):Int)=ri at*
  clear hx
  left
  rename_i pm hpm
  have m0:=Int.emod_nonneg R.n (show (2:Int)≠0 by decide)
  have m1:=Int.emod_lt_of_pos R.n (show (0:Int) < 2 by decide)
  have hturn:∃t:Option Int,atI [V.non,V.int (1+R.r)] (R.n%2)=some (tV t)/\t=tuO R.n R.r:=by
   have hc:R.n%2=0\/R.n%2=1:=by omega
   rcases hc with c|c
   .exact⟨none,by rw [c];exact qaw (j:=0) rfl,by unfold tuO;rw [if_pos c]⟩
   .exact⟨some (1+R.r),by rw [c];exact qaw (j:=1) rfl,by unfold tuO;rw [if_neg (by omega)]⟩
  obtain⟨t,ht,htu⟩:=hturn
  refine qb6 (SqL.of qa2) ht ?_
  have s2:=qa6 hpm (.lst [V.non,V.int (1+R.r)])
  generalize upd H' pm (.lst [V.non,V.int (1+R.r)])=H1 at*
  clear m0 m1 ht hrow
  have hN1:=s2 _ _ (sm _ _ hN)
  have hW1:=s2 _ _ (sm _ _ hW)
  have hP1:=s2 _ _ hRi.par
  have el1:=s2 _ _ el
  have hB1:∀b∈bs,ObAt d H1 P b:=fun b hb=>(hB b hb).same s2
  have zl:(bsV bs).length < sizeLine:=by unfold bsV;rw [zB];show _ < 16777216;omega
  have fin:∀(x dx a m:Addr) (H2 H3:Hp),qaq H1 H2->H2 x=none->H2 dx=none->H2 a=some (.dK (tdK (P.ws.zip R.ps)))->upd (upd H2 dx (.own x)) x (.ins (qf8 d R.s) dx []) m=none->H3 x=some (.ins (qf8 d R.s) dx (fsB R.n (nmF P R.i) m R.r t))->H3 m=some (.dK (tdK (P.ws.zip R.ps)))->SameBut x (upd (upd H2 dx (.own x)) x (.ins (qf8 d R.s) dx [])) H3->
    qaq H1 H3/\H3 l=some (.lst (bsV bs))/\∃bs':List Ob,bsV bs'=bsV bs++ [.ref x]/\bs'.map (·.R)=(Rs.take (i+1)).map (rrOf P.ws)/\(∀b∈bs',ObAt d (upd H3 l (.lst (bsV bs++ [.ref x]))) P b)/\∀b∈bs',b.t=tuO b.R.n b.R.r:=fun x dx a m H2 H3 s3 hx hdx ha hm ex em sb=>by
   have nmx:m≠x:=fun z=>by subst z;rw [qa2] at hm;cases hm
   rw [qa7 nmx] at hm
   have s13:qaq H1 H3:=fun b o hb=>by
    have hb2:=s3 _ _ hb
    exact sb b o (qaa hb2 hx) (by rw [qa7 (qaa hb2 hx),qa7 (qaa hb2 hdx)];exact hb2)
   have el3:=s13 _ _ el1
   refine⟨s13,el3,bs++ [⟨rrOf P.ws R,x,m,t⟩],by unfold bsV;rw [zE];rfl,by rw [zE,hbs,tk,zE];rfl,fun b hb=>?_,fun b hb=>?_⟩
   rotate_left
   .rcases zV.mp hb with h|h
    .exact hU b h
    .rw [zG.mp h];exact htu
   have nel:∀y:Ob,ObAt d H3 P y->y.o≠l/\y.m≠l:=fun y hy=>by
    refine⟨fun z=>?_,fun z=>?_⟩
    .obtain⟨dx,e⟩:=hy.obj
     rw [z,el3] at e;cases e
    .have e:=hy.amt
     rw [z,el3] at e;cases e
   rcases zV.mp hb with h|h
   .have h1:=(hB1 b h).same s13
    exact h1.put (nel b h1).1 (nel b h1).2
   .have:b=⟨rrOf P.ws R,x,m,t⟩:=by simpa using h
    subst this
    have h1:ObAt d H3 P ⟨rrOf P.ws R,x,m,t⟩:=⟨⟨dx,ex⟩,em,qem _,tdF_in hRi.len.symm,hRi.il⟩
    exact h1.put (nel _ h1).1 (nel _ h1).2
  left
  refine r_cut0 ?_
  left
  refine i_b2 (fun hs=>?_) (fun hs=>?_)
  .have ec:qf8 d R.s=d.w0c:=by rw [hs];rfl
   left
   refine qb6 (SqL.of hN1) xn ?_
   left
   refine⟨lw,R.e,P.ws,R.ps,rfl,SqL.of hW1,SqL.of hP1,hRi.len.symm,by omega,fun a H2 s3 ha ea=>?_⟩
   left
   intro x dx hx hdx ne
   refine⟨x,dx,a,R.s,R.n,nmF P R.i,tdK (P.ws.zip R.ps),R.r,t,rfl,by rw [ec];exact qa2,by rw [qa7 (qaa ea hx),qa7 (qaa ea hdx)];exact ea,fun m H3 hm ex em sb=>⟨rfl,?_⟩⟩
   rw [<-ec] at hm sb
   obtain⟨s13,el3,bs',e1,e2,e3,e4⟩:=fin x dx a m H2 H3 s3 hx hdx ea hm ex em sb
   left
   exact⟨bs',_,_,_,_,_,_,rfl,qay ((sm.trans s2).trans s13) hl,by rw [qa2,e1],e2,e3,e4⟩
  .have ec:qf8 d R.s=d.w0b:=by rw [hs];rfl
   left
   refine qb6 (SqL.of hN1) xn ?_
   left
   refine⟨lw,R.e,P.ws,R.ps,rfl,SqL.of hW1,SqL.of hP1,hRi.len.symm,by omega,fun a H2 s3 ha ea=>?_⟩
   left
   intro x dx hx hdx ne
   refine⟨x,dx,a,R.s,R.n,nmF P R.i,tdK (P.ws.zip R.ps),R.r,t,rfl,by rw [ec];exact qa2,by rw [qa7 (qaa ea hx),qa7 (qaa ea hdx)];exact ea,fun m H3 hm ex em sb=>⟨rfl,?_⟩⟩
   rw [<-ec] at hm sb
   obtain⟨s13,el3,bs',e1,e2,e3,e4⟩:=fin x dx a m H2 H3 s3 hx hdx ea hm ex em sb
   left
   exact⟨bs',_,_,_,_,_,_,rfl,qay ((sm.trans s2).trans s13) hl,by rw [qa2,e1],e2,e3,e4⟩
 .rintro σ H' ⟨bs,w1,w2,w3,w4,w5,w6,rfl,sm,el,hbs,hB,hU⟩
  left
  rw [show Rs.take (rwV Rs).length=Rs by unfold rwV;rw [zB,zR]] at hbs
  exact q l bs H' sm el hbs hB hU
def qe2 (r:Int) (su:Bool) (R:Rw):Bool:=!R.s && (su || decide (R.r < r))
def wha (K:Frag) (d:Ad):Sp:=fun vs H Q _=>∃(la:Addr) (nh kd:Nat) (R:Rw) (h:Int) (pa:Addr) (r:Int) (su:Bool),vs=[.ref R.p,.ref la]/\RwAt H nh kd R/\H la=some (.tup [.int h,.ref pa,.int r,.bl su])/\Q (.bl (qe2 r su R)) H
include T in
theorem wf2:FnOk P w K mg base CX0 1 d.wfe d.wci ["_law_row","_law_ask"] (wha K d):=by
 refine T.wf4.ok wh6 (fun vs H Q E h=>?_) (fun cdv A outer s H vs Q E hr h=>?_)
 .obtain⟨la,nh,kd,R,h,pa,r,su,rfl,_⟩:=h;rfl
 obtain⟨la,nh,kd,R,h,pa,r,su,rfl,hR,hla,q⟩:=h
 refine⟨_,(qa5 (qai (qes (pe_not (qan qb3 (pv 0) qa4 (fun _ _=>rfl))) (qdv (pe_or (qan qb3 (pv 1) qa4 (fun _ _=>rfl)) (qdv (qbn op_lt (qan qb3 (pv 0) qa4 (fun _ _=>rfl)) (qan qb3 (pv 1) qa4 (fun _ _=>rfl)) (qar _)))))))),?_⟩
 walk_at "d"
 refine qae (σ:=[some (.ref R.p),some (.ref la)]) rfl ?_
 have hrow:=hR.row
 generalize hri:((R.i:Nat):Int)=ri at*
 unfold qe2 at q
 cases c1:R.s with
 |true=>
  rw [c1] at hrow q
  left
  exact q
 |false=>
  rw [c1] at hrow q
  cases c2:su with
  |true=>
   rw [c2] at hla q
   left
   exact q
  |false=>
   rw [c2] at hla q
   left
   exact q
def psN (R:Rw) (j:Nat):Int:=(R.ps[j]?).getD 0
def qdt (el:Nat->Nat) (Rs:List Rw) (a j:Nat):Int:=((Rs.filter fun R=>decide (a∈qad el R.i)).map fun R=>psN R j).sum
def whj (K:Frag) (d:Ad):Sp:=fun vs H Q _=>∃(lr le:Addr) (las:List Addr) (Rs:List Rw) (es:List Nat) (nh kd a j:Nat),vs=[.ref lr,.ref le,.int (a:Int),.int (j:Int)]/\H lr=some (.lst (rwV Rs))/\Rs.length<=30/\(∀R∈Rs,RwAt H nh kd R)/\LnsAt H le las es/\nh=es.length+1/\j < kd/\
 ∀H',qaq H H'->Q (.int (qdt (elN es) Rs a j)) H'
include T in
theorem wfg:FnOk P w K mg base CX0 3 d.wgy d.wew ["_law_rows_here","_law_lines_here","_law_at","_law_j"] (whj K d):=by
 refine T.wfp.ok whs (fun vs H Q E h=>?_) (fun cdv A outer s H vs Q E hr h=>?_)
 .obtain⟨lr,le,las,Rs,es,nh,kd,a,j,rfl,_⟩:=h;rfl
 obtain⟨lr,le,las,Rs,es,nh,kd,a,j,rfl,hL,h9,hR,hE,en,jk,q⟩:=h
 refine⟨_,(qa5 (qai (qaj (call_sumL rfl) rfl T.wi2 PyProof.Rows.boot_sum (qa0 (qbp (caps:=[1,2,3]) (cn:=["_law_lines_here","_law_at","_law_j"]) (qb4 rfl rfl (by rfl) (by rfl) rfl ⟨rfl,⟨rfl,⟨rfl,trivial⟩⟩⟩ (by rfl) rfl ⟨⟨rfl,rfl,rfl,rfl,_,rfl⟩,⟨⟨rfl,rfl,rfl,rfl,_,rfl⟩,⟨⟨rfl,rfl,rfl,rfl,_,rfl⟩,trivial⟩⟩⟩ (by decide)) rfl (qau (pv 0)) (fun _ _ _ _=>(qcu (qap qd8 (pv 2) (qan qak (pv 1) (qan qb3 (pv 0) qa4 (fun _ _=>rfl)) (fun _ _=>rfl)) (by rfl)))) (fun _ _ _ _=>(qan qak (qan qb3 (pv 0) qa4 (fun _ _=>rfl)) (pv 3) (fun _ _=>rfl)))) qa1)))),?_⟩
 walk_at "d"
 try dsimp only [cxC]
 refine qae (σ:=[some (.ref lr),some (.ref le),some (.int (a:Int)),some (.int (j:Int))]) rfl ?_
 have xj:∀(R:Rw),R.ps.length=kd->atI (R.ps.map V.int) ((j:Nat):Int)=some (.int (psN R j)):=fun R hl=>qaw (by unfold psN;rw [zC,zA (by omega)];rfl)
 generalize hai:((a:Nat):Int)=ai
 generalize hji:((j:Nat):Int)=ji at*
 left
 intro C s0 H0 fp acc hacc
 refine qf9 Rs.length (fun i H'=>qaq H H'/\H' acc=some (.lst ((((Rs.take i).filter fun R=>decide (a∈qad (elN es) R.i)).map fun R=>psN R j).map V.int))) ⟨qa6 hacc _,qa2⟩ ?_ ?_ ?_ ?_
 .rintro i H' hi ⟨sm,_⟩
  exact⟨_,.ref Rs[i].p,SqL.of (sm _ _ hL),by unfold rwV;rw [zC,zA hi];rfl⟩
 .rintro H' ⟨sm,_⟩
  exact⟨_,SqL.of (sm _ _ hL),by unfold rwV;rw [zB];exact Nat.le_refl _⟩
 .rintro i H' v H'' hi ⟨sm,ea⟩ ⟨rfl,hv⟩
  have hv:=hv _ (SqL.of (sm _ _ hL))
  unfold rwV at hv
  rw [zC,zA hi] at hv
  cases hv
  have tk:Rs.take (i+1)=Rs.take i++ [Rs[i]]:=by rw [zM,zA hi];rfl
  have hRi:=(hR _ (zO hi)).same sm
  generalize Rs[i]=R at*
  have hrow:=hRi.row
  have ril:=hRi.il
  obtain⟨x,_,ax,ex⟩:=(hE.same sm).at (k:=R.i) (by omega)
  have etop:=(hE.same sm).top
  have hpar:=hRi.par
  generalize hri:((R.i:Nat):Int)=ri at*
  have zl:((((Rs.take i).filter fun R=>decide (a∈qad (elN es) R.i)).map fun R=>psN R j).map V.int).length < sizeLine:=by
   rw [zB,zB]
   have h1:=zT (fun R:Rw=>decide (a∈qad (elN es) R.i)) (Rs.take i)
   rw [zU] at h1
   show _ < 16777216
   omega
  left
  refine qb6 (SqL.of etop) ax ?_
  left
  refine r_inN (SqL.of ex) hai ?_
  by_cases c:a∈qad (elN es) R.i
  .rw [decide_eq_true c]
   left
   refine qb6 (SqL.of hpar) (xj R hRi.len) ?_
   left
   refine⟨qay sm hacc,?_⟩
   rw [qa2,tk,zX,zW,if_pos (decide_eq_true c),zE,zE];rfl
  .rw [decide_eq_false c]
   left
   refine⟨sm,?_⟩
   rw [ea,tk,zX,zW,if_neg (by rw [decide_eq_false c];decide),yN,zZ]
 rintro H1 ⟨sm,ea⟩
 rw [zR] at ea
 left
 refine r_sumL (SqL.of ea) ?_
 left
 exact q _ sm
theorem r_slL {K:Frag} {H:Hp} {Q:VK} {a:Addr} {xs:List V} {lo hi:Option Int} (h:SqL K H a xs) (q:∀p,H p=none->Q (.ref p) (upd H p (.lst (cutV xs lo hi)))):rSlL K (.ref a) lo hi H Q:=⟨a,xs,rfl,h,q⟩
theorem psN_bd {R:Rw} {j:Nat} (h:∀p∈R.ps,PpOk p):0<=psN R j/\psN R j<=6*10^27:=by
 unfold psN
 cases e:R.ps[j]? with
 |none=>exact⟨Int.le_refl _,by decide⟩
 |some x=>have:=h x (zD e);exact⟨this.lo,this.hi⟩
theorem sumRs_bd {el:Nat->Nat} {a j:Nat}:∀{Rs:List Rw},(∀R∈Rs,∀p∈R.ps,PpOk p)->0<=qdt el Rs a j/\qdt el Rs a j<=((Rs.length:Nat):Int)*(6*10^27)
 | [],_=>⟨Int.le_refl _,by show (0:Int)<=0*(6*10^27);decide⟩
 |R :: Rs,h=>by
  have ih:=sumRs_bd (el:=el) (a:=a) (j:=j) (Rs:=Rs) fun x hx=>h x (zF _ hx)
  have hb:=psN_bd (j:=j) (h R (zL ..))
  unfold qdt at ih ⊢
  rw [zW,zP]
  by_cases c:decide (a∈qad el R.i)=true
  .rw [if_pos c,zS,yW]
   omega
  .rw [if_neg c]
   omega
theorem cut0 {Rs:List Rw} {r:Int} (h0:0<=r):cutV (rwV Rs) none (some r)=rwV (Rs.take r.toNat):=by
 obtain⟨n,rfl⟩:=Int.eq_ofNat_of_zero_le h0
 unfold cutV
 rw [HT.sIx_none,HT.sIx_nat,List.drop_zero,Nat.sub_zero,Int.toNat_natCast]
 unfold rwV
 rw [<-List.map_take,zB]
 congr 1
 by_cases c:n<=Rs.length
 .rw [Nat.min_eq_left c]
 .rw [Nat.min_eq_right (by omega),zR,List.take_of_length_le (by omega)]
structure CpB (x:Int):Prop where
 lo:0<=x
 hi:x<=10^30
structure IxB (x:Int):Prop where
 lo:0<=x
 hi:x<=6
structure SmB (x:Int):Prop where
 lo:0<=x
 hi:x<=2*10^29
theorem sum_smb {el:Nat->Nat} {a j:Nat} {Rs:List Rw} (h:∀R∈Rs,∀p∈R.ps,PpOk p) (l:Rs.length<=30):SmB (qdt el Rs a j):=by
 have:=sumRs_bd (el:=el) (a:=a) (j:=j) h
 exact⟨this.1,by omega⟩
structure LwB (x:Int):Prop where
 lo:0<=x
 hi:x<=3*10^29
theorem lw_of {x p:Int} {b:Bool} (h:SmB x) (hp:PpOk p):LwB (x+p*if b=true then 1 else 0):=by
 have h1:=h.lo
 have h2:=h.hi
 have p1:=hp.lo
 have p2:=hp.hi
 cases b with
 |true=>rw [if_pos rfl,Int.mul_one];exact⟨by omega,by omega⟩
 |false=>rw [if_neg Bool.false_ne_true,Int.mul_zero];exact⟨by omega,by omega⟩
theorem cp_of {x y z v:Int} (h:LwB x) (hy:SmB y) (hz:z∈ [0,0,1,0 - if decide (0 < y)=true then 1 else 0]) (hv:v∈ [x+y+z,if x - 1 > 0 then x - 1 else 0]):CpB v:=by
 have h1:=h.lo
 have h2:=h.hi
 have y1:=hy.lo
 have y2:=hy.hi
 have hz:z=0\/z=1\/z=0 - (if decide (0 < y)=true then 1 else 0):=by
  simp only [zK,yG,or_false] at hz
  omega
 have hv:v=x+y+z\/v=if x - 1 > 0 then x - 1 else 0:=by
  simp only [zK,yG,or_false] at hv
  exact hv
 have zb:0<=y+z/\z<=1:=by
  rcases hz with e|e|e
  .omega
  .omega
  .rw [e]
   by_cases c:0 < y
   .rw [decide_eq_true c,if_pos rfl];omega
   .rw [decide_eq_false c,if_neg Bool.false_ne_true];omega
 rcases hv with e|e
 .exact⟨by omega,by omega⟩
 .rw [e];split
  .exact⟨by omega,by omega⟩
  .exact⟨by omega,by omega⟩
def whh (K:Frag) (d:Ad):Sp:=fun vs H Q _=>∃(a:Addr) (ns:List Int) (lr le la pa:Addr) (las:List Addr) (Rs:List Rw) (es:List Nat) (kd h:Nat) (aps:List Int) (rk:Int) (su:Bool),vs=[.ref a,.ref lr,.ref le,.ref la]/\SqL K H a (ns.map V.int)/\ns.length<=63/\H lr=some (.lst (rwV Rs))/\Rs.length<=30/\(∀R∈Rs,RwAt H (es.length+1) kd R)/\LnsAt H le las es/\es.length<=5/\1<=kd/\kd<=6/\h < es.length+1/\H la=some (.tup [.int (h:Int),.ref pa,.int rk,.bl su])/\H pa=some (.lst (aps.map V.int))/\aps.length=kd/\(∀p∈aps,PpOk p)/\
 ∀(lc:Addr) (cs:List Pq) (H':Hp),qaq H H'->H' lc=some (.lst (qsV cs))->cs.length=es.length+1->CsAt H' kd cs->Q (.ref lc) H'
include T in
theorem wgt:FnOk P w K mg base CX0 4 d.wej d.wcw ["_law_script","_law_rows_here","_law_lines_here","_law_ask"] (whh K d):=by
 refine T.wg8.ok w2d (fun vs H Q E h=>?_) (fun cdv A outer s H vs Q E hr h=>?_)
 .obtain⟨a,ns,lr,le,la,pa,las,Rs,es,kd,h,aps,rk,su,rfl,_⟩:=h;rfl
 obtain⟨a,ns,lr,le,la,pa,las,Rs,es,kd,h,aps,rk,su,rfl,hSa,h63,hL,r30,hR,hE,e5,k1,k3,hh,hla,hpa,apl,apn,q⟩:=h
 refine⟨_,(qa3 (qaf (i:=4) w2d.nd rfl (Or.inl rfl) (qa9 ((w1l T).mono (by decide)) hr rfl T.w38 T.w2w.kp T.w34 .nil qah (qa0 (pv 0) (qa0 qa4 qa1))))
  (qa3 (qd6 (j:=5) (caps:=[3]) (cn:=["_law_ask"]) (qb4 rfl rfl (by rfl) (by rfl) rfl ⟨rfl,trivial⟩ (by rfl) rfl ⟨⟨rfl,rfl,rfl,rfl,_,rfl⟩,trivial⟩ (by decide)) rfl w2d.nd rfl rfl (qau (pv 1)) (fun _ _ _ _=>(qcu (qc8 (qbq (qa9 ((wf2 T).mono (by decide)) hr rfl T.wgg T.wf4.kp T.wg9 .nil qah (qa0 (pv 0) (qa0 (pv 1) qa1))))))) (fun _ _ _ _=>(pv 0)))
  (qa3 (qd6 (j:=6) (caps:=[3]) (cn:=["_law_ask"]) (qb4 rfl rfl (by rfl) (by rfl) rfl ⟨rfl,trivial⟩ (by rfl) rfl ⟨⟨rfl,rfl,rfl,rfl,_,rfl⟩,trivial⟩ (by decide)) rfl w2d.nd rfl rfl (qau (pv 1)) (fun _ _ _ _=>(qcu (qbq (qa9 ((wf2 T).mono (by decide)) hr rfl T.wgg T.wf4.kp T.wg9 .nil qah (qa0 (pv 0) (qa0 (pv 1) qa1)))))) (fun _ _ _ _=>(pv 0)))
  (qa3 (qaf (i:=7) w2d.nd rfl (Or.inl rfl) qa4)
  (qa3 (qd5 (qbk (qap qdk (qa9 ((w0m T).mono (by decide)) hr rfl T.w25 T.w1z.kp T.w24 .nil qah (qa0 (pv 4) (qa0 qa4 (qa0 qa4 qa1)))) qa4 (qar _)) (qa5 (qaf (i:=7) w2d.nd rfl (Or.inl rfl) (qan qak (qan qak (pv 2) (qan qb3 (pv 3) qa4 (fun _ _=>rfl)) (fun _ _=>rfl)) (qa9 ((w0m T).mono (by decide)) hr rfl T.w25 T.w1z.kp T.w24 .nil qah (qa0 (pv 4) (qa0 qa4 (qa0 (qaj qb0 rfl T.w3o PySem.boot_len (qa0 (qan qak (pv 2) (qan qb3 (pv 3) qa4 (fun _ _=>rfl)) (fun _ _=>rfl)) qa1)) qa1)))) (fun _ _=>rfl)))) qao))
  (qa3 (qaf (i:=8) w2d.nd rfl (Or.inl rfl) (qbm qa1))
  (qa3 (qb7 PassesOwn.never rfl (qbv rfl T.w3i (qa0 (qaj qb0 rfl T.w3o PySem.boot_len (qa0 (pv 2) qa1)) qa1)) (qac (i:=9) w2d.nd rfl (Or.inl rfl)) (qa3 (qaf (i:=10) w2d.nd rfl (Or.inl rfl) (qbm qa1))
  (qa3 (qb7 PassesOwn.never rfl (qbv rfl T.w3i (qa0 (qaj qb0 rfl T.w3o PySem.boot_len (qa0 (qan qb3 (pv 3) qa4 (fun _ _=>rfl)) qa1)) qa1)) (qac (i:=11) w2d.nd rfl (Or.inl rfl)) (qa3 (qaf (i:=12) w2d.nd rfl (Or.inl rfl) (qal qax (qa9 ((wfg T).mono (by decide)) hr rfl T.wgn T.wfp.kp T.whg .nil qah (qa0 (pv 5) (qa0 (pv 2) (qa0 (pv 9) (qa0 (pv 11) qa1))))) (qal qbw (qan qak (qan qb3 (pv 3) qa4 (fun _ _=>rfl)) (pv 11) (fun _ _=>rfl)) (qb8 qe1 rfl T.wee PyProof.Rows.boot_int (qa0 (qbn qd8 (pv 9) (qan qak (pv 2) (qan qb3 (pv 3) qa4 (fun _ _=>rfl)) (fun _ _=>rfl)) (by rfl)) qa1)))))
  (qa3 (qaf (i:=13) w2d.nd rfl (Or.inl rfl) (qa9 ((wfg T).mono (by decide)) hr rfl T.wgn T.wfp.kp T.whg .nil qah (qa0 (pe_slice sl_list (pv 6) po_none (po_some (qa9 ((w0m T).mono (by decide)) hr rfl T.w25 T.w1z.kp T.w24 .nil qah (qa0 (pv 4) (qa0 (qal qax (qal qax qa4 (qal qbw qa4 (pv 9))) (pv 11)) (qa0 (qal qax (qaj qb0 rfl T.w3o PySem.boot_len (qa0 (pv 6) qa1)) qa4) qa1)))))) (qa0 (pv 2) (qa0 (pv 9) (qa0 (pv 11) qa1))))))
  (qa3 (qaf (i:=14) w2d.nd rfl (Or.inl rfl) (qan qak (qbm (qa0 qa4 (qa0 qa4 (qa0 qa4 (qa0 (qal qeu qa4 (qb8 qe1 rfl T.wee PyProof.Rows.boot_int (qa0 (qbn qf6 (pv 13) qa4 (qar _)) qa1))) qa1))))) (qa9 ((w0m T).mono (by decide)) hr rfl T.w25 T.w1z.kp T.w24 .nil qah (qa0 (pv 4) (qa0 (qal qax (qal qax qa4 (qal qbw qa4 (pv 9))) (pv 11)) (qa0 qa4 qa1)))) (fun _ _=>rfl)))
  (qa5 (qb2 (qe8 PySem.F.plainAttrs_list PySem.F.slot_list_append PySem.F.type_list_append qb9 (pv 10) (qa0 (qan qak (qbm (qa0 (qal qax (qal qax (pv 12) (pv 13)) (pv 14)) (qa0 (qaj (call_maxR rfl) rfl T.whx PyProof.Rows.boot_max (qa0 qa4 (qa0 (qal qeu (pv 12) qa4) qa1))) qa1))) (qb8 qe1 rfl T.wee PyProof.Rows.boot_int (qa0 (qbn qdk (pv 9) (pv 7) (qar _)) qa1)) (fun _ _=>rfl)) qa1))))))))
  (qa5 (qb2 (qe8 PySem.F.plainAttrs_list PySem.F.slot_list_append PySem.F.type_list_append qb9 (pv 8) (qa0 (pv 10) qa1)))))))
  (qa5 (qai (pv 8)))))))))),?_⟩
 walk_at "d"
 try dsimp only [cxC]
 refine qae (σ:=[some (.ref a),some (.ref lr),some (.ref le),some (.ref la),none,none,none,none,none,none,none,none,none,none,none]) rfl ?_
 left
 refine⟨a,ns,7,rfl,hSa,by decide,by decide,h63,fun H sc=>?_⟩
 have hL:=sc _ _ hL
 have hR:=fun R hr=>(hR R hr).same sc
 have hE:=hE.same sc
 have hla:=sc _ _ hla
 have hpa:=sc _ _ hpa
 have q:=fun lc cs H' (s:qaq H H')=>q lc cs H' (sc.trans s)
 generalize qbg ns 7=c
 clear hSa sc
 have hLH:=hL
 have hRH:=hR
 have hlaH:=hla
 left
 intro C s0 H0 fp ls hls
 refine qf9 Rs.length (fun i H'=>H'=upd H ls (.lst (rwV ((Rs.take i).filter fun R=>!qe2 rk su R)))) rfl ?_ ?_ ?_ ?_
 .rintro i H' hi rfl
  exact⟨_,.ref Rs[i].p,SqL.of (qab hLH hls),by unfold rwV;rw [zC,zA hi];rfl⟩
 .rintro H' rfl
  exact⟨_,SqL.of (qab hLH hls),by unfold rwV;rw [zB];exact Nat.le_refl _⟩
 .rintro i H' v H'' hi rfl ⟨rfl,hv⟩
  have hv:=hv _ (SqL.of (qab hLH hls))
  unfold rwV at hv
  rw [zC,zA hi] at hv
  cases hv
  have tk:Rs.take (i+1)=Rs.take i++ [Rs[i]]:=by rw [zM,zA hi];rfl
  have hRi:=(hRH _ (zO hi)).same (qa6 hls (.lst (rwV ((Rs.take i).filter fun R=>!qe2 rk su R))))
  generalize Rs[i]=R at*
  have hla':=qab (o':=.lst (rwV ((Rs.take i).filter fun R=>!qe2 rk su R))) hlaH hls
  have zl:(rwV ((Rs.take i).filter fun R=>!qe2 rk su R)).length < sizeLine:=by
   unfold rwV
   rw [zB]
   have h1:=zT (fun R:Rw=>!qe2 rk su R) (Rs.take i)
   rw [zU] at h1
   show _ < 16777216
   omega
  left
  refine⟨la,_,kd,R,_,pa,rk,su,rfl,hRi,hla',?_⟩
  cases c:qe2 rk su R with
  |true=>
   left
   rw [tk,zX,zW,if_neg (by rw [c];exact Bool.false_ne_true),yN,zZ]
  |false=>
   left
   rw [qbj,tk,zX,zW,if_pos (by rw [c];try rfl)]
   unfold rwV
   rw [zE];rfl
 rintro H' rfl
 rw [zR]
 have s1:=qa6 hls (.lst (rwV (Rs.filter fun R=>!qe2 rk su R)))
 have els:upd H ls (.lst (rwV (Rs.filter fun R=>!qe2 rk su R))) ls=some (.lst (rwV (Rs.filter fun R=>!qe2 rk su R))):=qa2
 generalize upd H ls (.lst (rwV (Rs.filter fun R=>!qe2 rk su R)))=H1 at*
 have hLH1:=s1 _ _ hL
 have hRH1:=fun R hr=>(hR R hr).same s1
 have hlaH1:=s1 _ _ hla
 left
 intro C s0 H0 fp lg hlg
 refine qf9 Rs.length (fun i H'=>H'=upd H1 lg (.lst (rwV ((Rs.take i).filter fun R=>qe2 rk su R)))) rfl ?_ ?_ ?_ ?_
 .rintro i H' hi rfl
  exact⟨_,.ref Rs[i].p,SqL.of (qab hLH1 hlg),by unfold rwV;rw [zC,zA hi];rfl⟩
 .rintro H' rfl
  exact⟨_,SqL.of (qab hLH1 hlg),by unfold rwV;rw [zB];exact Nat.le_refl _⟩
 .rintro i H' v H'' hi rfl ⟨rfl,hv⟩
  have hv:=hv _ (SqL.of (qab hLH1 hlg))
  unfold rwV at hv
  rw [zC,zA hi] at hv
  cases hv
  have tk:Rs.take (i+1)=Rs.take i++ [Rs[i]]:=by rw [zM,zA hi];rfl
  have hRi:=(hRH1 _ (zO hi)).same (qa6 hlg (.lst (rwV ((Rs.take i).filter fun R=>qe2 rk su R))))
  generalize Rs[i]=R at*
  have hla':=qab (o':=.lst (rwV ((Rs.take i).filter fun R=>qe2 rk su R))) hlaH1 hlg
  have zl:(rwV ((Rs.take i).filter fun R=>qe2 rk su R)).length < sizeLine:=by
   unfold rwV
   rw [zB]
   have h1:=zT (fun R:Rw=>qe2 rk su R) (Rs.take i)
   rw [zU] at h1
   show _ < 16777216
   omega
  left
  refine⟨la,_,kd,R,_,pa,rk,su,rfl,hRi,hla',?_⟩
  cases c:qe2 rk su R with
  |true=>
   left
   rw [qbj,tk,zX,zW,if_pos (by rw [c];try rfl)]
   unfold rwV
   rw [zE];rfl
  |false=>
   left
   rw [tk,zX,zW,if_neg (by rw [c];exact Bool.false_ne_true),yN,zZ]
 rintro H' rfl
 rw [zR]
 have s2:=qa6 hlg (.lst (rwV (Rs.filter fun R=>qe2 rk su R)))
 have elg:upd H1 lg (.lst (rwV (Rs.filter fun R=>qe2 rk su R))) lg=some (.lst (rwV (Rs.filter fun R=>qe2 rk su R))):=qa2
 have els2:=s2 _ _ els
 generalize upd H1 lg (.lst (rwV (Rs.filter fun R=>qe2 rk su R)))=H2 at*
 have t2:=s1.trans s2
 have hE2:=hE.same t2
 have hla2:=t2 _ _ hla
 have hpa2:=t2 _ _ hpa
 have hR2:∀R∈Rs,RwAt H2 (es.length+1) kd R:=fun R hr=>(hR R hr).same t2
 have f30:∀p:Rw->Bool,(Rs.filter p).length<=30:=fun p=>Nat.le_trans (zT ..) r30
 have fst:∀R∈Rs.filter (fun R=>!qe2 rk su R),R∈Rs:=fun R hr=>(yD.mp hr).1
 have fgo:∀R∈Rs.filter (fun R=>qe2 rk su R),R∈Rs:=fun R hr=>(yD.mp hr).1
 have fs30:=f30 fun R=>!qe2 rk su R
 have fg30:=f30 fun R=>qe2 rk su R
 generalize (Rs.filter fun R=>!qe2 rk su R)=Ss at*
 generalize (Rs.filter fun R=>qe2 rk su R)=Gs at*
 clear hLH hLH1 hRH hRH1 hlaH hlaH1 els hls hlg s1 s2 f30
 obtain⟨xh,_,axh,exh⟩:=hE2.at hh
 have etop2:=hE2.top
 have lh1:1<=(qad (elN es) h).length:=by have:=line_head (elN es) h;cases e:qad (elN es) h with|nil=>rw [e] at this;cases this|cons _ _=>show 1<=_+1;omega
 have lh2:=qcb (qdf (fun k e h=>(hE.lo k e h).1) (es.length+1)) h hh
 have lnm:(((qad (elN es) h).map iV).length:Int)=(((qad (elN es) h).length:Nat):Int):=by rw [zB]
 generalize hhi:((h:Nat):Int)=hi at*
 left
 refine r_cut (fun σ' H'=>H'=H2/\∃sh:Int,σ'=[some (V.ref a),some (V.ref lr),some (V.ref le),some (V.ref la),some (V.int c),some (V.ref ls),some (V.ref lg),some (V.int sh),none,none,none,none,none,none,none]) ?_ ?_
 .left
  refine qbz (by decide) (by decide) (by decide) (by decide) fun r _ _=>?_
  left
  refine i_2 (fun c1=>?_) (fun c1=>?_)
  .left
   refine qb6 (SqL.of etop2) axh ?_
   left
   refine qb6 (SqL.of etop2) axh ?_
   left
   rw [lnm]
   refine qbz (by decide) (by decide) (by omega) (by omega) fun r2 a0 a1=>?_
   refine r_menuV (SqL.of exh) a0 (by rw [zB];exact a1) fun m hm=>?_
   obtain⟨k,_,rfl⟩:=zI.mp hm
   left
   exact⟨rfl,_,rfl⟩
  .left
   exact⟨rfl,_,rfl⟩
 rintro σ' H' ⟨rfl,sh,rfl⟩
 clear lh1 lh2 lnm
 left
 rename_i lc hlc
 have s3:=qa6 hlc (.lst [])
 have elc:upd H' lc (.lst []) lc=some (.lst []):=qa2
 generalize upd H' lc (.lst [])=H3 at*
 have hln:(las.map V.ref).length=es.length+1:=by rw [zB,hE.len]
 have hrn:(((las.map V.ref).length:Nat):Int).toNat=es.length+1:=by rw [hln];omega
 left
 rw [hrn]
 refine qcs (fun i σ Hx=>∃(cs:List Pq) (w9 w10 w11 w12 w13 w14:Option V),σ=[some (V.ref a),some (V.ref lr),some (V.ref le),some (V.ref la),some (V.int c),some (V.ref ls),some (V.ref lg),some (V.int sh),some (V.ref lc),w9,w10,w11,w12,w13,w14]/\qaq H' Hx/\Hx lc=some (.lst (qsV cs))/\cs.length=i/\CsAt Hx kd cs/\∀q∈cs,q.1≠lc) ⟨[],_,_,_,_,_,_,rfl,s3,elc,rfl,fun q hq=>by simp at hq,fun q hq=>by simp at hq⟩ ?_ ?_
 .rintro i σ Hx hi ⟨cs,w9,w10,w11,w12,w13,w14,rfl,sx,elx,hcl,hcs,ncs⟩
  rw [Int.zero_add]
  have ki:((i:Nat):Int).natAbs < 2^600:=Nat.lt_of_le_of_lt (show ((i:Nat):Int).natAbs<=12 by omega) (by decide)
  have ib:IxB ((i:Nat):Int):=⟨by omega,by omega⟩
  generalize hii:((i:Nat):Int)=ii at*
  have hpax:=sx _ _ hpa2
  have hlax:=sx _ _ hla2
  clear hln hrn
  have apn2:(((aps.map V.int).length:Nat):Int).toNat=kd:=by rw [zB,apl];omega
  left
  rename_i lp hlp
  have s4:=qa6 hlp (.lst [])
  have elp:upd Hx lp (.lst []) lp=some (.lst []):=qa2
  generalize upd Hx lp (.lst [])=H4 at*
  have hpa4:=s4 _ _ hpax
  have hla4:=s4 _ _ hlax
  clear hpax hlax
  left
  rw [apn2]
  refine qcs (fun j σ Hy=>∃(cur:List Int) (w11 w12 w13 w14:Option V),σ=[some (V.ref a),some (V.ref lr),some (V.ref le),some (V.ref la),some (V.int c),some (V.ref ls),some (V.ref lg),some (V.int sh),some (V.ref lc),some (V.int ii),some (V.ref lp),w11,w12,w13,w14]/\qaq Hx Hy/\Hy lp=some (.lst (cur.map V.int))/\cur.length=j/\∀x∈cur,CpB x) ⟨[],_,_,_,_,rfl,s4,elp,rfl,fun x hx=>by simp at hx⟩ ?_ ?_
  .clear hpa4 hla4 elp s4
   rintro j σ Hy hj ⟨cur,w11,w12,w13,w14,rfl,sy,ely,hcu,hcv⟩
   rw [Int.zero_add]
   have sxy:=sx.trans sy
   have hpay:=sxy _ _ hpa2
   have hlay:=sxy _ _ hla2
   have hEy:=hE2.same sxy
   have etopy:=hEy.top
   have exhy:=sxy _ _ exh
   have elsy:=sxy _ _ els2
   have elgy:=sxy _ _ elg
   have hRy:∀R∈Rs,RwAt Hy (es.length+1) kd R:=fun R hr=>(hR2 R hr).same sxy
   have eap:=zA (show j < aps.length by omega)
   have xj:atI (aps.map V.int) ((j:Nat):Int)=some (.int (aps[j]'(by omega))):=qaw (by rw [zC,eap];rfl)
   have pj:=apn _ (zD eap)
   generalize aps[j]'(by omega)=pv at*
   have pb:pv.natAbs < 2^600:=by have:=pj.lo;have:=pj.hi;exact Nat.lt_of_le_of_lt (show pv.natAbs<=10^28 by omega) (by decide)
   have jb:IxB ((j:Nat):Int):=⟨by omega,by omega⟩
   generalize hjj:((j:Nat):Int)=jj at*
   left
   refine⟨ls,le,las,Ss,es,_,kd,i,j,by rw [hii,hjj],elsy,fs30,fun R hr=>hRy R (fst R hr),hEy,rfl,hj,fun H5 s5=>?_⟩
   have lowb:SmB (qdt (elN es) Ss i j):=sum_smb (fun R hr=>(hR2 R (fst R hr)).nn) fs30
   generalize qdt (elN es) Ss i j=lo at*
   have hpa5:=s5 _ _ hpay
   have hla5:=s5 _ _ hlay
   have etop5:=s5 _ _ etopy
   have exh5:=s5 _ _ exhy
   have ely5:=s5 _ _ ely
   have elg5:=s5 _ _ elgy
   have hE5:=hEy.same s5
   have hR5:∀R∈Rs,RwAt H5 (es.length+1) kd R:=fun R hr=>(hRy R hr).same s5
   clear hpay hlay etopy exhy elsy elgy hRy ely
   left
   refine qb6 (SqL.of hpa5) xj ?_
   left
   refine qb6 (SqL.of etop5) axh ?_
   left
   refine r_inN (SqL.of exh5) hii ?_
   have mb:∀b:Bool,(if b=true then (1:Int) else 0).natAbs < 2^600:=fun b=>by cases b <;> decide
   have mb1:=mb (decide (i∈qad (elN es) h))
   generalize hbb:decide (i∈qad (elN es) h)=bb at*
   have lwb:=lw_of (b:=bb) lowb pj
   left
   generalize lo+pv*(if bb=true then 1 else 0)=low at*
   have glen:(rwV Gs).length=Gs.length:=by unfold rwV;rw [zB]
   rw [glen]
   have x1:=ib.lo
   have x2:=ib.hi
   have x3:=jb.lo
   have x4:=jb.hi
   refine qbz (by omega) (by omega) (by omega) (by omega) fun r r0 r1=>?_
   refine⟨_,rfl,?_⟩
   refine r_slL (SqL.of elg5) fun lx hlx=>?_
   rw [cut0 r0]
   have s6:=qa6 hlx (.lst (rwV (Gs.take r.toNat)))
   have elx6:upd H5 lx (.lst (rwV (Gs.take r.toNat))) lx=some (.lst (rwV (Gs.take r.toNat))):=qa2
   generalize upd H5 lx (.lst (rwV (Gs.take r.toNat)))=H6 at*
   have tg30:(Gs.take r.toNat).length<=30:=by rw [zU];omega
   clear r0 r1 glen x1 x2 x3 x4 hlx
   left
   refine⟨lx,le,las,Gs.take r.toNat,es,_,kd,i,j,by rw [hii,hjj],elx6,tg30,fun R hr=>(hR5 R (fgo R (List.mem_of_mem_take hr))).same s6,hE5.same s6,rfl,hj,fun H7 s7=>?_⟩
   have mob:SmB (qdt (elN es) (Gs.take r.toNat) i j):=sum_smb (fun R hr=>(hR2 R (fgo R (List.mem_of_mem_take hr))).nn) tg30
   generalize qdt (elN es) (Gs.take r.toNat) i j=mo at*
   have ely7:=s7 _ _ (s6 _ _ ely5)
   have t57:=(s5.trans s6).trans s7
   clear hpa5 hla5 etop5 exh5 ely5 elg5 hE5 hR5 s5 s6 s7 elx6 hbb lowb pj pb mb mb1 xj eap
   left
   rename_i pm hpm
   have x1:=ib.lo
   have x2:=ib.hi
   have x3:=jb.lo
   have x4:=jb.hi
   refine qbz (by omega) (by omega) (by decide) (by decide) fun r2 b0 b1=>?_
   refine r_menu (xs:=[0,0,1,0 - if decide (0 < mo)=true then 1 else 0]) (SqL.of qa2) b0 b1 fun nr hnr=>?_
   have s8:=qa6 hpm (.lst [V.int 0,V.int 0,V.int 1,V.int (0 - if decide (0 < mo)=true then 1 else 0)])
   generalize upd H7 pm (.lst [V.int 0,V.int 0,V.int 1,V.int (0 - if decide (0 < mo)=true then 1 else 0)])=H8 at*
   have ely8:=s8 _ _ ely7
   clear b0 b1 ely7 hpm x1 x2 x3 x4
   left
   rename_i p9 hp9
   have ely9:=qab (o':=.lst [V.int (low+mo+nr),V.int (if low - 1 > 0 then low - 1 else 0)]) ely8 hp9
   have s9:=qa6 hp9 (.lst [V.int (low+mo+nr),V.int (if low - 1 > 0 then low - 1 else 0)])
   have e9:upd H8 p9 (.lst [V.int (low+mo+nr),V.int (if low - 1 > 0 then low - 1 else 0)]) p9=some (.lst [V.int (low+mo+nr),V.int (if low - 1 > 0 then low - 1 else 0)]):=qa2
   generalize upd H8 p9 (.lst [V.int (low+mo+nr),V.int (if low - 1 > 0 then low - 1 else 0)])=H9 at*
   refine r_menu (xs:=[low+mo+nr,if low - 1 > 0 then low - 1 else 0]) (SqL.of e9) (by split <;> decide) (by show _ <(2:Int);split <;> decide) fun v hv=>?_
   have cv:=cp_of lwb mob hnr hv
   have zl:(cur.map V.int).length < sizeLine:=by rw [zB];show _ < 16777216;omega
   clear hv hnr lwb mob ely8 e9 hp9
   left
   refine⟨cur++ [v],_,_,_,_,rfl,qay (((sy.trans t57).trans s8).trans s9) hlp,by rw [qa2,zE];rfl,by rw [zH,hcu];rfl,fun x hx=>?_⟩
   rcases zV.mp hx with hx|hx
   .exact hcv x hx
   .rw [zG.mp hx];exact cv
  .rintro σ Hy ⟨cur,w11,w12,w13,w14,rfl,sy,ely,hcu,hcv⟩
   have ecy:=sy _ _ elx
   have zq:(qsV cs).length < sizeLine:=by unfold qsV;rw [zB];show _ < 16777216;omega
   have nlp:lp≠lc:=(qaa elx hlp).symm
   left
   refine⟨cs++ [(lp,cur)],_,_,_,_,_,_,rfl,qay (sx.trans sy) hlc,by rw [qa2];unfold qsV;rw [zE];rfl,by rw [zH,hcl];rfl,fun c' hc'=>?_,fun c' hc'=>?_⟩
   .rcases zV.mp hc' with h|h
    .obtain⟨g1,g2⟩:=hcs c' h
     exact⟨by rw [qa7 (ncs c' h)];exact sy _ _ g1,g2⟩
    .rw [zG.mp h]
     exact⟨by rw [qa7 nlp];exact ely,hcu,fun x hx=>⟨(hcv x hx).lo,(hcv x hx).hi⟩⟩
   .rcases zV.mp hc' with h|h
    .exact ncs c' h
    .rw [zG.mp h];exact nlp
 .rintro σ Hx ⟨cs,w9,w10,w11,w12,w13,w14,rfl,sx,elx,hcl,hcs,ncs⟩
  left
  exact q lc cs Hx (t2.trans sx) elx hcl hcs
include T in
theorem w9w:FnOk P w K mg base (My.CX1 P w) 4 d.w4r d.w3s ["self","name"] (w9t K d):=by
 refine okX T.wau w9q (fun vs H Q E h=>?_) (fun cdv A outer s H vs Q E hr h=>?_)
 .obtain⟨t,S,x,rfl,_⟩:=h;rfl
 obtain⟨t,S,x,rfl,hT,hx,q1,q2⟩:=h
 refine⟨_,(qa5 (qai (qb8 qco rfl T.wa2 PyProof.Rows.boot_dict (qa0 (qaz (qb1 (pv 0) T.w01 T.w0f ((w4u T).mono (by decide)) hr T.w5o .nil qas (qa0 (pv 1) qa1)) rfl) qa1)))),?_⟩
 walk_at "d"
 refine qae (σ:=[some (.ref t),some (x)]) rfl ?_
 have hT0:=hT
 obtain⟨⟨dx,ht⟩,hw,hh,nd,hz,hE⟩:=hT
 have ct:=T.w01
 have nh:qav K d.w00 "houses":=T.w02
 left
 refine⟨t,S,x,rfl,hT0,hx,fun e he=>?_,q2⟩
 obtain⟨z,rfl⟩:∃z,x=.str z:=by
  rcases hx with h|⟨_,nz⟩
  .exact h
  .rw [qd1 nz] at he;cases he
 obtain⟨⟨dh,ho⟩,hp,hpA,hc,hcA⟩:=hE e (qc6 he).1
 have ch:=T.w1j
 have nf:qav K d.w03 "cap":=T.w0j
 have hRp:Rd H e.x.pa (.dK e.x.kp):=.inl hp
 have hRc:Rd H e.x.ca (.dK e.x.kc):=.inl hc
 left
 rename_i p hp
 exact q1 e he p hp
def w8j (K:Frag) (d:Ad):Sp:=fun vs H Q _=>∃x y z:V,vs=[x,y,z]/\Q (.bl false) H
def w97 (K:Frag) (d:Ad):Sp:=fun vs H Q _=>∃(o m dx:Addr) (n:Int) (z:Str) (rk:Int) (t:Option Int) (r:Int) (s:Bool),vs=[.ref o,.int r,.bl s]/\H o=some (.ins d.w0b dx (fsB n z m rk t))/\Q (.bl (s || decide (rk < r))) H
include T in
theorem w55:FnOk P w K mg base CX0 1 d.w3t d.w3a ["self","rank","sure"] (w8j K d):=by
 refine T.w9g.ok w8k (fun vs H Q E h=>?_) (fun cdv A outer s H vs Q E hr h=>?_)
 .obtain⟨x,y,z,rfl,_⟩:=h;rfl
 obtain⟨x,y,z,rfl,q⟩:=h
 refine⟨_,(qa5 (qai qdw)),?_⟩
 walk_at "d"
 refine qae (σ:=[some (x),some (y),some (z)]) rfl ?_
 left
 exact q
include T in
theorem w51:FnOk P w K mg base CX0 1 d.w3y d.w37 ["self","rank","sure"] (w97 K d):=by
 refine T.w9j.ok w98 (fun vs H Q E h=>?_) (fun cdv A outer s H vs Q E hr h=>?_)
 .obtain⟨o,m,dx,n,z,rk,t,r,s,rfl,_⟩:=h;rfl
 obtain⟨o,m,dx,n,z,rk,t,r,b,rfl,ho,q⟩:=h
 refine⟨_,(qa5 (qai (pe_or (pv 2) (qdv (qbn op_lt (qaz (pv 0) rfl) (pv 1) (qar _)))))),?_⟩
 walk_at "d"
 refine qae (σ:=[some (.ref o),some (.int r),some (.bl b)]) rfl ?_
 have c:=T.w3x
 have n4:qav K d.w0b "rank":=T.w1q
 unfold fsB at ho
 left
 refine i_b2 (fun e=>?_) (fun e=>?_)
 .subst e
  left
  exact q
 .subst e
  left
  exact q
def qci (r:Int) (s:Bool) (b:Ob):Bool:=b.R.s || !(s || decide (b.R.r < r))
def wfi (K:Frag) (d:Ad):Sp:=fun vs H Q _=>∃(lh:Addr) (P:PL) (bs:List Ob) (r:Int) (s:Bool),vs=[.ref lh,.int r,.bl s]/\H lh=some (.lst (bsV bs))/\bs.length<=63/\(∀b∈bs,ObAt d H P b)/\
 ∀(l:Addr),H l=none->Q (.ref l) (upd H l (.lst (bsV (bs.filter (qci r s)))))
include T in
theorem wfw:FnOk P w K mg base CX0 2 d.wce d.wak ["holds","rank","sure"] (wfi K d):=by
 refine T.wes.ok wg3 (fun vs H Q E h=>?_) (fun cdv A outer s H vs Q E hr h=>?_)
 .obtain⟨lh,P,bs,r,s,rfl,_⟩:=h;rfl
 obtain⟨lh,P,bs,r,s',rfl,hL,h63,hB,q⟩:=h
 refine⟨_,(qa5 (qai (qbp (caps:=[1,2]) (cn:=["rank","sure"]) (qb4 rfl rfl (by rfl) (by rfl) rfl ⟨rfl,⟨rfl,trivial⟩⟩ (by rfl) rfl ⟨⟨rfl,rfl,rfl,rfl,_,rfl⟩,⟨⟨rfl,rfl,rfl,rfl,_,rfl⟩,trivial⟩⟩ (by decide)) rfl (qau (pv 0)) (fun _ _ _ _=>(qcu (qc8 (qbq (pe_alt (qe6 (pv 0) T.w4o T.w0o ((w55 T).mono (by decide)) hr T.w5w .nil qah (qa0 (pv 1) (qa0 (pv 2) qa1))) (qe6 (pv 0) T.w3x T.w0p ((w51 T).mono (by decide)) hr T.w5x .nil qah (qa0 (pv 1) (qa0 (pv 2) qa1)))))))) (fun _ _ _ _=>(pv 0))))),?_⟩
 walk_at "d"
 try dsimp only [cxC]
 refine qae (σ:=[some (.ref lh),some (.int r),some (.bl s')]) rfl ?_
 left
 intro C s0 H0 fp acc hacc
 refine qf9 bs.length (fun i H'=>H'=upd H acc (.lst (bsV ((bs.take i).filter (qci r s'))))) rfl ?_ ?_ ?_ ?_
 .rintro i H' hi rfl
  exact⟨_,.ref bs[i].o,SqL.of (qab hL hacc),by unfold bsV;rw [zC,zA hi];rfl⟩
 .rintro H' rfl
  exact⟨_,SqL.of (qab hL hacc),by unfold bsV;rw [zB];exact Nat.le_refl _⟩
 .rintro i H' v H'' hi rfl ⟨rfl,hy⟩
  have hv:=hy _ (SqL.of (qab hL hacc))
  unfold bsV at hv
  rw [zC,zA hi] at hv
  cases hv
  have hb:=hB _ (zO hi)
  have tk:bs.take (i+1)=bs.take i++ [bs[i]]:=by rw [zM,zA hi];rfl
  generalize hbi:bs[i]=b at*
  obtain⟨dx,hbo⟩:=hb.obj
  have hbo':=qab (o':=.lst (bsV ((bs.take i).filter (qci r s')))) hbo hacc
  have zl:(bsV ((bs.take i).filter (qci r s'))).length < sizeLine:=by
   unfold bsV
   rw [zB]
   have h1:=zT (qci r s') (bs.take i)
   rw [zU] at h1
   show _ < 16777216
   omega
  have yes:qci r s' b=true->upd (upd H acc (.lst (bsV ((bs.take i).filter (qci r s'))))) acc (.lst (bsV ((bs.take i).filter (qci r s'))++ [.ref b.o]))=upd H acc (.lst (bsV ((bs.take (i+1)).filter (qci r s')))):=fun e=>by
   rw [qbj,tk,zX,zW,if_pos e]
   congr 2
   unfold bsV
   rw [zE];rfl
  have no:qci r s' b=false->upd H acc (.lst (bsV ((bs.take i).filter (qci r s'))))=upd H acc (.lst (bsV ((bs.take (i+1)).filter (qci r s')))):=fun e=>by
   rw [tk,zX,zW,if_neg (by rw [e];exact Bool.false_ne_true),yN,zZ]
  cases hs:b.R.s with
  |true=>
   rw [hs,show qf8 d true=d.w0c from rfl] at hbo'
   left
   refine r_alt1 ?_
   left
   refine⟨_,_,_,rfl,?_⟩
   left
   exact yes (by unfold qci;rw [hs];rfl)
  |false=>
   rw [hs,show qf8 d false=d.w0b from rfl] at hbo'
   left
   refine r_alt2 ?_
   left
   refine⟨b.o,b.m,dx,b.R.n,nmF P b.R.i,b.R.r,b.t,r,s',rfl,hbo',?_⟩
   cases hq:(s' || decide (b.R.r < r)) with
   |true=>
    left
    exact no (by unfold qci;rw [hs,hq];rfl)
   |false=>
    left
    exact yes (by unfold qci;rw [hs,hq];rfl)
 rintro H' rfl
 rw [zR]
 left
 exact q acc hacc
theorem r_dpT {H:Hp} {a b:Addr} {kvs:List (List Key × V)} {k:List Key} {v:V} {D:Ends} {σ:L2.St} (e:H a=some (.dT kvs)) (eb:H b=some (.tup (k.map kV))) (hz:kvs.length < sizeLine) (h:D.nx σ (upd H a (.dT (qcy kvs k v)))):rDP (.ref a) (.ref b) v H D σ:=⟨a,_,rfl,DPut.t e eb hz,h⟩
theorem r_dgT {H:Hp} {Q:VK} {a b:Addr} {kvs:List (List Key × V)} {k:List Key} {v:V} (d:Rd H a (.dT kvs)) (eb:H b=some (.tup (k.map kV))) (e:qcd kvs k=some v) (h:Q v H):rDGk (.ref a) (.ref b) H Q:=⟨a,v,rfl,.inr ⟨kvs,k,b,d,rfl,eb,e.symm⟩,h⟩
theorem r_dnewT {σ:L2.St} {H:Hp} {Q:VK} (h:∀p,H p=none->Q (.ref p) (upd H p (.dT []))):tDNewT σ H Q:=h
theorem qef {κ:Type} [DecidableEq κ] {kvs:List (κ × V)} {k:κ} {v:V} (h:k∉kvs.map (·.1)):qcy kvs k v=kvs++ [(k,v)]:=by
 unfold qcy
 rw [if_neg]
 intro e
 obtain⟨x,hx,hk⟩:=yS.mp e
 exact h (zI.mpr ⟨x,hx,of_decide_eq_true hk⟩)
def qe4 (z:Str) (ss:List Str) (val:Str->Int):List (List Key × V):=ss.map fun w=>([Sum.inr z,Sum.inr w],V.int (val w))
def qcx (P:PL) (js:List Nat) (ss:List Str) (val:Nat->Str->Int):List (List Key × V):=js.flatMap fun j=>qe4 (nmF P j) ss (val j)
def fcOf (S:Ts) (z:Str):Str->Option Int:=match S.at z with
 |some e=>e.x.fc
 |none=>noF
def useF (P:PL) (bs:List Ob) (j:Nat):Str->Option Int:=sumF ((bs.filter fun b=>decide (j∈qad (elN P.es) b.R.i)).map obPt)
def qbu (S:Ts) (P:PL) (bs:List Ob) (f:Str->Option Int) (j:Nat) (w:Str):Int:=gN (fcOf S (nmF P j)) w - gN (useF P bs j) w - gN f w
structure WdAt (K:Frag) (d:Ad) (H:Hp) (t lh:Addr) (S:Ts) (P:PL) (bs:List Ob) (n:Nat):Prop where
 tr:qed d H t S
 wf:WF S
 pl:Pl S (nmF P) (elN P.es) n
 nn:P.nm.length=n
 hs:∀j,j < n->(∃e,S.at (nmF P j)=some e)/\Dep S 12 (nmF P j)
 w3:P.ws.length<=6
 h:H lh=some (.lst (bsV bs))
 h63:bs.length<=63
 ob:∀b∈bs,ObAt d H P b
theorem WdAt.same {K:Frag} {d:Ad} {H H':Hp} {t lh:Addr} {S:Ts} {P:PL} {bs:List Ob} {n:Nat} (h:WdAt K d H t lh S P bs n) (s:qaq H H'):WdAt K d H' t lh S P bs n:=⟨h.tr.same s,h.wf,h.pl,h.nn,h.hs,h.w3,s _ _ h.h,h.h63,fun b hb=>(h.ob b hb).same s⟩
theorem rm_in {P:PL} {js:List Nat} {ss:List Str} {val:Nat->Str->Int} {k:List Key} (h:k∈(qcx P js ss val).map (·.1)):∃j∈js,∃w∈ss,k=[Sum.inr (nmF P j),Sum.inr w]:=by
 obtain⟨x,hx,rfl⟩:=zI.mp h
 obtain⟨j,hj,hx⟩:=List.mem_flatMap.mp hx
 obtain⟨w,hw,rfl⟩:=zI.mp hx
 exact⟨j,hj,w,hw,rfl⟩
theorem rm_len (P:PL) (js:List Nat) (ss:List Str) (val:Nat->Str->Int):(qcx P js ss val).length=js.length*ss.length:=by
 induction js with
 |nil=>simp [qcx]
 |cons j r ih=>
  show (qe4 (nmF P j) ss (val j)++qcx P r ss val).length=_
  rw [zH,ih,zP,Nat.succ_mul]
  unfold qe4
  rw [zB]
  omega
def wag (K:Frag) (d:Ad):Sp:=fun vs H Q _=>∃(t lh ll am:Addr) (S:Ts) (P:PL) (bs:List Ob) (n:Nat) (js:List Nat) (ka:List (Key × V)) (f:Str->Option Int) (ss:List Str),vs=[.ref t,.ref lh,.ref ll,.ref am]/\WdAt K d H t lh S P bs n/\
 H ll=some (.lst (js.map fun j=>V.str (nmF P j)))/\(∀j∈js,j < n)/\js.Nodup/\js.length<=12/\H am=some (.dK ka)/\AD ka f/\ss.Perm (qdd ka)/\PyProof.Rows.sortedS ss=true/\ss.length<=6/\
 ∀(rm:Addr) H',qaq H H'->H rm=none->H' rm=some (.dT (qcx P js ss (qbu S P bs f)))->Q (.ref rm) H'
include T in
theorem w6m:FnOk P w K mg base CX0 19 d.w4y d.w4a ["tree","holds","line","amounts"] (wag K d):=by
 refine T.w5g.ok w1b (fun vs H Q E h=>?_) (fun cdv A outer s H vs Q E hr h=>?_)
 .obtain⟨t,lh,ll,am,S,P,bs,n,js,ka,f,ss,rfl,_⟩:=h;rfl
 obtain⟨t,lh,ll,am,S,P,bs,n,js,ka,f,ss,rfl,hW,hl,jn,jd,j12,ha,hA,hp,hs,s6,q⟩:=h
 refine⟨_,(qa3 (qaf (i:=4) w1b.nd rfl (Or.inl rfl) pe_dnewT)
  (qa3 (qb7 PassesOwn.never rfl (qau (pv 2)) (qac (i:=5) w1b.nd rfl (Or.inl rfl)) (qa3 (qaf (i:=6) w1b.nd rfl (Or.inl rfl) (qb1 (W:=fun _ _ _ _=>False) (pv 0) T.w01 T.w1f ((w9w T).mono (by decide)) hr T.was .nil qej (qa0 (pv 5) qa1)))
  (qa3 (qaf (i:=7) w1b.nd rfl (Or.inl rfl) (qbb (W:=fun _ _ _ _=>False) ((wh8 T).mono (by decide)) hr rfl T.whl T.wg6.kp T.whq .nil qej (qa0 (pv 0) (qa0 (pv 1) (qa0 (pv 5) qa1)))))
  (qa5 (qb7 PassesOwn.never rfl (qau (qaj (qfg rfl) rfl T.w6r PyProof.Rows.boot_sorted (qa0 (pv 3) qa1))) (qac (i:=8) w1b.nd rfl (Or.inl rfl)) (qa5 (qe5 (qc9 hr) (pv 4) (qcv (qa0 (pv 5) (qa0 (pv 8) qa1))) (qal qeu (qal qeu (qa9 ((w1p T).mono (by decide)) hr rfl T.w28 T.w1k.kp T.w29 .nil qah (qa0 (pv 6) (qa0 (pv 8) qa1))) (qa9 ((w1p T).mono (by decide)) hr rfl T.w28 T.w1k.kp T.w29 .nil qah (qa0 (pv 7) (qa0 (pv 8) qa1)))) (qbt (qc9 hr) (pv 3) (pv 8) (fun _ _=>rfl))) rfl)))))))
  (qa5 (qai (pv 4))))),?_⟩
 walk_at "d"
 refine qae (σ:=[some (.ref t),some (.ref lh),some (.ref ll),some (.ref am),none,none,none,none,none]) rfl ?_
 left
 refine r_dnewT fun rm hrm=>?_
 have s1:=qa6 hrm (.dT [])
 have e1:upd H rm (.dT []) rm=some (.dT (qcx P [] ss (qbu S P bs f))):=qa2
 have l1:=s1 _ _ hl
 generalize upd H rm (.dT [])=H1 at*
 have snd:ss.Nodup:=hp.nodup_iff.mpr hA.knd
 have sk:∀w∈ss,∃m,f w=some m:=fun w hw=>by
  have z:=(hA.kin w).mp (hp.mem_iff.mp hw)
  cases e:f w with
  |none=>exact absurd e z
  |some m=>exact⟨m,rfl⟩
 have kl:ka.length<=6:=by have:=hp.length_eq;have:=hA.klen;omega
 left
 refine qde (xs:=js.map fun j=>V.str (nmF P j)) (fun i σ H'=>∃w1 w2 w3 w4:Option V,σ=[some (.ref t),some (.ref lh),some (.ref ll),some (.ref am),some (.ref rm),w1,w2,w3,w4]/\qaq H H'/\H' rm=some (.dT (qcx P (js.take i) ss (qbu S P bs f))))
  ⟨_,_,_,_,rfl,s1,e1⟩ ?_ ?_ ?_
 .rintro i σ H' _ ⟨w1,w2,w3,w4,rfl,sm,_⟩
  exact SqL.of (sm _ _ hl)
 .rintro i v σ H' hv ⟨w1,w2,w3,w4,rfl,sm,er⟩
  rw [zC] at hv
  obtain⟨j,hj,rfl⟩:=Option.map_eq_some_iff.mp hv
  have hi:=(List.getElem?_eq_some_iff.mp hj).1
  have hjm:=zD hj
  have hjn:=jn j hjm
  have tk:js.take (i+1)=js.take i++ [j]:=by rw [zM,hj];rfl
  have hnt:j∉js.take i:=fun hm=>by
   obtain⟨b,hb,e⟩:=zQ.mp hm
   rw [zU] at hb
   rw [List.getElem_take] at e
   obtain⟨g1,g2⟩:=List.getElem?_eq_some_iff.mp hj
   exact(zY.mp jd) b i (by omega) hi (by omega) (e.trans g2.symm)
  have hW1:=hW.same sm
  obtain⟨⟨e,ae⟩,dp⟩:=hW.hs j hjn
  have ct:=T.w01
  obtain⟨dx,ht⟩:=id hW1.tr.1
  left
  refine⟨t,S,.str (nmF P j),rfl,hW1.tr,.inl ⟨_,rfl⟩,fun e' he' p hp'=>?_,fun hn=>by rw [show who S (.str (nmF P j))=some e from ae] at hn;cases hn⟩
  have ee:e=e':=Option.some.inj (ae.symm.trans he')
  subst ee
  have hcA:AD e.x.kc e.x.fc:=(hW1.tr.2.2.2.2.2 e (qc6 ae).1).2.2.2.2
  have efc:fcOf S (nmF P j)=e.x.fc:=by unfold fcOf;rw [ae]
  have s2:=sm.trans (qa6 hp' (.dK e.x.kc))
  have ec:upd H' p (.dK e.x.kc) p=some (.dK e.x.kc):=qa2
  have er2:=qab (o':=.dK e.x.kc) er hp'
  generalize upd H' p (.dK e.x.kc)=H2 at*
  have hW2:=hW.same s2
  clear hW1 ht hp'
  left
  refine .inr ⟨t,lh,S,P,bs,nmF P j,e,rfl,hW2.tr,hW.wf,ae,dp,hW2.h,hW.h63,hW.w3,hW2.ob,fun lu zs ku H3 s3 hlu hBen eu hAu=>?_⟩
  have euf:(bs.filter (inZ P zs)).map obPt=(bs.filter fun b=>decide (j∈qad (elN P.es) b.R.i)).map obPt:=by
   congr 1
   refine List.filter_congr fun b hb=>?_
   unfold inZ
   have:=hW.pl.benIff hjn hBen (k:=b.R.i) (by have:=(hW.ob b hb).il;rw [hW.nn] at this;exact this)
   exact decide_eq_decide.mpr this
  rw [euf] at hAu
  change AD ku (useF P bs j) at hAu
  have s23:=s2.trans s3
  have ec3:=s3 _ _ ec
  have er3:=s3 _ _ er2
  have ha3:=s23 _ _ ha
  clear hBen euf hW2 hlu s2 s3 ec er2 er
  left
  refine r_sortD (.inl ha3) hA.keys (by have:=hA.klen;omega) fun ls ss' hls hp2 hs2=>?_
  have ess:ss'=ss:=sort_eq (hp2.trans hp.symm) hs2 hs
  subst ess
  have s4:=s23.trans (qa6 hls (.lst (ss'.map V.str)))
  have el:upd H3 ls (.lst (ss'.map V.str)) ls=some (.lst (ss'.map V.str)):=qa2
  have ec4:=qab (o':=.lst (ss'.map V.str)) ec3 hls
  have er4:=qab (o':=.lst (ss'.map V.str)) er3 hls
  have eu4:=qab (o':=.lst (ss'.map V.str)) eu hls
  have nrl:rm≠ls:=qaa er3 hls
  generalize upd H3 ls (.lst (ss'.map V.str))=H4 at*
  clear hp2 hs2 hls s23 ec3 er3 eu ha3
  left
  refine qde (xs:=ss'.map V.str) (fun c σ H5=>∃w4:Option V,σ=[some (.ref t),some (.ref lh),some (.ref ll),some (.ref am),some (.ref rm),some (.str (nmF P j)),some (.ref p),some (.ref lu),w4]/\SameBut rm H4 H5/\H5 rm=some (.dT (qcx P (js.take i) ss' (qbu S P bs f)++qe4 (nmF P j) (ss'.take c) (qbu S P bs f j))))
   ⟨_,rfl,fun b o _ e=>e,by rw [er4];unfold qe4;simp⟩ ?_ ?_ ?_
  .rintro c σ H5 _ ⟨w4,rfl,sb,_⟩
   exact SqL.of (sb _ _ nrl.symm el)
  .rintro c v σ H5 hv5 ⟨w4,rfl,sb,er5⟩
   rw [zC] at hv5
   obtain⟨w,hw,rfl⟩:=Option.map_eq_some_iff.mp hv5
   have hc:=(List.getElem?_eq_some_iff.mp hw).1
   obtain⟨m,fm⟩:=sk w (zD hw)
   have hRp:Rd H5 p (.dK e.x.kc):=.inl (sb _ _ (fun z=>by subst z;rw [er4] at ec4;cases ec4) ec4)
   have hRu:Rd H5 lu (.dK ku):=.inl (sb _ _ (fun z=>by subst z;rw [er4] at eu4;cases eu4) eu4)
   have ha4:=s4 _ _ ha
   have hRa:Rd H5 am (.dK ka):=.inl (sb _ _ (fun z=>by subst z;rw [er4] at ha4;cases ha4) ha4)
   left
   rename_i p5 hp5
   have er6:=qab (o':=.tup [V.str (nmF P j),V.str w]) er5 hp5
   have tkw:ss'.take (c+1)=ss'.take c++ [w]:=by rw [zM,hw];rfl
   have wnt:w∉ss'.take c:=fun hm=>by
    obtain⟨b,hb,e'⟩:=zQ.mp hm
    rw [zU] at hb
    rw [List.getElem_take] at e'
    obtain⟨g1,g2⟩:=List.getElem?_eq_some_iff.mp hw
    exact(zY.mp snd) b c (by omega) hc (by omega) (e'.trans g2.symm)
   have nin:([Sum.inr (nmF P j),Sum.inr w]:List Key)∉(qcx P (js.take i) ss' (qbu S P bs f)++qe4 (nmF P j) (ss'.take c) (qbu S P bs f j)).map (·.1):=fun hm=>by
    rw [zE] at hm
    rcases zV.mp hm with hm|hm
    .obtain⟨j',hj',w',_,e'⟩:=rm_in hm
     have e1:nmF P j=nmF P j':=by
      have:=(List.cons.inj e').1
      exact Sum.inr.inj this
     have:=hW.pl.inj j j' hjn (jn j' (List.mem_of_mem_take hj')) e1
     subst this
     exact hnt hj'
    .unfold qe4 at hm
     rw [yU] at hm
     obtain⟨w',hw',e'⟩:=zI.mp hm
     have e2:w'=w:=Sum.inr.inj (List.cons.inj (List.cons.inj e').2).1
     exact wnt (e2 ▸ hw')
   have gf:gN f w=m:=by unfold gN;rw [fm];rfl
   have ev:gN e.x.fc w - gN (useF P bs j) w - m=qbu S P bs f j w:=by unfold qbu;rw [efc,gf]
   rw [ev]
   have sz:(qcx P (js.take i) ss' (qbu S P bs f)++qe4 (nmF P j) (ss'.take c) (qbu S P bs f j)).length < sizeLine:=by
    rw [zH,rm_len]
    unfold qe4
    rw [zB,zU,zU]
    have:min i js.length*ss'.length<=12*6:=Nat.mul_le_mul (by omega) s6
    show _ < 16777216
    omega
   refine r_dpT (k:=[Sum.inr (nmF P j),Sum.inr w]) er6 qa2 sz ?_
   rw [qef nin]
   left
   refine⟨_,rfl,fun b o hb e'=>?_,?_⟩
   .rw [qa7 hb,qa7 (qaa (sb b o hb e') hp5)]
    exact sb b o hb e'
   .rw [qa2,tkw,List.append_assoc]
    unfold qe4
    rw [zE]
    rfl
  .rintro σ H5 ⟨w4,rfl,sb,er5⟩
   rw [zB,zR] at er5
   refine⟨_,_,_,_,rfl,fun b o hb=>?_,?_⟩
   .exact sb _ _ (fun z=>by subst z;rw [hrm] at hb;cases hb) (s4 _ _ hb)
   .rw [er5,tk]
    unfold qcx
    rw [List.flatMap_append]
    simp
 .rintro σ H' ⟨w1,w2,w3,w4,rfl,sm,er⟩
  rw [zB,zR] at er
  left
  exact q rm H' sm hrm er
structure Wd where
 wt:Addr
 ln:Addr
 lw:Addr
 le:Addr
 lr:Addr
 la:Addr
 lc:Addr
 pa:Addr
 las:List Addr
 nm:List Str
 ws:List Str
 es:List Nat
 Rs:List Rw
 h:Nat
 aps:List Int
 rk:Int
 su:Bool
 cs:List Pq
structure WAt (H:Hp) (w:Wd):Prop where
 tup:H w.wt=some (.tup [.ref w.ln,.ref w.lw,.ref w.le,.ref w.lr,.ref w.la,.ref w.lc])
 ln:H w.ln=some (.lst (w.nm.map V.str))
 lw:H w.lw=some (.lst (w.ws.map V.str))
 le:LnsAt H w.le w.las w.es
 lr:H w.lr=some (.lst (rwV w.Rs))
 rs:∀R∈w.Rs,RwAt H (w.es.length+1) w.ws.length R
 la:H w.la=some (.tup [.int ((w.h:Nat):Int),.ref w.pa,.int w.rk,.bl w.su])
 pa:H w.pa=some (.lst (w.aps.map V.int))
 lc:H w.lc=some (.lst (qsV w.cs))
 cs:CsAt H w.ws.length w.cs
structure WOk (w:Wd):Prop where
 apl:w.aps.length=w.ws.length
 apn:∀p∈w.aps,PpOk p
 hh:w.h < w.es.length+1
 cl:w.cs.length=w.es.length+1
 nms:Nms w.nm (w.es.length+1)
 wsn:Nms w.ws w.ws.length
 w1:1<=w.ws.length
 w6:w.ws.length<=6
 e5:w.es.length<=5
 up:(w.Rs.map fun R=>R.n).Pairwise (·< ·)
 r30:w.Rs.length<=30
theorem WAt.same {H H':Hp} {w:Wd} (h:WAt H w) (s:qaq H H'):WAt H' w:=⟨s _ _ h.tup,s _ _ h.ln,s _ _ h.lw,h.le.same s,s _ _ h.lr,fun R hr=>(h.rs R hr).same s,s _ _ h.la,s _ _ h.pa,s _ _ h.lc,h.cs.same s⟩
def wfz (K:Frag) (d:Ad):Sp:=fun vs H Q _=>∃(a:Addr) (ns:List Int) (m:Nat),vs=[.ref a,.int (m:Int)]/\SqL K H a (ns.map V.int)/\ns.length<=63/\m<=30/\∀(w:Wd) (H':Hp),qaq H H'->WAt H' w->WOk w->(∀k:Int,6<=k->k<=25->nmS (qbg ns 0) (qbg ns 1) k∉w.nm)->Q (.ref w.wt) H'
include T in
theorem wfn:FnOk P w K mg base CX0 5 d.wd6 d.wan ["_law_script","_law_many"] (wfz K d):=by
 refine T.weh.ok w2e (fun vs H Q E h=>?_) (fun cdv A outer s H vs Q E hr h=>?_)
 .obtain⟨a,ns,m,rfl,_⟩:=h;rfl
 obtain⟨a,ns,m,rfl,hS,h63,m30,q⟩:=h
 refine⟨_,(qa3 (qaf (i:=2) w2e.nd rfl (Or.inr rfl) (qa9 ((w1l T).mono (by decide)) hr rfl T.w38 T.w2w.kp T.w34 .nil qah (qa0 (pv 0) (qa0 qa4 qa1))))
  (qa3 (qaf (i:=3) w2e.nd rfl (Or.inl rfl) (qa9 ((wg0 T).mono (by decide)) hr rfl T.whe T.wfb.kp T.wgl .nil qah (qa0 (pv 0) (qa0 (qal qax qa4 (qa9 ((w0m T).mono (by decide)) hr rfl T.w25 T.w1z.kp T.w24 .nil qah (qa0 (pv 2) (qa0 qa4 (qa0 qa4 qa1))))) qa1))))
  (qa3 (qaf (i:=4) w2e.nd rfl (Or.inl rfl) (qal qax qa4 (qa9 ((w0m T).mono (by decide)) hr rfl T.w25 T.w1z.kp T.w24 .nil qah (qa0 (pv 2) (qa0 qa4 (qa0 qa4 qa1))))))
  (qa3 (qaf (i:=5) w2e.nd rfl (Or.inl rfl) (qan qak (qbm (qa0 qa4 (qa0 qa4 (qa0 (qal qax qa4 (qal qc5 (qa9 ((w1l T).mono (by decide)) hr rfl T.w38 T.w2w.kp T.w34 .nil qah (qa0 (pv 0) (qa0 qa4 qa1))) (qal op_pow qa4 qa4))) qa1)))) (qa9 ((w0m T).mono (by decide)) hr rfl T.w25 T.w1z.kp T.w24 .nil qah (qa0 (pv 2) (qa0 qa4 (qa0 qa4 qa1)))) (fun _ _=>rfl)))
  (qa3 (qd6 (j:=6) (caps:=[0]) (cn:=["_law_script"]) (qb4 rfl rfl (by rfl) (by rfl) rfl ⟨rfl,trivial⟩ (by rfl) rfl ⟨⟨rfl,rfl,rfl,rfl,_,rfl⟩,trivial⟩ (by decide)) rfl w2e.nd rfl rfl (qbv rfl T.w3i (qa0 (qaj qb0 rfl T.w3o PySem.boot_len (qa0 (pv 3) qa1)) qa1)) (fun _ _ _ _=>qck) (fun _ _ _ _=>(qa9 ((wc7 T).mono (by decide)) hr rfl T.wef T.wdi.kp T.wet .nil qah (qa0 (pv 1) (qa0 (pv 0) qa1)))))
  (qa3 (qd6 (j:=7) (caps:=[0,2]) (cn:=["_law_script","_law_cell_here"]) (qb4 rfl rfl (by rfl) (by rfl) rfl ⟨rfl,⟨rfl,trivial⟩⟩ (by rfl) rfl ⟨⟨rfl,rfl,rfl,rfl,_,rfl⟩,⟨⟨rfl,rfl,rfl,rfl,_,rfl⟩,trivial⟩⟩ (by decide)) rfl w2e.nd rfl rfl (qbv rfl T.w3i (qa0 (pv 4) qa1)) (fun _ _ _ _=>qck) (fun _ _ _ _=>(qa9 ((wc7 T).mono (by decide)) hr rfl T.wef T.wdi.kp T.wet .nil qah (qa0 (pv 1) (qa0 (qal qax (pv 0) (qal qbw qa4 (qal qc5 (pv 2) qa4))) qa1)))))
  (qa3 (qaf (i:=8) w2e.nd rfl (Or.inl rfl) (qa9 ((wgp T).mono (by decide)) hr rfl T.whm T.wg5.kp T.whv .nil qah (qa0 (pv 0) (qa0 (qaj qb0 rfl T.w3o PySem.boot_len (qa0 (pv 3) qa1)) (qa0 (pv 4) (qa0 (pv 5) (qa0 (pv 1) qa1)))))))
  (qa3 (qaf (i:=9) w2e.nd rfl (Or.inl rfl) (qa9 ((wdk T).mono (by decide)) hr rfl T.weo T.wdg.kp T.wep .nil qah (qa0 (qa9 ((w1l T).mono (by decide)) hr rfl T.w38 T.w2w.kp T.w34 .nil qah (qa0 (pv 0) (qa0 qa4 qa1))) (qa0 (pv 4) (qa0 (pv 5) qa1)))))
  (qa3 (qaf (i:=10) w2e.nd rfl (Or.inl rfl) (qcv (qa0 (qa9 ((w0m T).mono (by decide)) hr rfl T.w25 T.w1z.kp T.w24 .nil qah (qa0 (pv 2) (qa0 qa4 (qa0 (qaj qb0 rfl T.w3o PySem.boot_len (qa0 (pv 3) qa1)) qa1)))) (qa0 (pv 9) (qa0 (qa9 ((w0m T).mono (by decide)) hr rfl T.w25 T.w1z.kp T.w24 .nil qah (qa0 (pv 2) (qa0 qa4 (qa0 qa4 qa1)))) (qa0 (qbn qdk (qa9 ((w0m T).mono (by decide)) hr rfl T.w25 T.w1z.kp T.w24 .nil qah (qa0 (pv 2) (qa0 qa4 (qa0 qa4 qa1)))) qa4 (qar _)) qa1))))))
  (qa5 (qai (qcv (qa0 (pv 6) (qa0 (pv 7) (qa0 (pv 3) (qa0 (pv 8) (qa0 (pv 10) (qa0 (qa9 ((wgt T).mono (by decide)) hr rfl T.whu T.wg8.kp T.whn .nil qah (qa0 (pv 0) (qa0 (pv 8) (qa0 (pv 3) (qa0 (pv 10) qa1))))) qa1)))))))))))))))))),?_⟩
 walk_at "d"
 try dsimp only [cxC]
 refine qae (σ:=[some (.ref a),some (.int (m:Int)),none,none,none,none,none,none,none,none,none]) rfl ?_
 generalize hmi:((m:Nat):Int)=mi
 left
 refine⟨a,ns,4,rfl,hS,by decide,by decide,h63,fun H1 s1=>?_⟩
 generalize qbg ns 4=c
 left
 refine qbz (by decide) (by decide) (by decide) (by decide) fun r r0 r1=>?_
 left
 obtain⟨n,hn⟩:=Int.eq_ofNat_of_zero_le (show 0<=1+r by omega)
 rw [hn]
 refine⟨a,ns,n,rfl,s1.seq hS,h63,by omega,by omega,fun le las es H2 s2 L hel=>?_⟩
 have t2:=s1.trans s2
 have e5:es.length<=5:=by omega
 clear hn r0 r1
 left
 refine qbz (by decide) (by decide) (by decide) (by decide) fun r2 b0 b1=>?_
 obtain⟨kd,hkd⟩:=Int.eq_ofNat_of_zero_le (show 0<=1+r2 by omega)
 have k1:1<=kd:=by omega
 have k6:kd<=6:=by omega
 have ek:((kd:Nat):Int).toNat=kd:=by omega
 left
 rw [hkd]
 clear hkd b0 b1
 generalize hki:((kd:Nat):Int)=ki at*
 refine⟨a,ns,5,rfl,t2.seq hS,by decide,by decide,h63,fun H3 s3=>?_⟩
 generalize qbg ns 5=c5
 left
 rename_i pm hpm
 refine qbz (by decide) (by decide) (by decide) (by decide) fun r3 b0 b1=>?_
 refine r_menu (xs:=[1,1,1+c5%10^Int.toNat 27]) (SqL.of qa2) b0 b1 fun sc hm=>?_
 have hsc:Sc sc:=by
  have e27:(10:Int)^Int.toNat 27=10^27:=rfl
  rw [e27] at hm
  simp only [zK,yG,or_false] at hm
  have m0:=Int.emod_nonneg c5 (show (10^27:Int)≠0 by decide)
  have m1:=Int.emod_lt_of_pos c5 (show (0:Int) < 10^27 by decide)
  exact⟨by omega,by omega⟩
 have s4:=qa6 hpm (.lst [V.int 1,V.int 1,V.int (1+c5%10^Int.toNat 27)])
 generalize upd H3 pm (.lst [V.int 1,V.int 1,V.int (1+c5%10^Int.toNat 27)])=H4 at*
 have t4:=(t2.trans s3).trans s4
 have L4:=L.same (s3.trans s4)
 clear hm b0 b1 hpm s3 s4 s1 s2 t2 L
 have etop:=L4.top
 have lnl:(((las.map V.ref).length:Nat):Int)=((n:Nat):Int):=by rw [zB,L4.len,hel]
 have ntn:((n:Nat):Int).toNat=n:=by omega
 left
 rw [lnl]
 generalize hni:((n:Nat):Int)=ni at*
 left
 intro C s0 H0 fp ln hln
 rw [ntn]
 refine qf9 n (fun i H'=>qaq H4 H'/\H' ln=some (.lst (((List.range i).map fun(k:Nat)=>nmS (qbg ns 0) (qbg ns 1) (0+(k:Int))).map V.str))) ⟨qa6 hln _,qa2⟩ ?_ ?_ ?_ ?_
 .rintro i H' hi _
  exact hi
 .rintro H' _
  exact Nat.le_refl _
 .rintro i H' v H'' hi ⟨sm,ea⟩ ⟨rfl,rfl⟩
  have zl:(((List.range i).map fun(k:Nat)=>nmS (qbg ns 0) (qbg ns 1) (0+(k:Int))).map V.str).length < sizeLine:=by rw [zB,zB,yO];show _ < 16777216;omega
  left
  refine⟨a,ns,0+(i:Int),rfl,(t4.trans sm).seq hS,h63,by omega,by omega,fun H5 s5=>?_⟩
  have ea5:=s5 _ _ ea
  refine⟨_,ea5,zl,qay (sm.trans s5) hln,?_⟩
  rw [qa2,List.range_succ,zE,zE];rfl
 rintro H5 ⟨s5,eln⟩
 have hnm:Nms ((List.range n).map fun(k:Nat)=>nmS (qbg ns 0) (qbg ns 1) (0+(k:Int))) n:=nms_of (by decide) (by omega)
 have hfar:∀k:Int,6<=k->k<=25->nmS (qbg ns 0) (qbg ns 1) k∉(List.range n).map fun(k:Nat)=>nmS (qbg ns 0) (qbg ns 1) (0+(k:Int)):=fun k k0 k1 hm=>by
  obtain⟨i,hi,e⟩:=zI.mp hm
  have h1:=yP.mp hi
  have:=nmS_inj (by omega) (by omega) (by omega) (by omega) e
  omega
 generalize (List.range n).map (fun(k:Nat)=>nmS (qbg ns 0) (qbg ns 1) (0+(k:Int)))=nm at*
 have t5:=t4.trans s5
 have L5:=L4.same s5
 clear etop L4 hln
 left
 intro C s0 H0 fp lw hlw
 rw [ek]
 have o0:=Int.emod_nonneg c (show (2:Int)≠0 by decide)
 have o1:=Int.emod_lt_of_pos c (show (0:Int) < 2 by decide)
 refine qf9 kd (fun i H'=>qaq H5 H'/\H' lw=some (.lst (((List.range i).map fun(k:Nat)=>nmS (qbg ns 0) (qbg ns 1) (20*(c%2)+(k:Int))).map V.str))) ⟨qa6 hlw _,qa2⟩ ?_ ?_ ?_ ?_
 .rintro i H' hi _
  exact hi
 .rintro H' _
  exact Nat.le_refl _
 .rintro i H' v H'' hi ⟨sm,ea⟩ ⟨rfl,rfl⟩
  have zl:(((List.range i).map fun(k:Nat)=>nmS (qbg ns 0) (qbg ns 1) (20*(c%2)+(k:Int))).map V.str).length < sizeLine:=by rw [zB,zB,yO];show _ < 16777216;omega
  have ob:(c%2).natAbs < 2^600:=Nat.lt_of_le_of_lt (show (c%2).natAbs<=2 by omega) (by decide)
  left
  refine⟨a,ns,0+(i:Int)+20*(c%2),rfl,(t5.trans sm).seq hS,h63,by omega,by omega,fun H6 s6=>?_⟩
  have ea6:=s6 _ _ ea
  refine⟨_,ea6,zl,qay (sm.trans s6) hlw,?_⟩
  rw [qa2,List.range_succ,zE,zE,show 0+(i:Int)+20*(c%2)=20*(c%2)+(i:Int) by omega];rfl
 rintro H6 ⟨s6,elw⟩
 have hws:Nms ((List.range kd).map fun(k:Nat)=>nmS (qbg ns 0) (qbg ns 1) (20*(c%2)+(k:Int))) kd:=nms_of (by omega) (by omega)
 generalize (List.range kd).map (fun(k:Nat)=>nmS (qbg ns 0) (qbg ns 1) (20*(c%2)+(k:Int)))=ws at*
 have t6:=t5.trans s6
 have L6:=L5.same s6
 have eln6:=s6 _ _ eln
 clear hlw o0 o1 eln L5 s5 s6
 have etop:=L6.top
 left
 rw [lnl]
 have nl1:1<=n:=by omega
 have nl6:n<=6:=by omega
 refine⟨a,ns,sc,n,kd,m,by rw [hni,hki,hmi],t6.seq hS,h63,hsc,nl1,by omega,k1,k6,m30,fun lr Rs H7 s7 elr hrl hR hup=>?_⟩
 have t7:=t6.trans s7
 left
 refine⟨a,ns,6,rfl,t7.seq hS,by decide,by decide,h63,fun H8 s8=>?_⟩
 generalize qbg ns 6=c6
 left
 refine⟨c6,sc,kd,by rw [hki],k1,k6,hsc,fun pa aps H9 s9 hpa epa hal han=>?_⟩
 have s79:=s8.trans s9
 have L9:=L6.same (s7.trans s79)
 have eln9:=s79 _ _ (s7 _ _ eln6)
 have elw9:=s79 _ _ (s7 _ _ elw)
 have elr9:=s79 _ _ elr
 have hR9:∀R∈Rs,RwAt H9 n kd R:=fun R hr=>(hR R hr).same s79
 have t9:=t7.trans s79
 clear etop L6 eln6 elw elr hR t6 t7 s7 s8 s9 s79 t4 t5 hpa
 have etop:=L9.top
 left
 rw [lnl]
 have nb1:1<=ni:=by omega
 have nb2:ni<=6:=by omega
 refine qbz (by decide) (by decide) (by omega) (by omega) fun r4 b0 b1=>?_
 obtain⟨h,hh0⟩:=Int.eq_ofNat_of_zero_le b0
 have hh:h < n:=by omega
 rw [hh0]
 clear hh0 b0 b1 nb1 nb2
 generalize hhi:((h:Nat):Int)=hi at*
 left
 refine qbz (by decide) (by decide) (by decide) (by decide) fun r5 _ _=>?_
 left
 refine qbz (by decide) (by decide) (by decide) (by decide) fun r6 _ _=>?_
 left
 rename_i la hla
 have s10:=qa6 hla (.tup [V.int hi,V.ref pa,V.int r5,V.bl (decide (r6=0))])
 have ela:upd H9 la (.tup [V.int hi,V.ref pa,V.int r5,V.bl (decide (r6=0))]) la=some (.tup [V.int hi,V.ref pa,V.int r5,V.bl (decide (r6=0))]):=qa2
 generalize upd H9 la (.tup [V.int hi,V.ref pa,V.int r5,V.bl (decide (r6=0))])=H10 at*
 generalize hsu:decide (r6=0)=su at*
 have n0:n=es.length+1:=by omega
 refine⟨a,ns,lr,le,la,pa,las,Rs,es,kd,h,aps,r5,su,rfl,(t9.trans s10).seq hS,h63,s10 _ _ elr9,by omega,fun R hr=>by rw [<-n0];exact(hR9 R hr).same s10,L9.same s10,e5,k1,k6,by omega,by rw [hhi];exact ela,s10 _ _ epa,hal,han,fun lc cs H11 s11 elc hcl hcs=>?_⟩
 have t11:=(t9.trans s10).trans s11
 have s911:=s10.trans s11
 left
 rename_i wt hwt
 have s12:=qa6 hwt (.tup [V.ref ln,V.ref lw,V.ref le,V.ref lr,V.ref la,V.ref lc])
 have ewt:upd H11 wt (.tup [V.ref ln,V.ref lw,V.ref le,V.ref lr,V.ref la,V.ref lc]) wt=some (.tup [V.ref ln,V.ref lw,V.ref le,V.ref lr,V.ref la,V.ref lc]):=qa2
 generalize upd H11 wt (.tup [V.ref ln,V.ref lw,V.ref le,V.ref lr,V.ref la,V.ref lc])=H12 at*
 have s912:=s911.trans s12
 have ewl:ws.length=kd:=hws.len
 subst ewl
 exact q ⟨wt,ln,lw,le,lr,la,lc,pa,las,nm,ws,es,Rs,h,aps,r5,su,cs⟩ H12 (t11.trans s12) ⟨ewt,s912 _ _ eln9,s912 _ _ elw9,L9.same s912,s912 _ _ elr9,fun R hr=>by show RwAt H12 (es.length+1) _ R;rw [<-n0];exact(hR9 R hr).same s912,by show H12 la=some (.tup [.int ((h:Nat):Int),_,_,_]);rw [hhi];exact(s11.trans s12) _ _ ela,s912 _ _ epa,s12 _ _ elc,hcs.same s12⟩ ⟨hal,han,by show h < es.length+1;omega,hcl,by show Nms nm (es.length+1);rw [<-n0];exact hnm,hws,k1,k6,e5,hup,by show Rs.length<=30;omega⟩ hfar
theorem rm_get {P:PL} {js:List Nat} {ss:List Str} {val:Nat->Str->Int} {i:Nat} {k:List Key} {v:V} (h:(qcx P js ss val)[i]?=some (k,v)):∃j∈js,∃w∈ss,k=[Sum.inr (nmF P j),Sum.inr w]/\v=.int (val j w):=by
 obtain⟨j,hj,hx⟩:=List.mem_flatMap.mp (zD h)
 obtain⟨w,hw,e⟩:=zI.mp hx
 cases e
 exact⟨j,hj,w,hw,rfl,rfl⟩
theorem rm_nd {P:PL} {js:List Nat} {ss:List Str} {val:Nat->Str->Int} (inj:∀i∈js,∀j∈js,nmF P i=nmF P j->i=j) (jd:js.Nodup) (sd:ss.Nodup):((qcx P js ss val).map (·.1)).Nodup:=by
 induction js with
 |nil=>exact yK
 |cons j r ih=>
  show ((qe4 (nmF P j) ss (val j)++qcx P r ss val).map (·.1)).Nodup
  rw [yA] at jd
  rw [zE]
  refine yL.mpr ⟨?_,ih (fun a ha b hb=>inj a (zF _ ha) b (zF _ hb)) jd.2,fun a ha b hb e=>?_⟩
  .unfold qe4
   rw [yU]
   show List.Pairwise _ _
   rw [yQ]
   exact List.Pairwise.imp (fun {x y} h e=>h (Sum.inr.inj (List.cons.inj (List.cons.inj e).2).1)) sd
  .unfold qe4 at ha
   rw [yU] at ha
   obtain⟨w,_,rfl⟩:=zI.mp ha
   obtain⟨j',hj',w',_,e'⟩:=rm_in hb
   have e1:nmF P j=nmF P j':=Sum.inr.inj (List.cons.inj (e.trans e')).1
   have:=inj j (zL ..) j' (zF _ hj') e1
   subst this
   exact jd.1 hj'
theorem valV_at {κ:Type} [DecidableEq κ] {kvs:List (κ × V)} (nd:(kvs.map (·.1)).Nodup) {i:Nat} {k:κ} {v:V} (h:kvs[i]?=some (k,v)):qcd kvs k=some v:=by
 induction kvs generalizing i with
 |nil=>simp at h
 |cons x r ih=>
  rw [zS,yA] at nd
  cases i with
  |zero=>
   simp only [List.getElem?_cons_zero,Option.some.injEq] at h
   subst h
   unfold qcd
   simp
  |succ i=>
   simp only [List.getElem?_cons_succ] at h
   have hne:¬x.1=k:=fun e=>nd.1 (e ▸ zI.mpr ⟨(k,v),zD h,rfl⟩)
   have z:=ih nd.2 h
   unfold qcd at z ⊢
   simpa [yI,hne] using z
theorem r_itDT {a:Addr} {H:Hp} {kvs:List (List Key × V)} {R:It->Hp->Prop} (e:H a=some (.dT kvs)) (h:∀o,R (ItDT a o kvs) (upd H a (.frz o (.dT kvs)))):rItDT (.ref a) H R:=⟨a,kvs,rfl,e,h⟩
theorem r_iDT {tl:TE} {σ:L2.St} {H:Hp} {R:It->Hp->Prop} (h:tl σ H fun x H1=>rItDT x H1 R):iDictT tl σ H R:=h
theorem f_dictT {D:Ends} {σ:L2.St} {H:Hp} {g:TG} {tb:TS} {a:Addr} {o:Obj} {kvs:List (List Key × V)} (Pv:Nat->L2.St->Hp->Prop) (h0:Pv 0 σ H) (hl:∀i σ H,i<=kvs.length->Pv i σ H->H a=some (.frz o (.dT kvs)))
  (hs:∀i k v b σ H,kvs[i]?=some (k,v)->H b=some (.tup (k.map kV))->Pv i σ H->g (.ref b) σ H fun σ2 H2=>tb {nx:=Pv (i+1),rt:=D.rt,bk:=D.nx,ct:=Pv (i+1)} σ2 H2) (hd:∀σ H,Pv kvs.length σ H->D.nx σ H):FOR (ItDT a o kvs) g tb D σ H:=by
 refine⟨fun i m σ H=>m=kvs.length - i/\i<=kvs.length/\Pv i σ H,⟨kvs.length,rfl,Nat.zero_le _,h0⟩,?_⟩
 rintro i m σ H ⟨rfl,hi,p⟩
 have q:=hl i σ H hi p
 by_cases hlt:i < kvs.length
 .refine .inr ⟨⟨q,hlt⟩,Pv (i+1),fun σ' H' p'=>⟨kvs.length - (i+1),by omega,rfl,hlt,p'⟩,fun x H' y=>?_⟩
  obtain⟨e,k,v,b,hk,rfl,hb⟩:=y
  subst e
  exact hs i k v b σ _ hk hb p
 .have e:i=kvs.length:=Nat.le_antisymm hi (Nat.le_of_not_lt hlt)
  subst e
  exact .inl ⟨⟨q,Nat.le_refl _⟩,hd σ H p⟩
abbrev Pc:=Nat × Str
def pls (js:List Nat) (ss:List Str):List Pc:=js.flatMap fun j=>ss.map fun w=>(j,w)
def pcK (P:PL) (p:Pc):List Key:=[Sum.inr (nmF P p.1),Sum.inr p.2]
def rmM (P:PL) (ps:List Pc) (val:Pc->Int):List (List Key × V):=ps.map fun p=>(pcK P p,V.int (val p))
theorem pls_in {js:List Nat} {ss:List Str} {p:Pc} (h:p∈pls js ss):p.1∈js/\p.2∈ss:=by
 obtain⟨j,hj,hx⟩:=List.mem_flatMap.mp h
 obtain⟨w,hw,rfl⟩:=zI.mp hx
 exact⟨hj,hw⟩
structure PsOk (P:PL) (ps:List Pc) (n:Nat):Prop where
 nd:ps.Nodup
 lt:∀p∈ps,p.1 < n
 inj:∀i j,i < n->j < n->nmF P i=nmF P j->i=j
 len:ps.length<=100
theorem pcK_inj {P:PL} {ps:List Pc} {n:Nat} (h:PsOk P ps n) {p q:Pc} (hp:p∈ps) (hq:q∈ps) (e:pcK P p=pcK P q):p=q:=by
 have e1:nmF P p.1=nmF P q.1:=Sum.inr.inj (List.cons.inj e).1
 have e2:p.2=q.2:=Sum.inr.inj (List.cons.inj (List.cons.inj e).2).1
 have:=h.inj _ _ (h.lt p hp) (h.lt q hq) e1
 exact Prod.ext this e2
theorem rmM_keys {P:PL} {ps:List Pc} {n:Nat} (h:PsOk P ps n) (val:Pc->Int):((rmM P ps val).map (·.1)).Nodup:=by
 have e:(rmM P ps val).map (·.1)=ps.map (pcK P):=by unfold rmM;rw [yU];rfl
 rw [e]
 show List.Pairwise _ _
 rw [yQ]
 exact List.Pairwise.imp_of_mem (fun {x y} hx hy ne e=>ne (pcK_inj h hx hy e)) h.nd
theorem rmM_at {P:PL} {ps:List Pc} {val:Pc->Int} {i:Nat} {k:List Key} {v:V} (h:(rmM P ps val)[i]?=some (k,v)):∃p,ps[i]?=some p/\k=pcK P p/\v=.int (val p):=by
 unfold rmM at h
 rw [zC] at h
 obtain⟨p,hp,e⟩:=Option.map_eq_some_iff.mp h
 exact⟨p,hp,(Prod.mk.inj e).1.symm,(Prod.mk.inj e).2.symm⟩
theorem rmM_val {P:PL} {ps:List Pc} {n:Nat} (h:PsOk P ps n) {val:Pc->Int} {i:Nat} {p:Pc} (hp:ps[i]?=some p):qcd (rmM P ps val) (pcK P p)=some (.int (val p)):=valV_at (rmM_keys h val) (i:=i) (by unfold rmM;rw [zC,hp];rfl)
theorem rmM_take {P:PL} {ps:List Pc} {n:Nat} (h:PsOk P ps n) {val:Pc->Int} {i:Nat} {p:Pc} (hp:ps[i]?=some p):qcy (rmM P (ps.take i) val) (pcK P p) (.int (val p))=rmM P (ps.take (i+1)) val:=by
 have tk:ps.take (i+1)=ps.take i++ [p]:=by rw [zM,hp];rfl
 rw [qef,tk]
 .unfold rmM;rw [zE];rfl
 .intro hm
  have e:(rmM P (ps.take i) val).map (·.1)=(ps.take i).map (pcK P):=by unfold rmM;rw [yU];rfl
  rw [e] at hm
  obtain⟨q,hq,eq⟩:=zI.mp hm
  have:=pcK_inj h (List.mem_of_mem_take hq) (zD hp) eq
  subst this
  have nd:=h.nd
  have e2:=List.take_append_drop (i+1) ps
  rw [tk] at e2
  rw [<-e2,yL,yL] at nd
  exact nd.1.2.2 q hq q (zG.mpr rfl) rfl
def prN (P:PL) (b:Ob) (p:Pc):Int:=if p.1∈qad (elN P.es) b.R.i then gN b.R.f p.2 else 0
def wcl (K:Frag) (d:Ad):Sp:=fun vs H Q _=>∃(t lh rm:Addr) (S:Ts) (P:PL) (bs:List Ob) (b:Ob) (n:Nat) (ps:List Pc) (val:Pc->Int),vs=[.ref t,.ref b.o,.ref rm]/\WdAt K d H t lh S P bs n/\n<=12/\ObAt d H P b/\PsOk P ps n/\H rm=some (.dT (rmM P ps val))/\
 ∀pt H',qaq H H'->H pt=none->H' pt=some (.dT (rmM P ps (prN P b)))->Q (.ref pt) H'
include T in
theorem wc9:FnOk P w K mg base CX0 7 d.w6y d.w5y ["tree","hold","places"] (wcl K d):=by
 refine T.wa5.ok w4l (fun vs H Q E h=>?_) (fun cdv A outer s H vs Q E hr h=>?_)
 .obtain⟨t,lh,rm,S,P,bs,b,n,ps,val,rfl,_⟩:=h;rfl
 obtain⟨t,lh,rm,S,P,bs,b,n,ps,val,rfl,hW,n12,hb,hP,er,q⟩:=h
 refine⟨_,(qa3 (qaf (i:=3) w4l.nd rfl (Or.inl rfl) (qb1 (W:=fun _ _ _ _=>False) (pv 0) T.w01 T.w0g ((w2k T).mono (by decide)) hr T.w3f .nil qej (qa0 (qaz (pv 1) rfl) qa1)))
  (qa3 (qaf (i:=4) w4l.nd rfl (Or.inl rfl) pe_dnewT)
  (qa3 (ps_thAT (qb7 PassesOwn.never rfl (qeg (pv 2)) (qac (i:=5) w4l.nd rfl (Or.inl rfl)) (qa5 (qe5 (qc9 hr) (pv 4) (pv 5) (pe_ifExp (qap qd8 (qan qb3 (pv 5) qa4 (fun _ _=>rfl)) (pv 3) (by rfl)) (qa9 ((w1p T).mono (by decide)) hr rfl T.w28 T.w1k.kp T.w29 .nil qah (qa0 (qaz (pv 1) rfl) (qa0 (qan qb3 (pv 5) qa4 (fun _ _=>rfl)) qa1))) qa4) rfl))))
  (qa5 (qai (pv 4)))))),?_⟩
 walk_at "d"
 refine qae (σ:=[some (.ref t),some (.ref b.o),some (.ref rm),none,none,none]) rfl ?_
 have ct:=T.w01
 obtain⟨dx,ht⟩:=id hW.tr.1
 obtain⟨db,hbo⟩:=hb.obj
 obtain⟨cl,m1,m2,m3,m4,m5⟩:=clsOk T b.R.s
 unfold fsB at hbo
 have bi:b.R.i < n:=by have:=hb.il;rw [hW.nn] at this;exact this
 left
 refine⟨t,S,.str (nmF P b.R.i),rfl,hW.tr,.inl ⟨nmF P b.R.i,(qad (elN P.es) b.R.i).map (nmF P),rfl,hW.pl.line b.R.i bi,by rw [zB];have:=qcb hW.pl.low b.R.i bi;omega,fun ll hll=>?_⟩⟩
 have s1:=qa6 hll (.lst (((qad (elN P.es) b.R.i).map (nmF P)).map V.str))
 have ell:upd H ll (.lst (((qad (elN P.es) b.R.i).map (nmF P)).map V.str)) ll=some (.lst (((qad (elN P.es) b.R.i).map (nmF P)).map V.str)):=qa2
 generalize upd H ll (.lst (((qad (elN P.es) b.R.i).map (nmF P)).map V.str))=H1 at*
 left
 refine r_dnewT fun pt hpt=>?_
 have s2:=qa6 hpt (.dT [])
 have ept:upd H1 pt (.dT []) pt=some (.dT (rmM P (ps.take 0) (prN P b))):=qa2
 generalize upd H1 pt (.dT [])=H2 at*
 have t2:=s1.trans s2
 have er2:=t2 _ _ er
 have fpt:H pt=none:=s1.free hpt
 have npr:pt≠rm:=(qaa er fpt).symm
 have ell2:=s2 _ _ ell
 have hb2:=hb.same t2
 have hbo2:=t2 _ _ hbo
 clear hbo ht ell
 left
 refine r_thAT ?_
 left
 refine r_iDT ?_
 left
 refine r_itDT er2 fun o=>?_
 have hF:upd H2 rm (.frz o (.dT (rmM P ps val))) rm=some (.frz o (.dT (rmM P ps val))):=qa2
 have sF:∀x u,x≠rm->H2 x=some u->upd H2 rm (.frz o (.dT (rmM P ps val))) x=some u:=fun x u ne e=>by rw [qa7 ne];exact e
 have nll:ll≠rm:=fun z=>by rw [z,er2] at ell2;cases ell2
 have nlp:ll≠pt:=fun z=>by rw [z,ept] at ell2;cases ell2
 have nbo:b.o≠rm:=fun z=>by rw [z,er2] at hbo2;cases hbo2
 have nbm:b.m≠rm:=fun z=>by have:=hb2.amt;rw [z,er2] at this;cases this
 have nbo2:b.o≠pt:=fun z=>by rw [z,ept] at hbo2;cases hbo2
 have nbm2:b.m≠pt:=fun z=>by have:=hb2.amt;rw [z,ept] at this;cases this
 have ept2:=sF pt _ npr ept
 generalize upd H2 rm (.frz o (.dT (rmM P ps val)))=HF at*
 have l100:=hP.len
 refine f_dictT (fun i σ H'=>∃w:Option V,σ=[some (.ref t),some (.ref b.o),some (.ref rm),some (.ref ll),some (.ref pt),w]/\H' rm=some (.frz o (.dT (rmM P ps val)))/\(∀x u,x≠rm->x≠pt->H2 x=some u->H' x=some u)/\H' pt=some (.dT (rmM P (ps.take i) (prN P b)))) ⟨_,rfl,hF,fun x u n1 _ e=>sF x u n1 e,ept2⟩ ?_ ?_ ?_
 .rintro i σ H' _ ⟨w,_,fz,_⟩;exact fz
 .rintro i k v a σ H' hk ha ⟨w,rfl,fz,sm,ep⟩
  obtain⟨p,hp,rfl,rfl⟩:=rmM_at hk
  have ha:H' a=some (.tup [.str (nmF P p.1),.str p.2]):=ha
  have hpm:=zD hp
  have ell':=sm _ _ nll nlp ell2
  have hbo':=sm _ _ nbo nbo2 hbo2
  have hRb:Rd H' b.m (.dK b.R.k):=.inl (sm _ _ nbm nbm2 hb2.amt)
  have had:=hb2.ad
  have sz:(rmM P (ps.take i) (prN P b)).length < sizeLine:=by unfold rmM;rw [zB,zU];show _ < 16777216;omega
  have ein:(nmF P p.1∈(qad (elN P.es) b.R.i).map (nmF P))=(p.1∈qad (elN P.es) b.R.i):=propext ⟨fun hm=>by
   obtain⟨j,hj,e⟩:=zI.mp hm
   have hjn:=qcr hW.pl.low b.R.i bi j hj
   have:=hP.inj _ _ (by omega) (hP.lt p hpm) e
   rw [<-this];exact hj,fun hm=>zI.mpr ⟨_,hm,rfl⟩⟩
  have fin:∀v:Int,v=prN P b p->∃w':Option V, [some (V.ref t),some (V.ref b.o),some (V.ref rm),some (V.ref ll),some (V.ref pt),some (V.ref a)]=[some (V.ref t),some (V.ref b.o),some (V.ref rm),some (V.ref ll),some (V.ref pt),w']/\upd H' pt (.dT (qcy (rmM P (ps.take i) (prN P b)) (pcK P p) (.int v))) rm=some (.frz o (.dT (rmM P ps val)))/\(∀x u,x≠rm->x≠pt->H2 x=some u->upd H' pt (.dT (qcy (rmM P (ps.take i) (prN P b)) (pcK P p) (.int v))) x=some u)/\upd H' pt (.dT (qcy (rmM P (ps.take i) (prN P b)) (pcK P p) (.int v))) pt=some (.dT (rmM P (ps.take (i+1)) (prN P b))):=fun v ev=>by
   rw [ev,rmM_take hP hp]
   exact⟨_,rfl,by rw [qa7 npr.symm];exact fz,fun x u n1 n2 e=>by rw [qa7 n2];exact sm x u n1 n2 e,qa2⟩
  left
  refine r_inSs (SqL.of ell') ?_
  simp only [ein]
  by_cases c:p.1∈qad (elN P.es) b.R.i
  .rw [decide_eq_true c]
   left
   refine r_dpT (k:=pcK P p) ep ha sz ?_
   exact fin _ (by unfold prN;rw [if_pos c])
  .rw [decide_eq_false c]
   left
   refine r_dpT (k:=pcK P p) ep ha sz ?_
   exact fin _ (by unfold prN;rw [if_neg c])
 .rintro σ H' ⟨w,rfl,fz,sm,ep⟩
  have el:(rmM P ps val).length=ps.length:=by unfold rmM;rw [zB]
  rw [el,zR] at ep
  refine r_thNxT (thawT1 fz (qfu er)) ?_
  left
  refine q pt _ (fun x u e=>?_) fpt (by rw [qa7 npr];exact ep)
  by_cases c:x=rm
  .subst c
   rw [qa2]
   rw [er] at e;exact e
  .rw [qa7 c]
   exact sm x u c (qaa e fpt) (t2 _ _ e)
def w9f (K:Frag) (d:Ad):Sp:=fun vs H Q _=>∃(pt rm:Addr) (P:PL) (n:Nat) (ps:List Pc) (pu ru:Pc->Int),vs=[.ref pt,.ref rm]/\PsOk P ps n/\H pt=some (.dT (rmM P ps pu))/\H rm=some (.dT (rmM P ps ru))/\pt≠rm/\
 (ps.find? (fun p=>decide (ru p < pu p))=none->∀H',qaq H H'->Q .non H')/\∀p,ps.find? (fun p=>decide (ru p < pu p))=some p->∀b H',qaq H H'->H' b=some (.tup [.str (nmF P p.1),.str p.2])->Q (.ref b) H'
theorem find_take {α:Type} {f:α->Bool} {l:List α} {i:Nat} {x:α} (hx:l[i]?=some x) (hn:∀y∈l.take i,f y=false) (hf:f x=true):l.find? f=some x:=by
 induction l generalizing i with
 |nil=>simp at hx
 |cons a l ih=>
  cases i with
  |zero=>
   have e:a=x:=by simpa using hx
   subst e
   rw [yI,hf]
  |succ i=>
   have hx:l[i]?=some x:=by simpa using hx
   rw [yI,hn a (by simp)]
   exact ih hx fun y hy=>hn y (by rw [List.take_succ_cons];exact zF _ hy)
include T in
theorem w8d:FnOk P w K mg base CX0 1 d.w3w d.w32 ["parts","rooms"] (w9f K d):=by
 refine T.w5v.ok w57 (fun vs H Q E h=>?_) (fun cdv A outer s H vs Q E hr h=>?_)
 .obtain⟨pt,rm,P,n,ps,pu,ru,rfl,_⟩:=h;rfl
 obtain⟨pt,rm,P,n,ps,pu,ru,rfl,hP,ept,er,ne,qn,q⟩:=h
 refine⟨_,(qa3 (ps_thAT (qb7 PassesOwn.never rfl (qeg (pv 0)) (qac (i:=2) w57.nd rfl (Or.inl rfl)) (qa5 (qbk (qap qf6 (qbt (qc9 hr) (pv 0) (pv 2) (fun _ _=>rfl)) (qbt (qc9 hr) (pv 1) (pv 2) (fun _ _=>rfl)) (qar _)) (qa5 (qai (pv 2))) qao))))
  (qa5 (qai qca))),?_⟩
 walk_at "d"
 refine qae (σ:=[some (.ref pt),some (.ref rm),none]) rfl ?_
 left
 refine r_thAT ?_
 left
 refine r_iDT ?_
 left
 refine r_itDT ept fun o=>?_
 have sT:∀x u,H x=some u->upd (upd H pt (.frz o (.dT (rmM P ps pu)))) pt (.dT (rmM P ps pu)) x=some u:=fun x u e=>by
  rw [qbj]
  by_cases c:x=pt
  .rw [c,qa2];rw [c,ept] at e;exact e
  .rw [qa7 c];exact e
 have erF:upd H pt (.frz o (.dT (rmM P ps pu))) rm=some (.dT (rmM P ps ru)):=by rw [qa7 ne.symm];exact er
 have hF:upd H pt (.frz o (.dT (rmM P ps pu))) pt=some (.frz o (.dT (rmM P ps pu))):=qa2
 have el:(rmM P ps pu).length=ps.length:=by unfold rmM;rw [zB]
 generalize upd H pt (.frz o (.dT (rmM P ps pu)))=HF at*
 refine f_dictT (fun i σ H'=>H'=HF/\(∃w:Option V,σ=[some (.ref pt),some (.ref rm),w])/\∀y∈ps.take i,decide (ru y < pu y)=false) ⟨rfl,⟨_,rfl⟩,fun y hy=>by simp at hy⟩ ?_ ?_ ?_
 .rintro i σ H' _ ⟨rfl,_⟩;exact hF
 .rintro i k v a σ H' hk ha ⟨rfl,⟨w,rfl⟩,hno⟩
  obtain⟨p,hp,rfl,rfl⟩:=rmM_at hk
  have tk:ps.take (i+1)=ps.take i++ [p]:=by rw [zM,hp];rfl
  left
  refine r_dgT (k:=pcK P p) (.inr ⟨o,hF⟩) ha (rmM_val hP hp) ?_
  left
  refine r_dgT (k:=pcK P p) (.inl erF) ha (rmM_val hP hp) ?_
  left
  refine i_2 (fun c=>?_) (fun c=>?_)
  .refine⟨V.ref a,rfl,_,thawT1 hF (qfu ept),?_⟩
   have nap:a≠pt:=fun z=>by rw [z,hF] at ha;cases ha
   refine q p (find_take hp hno (decide_eq_true c)) a _ sT ?_
   rw [qa7 nap];exact ha
  .left
   refine⟨rfl,⟨_,rfl⟩,fun y hy=>?_⟩
   rw [tk] at hy
   rcases zV.mp hy with hy|hy
   .exact hno y hy
   .rw [zG.mp hy];exact decide_eq_false c
 .rintro σ H' ⟨rfl,⟨w,rfl⟩,hno⟩
  rw [el,zR] at hno
  refine r_thNxT (thawT1 hF (qfu ept)) ?_
  left
  exact qn (List.find?_eq_none.mpr fun y hy=>by rw [hno y hy];exact Bool.false_ne_true) _ sT
structure Pr where
 a:Addr
 n:Int
 x:Int
def prV (ps:List Pr):List V:=ps.map fun p=> .ref p.a
def PrAt (H:Hp) (p:Pr):Prop:=H p.a=some (.tup [.int p.n,.int p.x])
def prZ (ps:List Pr):List (Int × Int):=ps.map fun p=>(p.n,p.x)
def takeN (v:Str) (bs:List Ob):List (Int × Int):=(bs.filter fun b=>decide (0 < gN b.R.f v)).map fun b=>(b.R.n,gN b.R.f v)
def wfd (K:Frag) (d:Ad):Sp:=fun vs H Q _=>∃(t lh:Addr) (S:Ts) (P:PL) (bs:List Ob) (z v:Str) (e:He),vs=[.ref t,.ref lh,.str z,.str v]/\qed d H t S/\WF S/\S.at z=some e/\Dep S 12 z/\H lh=some (.lst (bsV bs))/\bs.length<=63/\(∀b∈bs,ObAt d H P b)/\
 ∀(l:Addr) (zs:List Str) (ps:List Pr) (H':Hp),qaq H H'->H l=none->Ben S 12 z zs->H' l=some (.lst (prV ps))->(∀p∈ps,PrAt H' p/\H p.a=none)->prZ ps=takeN v (bs.filter (inZ P zs))->ps.length<=63->Q (.ref l) H'
theorem gN_pos {f:Str->Option Int} {v:Str} (h:0 < gN f v):f v=some (gN f v):=by
 unfold gN at h ⊢
 cases e:f v with
 |none=>rw [e] at h;exact absurd h (by decide)
 |some n=>rfl
include T in
theorem wer:FnOk P w K mg base CX0 18 d.waj d.w8g ["tree","holds","house","ware"] (wfd K d):=by
 refine T.wdq.ok wc6 (fun vs H Q E h=>?_) (fun cdv A outer s H vs Q E hr h=>?_)
 .obtain⟨t,lh,S,P,bs,z,v,e,rfl,_⟩:=h;rfl
 obtain⟨t,lh,S,P,bs,z,v,e,rfl,hT,hW,ae,hD,hL,h63,hB,q⟩:=h
 refine⟨_,(qa3 (qd6 (j:=4) (caps:=[3]) (cn:=["ware"]) (qb4 rfl rfl (by rfl) (by rfl) rfl ⟨rfl,trivial⟩ (by rfl) rfl ⟨⟨rfl,rfl,rfl,rfl,_,rfl⟩,trivial⟩ (by decide)) rfl wc6.nd rfl rfl (qau (qbb (W:=fun _ _ _ _=>False) ((w2s T).mono (by decide)) hr rfl T.w3e T.w1u.kp T.w3h .nil qej (qa0 (pv 0) (qa0 (pv 1) (qa0 (pv 2) qa1))))) (fun _ _ _ _=>(qcu (qap qf6 (qa9 ((w1p T).mono (by decide)) hr rfl T.w28 T.w1k.kp T.w29 .nil qah (qa0 (qaz (pv 0) rfl) (qa0 (pv 1) qa1))) qa4 (qar _)))) (fun _ _ _ _=>(pv 0)))
  (qa5 (qai (qbp (caps:=[3]) (cn:=["ware"]) (qb4 rfl rfl (by rfl) (by rfl) rfl ⟨rfl,trivial⟩ (by rfl) rfl ⟨⟨rfl,rfl,rfl,rfl,_,rfl⟩,trivial⟩ (by decide)) rfl (qau (pv 4)) (fun _ _ _ _=>qck) (fun _ _ _ _=>(qcv (qa0 (qaz (pv 0) rfl) (qa0 (qbt (qc9 hr) (qaz (pv 0) rfl) (pv 1) (fun _ _=>rfl)) qa1)))))))),?_⟩
 walk_at "d"
 try dsimp only [cxC]
 refine qae (σ:=[some (.ref t),some (.ref lh),some (.str z),some (.str v),none]) rfl ?_
 left
 refine .inr ⟨t,lh,S,P,bs,z,e,rfl,hT,hW,ae,hD,hL,h63,hB,fun l1 zs H1 s1 hl1 hBen el1=>?_⟩
 have hB1:∀b∈bs.filter (inZ P zs),ObAt d H1 P b:=fun b hb=>(hB b (yD.mp hb).1).same s1
 have h63':(bs.filter (inZ P zs)).length<=63:=Nat.le_trans (zT ..) h63
 have q1:∀(l:Addr) (ps:List Pr) (H':Hp),qaq H H'->H l=none->H' l=some (.lst (prV ps))->(∀p∈ps,PrAt H' p/\H p.a=none)->prZ ps=takeN v (bs.filter (inZ P zs))->ps.length<=63->Q (.ref l) H':=fun l ps H' a b c d e f=>q l zs ps H' a b hBen c d e f
 clear q
 generalize bs.filter (inZ P zs)=cs at*
 clear hT hD hL hB
 left
 intro C s0 H0 fp acc hacc
 refine qf9 cs.length (fun i H'=>H'=upd H1 acc (.lst (bsV ((cs.take i).filter fun b=>decide (0 < gN b.R.f v))))) rfl ?_ ?_ ?_ ?_
 .rintro i H' hi rfl
  exact⟨_,.ref cs[i].o,SqL.of (qab el1 hacc),by unfold bsV;rw [zC,zA hi];rfl⟩
 .rintro H' rfl
  exact⟨_,SqL.of (qab el1 hacc),by unfold bsV;rw [zB];exact Nat.le_refl _⟩
 .rintro i H' u H'' hi rfl ⟨rfl,hy⟩
  have hv:=hy _ (SqL.of (qab el1 hacc))
  unfold bsV at hv
  rw [zC,zA hi] at hv
  cases hv
  have hb:=hB1 _ (zO hi)
  have tk:cs.take (i+1)=cs.take i++ [cs[i]]:=by rw [zM,zA hi];rfl
  generalize hbi:cs[i]=b at*
  obtain⟨dx,hbo⟩:=hb.obj
  have hbo':=qab (o':=.lst (bsV ((cs.take i).filter fun b=>decide (0 < gN b.R.f v)))) hbo hacc
  have hbm:Rd (upd H1 acc (.lst (bsV ((cs.take i).filter fun b=>decide (0 < gN b.R.f v))))) b.m (.dK b.R.k):=.inl (qab hb.amt hacc)
  have hAb:=hb.ad
  obtain⟨cl,n1,n2,n3,n4,n5⟩:=clsOk T b.R.s
  have zl:(bsV ((cs.take i).filter fun b=>decide (0 < gN b.R.f v))).length < sizeLine:=by
   unfold bsV
   rw [zB]
   have h1:=zT (fun b:Ob=>decide (0 < gN b.R.f v)) (cs.take i)
   rw [zU] at h1
   show _ < 16777216
   omega
  left
  refine i_2 (fun c=>?_) (fun c=>?_)
  .left
   rw [qbj,tk,zX,zW,if_pos (decide_eq_true c)]
   congr 2
   unfold bsV
   rw [zE];rfl
  .left
   rw [tk,zX,zW,if_neg (by rw [decide_eq_false c];decide),yN,zZ]
 rintro H' rfl
 rw [zR]
 have s2:=qa6 hacc (.lst (bsV (cs.filter fun b=>decide (0 < gN b.R.f v))))
 have e2:upd H1 acc (.lst (bsV (cs.filter fun b=>decide (0 < gN b.R.f v)))) acc=some (.lst (bsV (cs.filter fun b=>decide (0 < gN b.R.f v)))):=qa2
 generalize upd H1 acc (.lst (bsV (cs.filter fun b=>decide (0 < gN b.R.f v))))=H2 at*
 have hB2:∀b∈cs.filter (fun b=>decide (0 < gN b.R.f v)),ObAt d H2 P b/\0 < gN b.R.f v:=fun b hb=>⟨(hB1 b (yD.mp hb).1).same s2,of_decide_eq_true (yD.mp hb).2⟩
 have h63'':(cs.filter fun b=>decide (0 < gN b.R.f v)).length<=63:=Nat.le_trans (zT ..) h63'
 have q':∀(l:Addr) (ps:List Pr) (H':Hp),qaq H2 H'->H2 l=none->H' l=some (.lst (prV ps))->(∀p∈ps,PrAt H' p/\H2 p.a=none)->prZ ps=(cs.filter fun b=>decide (0 < gN b.R.f v)).map (fun b=>(b.R.n,gN b.R.f v))->ps.length<=63->Q (.ref l) H':=fun l ps H' sm hl el hp hn h6=>
  q1 l ps H' ((s1.trans s2).trans sm) ((s1.trans s2).free hl) el (fun p h=>⟨(hp p h).1,(s1.trans s2).free (hp p h).2⟩) hn h6
 generalize cs.filter (fun b=>decide (0 < gN b.R.f v))=ds at*
 clear q1 hB1 el1 hacc hBen s1 s2
 left
 intro C s0 H0 fp acc2 hacc2
 refine qf9 ds.length (fun i H'=>∃ps:List Pr,qaq H2 H'/\H' acc2=some (.lst (prV ps))/\prZ ps=(ds.take i).map (fun b=>(b.R.n,gN b.R.f v))/\∀p∈ps,PrAt H' p/\H2 p.a=none) ⟨[],qa6 hacc2 _,qa2,rfl,fun p h=>by simp at h⟩ ?_ ?_ ?_ ?_
 .rintro i H' hi ⟨ps,sm,_⟩
  exact⟨_,.ref ds[i].o,SqL.of (sm _ _ e2),by unfold bsV;rw [zC,zA hi];rfl⟩
 .rintro H' ⟨ps,sm,_⟩
  exact⟨_,SqL.of (sm _ _ e2),by unfold bsV;rw [zB];exact Nat.le_refl _⟩
 .rintro i H' u H'' hi ⟨ps,sm,ea,hn,hp⟩ ⟨rfl,hy⟩
  have hv:=hy _ (SqL.of (sm _ _ e2))
  unfold bsV at hv
  rw [zC,zA hi] at hv
  cases hv
  obtain⟨hb0,hpos⟩:=hB2 _ (zO hi)
  have hb:=hb0.same sm
  have tk:ds.take (i+1)=ds.take i++ [ds[i]]:=by rw [zM,zA hi];rfl
  have hpl:ps.length=i:=by
   have:=congrArg List.length hn
   unfold prZ at this
   rw [zB,zB,zU] at this
   omega
  generalize hbi:ds[i]=b at*
  obtain⟨dx,hbo⟩:=hb.obj
  have hbm:Rd H'' b.m (.dK b.R.k):=.inl hb.amt
  have hAb:=hb.ad
  have hfv:=gN_pos hpos
  generalize hgx:gN b.R.f v=gx at*
  obtain⟨cl,n1,n2,n3,n4,n5⟩:=clsOk T b.R.s
  have zl:(prV ps).length < sizeLine:=by unfold prV;rw [zB];show _ < 16777216;omega
  left
  rename_i p hp0
  have s3:=qa6 hp0 (.tup [.int b.R.n,.int gx])
  have ea3:=s3 _ _ ea
  refine⟨ps++ [⟨p,b.R.n,gx⟩],qay (sm.trans s3) hacc2,by rw [qa2];unfold prV;rw [zE];rfl,?_,fun x hx=>?_⟩
  .unfold prZ at hn ⊢
   rw [zE,hn,tk,zE,List.map_singleton,List.map_singleton,hgx]
  .rcases zV.mp hx with h|h
   .have h1:=s3 _ _ (hp x h).1
    exact⟨by show upd _ acc2 _ x.a=_;rw [qa7 (ne_of h1 ea3 (by simp))];exact h1,(hp x h).2⟩
   .rw [zG.mp h]
    exact⟨by show upd _ acc2 _ p=_;rw [qa7 (qaa ea hp0).symm];exact qa2,sm.free hp0⟩
 rintro H' ⟨ps,sm,ea,hn,hp⟩
 rw [zR] at hn
 left
 exact q' acc2 ps H' sm hacc2 ea hp hn (by
  have:=congrArg List.length hn
  unfold prZ at this
  rw [zB,zB] at this
  omega)
def waf (K:Frag) (d:Ad):Sp:=fun vs H Q _=>∃(t lh ll am:Addr) (S:Ts) (P:PL) (bs:List Ob) (n:Nat) (js:List Nat) (ka:List (Key × V)) (f:Str->Option Int) (ss:List Str),vs=[.ref t,.ref lh,.ref ll,.ref am]/\WdAt K d H t lh S P bs n/\
 H ll=some (.lst (js.map fun j=>V.str (nmF P j)))/\(∀j∈js,j < n)/\js.Nodup/\js.length<=12/\H am=some (.dK ka)/\AD ka f/\ss.Perm (qdd ka)/\PyProof.Rows.sortedS ss=true/\ss.length<=6/\
 ((∀j∈js,∀w∈ss,0<=qbu S P bs f j w)->∀H',qaq H H'->Q .non H')/\
 ∀j w,j∈js->w∈ss->qbu S P bs f j w < 0->∀(p l:Addr) (ps:List Pr) H',qaq H H'->H p=none->H' p=some (.tup [.str (nmF P j),.str w,.ref l])->H l=none->H' l=some (.lst (prV ps))->(∀p∈ps,PrAt H' p/\H p.a=none)->prZ ps=takeN w (bs.filter fun b=>decide (j∈qad (elN P.es) b.R.i))->Q (.ref p) H'
include T in
theorem w6q:FnOk P w K mg base CX0 20 d.w5i d.w4q ["tree","holds","line","amounts"] (waf K d):=by
 refine T.w5j.ok w4s (fun vs H Q E h=>?_) (fun cdv A outer s H vs Q E hr h=>?_)
 .obtain⟨t,lh,ll,am,S,P,bs,n,js,ka,f,ss,rfl,_⟩:=h;rfl
 obtain⟨t,lh,ll,am,S,P,bs,n,js,ka,f,ss,rfl,hW,hl,jn,jd,j12,ha,hA,hp,hs,s6,qn,q⟩:=h
 refine⟨_,(qa3 (qaf (i:=4) w4s.nd rfl (Or.inl rfl) (qa9 ((w6m T).mono (by decide)) hr rfl T.w7i T.w5g.kp T.w7n .nil qah (qa0 (pv 0) (qa0 (pv 1) (qa0 (pv 2) (qa0 (pv 3) qa1))))))
  (qa3 (qb7 PassesOwn.never rfl (qeg (pv 4)) (qac (i:=5) w4s.nd rfl (Or.inl rfl)) (qa5 (qbk (qap op_lt (qbt (qc9 hr) (pv 4) (pv 5) (fun _ _=>rfl)) qa4 (qar _)) (qa5 (qai (qcv (qa0 (qan qb3 (pv 5) qa4 (fun _ _=>rfl)) (qa0 (qan qb3 (pv 5) qa4 (fun _ _=>rfl)) (qa0 (qa9 ((wer T).mono (by decide)) hr rfl T.wfx T.wdq.kp T.wfs .nil qah (qa0 (pv 0) (qa0 (pv 1) (qa0 (qan qb3 (pv 5) qa4 (fun _ _=>rfl)) (qa0 (qan qb3 (pv 5) qa4 (fun _ _=>rfl)) qa1))))) qa1)))))) qao)))
  (qa5 (qai qca)))),?_⟩
 walk_at "d"
 refine qae (σ:=[some (.ref t),some (.ref lh),some (.ref ll),some (.ref am),none,none]) rfl ?_
 left
 refine⟨t,lh,ll,am,S,P,bs,n,js,ka,f,ss,rfl,hW,hl,jn,jd,j12,ha,hA,hp,hs,s6,fun rm H1 s1 hrm er=>?_⟩
 have snd:ss.Nodup:=hp.nodup_iff.mpr hA.knd
 have knd:=rm_nd (val:=qbu S P bs f) (fun a ha b hb e=>hW.pl.inj a b (jn a ha) (jn b hb) e) jd snd
 have full:∀j∈js,∀w∈ss,∃i:Nat,(qcx P js ss (qbu S P bs f))[i]?=some (([Sum.inr (nmF P j),Sum.inr w]:List Key),V.int (qbu S P bs f j w)):=fun j hj w hw=>by
  have hm:(([Sum.inr (nmF P j),Sum.inr w]:List Key),V.int (qbu S P bs f j w))∈qcx P js ss (qbu S P bs f):=List.mem_flatMap.mpr ⟨j,hj,zI.mpr ⟨w,hw,rfl⟩⟩
  obtain⟨i,hi,e⟩:=zQ.mp hm
  exact⟨i,by rw [zA hi,e]⟩
 have hget:=fun {i:Nat} {k:List Key} {v:V} (h:(qcx P js ss (qbu S P bs f))[i]?=some (k,v))=>rm_get h
 generalize qcx P js ss (qbu S P bs f)=kvs at*
 left
 refine r_iDT ?_
 left
 refine r_itDT er fun o=>?_
 have sF:∀{H':Hp},qaq (upd H1 rm (.frz o (.dT kvs))) H'->qaq H H':=fun s b u hb=>s b u (by rw [qa7 (fun z=>by subst z;rw [hrm] at hb;cases hb)];exact s1 b u hb)
 refine f_dictT (fun i σ H'=>H'=upd H1 rm (.frz o (.dT kvs))/\(∃w:Option V,σ=[some (.ref t),some (.ref lh),some (.ref ll),some (.ref am),some (.ref rm),w])/\∀(i' j:Nat) (w:Str),i' < i->kvs[i']?=some (([Sum.inr (nmF P j),Sum.inr w]:List Key),V.int (qbu S P bs f j w))->0<=qbu S P bs f j w)
  ⟨rfl,⟨_,rfl⟩,fun i' j w h=>absurd h (by omega)⟩ ?_ ?_ ?_
 .rintro i σ H' _ ⟨rfl,_⟩
  exact qa2
 .rintro i k v b σ H' hk hb ⟨rfl,⟨w0,rfl⟩,hall⟩
  obtain⟨j,hj,w,hw,rfl,rfl⟩:=hget hk
  have hv:=valV_at knd hk
  have hb:upd H1 rm (.frz o (.dT kvs)) b=some (.tup [.str (nmF P j),.str w]):=hb
  have hR:Rd (upd H1 rm (.frz o (.dT kvs))) rm (.dT kvs):=.inr ⟨o,qa2⟩
  left
  refine r_dgT (k:=[Sum.inr (nmF P j),Sum.inr w]) hR hb hv ?_
  left
  refine i_2 (fun c=>?_) (fun c=>?_)
  .have hW1:=hW.same (sF (qaq.refl _))
   obtain⟨⟨e,ae⟩,dp⟩:=hW.hs j (jn j hj)
   left
   refine⟨t,lh,S,P,bs,nmF P j,w,e,rfl,hW1.tr,hW.wf,ae,dp,hW1.h,hW.h63,hW1.ob,fun l zs ps H2 s2 hl2 hBen el hp2 hn2 _=>?_⟩
   have euf:bs.filter (inZ P zs)=bs.filter fun b=>decide (j∈qad (elN P.es) b.R.i):=by
    refine List.filter_congr fun b hb=>?_
    unfold inZ
    have:=hW.pl.benIff (jn j hj) hBen (k:=b.R.i) (by have:=(hW.ob b hb).il;rw [hW.nn] at this;exact this)
    exact decide_eq_decide.mpr this
   rw [euf] at hn2
   left
   rename_i p3 hp3
   have free:∀{a:Addr},upd H1 rm (.frz o (.dT kvs)) a=none->H a=none:=fun {a} h=>(sF (qaq.refl _)).free h
   exact q j w hj hw c p3 l ps _ (qdu (sF s2) hp3) (free (s2.free hp3)) qa2 (free hl2) (qab el hp3) (fun x hx=>⟨qab (hp2 x hx).1 hp3,free (hp2 x hx).2⟩) hn2
  .left
   refine⟨rfl,⟨_,rfl⟩,fun i' j' w' hi' hk'=>?_⟩
   by_cases e:i'=i
   .subst e
    rw [hk] at hk'
    obtain⟨e1,e2⟩:=Prod.mk.inj (Option.some.inj hk')
    have e3:qbu S P bs f j w=qbu S P bs f j' w':=V.int.inj e2
    omega
   .exact hall i' j' w' (by omega) hk'
 .rintro σ H' ⟨rfl,⟨w0,rfl⟩,hall⟩
  left
  refine qn (fun j hj w hw=>?_) _ (sF (qaq.refl _))
  obtain⟨i,hi⟩:=full j hj w hw
  exact hall i j w (List.getElem?_eq_some_iff.mp hi).1 hi
theorem NoHs.same {K:Frag} {d:Ad} {H H':Hp} {t:Addr} {x:V} {E:XK} (h:NoHs K d H t x E) (s:qaq H H'):NoHs K d H' t x E:=by
 obtain⟨S,hT,hW,hx,wn,q⟩:=h
 exact⟨S,hT.same s,hW,hx.same s,wn,fun H2 s2=>q H2 (s.trans s2)⟩
def wf9 (K:Frag) (d:Ad):Sp:=fun vs H Q E=>∃(t lh:Addr) (P:PL) (bs:List Ob) (x a:V) (r:Int) (s:Bool),vs=[.ref t,.ref lh,x,a,.int r,.bl s]/\H lh=some (.lst (bsV bs))/\bs.length<=63/\(∀b∈bs,ObAt d H P b)/\NoHs K d H t x E
include T in
theorem wc1:FnOk P w K mg base (My.CX1 P w) 21 d.waw d.w9c ["tree","holds","house","amounts","rank","sure"] (wf9 K d):=by
 refine okX T.wao w3d (fun vs H Q E h=>?_) (fun cdv A outer s H vs Q E hr h=>?_)
 .obtain⟨t,lh,P,bs,x,a,r,s,rfl,_⟩:=h;rfl
 obtain⟨t,lh,P,bs,x,a,r,s',rfl,hL,h63,hB,hN⟩:=h
 refine⟨_,(qa3 (qaf (i:=6) w3d.nd rfl (Or.inl rfl) (qa9 ((w6m T).mono (by decide)) hr rfl T.w7i T.w5g.kp T.w7n .nil qah (qa0 (pv 0) (qa0 (qa9 ((wfw T).mono (by decide)) hr rfl T.wgx T.wes.kp T.whb .nil qah (qa0 (pv 1) (qa0 (pv 4) (qa0 (pv 5) qa1)))) (qa0 (qb1 (pv 0) T.w01 T.w0g ((w2k T).mono (by decide)) hr T.w3f .nil qas (qa0 (pv 2) qa1)) (qa0 (pv 3) qa1))))))
  (qa3 (qbk (qbq (qaj (call_anyB rfl) rfl T.wi1 PyProof.Rows.boot_any (qa0 (pe_thVT (qbp (caps:=[]) (cn:=[]) (qb4 rfl rfl (by rfl) (by rfl) rfl trivial (by rfl) rfl trivial (by decide)) rfl (pi_valsT (pe_bm0 PySem.F.plainAttrs_dict PySem.F.slot_dict_values PySem.F.type_dict_values mt_valsT (pv 6))) (fun _ _ _ _=>qck) (fun _ _ _ _=>(qbn op_lt (pv 0) qa4 (qar _))))) qa1))) (qa5 (qai qca)) qao)
  (qa3 (qaf (i:=7) w3d.nd rfl (Or.inl rfl) (qbm qa1))
  (qa3 (qb7 (qdp rfl rfl) rfl (qau (qbp (caps:=[4,5]) (cn:=["rank","sure"]) (qb4 rfl rfl (by rfl) (by rfl) rfl ⟨rfl,⟨rfl,trivial⟩⟩ (by rfl) rfl ⟨⟨rfl,rfl,rfl,rfl,_,rfl⟩,⟨⟨rfl,rfl,rfl,rfl,_,rfl⟩,trivial⟩⟩ (by decide)) rfl (qau (pv 1)) (fun _ _ _ _=>(qcu (qbq (pe_alt (qe6 (pv 0) T.w4o T.w0o ((w55 T).mono (by decide)) hr T.w5w .nil qah (qa0 (pv 1) (qa0 (pv 2) qa1))) (qe6 (pv 0) T.w3x T.w0p ((w51 T).mono (by decide)) hr T.w5x .nil qah (qa0 (pv 1) (qa0 (pv 2) qa1))))))) (fun _ _ _ _=>(pv 0)))) (qac (i:=8) w3d.nd rfl (Or.inl rfl)) (qa3 (qaf (i:=9) w3d.nd rfl (Or.inl rfl) (qa9 ((wc9 T).mono (by decide)) hr rfl T.wdu T.wa5.kp T.we0 .nil qah (qa0 (pv 0) (qa0 (pv 8) (qa0 (pv 6) qa1)))))
  (qa3 (qaf (i:=10) w3d.nd rfl (Or.inl rfl) (qa9 ((w8d T).mono (by decide)) hr rfl T.w9r T.w5v.kp T.w9o .nil qah (qa0 (pv 9) (qa0 (pv 6) qa1))))
  (qa5 (qd5 (qbk (qap qfs (pv 10) qca (qar _)) (qa5 (ps_thAT (qb7 (qdp rfl rfl) rfl (qeg (pv 9)) (qac (i:=11) w3d.nd rfl (Or.inl rfl)) (qa5 (ps_daug (qc9 hr) (pv 6) (pv 11) (qbt (qc9 hr) (pv 9) (pv 11) (fun _ _=>rfl)) in_sub (fun _ _ _=>rfl)))))) (qa5 (qb2 (qe8 PySem.F.plainAttrs_list PySem.F.slot_list_append PySem.F.type_list_append qb9 (pv 7) (qa0 (qcv (qa0 (qaz (pv 8) rfl) (qa0 (qaz (pv 8) rfl) (qa0 (qb8 qco rfl T.wa2 PyProof.Rows.boot_dict (qa0 (qaz (pv 8) rfl) qa1)) (qa0 (qan qb3 (pv 10) qa4 (fun _ _=>rfl)) (qa0 (qan qb3 (pv 10) qa4 (fun _ _=>rfl)) qa1)))))) qa1))))))))))
  (qa5 (qai (pv 7))))))),?_⟩
 walk_at "d"
 try dsimp only [cxC]
 refine qae (σ:=[some (.ref t),some (.ref lh),some (x),some (a),some (.int r),some (.bl s'),none,none,none,none,none,none]) rfl ?_
 left
 refine⟨lh,P,bs,r,s',rfl,hL,h63,hB,fun lf hlf=>?_⟩
 obtain⟨S,hT,hW,hx,wn,q⟩:=hN.same (qa6 hlf (.lst (bsV (bs.filter (qci r s')))))
 have ct:=T.w01
 obtain⟨dx,ht⟩:=id hT.1
 left
 exact⟨t,S,x,rfl,hT,.inr ⟨hx,wn,fun l hl=>q _ (qa6 hl _)⟩⟩
def wb6 (K:Frag) (d:Ad):Sp:=fun vs H Q E=>∃(t lh:Addr) (P:PL) (bs:List Ob) (x a g:V) (r:Int) (s:Bool),vs=[.ref t,.ref lh,x,a,.int r,.bl s,g]/\H lh=some (.lst (bsV bs))/\bs.length<=63/\(∀b∈bs,ObAt d H P b)/\NoHs K d H t x E
include T in
theorem wbk:FnOk P w K mg base (My.CX1 P w) 22 d.w63 d.w5c ["tree","holds","house","amounts","rank","sure","given"] (wb6 K d):=by
 refine okX T.w8a wbn (fun vs H Q E h=>?_) (fun cdv A outer s H vs Q E hr h=>?_)
 .obtain⟨t,lh,P,bs,x,a,g,r,s,rfl,_⟩:=h;rfl
 obtain⟨t,lh,P,bs,x,a,g,r,s',rfl,hL,h63,hB,hN⟩:=h
 refine⟨_,(qa5 (qai (qbn (op_eqD (hu8 hr)) (pv 6) (qbb ((wc1 T).mono (by decide)) hr rfl T.wdn T.wao.kp T.wdl .nil qas (qa0 (pv 0) (qa0 (pv 1) (qa0 (pv 2) (qa0 (pv 3) (qa0 (pv 4) (qa0 (pv 5) qa1))))))) (qar _)))),?_⟩
 walk_at "d"
 refine qae (σ:=[some (.ref t),some (.ref lh),some (x),some (a),some (.int r),some (.bl s'),some (g)]) rfl ?_
 left
 exact⟨t,lh,P,bs,x,a,r,s',rfl,hL,h63,hB,hN⟩
def rmOk (S:Ts) (P:PL) (bs:List Ob) (f:Str->Option Int) (js:List Nat) (ss:List Str):Bool:=(pls js ss).all fun p=>decide (0<=qbu S P bs f p.1 p.2)
theorem pls_mem {js:List Nat} {ss:List Str} {p:Pc} (h1:p.1∈js) (h2:p.2∈ss):p∈pls js ss:=List.mem_flatMap.mpr ⟨p.1,h1,zI.mpr ⟨p.2,h2,rfl⟩⟩
def wfo (K:Frag) (d:Ad):Sp:=fun vs H Q E=>(∃(t:Addr) (l x a:V),vs=[.ref t,l,x,a]/\NoHs K d H t x E)\/∃(t lh am:Addr) (S:Ts) (P:PL) (bs:List Ob) (n j:Nat) (ka:List (Key × V)) (f:Str->Option Int) (ss:List Str),vs=[.ref t,.ref lh,.str (nmF P j),.ref am]/\WdAt K d H t lh S P bs n/\n<=12/\j < n/\H am=some (.dK ka)/\AD ka f/\ss.Perm (qdd ka)/\PyProof.Rows.sortedS ss=true/\ss.length<=6/\∀H',qaq H H'->Q (.bl (rmOk S P bs f (qad (elN P.es) j) ss)) H'
include T in
theorem wdh:FnOk P w K mg base (My.CX1 P w) 21 d.wcu d.wa8 ["tree","holds","house","amounts"] (wfo K d):=by
 refine okX T.wd4 wfr (fun vs H Q E h=>?_) (fun cdv A outer s H vs Q E hr h=>?_)
 .rcases h with ⟨t,l,x,a,rfl,_⟩ |⟨t,lh,am,S,P,bs,n,j,ka,f,ss,rfl,_⟩ <;> rfl
 rcases h with ⟨t,l,x,a,rfl,S,hT,hW,hx,wn,q⟩ |h
 .refine⟨_,(qa5 (qai (qbn qfs (qa9 ((w6q T).mono (by decide)) hr rfl T.w7p T.w5j.kp T.w7w .nil qah (qa0 (pv 0) (qa0 (pv 1) (qa0 (qb1 (pv 0) T.w01 T.w0g ((w2k T).mono (by decide)) hr T.w3f .nil qas (qa0 (pv 2) qa1)) (qa0 (pv 3) qa1))))) qca (qar _)))),?_⟩
  walk_at "d"
  refine qae (σ:=[some (.ref t),some (l),some (x),some (a)]) rfl ?_
  have ct:=T.w01
  obtain⟨dx,ht⟩:=id hT.1
  left
  exact⟨t,S,x,rfl,hT,.inr ⟨hx,wn,fun l hl=>q _ (qa6 hl _)⟩⟩
 obtain⟨t,lh,am,S,P,bs,n,j,ka,f,ss,rfl,hW,n12,jn,ha,hA,hp,hs,s6,q⟩:=h
 refine⟨_,(qa5 (qai (qbn qfs (qa9 ((w6q T).mono (by decide)) hr rfl T.w7p T.w5j.kp T.w7w .nil qah (qa0 (pv 0) (qa0 (pv 1) (qa0 (qb1 (pv 0) T.w01 T.w0g ((w2k T).mono (by decide)) hr T.w3f .nil qas (qa0 (pv 2) qa1)) (qa0 (pv 3) qa1))))) qca (qar _)))),?_⟩
 walk_at "d"
 refine qae (σ:=[some (.ref t),some (.ref lh),some (.str (nmF P j)),some (.ref am)]) rfl ?_
 have ct:=T.w01
 obtain⟨dx,ht⟩:=id hW.tr.1
 left
 refine⟨t,S,.str (nmF P j),rfl,hW.tr,.inl ⟨nmF P j,(qad (elN P.es) j).map (nmF P),rfl,hW.pl.line j jn,by rw [zB];have:=qcb hW.pl.low j jn;omega,fun ll hll=>?_⟩⟩
 have lle:=qcr hW.pl.low j jn
 have lnd:(qad (elN P.es) j).Nodup:=List.Pairwise.imp (fun h z=>by omega) (lineN_pw hW.pl.low j jn)
 have l12:(qad (elN P.es) j).length<=12:=by have:=qcb hW.pl.low j jn;omega
 have s2:=qa6 hll (.lst (((qad (elN P.es) j).map (nmF P)).map V.str))
 have hW2:=hW.same s2
 have el:upd H ll (.lst (((qad (elN P.es) j).map (nmF P)).map V.str)) ll=some (.lst ((qad (elN P.es) j).map fun i=>V.str (nmF P i))):=by rw [qa2,yU];rfl
 generalize upd H ll (.lst (((qad (elN P.es) j).map (nmF P)).map V.str))=H2 at*
 clear hW hll ht
 generalize qad (elN P.es) j=L at*
 left
 refine⟨t,lh,ll,am,S,P,bs,n,L,ka,f,ss,rfl,hW2,el,fun i hi=>by have:=lle i hi;omega,lnd,l12,s2 _ _ ha,hA,hp,hs,s6,fun h H' s=>?_,fun i w hi hw c p l ps H' s3 hp' e1 hl e2 hps hn=>?_⟩
 .have e:rmOk S P bs f L ss=true:=by
   unfold rmOk
   rw [yE]
   exact fun p hp=>decide_eq_true (h p.1 (pls_in hp).1 p.2 (pls_in hp).2)
  rw [e] at q
  left
  exact q _ (s2.trans s)
 .have e:rmOk S P bs f L ss=false:=by
   unfold rmOk
   rw [List.all_eq_false]
   exact⟨(i,w),pls_mem hi hw,by rw [decide_eq_false (by dsimp only;omega)];exact Bool.false_ne_true⟩
  rw [e] at q
  left
  exact q _ (s2.trans s3)
theorem flat_ints (L:List Int):((L.map V.int).all fun v=>qcz v)=true:=by
 rw [List.all_map]
 exact yE.mpr fun _ _=>rfl
theorem inV_int (x:Int):∀L:List Int,inV (.int x) (L.map V.int)=decide (x∈L)
 | []=>rfl
 |y :: L=>by
  have ih:=inV_int x L
  unfold inV at ih ⊢
  rw [zS,yV,ih]
  by_cases c:y=x
  .subst c
   rw [show eqV (V.int y) (V.int y)=true from beq_self_eq_true _,decide_eq_true (zL ..)]
   rfl
  .rw [show eqV (V.int y) (V.int x)=false from beq_false_of_ne c,Bool.false_or]
   by_cases m:x∈L
   .rw [decide_eq_true m,decide_eq_true (zF _ m)]
   .rw [decide_eq_false m,decide_eq_false fun h=>(zK.mp h).elim (fun e=>c e.symm) m]
theorem r_notInI {K:Frag} {H:Hp} {Q:VK} {p:Addr} {x:Int} {L:List Int} (h:SqL K H p (L.map V.int)) (q:Q (.bl (!decide (x∈L))) H):rIn K true (.int x) (.ref p) H Q:=⟨p,_,rfl,.inl h,rfl,flat_ints L,by rw [inV_int];exact q⟩
structure Lw where
 p:Addr
 n:Int
def LwAt (H:Hp) (x:Lw):Prop:=∃(a b c e:V),H x.p=some (.tup [.int x.n,a,b,c,e])
theorem LwAt.same {H H':Hp} {x:Lw} (h:LwAt H x) (s:qaq H H'):LwAt H' x:=let ⟨a,b,c,e,q⟩:=h;⟨a,b,c,e,s _ _ q⟩
def lwV (ts:List Lw):List V:=ts.map fun x=> .ref x.p
def outB (nums:List Int) (b:Ob):Bool:=!decide (b.R.n∈nums)
def wbm (K:Frag) (d:Ad):Sp:=fun vs H Q _=>∃(lh lg:Addr) (P:PL) (bs:List Ob) (ts:List Lw),vs=[.ref lh,.ref lg]/\H lh=some (.lst (bsV bs))/\bs.length<=63/\(∀b∈bs,ObAt d H P b)/\H lg=some (.lst (lwV ts))/\ts.length<=100/\(∀x∈ts,LwAt H x)/\∀(l:Addr) H',qaq H H'->H l=none->H' l=some (.lst (bsV (bs.filter (outB (ts.map (·.n))))))->Q (.ref l) H'
include T in
theorem w7k:FnOk P w K mg base CX0 1 d.w68 d.w5k ["holds","given"] (wbm K d):=by
 refine T.w6d.ok w7l (fun vs H Q E h=>?_) (fun cdv A outer s H vs Q E hr h=>?_)
 .obtain⟨lh,lg,P,bs,ts,rfl,_⟩:=h;rfl
 obtain⟨lh,lg,P,bs,ts,rfl,hL,h63,hB,hG,t100,hR,q⟩:=h
 refine⟨_,(qa3 (qaf (i:=2) w7l.nd rfl (Or.inr rfl) (qbp (caps:=[]) (cn:=[]) (qb4 rfl rfl (by rfl) (by rfl) rfl trivial (by rfl) rfl trivial (by decide)) rfl (qau (pv 1)) (fun _ _ _ _=>qck) (fun _ _ _ _=>(qan qb3 (pv 0) qa4 (fun _ _=>rfl)))))
  (qa5 (qai (qbp (caps:=[2]) (cn:=["numbers"]) (qb4 rfl rfl (by rfl) (by rfl) rfl ⟨rfl,trivial⟩ (by rfl) rfl ⟨⟨rfl,rfl,rfl,rfl,_,rfl⟩,trivial⟩ (by decide)) rfl (qau (pv 0)) (fun _ _ _ _=>(qcu (qap qd7 (qaz (pv 0) rfl) (pv 1) (by rfl)))) (fun _ _ _ _=>(pv 0)))))),?_⟩
 walk_at "d"
 try dsimp only [cxC]
 refine qae (σ:=[some (.ref lh),some (.ref lg),none]) rfl ?_
 left
 intro C s0 H0 fp ln hln
 refine qf9 ts.length (fun i H'=>qaq H H'/\H' ln=some (.lst (((ts.take i).map (·.n)).map V.int))) ⟨qa6 hln _,qa2⟩ ?_ ?_ ?_ ?_
 .rintro i H' hi ⟨sm,_⟩
  exact⟨_,.ref ts[i].p,SqL.of (sm _ _ hG),by unfold lwV;rw [zC,zA hi];rfl⟩
 .rintro H' ⟨sm,_⟩
  exact⟨_,SqL.of (sm _ _ hG),by unfold lwV;rw [zB];exact Nat.le_refl _⟩
 .rintro i H' v H'' hi ⟨sm,ea⟩ ⟨rfl,hv⟩
  have hv:=hv _ (SqL.of (sm _ _ hG))
  unfold lwV at hv
  rw [zC,zA hi] at hv
  cases hv
  have tk:ts.take (i+1)=ts.take i++ [ts[i]]:=by rw [zM,zA hi];rfl
  obtain⟨a,b,c,e,htp⟩:=(hR _ (zO hi)).same sm
  generalize ts[i]=g at*
  have zl:(((ts.take i).map (·.n)).map V.int).length < sizeLine:=by rw [zB,zB,zU];show _ < 16777216;omega
  left
  refine⟨qay sm hln,?_⟩
  rw [qa2,tk,zE,zE];rfl
 rintro H2 ⟨s2,eln⟩
 rw [zR] at eln
 have hL2:=s2 _ _ hL
 have hB2:∀b∈bs,ObAt d H2 P b:=fun b hb=>(hB b hb).same s2
 clear hL hB hG hR hln
 generalize ts.map (·.n)=nums at*
 left
 intro C1 s1 H1 fp1 acc hacc
 refine qf9 bs.length (fun i H'=>qaq H2 H'/\H' acc=some (.lst (bsV ((bs.take i).filter (outB nums))))) ⟨qa6 hacc _,qa2⟩ ?_ ?_ ?_ ?_
 .rintro i H' hi ⟨sm,_⟩
  exact⟨_,.ref bs[i].o,SqL.of (sm _ _ hL2),by unfold bsV;rw [zC,zA hi];rfl⟩
 .rintro H' ⟨sm,_⟩
  exact⟨_,SqL.of (sm _ _ hL2),by unfold bsV;rw [zB];exact Nat.le_refl _⟩
 .rintro i H' v H'' hi ⟨sm,ea⟩ ⟨rfl,hv⟩
  have hv:=hv _ (SqL.of (sm _ _ hL2))
  unfold bsV at hv
  rw [zC,zA hi] at hv
  cases hv
  have tk:bs.take (i+1)=bs.take i++ [bs[i]]:=by rw [zM,zA hi];rfl
  have hb:=(hB2 _ (zO hi)).same sm
  generalize bs[i]=b at*
  obtain⟨dx,hbo⟩:=hb.obj
  obtain⟨cl,n1,n2,n3,n4,n5⟩:=clsOk T b.R.s
  unfold fsB at hbo
  have en2:=sm _ _ eln
  have zl:(bsV ((bs.take i).filter (outB nums))).length < sizeLine:=by
   unfold bsV
   rw [zB]
   have h1:=zT (outB nums) (bs.take i)
   rw [zU] at h1
   show _ < 16777216
   omega
  clear hv
  left
  refine r_notInI (SqL.of en2) ?_
  by_cases c:b.R.n∈nums
  .rw [decide_eq_true c]
   left
   refine⟨sm,?_⟩
   rw [ea,tk,zX,zW,if_neg (by unfold outB;rw [decide_eq_true c];exact Bool.false_ne_true),yN,zZ]
  .rw [decide_eq_false c]
   left
   refine⟨qay sm hacc,?_⟩
   rw [qa2,tk,zX,zW,if_pos (by unfold outB;rw [decide_eq_false c];rfl)]
   unfold bsV
   rw [zE];rfl
 rintro H3 ⟨s3,ela⟩
 rw [zR] at ela
 exact q acc H3 (s2.trans s3) (s2.free hacc) ela
structure WTr (K:Frag) (d:Ad) (H:Hp) (w:Wd) (t lh:Addr) (S:Ts) (P:PL) (bs:List Ob):Prop where
 wd:WdAt K d H t lh S P bs (w.es.length+1)
 nm:P.nm=w.nm
 ws:P.ws=w.ws
 es:P.es=w.es
def akF (w:Wd):Str->Option Int:=tdF (w.ws.zip w.aps)
def capN (w:Wd) (p:Pc):Int:=gN (tdF (w.ws.zip (csD w.cs p.1))) p.2
def sumZ (w:Wd) (Bs:List Rw) (p:Pc):Int:=((Bs.filter fun R=>decide (p.1∈qad (elN w.es) R.i)).map fun R=>gN (tdF (w.ws.zip R.ps)) p.2).sum
def bad (w:Wd) (Bs:List Rw) (p:Pc):Bool:=decide (0 < gN (akF w) p.2) && decide (capN w p < sumZ w Bs p+gN (akF w) p.2)
theorem pls_app (a b:List Nat) (ss:List Str):pls (a++b) ss=pls a ss++pls b ss:=by unfold pls;rw [List.flatMap_append]
theorem find_pls {js:List Nat} {ss:List Str} {i c j:Nat} {z:Str} {f:Pc->Bool} (hj:js[i]?=some j) (hz:ss[c]?=some z) (h1:∀j'∈js.take i,∀z'∈ss,f (j',z')=false) (h2:∀z'∈ss.take c,f (j,z')=false) (hf:f (j,z)=true):(pls js ss).find? f=some (j,z):=by
 have hi:=(List.getElem?_eq_some_iff.mp hj).1
 have e:js=js.take i++(j :: js.drop (i+1)):=by
  have:=List.take_append_drop i js
  rw [List.drop_eq_getElem_cons hi,(List.getElem?_eq_some_iff.mp hj).2] at this
  exact this.symm
 rw [e,pls_app,List.find?_append]
 have n1:(pls (js.take i) ss).find? f=none:=List.find?_eq_none.mpr fun p hp=>by
  obtain⟨a,b⟩:=pls_in hp
  rw [h1 p.1 a p.2 b];exact Bool.false_ne_true
 rw [n1]
 show (pls (j :: js.drop (i+1)) ss).find? f=_
 show (ss.map (fun w=>(j,w))++pls (js.drop (i+1)) ss).find? f=_
 rw [List.find?_append]
 have n2:(ss.map (fun w=>(j,w))).find? f=some (j,z):=find_take (i:=c) (by rw [zC,hz];rfl) (fun y hy=>by
  rw [<-List.map_take] at hy
  obtain⟨w,hw,rfl⟩:=zI.mp hy
  exact h2 w hw) hf
 rw [n2];rfl
theorem find_pls_no {js:List Nat} {ss:List Str} {f:Pc->Bool} (h1:∀j∈js,∀z∈ss,f (j,z)=false):(pls js ss).find? f=none:=List.find?_eq_none.mpr fun p hp=>by
 obtain⟨a,b⟩:=pls_in hp
 rw [h1 p.1 a p.2 b];exact Bool.false_ne_true
theorem sumZ_eq {w:Wd} {Bs:List Rw} {a j:Nat} (nd:w.ws.Nodup) (hj:j < w.ws.length) (h:∀R∈Bs,R.ps.length=w.ws.length/\∀p∈R.ps,PpOk p):sumZ w Bs (a,w.ws[j])=qdt (elN w.es) Bs a j:=by
 unfold sumZ qdt
 congr 1
 refine List.map_congr_left fun R hR=>?_
 obtain⟨l1,l2⟩:=h R (yD.mp hR).1
 show gN (tdF (w.ws.zip R.ps)) w.ws[j]=psN R j
 rw [tdF_gN l1.symm nd (fun p hp=>(l2 p hp).lo) hj (by omega)]
 unfold psN
 rw [zA (by omega)];rfl
def wg1 (K:Frag) (d:Ad):Sp:=fun vs H Q _=>∃(w:Wd) (ls:Addr) (P:PL) (Bs:List Rw) (sw:List Str),vs=[.ref w.wt,.ref ls]/\WAt H w/\WOk w/\P.nm=w.nm/\H ls=some (.lst (rwV Bs))/\(∀R∈Bs,RwAt H (w.es.length+1) w.ws.length R)/\Bs.length<=30/\sw.Perm w.ws/\PyProof.Rows.sortedS sw=true/\
 ((pls (qad (elN w.es) w.h) sw).find? (bad w Bs)=none->∀H',qaq H H'->Q .non H')/\∀p,(pls (qad (elN w.es) w.h) sw).find? (bad w Bs)=some p->∀a H',qaq H H'->H a=none->H' a=some (.tup [.str (nmF P p.1),.str p.2])->Q (.ref a) H'
include T in
theorem wg2:FnOk P w K mg base CX0 4 d.wd8 d.wae ["_law_world_here","_law_some"] (wg1 K d):=by
 refine T.wex.ok w1w (fun vs H Q E h=>?_) (fun cdv A outer s H vs Q E hr h=>?_)
 .obtain⟨w,ls,P,Bs,sw,rfl,_⟩:=h;rfl
 obtain⟨w,ls,P,Bs,sw,rfl,hw,ok,hPn,hl,hB,b30,hp,hs,qn,q⟩:=h
 refine⟨_,(qa3 (qfb (pv 0) (qdm rfl (qag (qac (i:=2) w1w.nd rfl (Or.inl rfl)) (qag (qac (i:=3) w1w.nd rfl (Or.inl rfl)) (qag (qac (i:=4) w1w.nd rfl (Or.inl rfl)) (qag (qac (i:=5) w1w.nd rfl (Or.inl rfl)) (qag (qac (i:=6) w1w.nd rfl (Or.inl rfl)) (qag (qac (i:=7) w1w.nd rfl (Or.inl rfl)) qch))))))))
  (qa3 (qb7 PassesOwn.never rfl (qau (qan qak (pv 4) (qan qb3 (pv 6) qa4 (fun _ _=>rfl)) (fun _ _=>rfl))) (qac (i:=8) w1w.nd rfl (Or.inl rfl)) (qa5 (qb7 PassesOwn.never rfl (qau (qaj qea rfl T.w6r PyProof.Rows.boot_sorted (qa0 (pv 3) qa1))) (qac (i:=9) w1w.nd rfl (Or.inl rfl)) (qa3 (qaf (i:=10) w1w.nd rfl (Or.inl rfl) (qe8 PySem.F.plainAttrs_list PySem.F.slot_list_index PySem.F.type_list_index mt_idxS (pv 3) (qa0 (pv 9) qa1)))
  (qa3 (qaf (i:=11) w1w.nd rfl (Or.inl rfl) (qa9 ((wfg T).mono (by decide)) hr rfl T.wgn T.wfp.kp T.whg .nil qah (qa0 (pv 1) (qa0 (pv 4) (qa0 (pv 8) (qa0 (pv 10) qa1))))))
  (qa5 (qbk (PW.pt (pw_and (qap qf6 (qan qak (qan qb3 (pv 6) qa4 (fun _ _=>rfl)) (pv 10) (fun _ _=>rfl)) qa4 (qar _)) (pw_and1 (qap qf6 (qal qax (pv 11) (qan qak (qan qb3 (pv 6) qa4 (fun _ _=>rfl)) (pv 10) (fun _ _=>rfl))) (qan qak (qan qak (pv 7) (pv 8) (fun _ _=>rfl)) (pv 10) (fun _ _=>rfl)) (qar _))))) (qa5 (qai (qcv (qa0 (qan qak (pv 2) (pv 8) (fun _ _=>rfl)) (qa0 (pv 9) qa1))))) qao)))))))
  (qa5 (qai qca)))),?_⟩
 walk_at "d"
 refine qae (σ:=[some (.ref w.wt),some (.ref ls),none,none,none,none,none,none,none,none,none,none]) rfl ?_
 have htp:=hw.tup
 have hla:=hw.la
 have etop:=hw.le.top
 obtain⟨xh,_,axh,exh⟩:=hw.le.at ok.hh
 have low:=qdf (fun k e h=>(hw.le.lo k e h).1) (w.es.length+1)
 have lle:=qcr low w.h ok.hh
 have hh:=ok.hh
 have w6:=ok.w6
 generalize hhi:((w.h:Nat):Int)=hi at*
 left
 refine qb6 (SqL.of etop) axh ?_
 left
 refine qde (xs:=(qad (elN w.es) w.h).map iV) (fun i σ H'=>∃(w8 w9 w10 w11:Option V),σ=[some (V.ref w.wt),some (V.ref ls),some (V.ref w.ln),some (V.ref w.lw),some (V.ref w.le),some (V.ref w.lr),some (V.ref w.la),some (V.ref w.lc),w8,w9,w10,w11]/\qaq H H'/\∀j∈(qad (elN w.es) w.h).take i,∀z∈sw,bad w Bs (j,z)=false) ⟨_,_,_,_,rfl,qaq.refl _,fun j hj=>by simp at hj⟩ ?_ ?_ ?_
 .rintro i σ H' _ ⟨w8,w9,w10,w11,_,sm,_⟩;exact SqL.of (sm _ _ exh)
 .rintro i x σ H' hx ⟨w8,w9,w10,w11,rfl,sm,hno⟩
  rw [zC] at hx
  obtain⟨a,ha,rfl⟩:=Option.map_eq_some_iff.mp hx
  have tka:(qad (elN w.es) w.h).take (i+1)=(qad (elN w.es) w.h).take i++ [a]:=by rw [zM,ha];rfl
  have hal:=lle a (zD ha)
  have han:a < w.es.length+1:=by omega
  obtain⟨ec,ecl,ecb,xc⟩:=hw.cs.at (k:=a) (by rw [ok.cl];exact han)
  have hlw':=sm _ _ hw.lw
  clear hx axh etop htp hla
  unfold iV
  generalize hai:((a:Nat):Int)=ai at*
  left
  refine r_sortL (SqL.of hlw') (by omega) fun l ss' hl2 hp2 hs2=>?_
  have ess:ss'=sw:=sort_eq (hp2.trans hp.symm) hs2 hs
  subst ess
  have s2:=qa6 hl2 (.lst (ss'.map V.str))
  have el2:upd H' l (.lst (ss'.map V.str)) l=some (.lst (ss'.map V.str)):=qa2
  generalize upd H' l (.lst (ss'.map V.str))=H2 at*
  have t2:=sm.trans s2
  clear hp2 hs2 hl2 hlw'
  left
  refine qde (xs:=ss'.map V.str) (fun c σ H3=>∃(w9 w10 w11:Option V),σ=[some (V.ref w.wt),some (V.ref ls),some (V.ref w.ln),some (V.ref w.lw),some (V.ref w.le),some (V.ref w.lr),some (V.ref w.la),some (V.ref w.lc),some (V.int ai),w9,w10,w11]/\qaq H2 H3/\∀z∈ss'.take c,bad w Bs (a,z)=false) ⟨_,_,_,rfl,qaq.refl _,fun z hz=>by simp at hz⟩ ?_ ?_ ?_
  .rintro c σ H3 _ ⟨w9,w10,w11,_,s3,_⟩;exact SqL.of (s3 _ _ el2)
  .rintro c x σ H3 hx ⟨w9,w10,w11,rfl,s3,hnc⟩
   rw [zC] at hx
   obtain⟨z,hz,rfl⟩:=Option.map_eq_some_iff.mp hx
   have tkz:ss'.take (c+1)=ss'.take c++ [z]:=by rw [zM,hz];rfl
   obtain⟨j,hj,rfl⟩:=zQ.mp (hp.mem_iff.mp (zD hz))
   have t3:=t2.trans s3
   have hw3:=hw.same t3
   have la3:=hw3.la
   have lw3:=hw3.lw
   rw [hhi] at la3
   have hap:j < w.aps.length:=by rw [ok.apl];exact hj
   have hcj:j <(csD w.cs a).length:=by rw [ecl];exact hj
   have x1:atI (w.aps.map V.int) ((j:Nat):Int)=some (.int w.aps[j]):=qaw (by rw [zC,zA hap];rfl)
   have x2:atI ((csD w.cs a).map V.int) ((j:Nat):Int)=some (.int (csD w.cs a)[j]):=qaw (by rw [zC,zA hcj];rfl)
   have x3:atI (w.nm.map V.str) ai=some (.str (nmF P a)):=by
    rw [<-hai,<-hPn]
    have e:a < P.nm.length:=by rw [hPn,ok.nms.len];exact han
    rw [qd9 e]
    exact qaw (by rw [zC,zA e];rfl)
   have v1:gN (akF w) w.ws[j]=w.aps[j]:=tdF_gN ok.apl.symm ok.wsn.nd (fun p hp=>(ok.apn p hp).lo) hj hap
   have v2:capN w (a,w.ws[j])=(csD w.cs a)[j]:=tdF_gN ecl.symm ok.wsn.nd (fun p hp=>(ecb p hp).1) hj hcj
   have v3:sumZ w Bs (a,w.ws[j])=qdt (elN w.es) Bs a j:=sumZ_eq ok.wsn.nd hj fun R hr=>⟨(hB R hr).len,(hB R hr).nn⟩
   have ebad:bad w Bs (a,w.ws[j])=(decide (0 < w.aps[j]) && decide ((csD w.cs a)[j] < qdt (elN w.es) Bs a j+w.aps[j])):=by
    unfold bad
    rw [v2,v3]
    show (decide (0 < gN (akF w) w.ws[j]) && decide (_ < _+gN (akF w) w.ws[j]))=_
    rw [v1]
   generalize w.aps[j]=av at*
   generalize (csD w.cs a)[j]=cv at*
   clear hx v1 v2 v3
   left
   refine r_idxS (SqL.of hw3.lw) ok.wsn.nd hj ?_
   generalize hji:((j:Nat):Int)=ji at*
   left
   refine⟨ls,w.le,w.las,Bs,w.es,_,w.ws.length,a,j,by rw [hai,hji],t3 _ _ hl,b30,fun R hr=>(hB R hr).same t3,hw3.le,rfl,hj,fun H4 s4=>?_⟩
   generalize qdt (elN w.es) Bs a j=sv at*
   have hw4:=hw3.same s4
   have la4:=hw4.la
   rw [hhi] at la4
   have t4:=t3.trans s4
   clear la3
   left
   refine qb6 (SqL.of hw4.pa) x1 ?_
   left
   have nofin:bad w Bs (a,w.ws[j])=false->∀z∈ss'.take (c+1),bad w Bs (a,z)=false:=fun e z hz2=>by
    rw [tkz] at hz2
    rcases zV.mp hz2 with h|h
    .exact hnc z h
    .rw [zG.mp h];exact e
   refine i_2 (fun c1=>?_) (fun c1=>?_)
   .left
    refine qb6 (SqL.of hw4.pa) x1 ?_
    left
    refine qb6 (SqL.of hw4.lc) xc ?_
    left
    refine qb6 (SqL.of (t4 _ _ ec)) x2 ?_
    left
    refine i_2 (fun c2=>?_) (fun c2=>?_)
    .left
     refine qb6 (SqL.of hw4.ln) x3 ?_
     left
     rename_i pp hpp
     exact q (a,w.ws[j]) (find_pls ha hz hno hnc (by rw [ebad,decide_eq_true c1,decide_eq_true c2];rfl)) pp _ (t4.trans (qa6 hpp _)) (t4.free hpp) qa2
    .left
     exact⟨_,_,_,rfl,s3.trans s4,nofin (by rw [ebad,decide_eq_false c2,Bool.and_false])⟩
   .left
    exact⟨_,_,_,rfl,s3.trans s4,nofin (by rw [ebad,decide_eq_false c1,Bool.false_and])⟩
  .rintro σ H3 ⟨w9,w10,w11,rfl,s3,hnc⟩
   rw [zB,zR] at hnc
   left
   refine⟨_,_,_,_,rfl,t2.trans s3,fun j hj z hz=>?_⟩
   rw [tka] at hj
   rcases zV.mp hj with h|h
   .exact hno j h z hz
   .rw [zG.mp h];exact hnc z hz
 .rintro σ H' ⟨w8,w9,w10,w11,rfl,sm,hno⟩
  rw [zB,zR] at hno
  left
  exact qn (find_pls_no hno) _ sm
theorem pw_rising:∀{p:Str} {l:List Str},(p :: l).Pairwise leS->PyProof.Rows.risingS p l=true
 |p, [],_=>rfl
 |p,x :: r,h=>by
  have h1:=List.rel_of_pairwise_cons h (zL ..)
  unfold PyProof.Rows.risingS
  rw [Bool.and_eq_true,Bool.not_eq_true']
  exact⟨h1,pw_rising (List.Pairwise.of_cons h)⟩
theorem ins_ex (x:Str):∀{l:List Str},l.Pairwise leS->∃l':List Str,l'.Perm (x :: l)/\l'.Pairwise leS
 | [],_=>⟨[x],List.Perm.refl _,List.pairwise_singleton _ _⟩
 |y :: r,h=>by
  by_cases c:leS x y
  .refine⟨x :: y :: r,List.Perm.refl _,List.pairwise_cons.mpr ⟨fun z hz=>?_,h⟩⟩
   rcases zK.mp hz with rfl|hz
   .exact c
   .exact leS_trans c (List.rel_of_pairwise_cons h hz)
  .have c':leS y x:=qdb.mpr ((List.le_total _ _).resolve_left fun z=>c (qdb.mpr z))
   obtain⟨l',hp,hl⟩:=ins_ex x (List.Pairwise.of_cons h)
   refine⟨y :: l',(hp.cons y).trans (List.Perm.swap x y r),List.pairwise_cons.mpr ⟨fun z hz=>?_,hl⟩⟩
   rcases zK.mp (hp.mem_iff.mp hz) with rfl|hz
   .exact c'
   .exact List.rel_of_pairwise_cons h hz
theorem sort_ex:∀ss:List Str,∃ss':List Str,ss'.Perm ss/\PyProof.Rows.sortedS ss'=true:=fun ss=>by
 have:∃ss':List Str,ss'.Perm ss/\ss'.Pairwise leS:=by
  induction ss with
  |nil=>exact⟨[],List.Perm.refl _,List.Pairwise.nil⟩
  |cons x r ih=>
   obtain⟨r',hp,hr⟩:=ih
   obtain⟨l',hp',hl⟩:=ins_ex x hr
   exact⟨l',hp'.trans (hp.cons x),hl⟩
 obtain⟨l,hp,hl⟩:=this
 refine⟨l,hp,?_⟩
 cases l with
 |nil=>rfl
 |cons x r=>exact pw_rising hl
def sO (P:PL) (p:Pc) (l:List Ob):Int:=(l.map fun b=>prN P b p).sum
theorem sO_cons (P:PL) (p:Pc) (b:Ob) (l:List Ob):sO P p (b :: l)=prN P b p+sO P p l:=by unfold sO;rw [zS,yW]
theorem sk_eq {ws ss sw:List Str} {ps:List Int} (hl:ws.length=ps.length) (nd:ws.Nodup) (hp:ss.Perm (qdd (tdK (ws.zip ps)))) (hs:PyProof.Rows.sortedS ss=true) (hq:sw.Perm ws) (ht:PyProof.Rows.sortedS sw=true):ss=sw.filter fun z=>decide (0 < gN (tdF (ws.zip ps)) z):=by
 have hA:=qem (ws.zip ps)
 refine List.Perm.eq_of_pairwise (le:=leS) (fun x y _ _ h1 h2=>leS_anti h1 h2) (qd2 hs) ((qd2 ht).sublist List.filter_sublist) ?_
 refine(List.perm_ext_iff_of_nodup (hp.nodup_iff.mpr hA.knd) ((hq.nodup_iff.mpr nd).sublist List.filter_sublist)).mpr fun z=>?_
 rw [hp.mem_iff,hA.kin,yD,decide_eq_true_eq,hq.mem_iff]
 constructor
 .intro h
  have hz:=tdF_in hl z h
  refine⟨hz,?_⟩
  obtain⟨j,hj,rfl⟩:=zQ.mp hz
  have e:=tdF_at hl nd hj (by omega)
  unfold gN
  rw [e] at h ⊢
  by_cases c:0 < ps[j]
  .rw [if_pos c];exact c
  .rw [if_neg c] at h;exact absurd rfl h
 .rintro⟨hz,h⟩ e
  unfold gN at h
  rw [e] at h
  exact absurd h (by show ¬(0:Int) < 0;omega)
theorem qfc (A:Str->Bool) (ss:List Str):∀js:List Nat,pls js (ss.filter A)=(pls js ss).filter fun p=>A p.2
 | []=>rfl
 |j :: js=>by
  show (ss.filter A).map (fun z=>(j,z))++pls js (ss.filter A)=((ss.map fun z=>(j,z))++pls js ss).filter _
  rw [zX,qfc A ss js,List.filter_map];rfl
theorem sum_if {l:List Ob} {f:Ob->Bool} {g:Ob->Int}:((l.filter f).map g).sum=(l.map fun b=>if f b=true then g b else 0).sum:=by
 induction l with
 |nil=>rfl
 |cons b l ih=>
  rw [zW,zS,yW,<-ih]
  by_cases c:f b=true
  .rw [if_pos c,if_pos c,zS,yW]
  .rw [if_neg c,if_neg c,Int.zero_add]
theorem use_sO (P:PL) (l:List Ob) (k:Nat) (z:Str):gN (useF P l k) z=sO P (k,z) l:=by
 unfold useF sumF
 rw [gN_sum,show gN noF z=0 from rfl,Int.zero_add,yU]
 unfold sO
 show ((l.filter _).map fun b=>gN b.R.f z).sum=_
 rw [sum_if]
 congr 1
 refine List.map_congr_left fun b _=>?_
 unfold prN
 by_cases c:k∈qad (elN P.es) b.R.i
 .rw [if_pos c,if_pos (decide_eq_true c)]
 .rw [if_neg c,if_neg (by rw [decide_eq_false c];exact Bool.false_ne_true)]
theorem room_cap {w:Wd} {P:PL} {S:Ts} {n:Nat} {wt:Nat->Int} {H:Hp} {k:Nat} {z:Str} {l:List Ob} {f:Str->Option Int} (hI:TInv S P n wt) (pf:PlF P) (hn:n=P.nm.length) (hh:k < n) (ews:P.ws=w.ws) (etc:P.tc=csT w.ws w.cs) (hcl:w.cs.length=n) (hcs:CsAt H w.ws.length w.cs):qbu S P l f k z=capN w (k,z) - sO P (k,z) l - gN f z:=by
 obtain⟨e,ae,hek,hel⟩:=hI.pl.at hh
 have hk:∃k',S.hl[k']?=some e/\k'=k:=by
  obtain⟨k',hk,ek⟩:=zQ.mp (qc6 ae).1
  have e1:=zA hk
  rw [ek] at e1
  have hkn:k' < n:=by have:=hI.pl.len;omega
  have:=(hI.pl.nam k' e e1).1
  refine⟨k',e1,hI.pl.inj k' k hkn hh ?_⟩
  rw [<-this]
  exact(qc6 ae).2
 obtain⟨k,e1,rfl⟩:=hk
 have efc:=(hI.da k e e1).2.1
 have hkc:k < w.cs.length:=by omega
 obtain⟨_,cl,cb,_⟩:=hcs.at hkc
 have etf:tfF P.tc k=tdF (w.ws.zip (csD w.cs k)):=by unfold tfF;rw [etc,csT_at hkc]
 have fin:Fin w.ws (tdF (w.ws.zip (csD w.cs k))):=(qfj cl.symm (by rw [<-ews];exact pf.wn) fun p hp=>(cb p hp).2).fin (by decide)
 have g1:gN (fcOf S (nmF P k)) z=capN w (k,z):=by
  unfold fcOf
  rw [ae]
  show gN e.x.fc z=_
  have:gN e.x.fc z=gN (qcj (tfF P.tc k)) z:=by unfold gN;rw [efc]
  rw [this,etf,qez fin];rfl
 unfold qbu
 rw [g1,use_sO]
theorem sumZ_sO {w:Wd} {P:PL} {p:Pc} {f:Ob->Bool} {g:Rw->Bool} (ees:P.es=w.es) (hfg:∀(b:Ob) (R:Rw),b.R=rrOf w.ws R->f b=g R):∀{bs:List Ob} {Rs:List Rw},bs.map (·.R)=Rs.map (rrOf w.ws)->sumZ w (Rs.filter g) p=sO P p (bs.filter f)
 | [], [],_=>rfl
 | [],_ :: _,e=>by simp at e
 |_ :: _, [],e=>by simp at e
 |b :: bs,R :: Rs,e=>by
  rw [zS,zS] at e
  obtain⟨e1,e2⟩:=List.cons.inj e
  have ih:=sumZ_sO (p:=p) ees hfg e2
  rw [zW,zW (xs:=bs),hfg b R e1]
  by_cases c:g R=true
  .rw [if_pos c,if_pos c,sO_cons,<-ih]
   have ei:b.R.i=R.i:=by rw [e1];rfl
   have ef:b.R.f=tdF (w.ws.zip R.ps):=by rw [e1];rfl
   unfold sumZ prN
   rw [zW,ees,ei,ef]
   by_cases c2:p.1∈qad (elN w.es) R.i
   .rw [if_pos (decide_eq_true c2),if_pos c2,zS,yW]
   .rw [if_neg (by rw [decide_eq_false c2];exact Bool.false_ne_true),if_neg c2,Int.zero_add]
  .rw [if_neg c,if_neg c,ih]
theorem room_bad {w:Wd} {P:PL} {S:Ts} {n:Nat} {wt:Nat->Int} {H:Hp} {bs:List Ob} {Bs:List Rw} {ss sw:List Str} (hI:TInv S P n wt) (pf:PlF P) (hn:n=P.nm.length) (ews:P.ws=w.ws) (ees:P.es=w.es) (etc:P.tc=csT w.ws w.cs) (hcl:w.cs.length=n) (hcs:CsAt H w.ws.length w.cs) (ok:WOk w) (hjs:∀j∈qad (elN w.es) w.h,j < n)
  (hbs:bs.map (·.R)=Bs.map (rrOf w.ws)) (hp:ss.Perm (qdd (tdK (w.ws.zip w.aps)))) (hs:PyProof.Rows.sortedS ss=true) (hq:sw.Perm w.ws) (ht:PyProof.Rows.sortedS sw=true):
  rmOk S P bs (akF w) (qad (elN P.es) w.h) ss=((pls (qad (elN w.es) w.h) sw).find? (bad w Bs)).isNone:=by
 have ess:=sk_eq ok.apl.symm ok.wsn.nd hp hs hq ht
 have hb:∀p∈pls (qad (elN w.es) w.h) sw,(qbu S P bs (akF w) p.1 p.2 < 0↔capN w p < sumZ w Bs p+gN (akF w) p.2):=fun p hp=>by
  have h1:qbu S P bs (akF w) p.1 p.2=capN w (p.1,p.2) - sO P (p.1,p.2) bs - gN (akF w) p.2:=room_cap hI pf hn (hjs _ (pls_in hp).1) ews etc hcl hcs
  have h2:=sumZ_sO (w:=w) (P:=P) (p:=p) (f:=fun _=>true) (g:=fun _=>true) ees (fun b R e=>rfl) hbs
  rw [List.filter_eq_self.mpr (fun _ _=>rfl),List.filter_eq_self.mpr (fun _ _=>rfl)] at h2
  have e0:((p.1,p.2):Pc)=p:=rfl
  rw [e0] at h1
  omega
 rw [Bool.eq_iff_iff,Option.isNone_iff_eq_none,List.find?_eq_none]
 unfold rmOk
 rw [yE,ees,ess,qfc]
 constructor
 .intro h p hp2 hbd
  unfold bad at hbd
  rw [Bool.and_eq_true,decide_eq_true_eq,decide_eq_true_eq] at hbd
  have:=of_decide_eq_true (h p (yD.mpr ⟨hp2,decide_eq_true hbd.1⟩))
  have:=(hb p hp2).mpr hbd.2
  omega
 .intro h p hp2
  obtain⟨h1,h2⟩:=yD.mp hp2
  have h2:=of_decide_eq_true h2
  refine decide_eq_true ?_
  have h3:=h p h1
  unfold bad at h3
  rw [Bool.and_eq_true,decide_eq_true_eq,decide_eq_true_eq] at h3
  have h4:¬capN w p < sumZ w Bs p+gN (akF w) p.2:=fun c=>h3 ⟨h2,c⟩
  have:=mt (hb p h1).mp h4
  omega
def w9d (K:Frag) (d:Ad):Sp:=fun vs H Q _=>∃x:V,vs=[x]/\Q (.bl true) H
include T in
theorem w8e:FnOk P w K mg base CX0 1 d.w3z d.w3g ["self"] (w9d K d):=by
 refine T.w9s.ok w8n (fun vs H Q E h=>?_) (fun cdv A outer s H vs Q E hr h=>?_)
 .obtain⟨x,rfl,_⟩:=h;rfl
 obtain⟨x,rfl,q⟩:=h
 refine⟨_,(qa5 (qai qdw)),?_⟩
 walk_at "d"
 refine qae (σ:=[some (x)]) rfl ?_
 left
 exact q
def w90 (K:Frag) (d:Ad):Sp:=fun vs H Q _=>∃x:V,vs=[x]/\Q (.bl false) H
include T in
theorem w95:FnOk P w K mg base CX0 1 d.w41 d.w3l ["self"] (w90 K d):=by
 refine T.w9k.ok w96 (fun vs H Q E h=>?_) (fun cdv A outer s H vs Q E hr h=>?_)
 .obtain⟨x,rfl,_⟩:=h;rfl
 obtain⟨x,rfl,q⟩:=h
 refine⟨_,(qa5 (qai qdw)),?_⟩
 walk_at "d"
 refine qae (σ:=[some (x)]) rfl ?_
 left
 exact q
def wbv (K:Frag) (d:Ad):Sp:=fun vs H Q _=>∃(b:Ob) (P:PL),vs=[.ref b.o]/\ObAt d H P b/\∀p m H',qaq H H'->H p=none->H m=none->H' p=some (.tup [.int b.R.n,.str (nmF P b.R.i),.ref m,.int b.R.r,tV b.t,.bl b.R.s])->H' m=some (.dK b.R.k)->Q (.ref p) H'
include T in
theorem w7h:FnOk P w K mg base CX0 2 d.w4b d.w5a ["self"] (wbv K d):=by
 refine T.wct.ok wbz (fun vs H Q E h=>?_) (fun cdv A outer s H vs Q E hr h=>?_)
 .obtain⟨b,P,rfl,_⟩:=h;rfl
 obtain⟨b,P,rfl,hb,q⟩:=h
 refine⟨_,(qa5 (qai (qcv (qa0 (qaz (pv 0) rfl) (qa0 (qaz (pv 0) rfl) (qa0 (qb8 qco rfl T.wa2 PyProof.Rows.boot_dict (qa0 (qaz (pv 0) rfl) qa1)) (qa0 (qaz (pv 0) rfl) (qa0 (qaz (pv 0) rfl) (qa0 (pe_alt (qeh (pv 0) T.w4o T.w19 ((w8e T).mono (by decide)) hr T.w9n .nil qah) (qeh (pv 0) T.w3x T.w15 ((w95 T).mono (by decide)) hr T.w9p .nil qah)) qa1))))))))),?_⟩
 walk_at "d"
 refine qae (σ:=[some (.ref b.o)]) rfl ?_
 obtain⟨dx,hbo⟩:=hb.obj
 obtain⟨cl,n1,n2,n3,n4,n5⟩:=clsOk T b.R.s
 have hRm:Rd H b.m (.dK b.R.k):=.inl hb.amt
 cases hs:b.R.s with
 |true=>
  rw [hs,show qf8 d true=d.w0c from rfl] at hbo cl n1 n2 n3 n4 n5
  rw [hs] at q
  unfold fsB at hbo
  left
  rename_i m hm
  refine r_alt1 ?_
  left
  refine⟨_,rfl,?_⟩
  left
  rename_i p hp
  exact q p m _ (qdu (qa6 hm _) hp) (by have:=qa6 hm (.dK b.R.k);exact this.free hp) hm qa2 (qab qa2 hp)
 |false=>
  rw [hs,show qf8 d false=d.w0b from rfl] at hbo cl n1 n2 n3 n4 n5
  rw [hs] at q
  unfold fsB at hbo
  left
  rename_i m hm
  refine r_alt2 ?_
  left
  refine⟨_,rfl,?_⟩
  left
  rename_i p hp
  exact q p m _ (qdu (qa6 hm _) hp) (by have:=qa6 hm (.dK b.R.k);exact this.free hp) hm qa2 (qab qa2 hp)
theorem eq_tV {K:Frag} {H:Hp} {n:Nat} (t:Option Int):DEq K H n (tV t) (tV t) true:=by
 cases t with
 |none=>exact DEq.flat (x:=.non) (y:=.non) rfl rfl
 |some i=>
  have w:=DEq.flat (K:=K) (H:=H) (n:=n) (x:=.int i) (y:=.int i) rfl rfl
  have e:eqV (.int i) (.int i)=true:=by simp [eqV]
  rw [e] at w
  exact w
theorem deq_int {K:Frag} {H:Hp} {n:Nat} (i:Int):DEq K H n (.int i) (.int i) true:=eq_tV (some i)
theorem deq_tup {K:Frag} {H:Hp} {n:Nat} {a b:Addr} {xs ys:List V} (ha:SqT K H a xs) (hb:SqT K H b ys) (ne:a≠b) (h:DEqs K H n xs ys):DEq K H (n+1) (.ref a) (.ref b) true:=by
 have z:=DEq.ts (n:=n) (e:=fun _=>true) ha hb ne h.get
 have e:((List.range (min xs.length ys.length)).all (fun _=>true) && xs.length==ys.length)=true:=by rw [h.len];simp
 rw [e] at z
 exact z
theorem rows_at {bs:List Ob} {Rs:List Rw} {ws:List Str} (h:bs.map (·.R)=Rs.map (rrOf ws)) {i:Nat} {b:Ob} {R:Rw} (hb:bs[i]?=some b) (hR:Rs[i]?=some R):b.R=rrOf ws R:=by
 have z:=congrArg (fun l=>l[i]?) h
 simp only [zC,hb,hR] at z
 exact Option.some.inj z
def wea (K:Frag) (d:Ad):Sp:=fun vs H Q _=>∃(w:Wd) (lh:Addr) (P:PL) (bs:List Ob),vs=[.ref lh,.ref w.wt]/\WAt H w/\WOk w/\P.nm=w.nm/\H lh=some (.lst (bsV bs))/\(∀b∈bs,ObAt d H P b)/\bs.map (·.R)=w.Rs.map (rrOf w.ws)/\(∀b∈bs,b.t=tuO b.R.n b.R.r)/\∀H',qaq H H'->Q (.bl true) H'
include T in
theorem w7c:FnOk P w K mg base CX0 4 d.w9b d.w79 ["_law_objects_here","_law_world_here"] (wea K d):=by
 refine T.w6j.ok w0x (fun vs H Q E h=>?_) (fun cdv A outer s H vs Q E hr h=>?_)
 .obtain⟨w,lh,P,bs,rfl,_⟩:=h;rfl
 obtain⟨w,lh,P,bs,rfl,hw,ok,hPn,hL,hB,hbs,hU,q⟩:=h
 refine⟨_,(qa3 (qfb (pv 1) (qdm rfl (qag (qac (i:=2) w0x.nd rfl (Or.inl rfl)) (qag (qac (i:=3) w0x.nd rfl (Or.inl rfl)) (qag (qac (i:=4) w0x.nd rfl (Or.inl rfl)) (qag (qac (i:=5) w0x.nd rfl (Or.inl rfl)) (qag (qac (i:=6) w0x.nd rfl (Or.inl rfl)) (qag (qac (i:=7) w0x.nd rfl (Or.inl rfl)) qch))))))))
  (qa3 (qbk (qap op_ne (qaj qb0 rfl T.w3o PySem.boot_len (qa0 (pv 0) qa1)) (qaj qb0 rfl T.w3o PySem.boot_len (qa0 (pv 5) qa1)) (qar _)) (qa5 (qai qdw)) qao)
  (qa3 (qb7 PassesOwn.never rfl (pi_zip rfl T.wi0 (qa0 (pv 0) (qa0 (pv 5) qa1))) (qdm rfl (qag (qac (i:=8) w0x.nd rfl (Or.inl rfl)) (qag (qac (i:=9) w0x.nd rfl (Or.inl rfl)) qch))) (qa3 (qaf (i:=10) w0x.nd rfl (Or.inl rfl) (qan qak (qbm (qa0 qca (qa0 (qal qax qa4 (qan qb3 (pv 9) qa4 (fun _ _=>rfl))) qa1))) (qal qc5 (qan qb3 (pv 9) qa4 (fun _ _=>rfl)) qa4) (fun _ _=>rfl)))
  (qa5 (qbk (qap (op_neD (hu8 hr)) (pe_alt (qeh (pv 8) T.w4o T.w2g ((w7h T).mono (by decide)) hr T.w8s .nil qah) (qeh (pv 8) T.w3x T.w2h ((w7h T).mono (by decide)) hr T.w8s .nil qah)) (qcv (qa0 (qan qb3 (pv 9) qa4 (fun _ _=>rfl)) (qa0 (qan qak (pv 2) (qan qb3 (pv 9) qa4 (fun _ _=>rfl)) (fun _ _=>rfl)) (qa0 (qa9 ((w6b T).mono (by decide)) hr rfl T.w8r T.w7s.kp T.w8f .nil qah (qa0 (pv 3) (qa0 (qan qb3 (pv 9) qa4 (fun _ _=>rfl)) qa1))) (qa0 (qan qb3 (pv 9) qa4 (fun _ _=>rfl)) (qa0 (pv 10) (qa0 (qan qb3 (pv 9) qa4 (fun _ _=>rfl)) qa1))))))) (qar _)) (qa5 (qai qdw)) qao))))
  (qa5 (qai qdw))))),?_⟩
 walk_at "d"
 refine qae (σ:=[some (.ref lh),some (.ref w.wt),none,none,none,none,none,none,none,none,none]) rfl ?_
 have htp:=hw.tup
 have hlr:=hw.lr
 have hbl:(bsV bs).length=(rwV w.Rs).length:=by
  have:=congrArg List.length hbs
  rw [zB,zB] at this
  unfold bsV rwV
  rw [zB,zB];exact this
 left
 refine r_itZ (SqL.of hL) (SqL.of hlr) ?_
 refine f_zip hbl (fun i σ H'=>∃w1 w2 w3:Option V,σ=[some (V.ref lh),some (V.ref w.wt),some (V.ref w.ln),some (V.ref w.lw),some (V.ref w.le),some (V.ref w.lr),some (V.ref w.la),some (V.ref w.lc),w1,w2,w3]/\qaq H H') ⟨_,_,_,rfl,qaq.refl _⟩ ?_ ?_ ?_
 .rintro i σ H' ⟨w1,w2,w3,rfl,sm⟩
  exact⟨SqL.of (sm _ _ hL),SqL.of (sm _ _ hlr)⟩
 .rintro i x y Tt σ H' hx hy ⟨w1,w2,w3,rfl,sm⟩ hTt
  unfold bsV at hx
  unfold rwV at hy
  rw [zC] at hx hy
  obtain⟨b,hb,rfl⟩:=Option.map_eq_some_iff.mp hx
  obtain⟨R,hr,rfl⟩:=Option.map_eq_some_iff.mp hy
  have eR:=rows_at hbs hb hr
  have hbm:=zD hb
  have hrm:=zD hr
  have et:=hU b hbm
  have s2:=qa6 hTt (.tup [.ref b.o,.ref R.p])
  have tT:upd H' Tt (.tup [.ref b.o,.ref R.p]) Tt=some (.tup [.ref b.o,.ref R.p]):=qa2
  generalize upd H' Tt (.tup [.ref b.o,.ref R.p])=H2 at*
  have t2:=sm.trans s2
  have hw2:=hw.same t2
  have hb2:=(hB b hbm).same t2
  have hR2:=hw2.rs R hrm
  have hrow:=hR2.row
  have xn:atI (w.nm.map V.str) ((R.i:Nat):Int)=some (.str (nmF P R.i)):=by
   rw [<-hPn]
   have e:R.i < P.nm.length:=by rw [hPn,ok.nms.len];exact hR2.il
   rw [qd9 e]
   exact qaw (by rw [zC,zA e];rfl)
  generalize hri:((R.i:Nat):Int)=ri at*
  clear hx hy hb hr hTt
  left
  rename_i pm hpm
  have ht:atI [V.non,V.int (1+R.r)] (R.n%2)=some (tV (tuO R.n R.r)):=by
   have m0:=Int.emod_nonneg R.n (show (2:Int)≠0 by decide)
   have m1:=Int.emod_lt_of_pos R.n (show (0:Int) < 2 by decide)
   have hc:R.n%2=0\/R.n%2=1:=by omega
   unfold tuO
   rcases hc with c|c
   .rw [c];exact qaw (j:=0) rfl
   .rw [c];exact qaw (j:=1) rfl
  refine qb6 (SqL.of qa2) ht ?_
  have s3:=qa6 hpm (.lst [V.non,V.int (1+R.r)])
  generalize upd H2 pm (.lst [V.non,V.int (1+R.r)])=H3 at*
  have t3:=t2.trans s3
  have hw3:=hw.same t3
  have hb3:=hb2.same s3
  have hrow3:=s3 _ _ hrow
  clear ht hrow tT hw2 hb2 hR2 hpm
  obtain⟨dxb,hbo⟩:=hb3.obj
  have fin:∀(p m am pq:Addr) (H4 H5:Hp),qaq H3 H4->H4 p=some (.tup [.int b.R.n,.str (nmF P b.R.i),.ref m,.int b.R.r,tV b.t,.bl b.R.s])->H4 m=some (.dK b.R.k)->qaq H4 H5->H4 am=none->H5 am=some (.dK (tdK (w.ws.zip R.ps)))->H5 pq=none->p≠pq/\DEq K (upd H5 pq (.tup [.int R.n,.str (nmF P R.i),.ref am,.int R.r,tV (tuO R.n R.r),.bl R.s])) 2 (.ref p) (.ref pq) true:=fun p m am pq H4 H5 s4 ep em s5 ham eam hpq=>by
   have ne:=qaa (s5 _ _ ep) hpq
   have nm:m≠am:=qaa em ham
   refine⟨ne,?_⟩
   rw [et,eR] at ep
   rw [eR] at em
   have em:H4 m=some (.dK (tdK (w.ws.zip R.ps))):=em
   have dd:=DEq.dd (K:=K) (n:=0) (.inl (qab (o':=.tup [.int R.n,.str (nmF P R.i),.ref am,.int R.r,tV (tuO R.n R.r),.bl R.s]) (s5 _ _ em) hpq)) (.inl (qab eam hpq)) nm (qem _).flat (qem _).flat
   rw [(qem _).eq (qem _)] at dd
   exact deq_tup (n:=1) (SqT.of (qab (s5 _ _ ep) hpq)) (SqT.of qa2) ne ⟨deq_int _,deq_str _,dd,deq_int _,eq_tV _,deq_bl _,trivial⟩
  left
  cases hs:b.R.s with
  |true=>
   rw [hs,show qf8 d true=d.w0c from rfl] at hbo
   refine r_alt1 ?_
   left
   refine⟨b,P,rfl,hb3,fun p m H4 s4 hp hm ep em=>?_⟩
   have hw4:=hw3.same s4
   have hrow4:=s4 _ _ hrow3
   left
   refine qb6 (SqL.of hw4.ln) xn ?_
   left
   refine⟨w.lw,R.e,w.ws,R.ps,rfl,SqL.of hw4.lw,SqL.of (hw4.rs R hrm).par,(hw4.rs R hrm).len.symm,by have:=ok.w6;omega,fun am H5 s5 ham eam=>?_⟩
   have hrow5:=s5 _ _ hrow4
   left
   rename_i pq hpq
   obtain⟨ne,dq⟩:=fin p m am pq H4 H5 s4 ep em s5 ham eam hpq
   refine r_neD ne (by decide) dq ?_
   refine⟨_,rfl,?_⟩
   left
   exact⟨_,_,_,rfl,((t3.trans s4).trans s5).trans (qa6 hpq _)⟩
  |false=>
   rw [hs,show qf8 d false=d.w0b from rfl] at hbo
   refine r_alt2 ?_
   left
   refine⟨b,P,rfl,hb3,fun p m H4 s4 hp hm ep em=>?_⟩
   have hw4:=hw3.same s4
   have hrow4:=s4 _ _ hrow3
   left
   refine qb6 (SqL.of hw4.ln) xn ?_
   left
   refine⟨w.lw,R.e,w.ws,R.ps,rfl,SqL.of hw4.lw,SqL.of (hw4.rs R hrm).par,(hw4.rs R hrm).len.symm,by have:=ok.w6;omega,fun am H5 s5 ham eam=>?_⟩
   have hrow5:=s5 _ _ hrow4
   left
   rename_i pq hpq
   obtain⟨ne,dq⟩:=fin p m am pq H4 H5 s4 ep em s5 ham eam hpq
   refine r_neD ne (by decide) dq ?_
   refine⟨_,rfl,?_⟩
   left
   exact⟨_,_,_,rfl,((t3.trans s4).trans s5).trans (qa6 hpq _)⟩
 .rintro σ H' ⟨w1,w2,w3,rfl,sm⟩
  left
  exact q _ sm
theorem cut1 (ns:List Int):cutV (ns.map V.int) none (some 1)=(ns.take 1).map V.int:=by
 unfold cutV
 cases ns with
 |nil=>rfl
 |cons a l=>
  rw [List.map_take]
  have e:HT.sIx ((a :: l).map V.int).length ((a :: l).map V.int).length (some 1) - HT.sIx ((a :: l).map V.int).length 0 none=1:=by
   simp only [HT.sIx,zB,zP]
   simp
  rw [e];rfl
def wg4 (K:Frag) (d:Ad):Sp:=fun vs H Q _=>∃(a lr:Addr) (ns:List Int) (Rs:List Rw) (n m:Nat),vs=[.ref a,.ref lr]/\SqL K H a (ns.map V.int)/\ns.length<=63/\H lr=some (.lst (rwV Rs))/\Rs.length<=30/\(∀R∈Rs,RwAt H n m R)/\∀(l:Addr) (nums:List Int) H',qaq H H'->H' l=some (.lst (nums.map V.int))->nums.length<=40->Q (.ref l) H'
include T in
theorem wft:FnOk P w K mg base CX0 2 d.wcn d.wah ["_law_script","_law_rows_here"] (wg4 K d):=by
 refine T.wf1.ok w5r (fun vs H Q E h=>?_) (fun cdv A outer s H vs Q E hr h=>?_)
 .obtain⟨a,lr,ns,Rs,n,m,rfl,_⟩:=h;rfl
 obtain⟨a,lr,ns,Rs,n,m,rfl,hS,h63,hL,r30,hR,q⟩:=h
 refine⟨_,(qa3 (qaf (i:=2) w5r.nd rfl (Or.inr rfl) (qa9 ((w1l T).mono (by decide)) hr rfl T.w38 T.w2w.kp T.w34 .nil qah (qa0 (pv 0) (qa0 qa4 qa1))))
  (qa3 (ps_comp3 (j:=3) (caps:=[2]) (cn:=["_law_cell_here"]) (x:="_law_k") (x2:="_law_row") (qb4 rfl rfl (by rfl) (by rfl) rfl ⟨rfl,trivial⟩ (by rfl) rfl ⟨⟨rfl,rfl,rfl,rfl,_,rfl⟩,trivial⟩ (by decide)) rfl w5r.nd rfl rfl (pi_enum rfl T.wcc (qa0 (pv 1) qa1)) (fun _ _ _ _=>(qdm rfl (qag (qac (i:=0) (by show ([Str.ofString "_law_k",Str.ofString "_law_row",Str.ofString "_law_cell_here"]:List Str).Nodup;decide) rfl (Or.inl rfl)) (qag (qac (i:=1) (by show ([Str.ofString "_law_k",Str.ofString "_law_row",Str.ofString "_law_cell_here"]:List Str).Nodup;decide) rfl (Or.inl rfl)) qch)))) (fun _ _ _ _=>(qcu (qap qdk (qa9 ((w0m T).mono (by decide)) hr rfl T.w25 T.w1z.kp T.w24 .nil qah (qa0 (pv 2) (qa0 (qal qax qa4 (pv 0)) (qa0 qa4 qa1)))) qa4 (qar _)))) (fun _ _ _ _=>(qan qb3 (pv 1) qa4 (fun _ _=>rfl))))
  (qa3 (qd5 (qbk (qap qdk (qa9 ((w0m T).mono (by decide)) hr rfl T.w25 T.w1z.kp T.w24 .nil qah (qa0 (pv 2) (qa0 qa4 (qa0 qa4 qa1)))) qa4 (qar _)) (qa5 (qaf (i:=3) w5r.nd rfl (Or.inl rfl) (qal op_cat (pv 3) (qbm (qa0 (qal qax qa4 (qa9 ((w0m T).mono (by decide)) hr rfl T.w25 T.w1z.kp T.w24 .nil qah (qa0 (pv 2) (qa0 qa4 (qa0 qa4 qa1))))) qa1))))) qao))
  (qa3 (qd5 (qbk (qap qdk (qa9 ((w0m T).mono (by decide)) hr rfl T.w25 T.w1z.kp T.w24 .nil qah (qa0 (pv 2) (qa0 qa4 (qa0 qa4 qa1)))) qa4 (qar _)) (qa5 (qaf (i:=3) w5r.nd rfl (Or.inl rfl) (qal op_cat (pe_slice sl_list (pv 3) po_none (po_some qa4)) (pv 3)))) qao))
  (qa3 (qd5 (qbk (qap qdk (qa9 ((w0m T).mono (by decide)) hr rfl T.w25 T.w1z.kp T.w24 .nil qah (qa0 (pv 2) (qa0 qa4 (qa0 qa4 qa1)))) qa4 (qar _)) (qa5 (qaf (i:=3) w5r.nd rfl (Or.inl rfl) (pe_listRev rfl rfl T.w7r rfl T.wdy (qa0 (pv 3) qa1)))) qao))
  (qa5 (qai (pv 3)))))))),?_⟩
 walk_at "d"
 try dsimp only [cxC]
 refine qae (σ:=[some (.ref a),some (.ref lr),none,none]) rfl ?_
 left
 refine⟨a,ns,20,rfl,hS,by decide,by decide,h63,fun H1 s1=>?_⟩
 generalize qbg ns 20=c
 have hL1:=s1 _ _ hL
 left
 refine r_comp3 ?_
 refine r_iE ?_
 left
 refine r_itE (SqL.of hL1) ?_
 intro C s0 H0 fp ln hln
 refine c3_by (rwV Rs).length (fun i H'=>∃nums:List Int,qaq H1 H'/\H' ln=some (.lst (nums.map V.int))/\nums.length<=i) ⟨[],qa6 hln _,qa2,Nat.le_refl _⟩ ?_ ?_ ?_ ?_
 .rintro i H' hi ⟨nums,sm,_⟩
  exact⟨SqL.of (sm _ _ hL1),hi⟩
 .rintro H' ⟨nums,sm,_⟩
  exact⟨SqL.of (sm _ _ hL1),Nat.le_refl _⟩
 .rintro i H' v H'' a1 b1 hi ⟨nums,sm,ea,hl⟩ ⟨Tt,x,hTt,hx,rfl,rfl⟩
  unfold rwV at hx hi
  rw [zB] at hi
  rw [zC,zA hi] at hx
  have hx:=Option.some.inj hx
  subst hx
  have hRi:=((hR _ (zO hi)).same s1).same sm
  generalize Rs[i]=R at*
  have s2:=qa6 hTt (.tup [.int ((i:Nat):Int),.ref R.p])
  have eT:upd H' Tt (.tup [.int ((i:Nat):Int),.ref R.p]) Tt=some (.tup [.int ((i:Nat):Int),.ref R.p]):=qa2
  generalize upd H' Tt (.tup [.int ((i:Nat):Int),.ref R.p])=H2 at*
  have hrow:=s2 _ _ hRi.row
  have ea2:=s2 _ _ ea
  have zl:(nums.map V.int).length < sizeLine:=by rw [zB];show _ < 16777216;omega
  have ii0:0<=((i:Nat):Int)/\((i:Nat):Int)<=30:=by omega
  generalize hri:((R.i:Nat):Int)=ri at*
  generalize hii:((i:Nat):Int)=ii at*
  clear hTt
  left
  refine⟨⟨_,_,rfl⟩,?_⟩
  left
  refine qbz (by omega) (by omega) (by decide) (by decide) fun r _ _=>?_
  left
  by_cases c0:r=0
  .rw [decide_eq_true c0]
   left
   exact⟨nums++ [R.n],qay (sm.trans s2) hln,by rw [qa2,zE];rfl,by rw [zH,yB];omega⟩
  .rw [decide_eq_false c0]
   left
   exact⟨nums,sm.trans s2,ea2,by omega⟩
 rintro H2 ⟨nums,s2,eln,hl⟩
 have hl:nums.length<=30:=by unfold rwV at hl;rw [zB] at hl;omega
 have t2:=s1.trans s2
 clear s1 s2 hln hL1
 left
 refine r_cut (fun σ' H'=>∃(l:Addr) (nums:List Int),σ'=[some (.ref a),some (.ref lr),some (.int c),some (.ref l)]/\qaq H H'/\H' l=some (.lst (nums.map V.int))/\nums.length<=31) ?_ ?_
 .left
  refine qbz (by decide) (by decide) (by decide) (by decide) fun r _ _=>?_
  left
  refine i_2 (fun c0=>?_) (fun c0=>?_)
  .left
   refine qbz (by decide) (by decide) (by decide) (by decide) fun r2 _ _=>?_
   left
   rename_i p1 hp1
   refine r_cat (qab eln hp1) qa2 (by rw [zB];show _+1<=16777216;omega) fun p2 hp2=>?_
   left
   exact⟨p2,nums++ [1+r2],rfl,(t2.trans (qa6 hp1 _)).trans (qa6 hp2 _),by rw [qa2,zE];rfl,by rw [zH,yB];omega⟩
  .left
   exact⟨ln,nums,rfl,t2,eln,by omega⟩
 rintro σ' H3 ⟨l3,n3,rfl,s3,e3,h3⟩
 clear t2 eln hl
 left
 refine r_cut (fun σ' H'=>∃(l:Addr) (nums:List Int),σ'=[some (.ref a),some (.ref lr),some (.int c),some (.ref l)]/\qaq H H'/\H' l=some (.lst (nums.map V.int))/\nums.length<=32) ?_ ?_
 .left
  refine qbz (by decide) (by decide) (by decide) (by decide) fun r _ _=>?_
  left
  refine i_2 (fun c0=>?_) (fun c0=>?_)
  .left
   refine r_slL (SqL.of e3) fun p1 hp1=>?_
   rw [cut1]
   left
   have h1:(n3.take 1).length<=1:=by rw [zU];omega
   refine r_cat qa2 (qab e3 hp1) (by rw [zB,zB];show _+_<=16777216;omega) fun p2 hp2=>?_
   left
   exact⟨p2,n3.take 1++n3,rfl,(s3.trans (qa6 hp1 _)).trans (qa6 hp2 _),by rw [qa2,zE],by rw [zH];omega⟩
  .left
   exact⟨l3,n3,rfl,s3,e3,by omega⟩
 rintro σ' H4 ⟨l4,n4,rfl,s4,e4,h4⟩
 clear s3 e3
 left
 refine r_cut (fun σ' H'=>∃(l:Addr) (nums:List Int),σ'=[some (.ref a),some (.ref lr),some (.int c),some (.ref l)]/\qaq H H'/\H' l=some (.lst (nums.map V.int))/\nums.length<=32) ?_ ?_
 .left
  refine qbz (by decide) (by decide) (by decide) (by decide) fun r _ _=>?_
  left
  refine i_2 (fun c0=>?_) (fun c0=>?_)
  .left
   rename_i p1 hp1
   exact⟨p1,n4.reverse,rfl,s4.trans (qa6 hp1 _),by rw [qa2,List.map_reverse],by rw [List.length_reverse];exact h4⟩
  .left
   exact⟨l4,n4,rfl,s4,e4,h4⟩
 rintro σ' H5 ⟨l5,n5,rfl,s5,e5,h5⟩
 left
 exact q l5 n5 H5 s5 e5 (by omega)
def wba (K:Frag) (d:Ad):Sp:=fun vs H Q _=>∃(w:Wd) (t lh ls:Addr) (S:Ts) (P:PL) (bs:List Ob) (Bs:List Rw) (ss sw:List Str),vs=[.ref w.wt,.ref t,.ref lh,.ref ls]/\WAt H w/\WOk w/\WTr K d H w t lh S P bs/\H ls=some (.lst (rwV Bs))/\(∀R∈Bs,RwAt H (w.es.length+1) w.ws.length R)/\Bs.length<=30/\ss.Perm (qdd (tdK (w.ws.zip w.aps)))/\PyProof.Rows.sortedS ss=true/\ss.length<=6/\sw.Perm w.ws/\PyProof.Rows.sortedS sw=true/\
 rmOk S P bs (akF w) (qad (elN P.es) w.h) ss=((pls (qad (elN w.es) w.h) sw).find? (bad w Bs)).isNone/\∀H',qaq H H'->Q (.bl true) H'
include T in
theorem w7j:FnOk P w K mg base CX0 22 d.w60 d.w5e ["_law_world_here","_law_tree_here","_law_objects_here","_law_some"] (wba K d):=by
 refine T.w6a.ok w0s (fun vs H Q E h=>?_) (fun cdv A outer s H vs Q E hr h=>?_)
 .obtain⟨w,t,lh,ls,S,P,bs,Bs,ss,sw,rfl,_⟩:=h;rfl
 obtain⟨w,t,lh,ls,S,P,bs,Bs,ss,sw,rfl,hw,ok,ht,hls,hBs,b30,pss,qss,s6,psw,qsw,hrm,q⟩:=h
 refine⟨_,(qa3 (qfb (pv 0) (qdm rfl (qag (qac (i:=4) w0s.nd rfl (Or.inl rfl)) (qag (qac (i:=5) w0s.nd rfl (Or.inl rfl)) (qag (qac (i:=6) w0s.nd rfl (Or.inl rfl)) (qag (qac (i:=7) w0s.nd rfl (Or.inl rfl)) (qag (qac (i:=8) w0s.nd rfl (Or.inl rfl)) (qag (qac (i:=9) w0s.nd rfl (Or.inl rfl)) qch))))))))
  (qa3 (qaf (i:=10) w0s.nd rfl (Or.inl rfl) (qbb (W:=fun _ _ _ _=>False) ((wdh T).mono (by decide)) hr rfl T.weu T.wd4.kp T.weg .nil qej (qa0 (pv 1) (qa0 (pv 2) (qa0 (qan qak (pv 4) (qan qb3 (pv 8) qa4 (fun _ _=>rfl)) (fun _ _=>rfl)) (qa0 (qa9 ((w6b T).mono (by decide)) hr rfl T.w8r T.w7s.kp T.w8f .nil qah (qa0 (pv 5) (qa0 (qan qb3 (pv 8) qa4 (fun _ _=>rfl)) qa1))) qa1))))))
  (qa5 (qai (qes (qaj qby rfl T.w0h PyProof.Rows.boot_isinstance (qa0 (pv 10) (qa0 (qcq (v:=.ty "bool") rfl T.wgb PyProof.Rows.boot_bool rfl) qa1))) (qdv (qbn qdk (pv 10) (qbn qfs (qa9 ((wg2 T).mono (by decide)) hr rfl T.wgz T.wex.kp T.wgs .nil qah (qa0 (pv 0) (qa0 (pv 3) qa1))) qca (qar _)) (qar _)))))))),?_⟩
 walk_at "d"
 refine qae (σ:=[some (.ref w.wt),some (.ref t),some (.ref lh),some (.ref ls),none,none,none,none,none,none,none]) rfl ?_
 have htp:=hw.tup
 have hla:=hw.la
 have nl:=ht.wd.nn
 have xn:atI (w.nm.map V.str) ((w.h:Nat):Int)=some (.str (nmF P w.h)):=by
  have e:w.h < P.nm.length:=by rw [nl];exact ok.hh
  rw [qd9 e,<-ht.nm]
  exact qaw (by rw [zC,zA e];rfl)
 have hh:=ok.hh
 have e5:=ok.e5
 have apl:=ok.apl
 have w6:=ok.w6
 generalize hhi:((w.h:Nat):Int)=hi at*
 left
 refine qb6 (SqL.of hw.ln) xn ?_
 left
 refine⟨w.lw,w.pa,w.ws,w.aps,rfl,SqL.of hw.lw,SqL.of hw.pa,apl.symm,by omega,fun am H1 s1 ham eam=>?_⟩
 have hw1:=hw.same s1
 clear htp hla hw
 left
 refine .inr ⟨t,lh,am,S,P,bs,_,w.h,tdK (w.ws.zip w.aps),akF w,ss,rfl,ht.wd.same s1,by omega,hh,eam,qem _,pss,qss,s6,fun H2 s2=>?_⟩
 rw [hrm]
 have hw2:=hw1.same s2
 have t2:=s1.trans s2
 clear hw1
 left
 refine⟨w,ls,P,Bs,sw,rfl,hw2,ok,ht.nm,t2 _ _ hls,fun R hr=>(hBs R hr).same t2,b30,psw,qsw,fun hn H3 s3=>?_,fun p hp pl H3 s3 npl epl=>?_⟩
 .rw [hn]
  left
  exact q _ (t2.trans s3)
 .rw [hp]
  left
  exact q _ (t2.trans s3)
def we8 (K:Frag) (d:Ad):Sp:=fun vs H Q _=>∃(t lh:Addr) (S:Ts) (P:PL) (bs:List Ob) (x am:V),vs=[.ref t,.ref lh,x,am]/\H lh=some (.lst (bsV bs))/\bs.length<=63/\(∀b∈bs,ObAt d H P b)/\qed d H t S/\WF S/\qdl K H x/\who S x=none/\∀H',qaq H H'->Q (.bl true) H'
include T in
theorem wdt:FnOk P w K mg base CX0 23 d.w94 d.w72 ["_law_tree_here","_law_objects_here","_law_thing","_law_amounts"] (we8 K d):=by
 refine T.wbt.ok w43 (fun vs H Q E h=>?_) (fun cdv A outer s H vs Q E hr h=>?_)
 .obtain⟨t,lh,S,P,bs,x,am,rfl,_⟩:=h;rfl
 obtain⟨t,lh,S,P,bs,x,am,rfl,hL,h63,hB,hT,hW,hx,wn,q⟩:=h
 refine⟨_,(qa3 (qaf (i:=4) w43.nd rfl (Or.inl rfl) qa4)
  (qa3 (ps_try rfl rfl (fun _ _=>(qa5 (qb2 (qbb ((wdh T).mono (by decide)) hr rfl T.weu T.wd4.kp T.weg .nil qas (qa0 (pv 0) (qa0 (pv 1) (qa0 (pv 2) (qa0 (pv 3) qa1))))))))
  (ph_own T.w33 rfl T.w6u (fun _=>(qa5 (qaf (i:=4) w43.nd rfl (Or.inl rfl) (qal qax (pv 4) qa4))))
  ph_none) qao)
  (qa3 (ps_try rfl rfl (fun _ _=>(qa5 (qb2 (qbb ((wc1 T).mono (by decide)) hr rfl T.wdn T.wao.kp T.wdl .nil qas (qa0 (pv 0) (qa0 (pv 1) (qa0 (pv 2) (qa0 (pv 3) (qa0 qa4 (qa0 qdw qa1))))))))))
  (ph_own T.w33 rfl T.w6u (fun _=>(qa5 (qaf (i:=4) w43.nd rfl (Or.inl rfl) (qal qax (pv 4) qa4))))
  ph_none) qao)
  (qa3 (ps_try rfl rfl (fun _ _=>(qa5 (qb2 (qbb ((wbk T).mono (by decide)) hr rfl T.wdc T.w8a.kp T.wcd .nil qas (qa0 (pv 0) (qa0 (pv 1) (qa0 (pv 2) (qa0 (pv 3) (qa0 qa4 (qa0 qdw (qa0 (qbm qa1) qa1)))))))))))
  (ph_own T.w33 rfl T.w6u (fun _=>(qa5 (qaf (i:=4) w43.nd rfl (Or.inl rfl) (qal qax (pv 4) qa4))))
  ph_none) qao)
  (qa5 (qai (qbn qdk (pv 4) qa4 (qar _)))))))),?_⟩
 walk_at "d"
 refine qae (σ:=[some (.ref t),some (.ref lh),some (x),some (am),none]) rfl ?_
 left
 refine .inl ⟨t,_,x,_,rfl,S,hT,hW,hx,wn,fun H1 s1=>?_⟩
 refine r_cl T.kcN (iteT ?_)
 left
 refine⟨t,lh,P,bs,x,_,_,_,rfl,s1 _ _ hL,h63,fun b hb=>(hB b hb).same s1,S,hT.same s1,hW,hx.same s1,wn,fun H2 s2=>?_⟩
 have t2:=s1.trans s2
 refine r_cl T.kcN (iteT ?_)
 left
 rename_i p1 hp1
 have t3:=t2.trans (qa6 hp1 (.lst []))
 refine⟨t,lh,P,bs,x,_,_,_,_,rfl,t3 _ _ hL,h63,fun b hb=>(hB b hb).same t3,S,hT.same t3,hW,hx.same t3,wn,fun H4 s4=>?_⟩
 refine r_cl T.kcN (iteT ?_)
 left
 exact q _ (t3.trans s4)
theorem left_map {ws:List Str} {nums:List Int}:∀{bs:List Ob} {Rs:List Rw},bs.map (·.R)=Rs.map (rrOf ws)->(bs.filter (outB nums)).map (·.R)=(Rs.filter fun R=>!decide (R.n∈nums)).map (rrOf ws)
 | [], [],_=>rfl
 | [],_ :: _,e=>by simp at e
 |_ :: _, [],e=>by simp at e
 |b :: bs,R :: Rs,e=>by
  rw [zS,zS] at e
  obtain⟨e1,e2⟩:=List.cons.inj e
  have ih:=left_map (nums:=nums) e2
  have en:b.R.n=R.n:=by rw [e1];rfl
  rw [zW,zW (xs:=Rs)]
  unfold outB at ih ⊢
  rw [en]
  by_cases c:R.n∈nums
  .rw [decide_eq_true c,if_neg (by exact Bool.false_ne_true),if_neg (by exact Bool.false_ne_true)];exact ih
  .rw [decide_eq_false c,if_pos (by rfl),if_pos (by rfl),zS,zS,e1,ih]
theorem LwAt.put {H:Hp} {x:Lw} {l:Addr} {xs:List V} {o:HO} (h:LwAt H x) (e:H l=some (.lst xs)):LwAt (upd H l o) x:=let ⟨a,b,c,f,q⟩:=h;⟨a,b,c,f,by rw [qa7 (fun z=>by rw [z,e] at q;cases q)];exact q⟩
theorem TInv.out {S:Ts} {P:PL} {n:Nat} {wt:Nat->Int} (h:TInv S P n wt) (hn:n=P.nm.length) {y:Str} (hy:y∉P.nm):S.at y=none:=by
 cases c:S.at y with
 |none=>rfl
 |some e=>
  obtain⟨h1,h2⟩:=qc6 c
  obtain⟨k,hk,ek⟩:=zQ.mp h1
  have e1:=zA hk
  rw [ek] at e1
  have e2:=(h.pl.nam k e e1).1
  have hkn:k < P.nm.length:=by have:=h.pl.len;omega
  exact absurd (by rw [<-h2,e2,qd9 hkn];exact zO _) hy
def sp_law0 (K:Frag):Sp:=fun vs H Q _=>∃(a:Addr) (ns:List Int),vs=[.ref a]/\SqL K H a (ns.map V.int)/\ns.length<=63/\∀H',Q (.bl true) H'
def sp_law (K:Frag) (d:Ad):Sp:=sp_law0 K
include T in
theorem ok_law:FnOk P w K mg base CX0 26 d.wd7 d.wbb ["_law_script"] (sp_law K d):=by
 refine T.wi4.ok w26 (fun vs H Q E h=>?_) (fun cdv A outer s H vs Q E hr h=>?_)
 .obtain⟨a,ns,rfl,_⟩:=h;rfl
 obtain⟨a,ns,rfl,hS,h63,q⟩:=h
 refine⟨_,(qa3 (qaf (i:=1) w26.nd rfl (Or.inl rfl) (qa9 ((wfn T).mono (by decide)) hr rfl T.wh0 T.weh.kp T.whc .nil qah (qa0 (pv 0) (qa0 (qa9 ((w0m T).mono (by decide)) hr rfl T.w25 T.w1z.kp T.w24 .nil qah (qa0 (qa9 ((w1l T).mono (by decide)) hr rfl T.w38 T.w2w.kp T.w34 .nil qah (qa0 (pv 0) (qa0 qa4 qa1))) (qa0 qa4 (qa0 qa4 qa1)))) qa1))))
  (qa3 (qfb (pv 1) (qdm rfl (qag (qac (i:=2) w26.nd rfl (Or.inr rfl)) (qag (qac (i:=3) w26.nd rfl (Or.inr rfl)) (qag (qac (i:=4) w26.nd rfl (Or.inl rfl)) (qag (qac (i:=5) w26.nd rfl (Or.inl rfl)) (qag (qac (i:=6) w26.nd rfl (Or.inl rfl)) (qag (qac (i:=7) w26.nd rfl (Or.inl rfl)) qch))))))))
  (qa3 (qaf (i:=8) w26.nd rfl (Or.inl rfl) (qa9 ((wh3 T).mono (by decide)) hr rfl T.wht T.wgi.kp T.why .nil qah (qa0 (pv 0) (qa0 (pv 1) qa1))))
  (qa3 (qaf (i:=9) w26.nd rfl (Or.inl rfl) (qa9 ((we2 T).mono (by decide)) hr rfl T.wek T.wby.kp T.wen .nil qah (qa0 (pv 1) qa1)))
  (qa3 (qaf (i:=10) w26.nd rfl (Or.inr rfl) (qa9 ((wft T).mono (by decide)) hr rfl T.wh2 T.wf1.kp T.wgk .nil qah (qa0 (pv 0) (qa0 (pv 5) qa1))))
  (qa3 (qd6 (j:=11) (caps:=[2,3]) (cn:=["_law_names","_law_wares"]) (qb4 rfl rfl (by rfl) (by rfl) rfl ⟨rfl,⟨rfl,trivial⟩⟩ (by rfl) rfl ⟨⟨rfl,rfl,rfl,rfl,_,rfl⟩,⟨⟨rfl,rfl,rfl,rfl,_,rfl⟩,trivial⟩⟩ (by decide)) rfl w26.nd rfl rfl (qau (pv 10)) (fun _ _ _ _=>qck) (fun _ _ _ _=>(qcv (qa0 (pv 0) (qa0 (qan qak (pv 1) qa4 (fun _ _=>rfl)) (qa0 (pe_disp (qfq (qan qak (pv 2) qa4 (fun _ _=>rfl)) qa4 pps_nil) rfl rfl (by simp) (by decide)) (qa0 (qan qak (pv 1) qa4 (fun _ _=>rfl)) (qa0 (qan qak (pv 2) qa4 (fun _ _=>rfl)) qa1))))))))
  (qa3 (qaf (i:=12) w26.nd rfl (Or.inl rfl) (qb8 qcn rfl T.w7r PyProof.Rows.boot_list (qa0 (pv 9) qa1)))
  (qa3 (qaf (i:=13) w26.nd rfl (Or.inl rfl) (qa9 ((w7k T).mono (by decide)) hr rfl T.w8p T.w6d.kp T.w8c .nil qah (qa0 (pv 12) (qa0 (qb8 qcn rfl T.w7r PyProof.Rows.boot_list (qa0 (pv 11) qa1)) qa1))))
  (qa3 (qd6 (j:=14) (caps:=[10]) (cn:=["_law_numbers"]) (qb4 rfl rfl (by rfl) (by rfl) rfl ⟨rfl,trivial⟩ (by rfl) rfl ⟨⟨rfl,rfl,rfl,rfl,_,rfl⟩,trivial⟩ (by decide)) rfl w26.nd rfl rfl (qau (pv 5)) (fun _ _ _ _=>(qcu (qap qd7 (qan qb3 (pv 0) qa4 (fun _ _=>rfl)) (pv 1) (by rfl)))) (fun _ _ _ _=>(pv 0)))
  (qa3 (qaf (i:=15) w26.nd rfl (Or.inl rfl) (qcv (qa0 (pv 2) (qa0 (pv 3) (qa0 (pv 4) (qa0 (pv 14) (qa0 (pv 6) (qa0 (pv 7) qa1))))))))
  (qa3 (qbk (PW.pt (pw_or (qc8 (qbq (qaj qby rfl T.w0h PyProof.Rows.boot_isinstance (qa0 (pv 13) (qa0 (qcq (v:=.ty "list") rfl T.w7r PyProof.Rows.boot_list rfl) qa1))))) (pw_or1 (qc8 (qbq (qa9 ((w7c T).mono (by decide)) hr rfl T.w9a T.w6j.kp T.w8m .nil qah (qa0 (pv 13) (qa0 (pv 15) qa1)))))))) (qa5 (qai qdw)) qao)
  (qa3 (qbk (PW.pt (pw_or (qc8 (qbq (qa9 ((w7j T).mono (by decide)) hr rfl T.w8v T.w6a.kp T.w92 .nil qah (qa0 (pv 1) (qa0 (pv 8) (qa0 (pv 12) (qa0 (pv 5) qa1))))))) (pw_or1 (qc8 (qbq (qa9 ((w7j T).mono (by decide)) hr rfl T.w8v T.w6a.kp T.w92 .nil qah (qa0 (pv 1) (qa0 (pv 8) (qa0 (qb8 qcn rfl T.w7r PyProof.Rows.boot_list (qa0 (pv 13) qa1)) (qa0 (pv 14) qa1)))))))))) (qa5 (qai qdw)) qao)
  (qa3 (qaf (i:=16) w26.nd rfl (Or.inl rfl) (qa9 ((wc7 T).mono (by decide)) hr rfl T.wef T.wdi.kp T.wet .nil qah (qa0 (pv 0) (qa0 (qal qax qa4 (qa9 ((w0m T).mono (by decide)) hr rfl T.w25 T.w1z.kp T.w24 .nil qah (qa0 (qa9 ((w1l T).mono (by decide)) hr rfl T.w38 T.w2w.kp T.w34 .nil qah (qa0 (pv 0) (qa0 qa4 qa1))) (qa0 qa4 (qa0 qa4 qa1))))) qa1))))
  (qa3 (qb7 PassesOwn.never rfl (qau (qbm (qa0 (pv 16) (qa0 (qbm (qa0 (pv 16) qa1)) (qa0 qca (qa0 qa4 qa1)))))) (qac (i:=17) w26.nd rfl (Or.inl rfl)) (qa5 (qbk (qc8 (qbq (qa9 ((wdt T).mono (by decide)) hr rfl T.wey T.wbt.kp T.wf5 .nil qah (qa0 (pv 8) (qa0 (pv 12) (qa0 (pv 17) (qa0 (pe_disp (qfq (qan qak (pv 3) qa4 (fun _ _=>rfl)) qa4 pps_nil) rfl rfl (by simp) (by decide)) qa1))))))) (qa5 (qai qdw)) qao)))
  (qa3 (qb2 (pe_bm0 PySem.F.plainAttrs_list PySem.F.slot_list_clear PySem.F.type_list_clear mt_clear (pv 13)))
  (qa5 (qai (qes (qa9 ((w7c T).mono (by decide)) hr rfl T.w9a T.w6j.kp T.w8m .nil qah (qa0 (pv 12) (qa0 (pv 1) qa1))) (qdv (qa9 ((w7c T).mono (by decide)) hr rfl T.w9a T.w6j.kp T.w8m .nil qah (qa0 (qa9 ((w7k T).mono (by decide)) hr rfl T.w8p T.w6d.kp T.w8c .nil qah (qa0 (pv 12) (qa0 (qbm qa1) qa1))) (qa0 (pv 1) qa1)))))))))))))))))))))),?_⟩
 walk_at "d"
 try dsimp only [cxC]
 refine qae (σ:=[some (.ref a),none,none,none,none,none,none,none,none,none,none,none,none,none,none,none,none,none]) rfl ?_
 have ct:=T.w01
 left
 refine⟨a,ns,3,rfl,hS,by decide,by decide,h63,fun H0 s0=>?_⟩
 generalize qbg ns 3=c
 left
 refine qbz (by decide) (by decide) (by decide) (by decide) fun r r0 r1=>?_
 obtain⟨m,rfl⟩:=Int.eq_ofNat_of_zero_le r0
 have m30:m<=30:=by omega
 clear r0 r1
 left
 refine⟨a,ns,m,rfl,s0.seq hS,h63,m30,fun w H1 s1 hw ok hfar=>?_⟩
 have hS1:=(s0.trans s1).seq hS
 have htp:=hw.tup
 clear s0 s1 hS
 left
 refine⟨a,ns,w.wt,w.ln,w.lw,w.le,w.lr,w.la,w.lc,w.las,w.cs,w.nm,w.ws,w.es,rfl,hS1,h63,hw.tup,hw.ln,hw.lw,hw.le,hw.lc,ok.cl,hw.cs,ok.nms,ok.wsn,ok.w1,ok.w6,by have:=ok.e5;omega,fun t S P wt H2 s2 enm ews ees etc pf hT hI=>?_⟩
 have hw2:=hw.same s2
 have nl:P.nm.length=w.es.length+1:=by rw [enm,ok.nms.len]
 rw [ok.nms.len] at hI
 have hS2:=s2.seq hS1
 clear hw s2 hS1 htp
 left
 refine⟨w.wt,w.ln,w.lw,w.le,w.lr,w.la,w.lc,P,w.Rs,rfl,hw2.tup,hw2.lr,by rw [enm];exact hw2.ln,by rw [ews];exact hw2.lw,by rw [ews];exact ok.w6,ok.r30,fun R hr=>by rw [nl,ews];exact hw2.rs R hr,fun lh bs H3 s3 elh hbs hB hU=>?_⟩
 have hw3:=hw2.same s3
 have hS3:=s3.seq hS2
 have hbl:bs.length=w.Rs.length:=by have:=congrArg List.length hbs;rw [zB,zB] at this;exact this
 have hWd:WdAt K d H3 t lh S P bs (w.es.length+1):=⟨hT.same s3,hI.pl.wf,hI.pl,nl,fun j hj=>by
  obtain⟨e,ae,_,_⟩:=hI.pl.at hj
  exact⟨⟨e,ae⟩,hI.pl.dep 12 j hj (by have:=ok.e5;omega)⟩,by rw [ews];exact ok.w6,elh,by have:=ok.r30;omega,hB⟩
 rw [ews] at hbs
 obtain⟨ss,pss,qss⟩:=sort_ex (qdd (tdK (w.ws.zip w.aps)))
 obtain⟨sw,psw,qsw⟩:=sort_ex w.ws
 have ess:=sk_eq ok.apl.symm ok.wsn.nd pss qss psw qsw
 have hs6:ss.length<=6:=by
  rw [ess]
  have:=zT (fun z=>decide (0 < gN (tdF (w.ws.zip w.aps)) z)) sw
  have h1:=psw.length_eq
  have h2:=ok.w6
  omega
 have low:=qdf (fun k e h=>(hw3.le.lo k e h).1) (w.es.length+1)
 have hjs:∀j∈qad (elN w.es) w.h,j < w.es.length+1:=fun j hj=>by
  have:=qcr low w.h ok.hh j hj
  have:=ok.hh
  omega
 have hrb:∀(bs':List Ob) (Bs:List Rw),bs'.map (·.R)=Bs.map (rrOf w.ws)->rmOk S P bs' (akF w) (qad (elN P.es) w.h) ss=((pls (qad (elN w.es) w.h) sw).find? (bad w Bs)).isNone:=fun bs' Bs h=>room_bad hI pf nl.symm ews ees etc ok.cl hw3.cs ok hjs h pss qss psw qsw
 have hout:∀y,y∉w.nm->who S (.str y)=none:=fun y hy=>hI.out nl.symm (by rw [enm];exact hy)
 have hx0:∃z0,atI (w.nm.map V.str) (0:Int)=some (.str z0):=by
  have e:0 < w.nm.length:=by rw [ok.nms.len];omega
  exact⟨w.nm[0],qaw (j:=0) (by rw [zC,zA e];rfl)⟩
 have hy0:∃z0,atI (w.ws.map V.str) (0:Int)=some (.str z0):=⟨w.ws[0]'ok.w1,qaw (j:=0) (by rw [zC,zA ok.w1];rfl)⟩
 obtain⟨z0,xn⟩:=hx0
 obtain⟨y0,xw⟩:=hy0
 clear hw2 s3 hT hI pf etc low hS2 hjs ess elh
 left
 refine⟨a,w.lr,ns,w.Rs,_,_,rfl,hS3,h63,hw3.lr,ok.r30,hw3.rs,fun lm nums H4 s4 elm n40=>?_⟩
 have hw4:=hw3.same s4
 have hWd4:=hWd.same s4
 have hS4:=s4.seq hS3
 clear hw3 hWd hS3 s4
 left
 intro C s0 H0 fp lg hlg
 refine qf9 nums.length (fun i H'=>∃ts:List Lw,qaq H4 H'/\H' lg=some (.lst (lwV ts))/\ts.length=i/\ts.map (·.n)=nums.take i/\∀x∈ts,LwAt H' x) ⟨[],qa6 hlg _,qa2,rfl,rfl,fun x hx=>by simp at hx⟩ ?_ ?_ ?_ ?_
 .rintro i H' hi ⟨ts,sm,_⟩
  exact⟨_,.int nums[i],SqL.of (sm _ _ elm),by rw [zC,zA hi];rfl⟩
 .rintro H' ⟨ts,sm,_⟩
  exact⟨_,SqL.of (sm _ _ elm),by rw [zB];exact Nat.le_refl _⟩
 .rintro i H' v H'' hi ⟨ts,sm,ea,tl,etn,hts⟩ ⟨rfl,hv⟩
  have hv:=hv _ (SqL.of (sm _ _ elm))
  rw [zC,zA hi] at hv
  cases hv
  have tk:nums.take (i+1)=nums.take i++ [nums[i]]:=by rw [zM,zA hi];rfl
  generalize nums[i]=g at*
  have hw':=hw4.same sm
  have zl:(lwV ts).length < sizeLine:=by unfold lwV;rw [zB];show _ < 16777216;omega
  left
  refine qb6 (SqL.of hw'.ln) xn ?_
  left
  rename_i pd hpd
  refine qb6 (SqL.of (qab hw'.lw hpd)) xw ?_
  left
  rw [qbj]
  have u1:=qa6 hpd (.dK [(Sum.inr y0,V.int 1)])
  generalize upd H'' pd (.dK [(Sum.inr y0,V.int 1)])=Ha at*
  have ha':=hw'.same u1
  refine qb6 (SqL.of ha'.ln) xn ?_
  left
  refine qb6 (SqL.of ha'.lw) xw ?_
  have ea2:=u1 _ _ ea
  have hts2:∀x∈ts,LwAt Ha x:=fun x hx=>(hts x hx).same u1
  clear hts ea
  left
  rename_i pp hpp
  have u2:=qa6 hpp (.tup [V.int g,V.str z0,V.ref pd,V.str z0,V.str y0])
  have epp:upd Ha pp (.tup [V.int g,V.str z0,V.ref pd,V.str z0,V.str y0]) pp=some (.tup [V.int g,V.str z0,V.ref pd,V.str z0,V.str y0]):=qa2
  generalize upd Ha pp (.tup [V.int g,V.str z0,V.ref pd,V.str z0,V.str y0])=Hb at*
  have elb:=u2 _ _ ea2
  refine⟨ts++ [⟨pp,g⟩],qay ((sm.trans u1).trans u2) hlg,by rw [qa2];unfold lwV;rw [zE];rfl,by rw [zH,tl];rfl,by rw [zE,etn,tk];rfl,fun x hx=>?_⟩
  rcases zV.mp hx with h|h
  .exact((hts2 x h).same u2).put elb
  .rw [zG.mp h]
   exact LwAt.put ⟨_,_,_,_,epp⟩ elb
 rintro H5 ⟨ts,s5,elg,tl,etn,hts⟩
 rw [zR] at etn
 have hw5:=hw4.same s5
 have hWd5:=hWd4.same s5
 have hS5:=s5.seq hS4
 have elm5:=s5 _ _ elm
 clear hw4 hWd4 hS4 s5 elm hlg
 have elh5:=hWd5.h
 left
 refine qeo (SqL.of elh5) fun lq hlq=>?_
 have s6:=qa6 hlq (.lst (bsV bs))
 have elq:upd H5 lq (.lst (bsV bs)) lq=some (.lst (bsV bs)):=qa2
 generalize upd H5 lq (.lst (bsV bs))=H6 at*
 have hWd6:WdAt K d H6 t lq S P bs (w.es.length+1):=by
  have z:=hWd5.same s6
  exact⟨z.tr,z.wf,z.pl,z.nn,z.hs,z.w3,elq,z.h63,z.ob⟩
 have hw6:=hw5.same s6
 have hS6:=s6.seq hS5
 have elm6:=s6 _ _ elm5
 have elg6:=s6 _ _ elg
 have hts6:∀x∈ts,LwAt H6 x:=fun x hx=>(hts x hx).same s6
 have b63:=hWd6.h63
 clear hlq s6 hw5 hWd5 hS5 elm5 elg hts elh5
 left
 refine qeo (SqL.of elg6) fun lg2 hlg2=>?_
 have s7:=qa6 hlg2 (.lst (lwV ts))
 have elg7:upd H6 lg2 (.lst (lwV ts)) lg2=some (.lst (lwV ts)):=qa2
 generalize upd H6 lg2 (.lst (lwV ts))=H7 at*
 have hWd7:=hWd6.same s7
 left
 refine⟨lq,lg2,P,bs,ts,rfl,hWd7.h,b63,hWd7.ob,elg7,by omega,fun x hx=>(hts6 x hx).same s7,fun lf H8 s8 hlf elf=>?_⟩
 rw [etn] at elf
 have t8:=s7.trans s8
 have hw8:=hw6.same t8
 have hWd8:=hWd6.same t8
 have hS8:=t8.seq hS6
 have elm8:=t8 _ _ elm6
 have nql:lf≠lq:=(qaa elq (s7.free hlf)).symm
 have hw7:=hw6.same s7
 have hS7:=s7.seq hS6
 clear hw6 hWd6 hS6 elm6 s7 t8 hts6 elg6 elg7 hlg2 elq
 have hlr:=hw8.lr
 have r30:=ok.r30
 left
 intro C s0 H0 fp ll hll
 refine qf9 w.Rs.length (fun i H2=>qaq H8 H2/\H2 ll=some (.lst (rwV ((w.Rs.take i).filter fun R=>!decide (R.n∈nums))))) ⟨qa6 hll _,qa2⟩ ?_ ?_ ?_ ?_
 .rintro i H2 hi ⟨s2,_⟩
  exact⟨_,.ref w.Rs[i].p,SqL.of (s2 _ _ hlr),by unfold rwV;rw [zC,zA hi];rfl⟩
 .rintro H2 ⟨s2,_⟩
  exact⟨_,SqL.of (s2 _ _ hlr),by unfold rwV;rw [zB];exact Nat.le_refl _⟩
 .rintro i H2 v H3 hi ⟨s2,ea⟩ ⟨rfl,hv⟩
  have hv:=hv _ (SqL.of (s2 _ _ hlr))
  unfold rwV at hv
  rw [zC,zA hi] at hv
  cases hv
  have tk:w.Rs.take (i+1)=w.Rs.take i++ [w.Rs[i]]:=by rw [zM,zA hi];rfl
  have hRi:=(hw8.rs _ (zO hi)).same s2
  generalize w.Rs[i]=R at*
  have hrow:=hRi.row
  generalize hri:((R.i:Nat):Int)=ri at*
  have zl:(rwV ((w.Rs.take i).filter fun R=>!decide (R.n∈nums))).length < sizeLine:=by
   unfold rwV
   rw [zB]
   have h1:=zT (fun R:Rw=>!decide (R.n∈nums)) (w.Rs.take i)
   rw [zU] at h1
   show _ < 16777216
   omega
  have eg2:=s2 _ _ elm8
  clear hv
  left
  refine r_notInI (SqL.of eg2) ?_
  by_cases c2:R.n∈nums
  .rw [decide_eq_true c2]
   left
   refine⟨s2,?_⟩
   rw [ea,tk,zX,zW,if_neg (by rw [decide_eq_true c2];exact Bool.false_ne_true),yN,zZ]
  .rw [decide_eq_false c2]
   left
   refine⟨qay s2 hll,?_⟩
   rw [qa2,tk,zX,zW,if_pos (by rw [decide_eq_false c2];rfl)]
   unfold rwV
   rw [zE];rfl
 rintro H9 ⟨s9,ell⟩
 rw [zR] at ell
 have hlm:=left_map (nums:=nums) hbs
 have hw9:=hw8.same s9
 have hWd9:=hWd8.same s9
 have hS9:=s9.seq hS8
 have elf9:=s9 _ _ elf
 have s79:=s8.trans s9
 clear hw8 hWd8 hS8 elm8 elf hll s9 s8 hlr
 left
 rename_i po hpo
 have s10:=qa6 hpo (.tup [V.ref w.ln,V.ref w.lw,V.ref w.le,V.ref ll,V.ref w.la,V.ref w.lc])
 have epo:upd H9 po (.tup [V.ref w.ln,V.ref w.lw,V.ref w.le,V.ref ll,V.ref w.la,V.ref w.lc]) po=some (.tup [V.ref w.ln,V.ref w.lw,V.ref w.le,V.ref ll,V.ref w.la,V.ref w.lc]):=qa2
 generalize upd H9 po (.tup [V.ref w.ln,V.ref w.lw,V.ref w.le,V.ref ll,V.ref w.la,V.ref w.lc])=H10 at*
 have hw10:=hw9.same s10
 have hWd10:=hWd9.same s10
 have elf10:=s10 _ _ elf9
 have ell10:=s10 _ _ ell
 have s7x:=s79.trans s10
 have upF:((w.Rs.filter fun R=>!decide (R.n∈nums)).map fun R=>R.n).Pairwise (·< ·):=by
  have:=ok.up
  rw [yQ] at this ⊢
  exact this.sublist List.filter_sublist
 have hsub:∀R∈w.Rs.filter fun R=>!decide (R.n∈nums),R∈w.Rs:=fun R hr=>(yD.mp hr).1
 have b30:(w.Rs.filter fun R=>!decide (R.n∈nums)).length<=30:=Nat.le_trans (zT ..) r30
 have bsub:∀b∈bs.filter (outB nums),b∈bs:=fun b hb=>(yD.mp hb).1
 have bl63:(bs.filter (outB nums)).length<=63:=Nat.le_trans (zT ..) b63
 generalize (w.Rs.filter fun R=>!decide (R.n∈nums))=Bs at*
 generalize bs.filter (outB nums)=bo at*
 clear hw9 hWd9 elf9 ell s79 s10 hpo n40 etn tl
 refine⟨{w with wt:=po,lr:=ll,Rs:=Bs},lf,P,bo,rfl,⟨epo,hw10.ln,hw10.lw,hw10.le,ell10,fun R hr=>hw10.rs R (hsub R hr),hw10.la,hw10.pa,hw10.lc,hw10.cs⟩,⟨ok.apl,ok.apn,ok.hh,ok.cl,ok.nms,ok.wsn,ok.w1,ok.w6,ok.e5,upF,b30⟩,enm,elf10,fun b hb=>hWd10.ob b (bsub b hb),hlm,fun b hb=>hU b (bsub b hb),fun H11 s11=>?_⟩
 have hw11:=hw10.same s11
 have hWd11:=hWd10.same s11
 have elf11:=s11 _ _ elf10
 have ell11:=s11 _ _ ell10
 have s7y:=s7x.trans s11
 clear hw10 hWd10 elf10 ell10 s7x s11 epo upF
 refine⟨_,rfl,?_⟩
 left
 refine⟨w,t,lq,w.lr,S,P,bs,w.Rs,ss,sw,rfl,hw11,ok,⟨hWd11,enm,ews,ees⟩,hw11.lr,hw11.rs,ok.r30,pss,qss,hs6,psw,qsw,hrb bs w.Rs hbs,fun H12 s12=>?_⟩
 have hw12:=hw11.same s12
 have hWd12:=hWd11.same s12
 have elf12:=s12 _ _ elf11
 have ell12:=s12 _ _ ell11
 have s7z:=s7y.trans s12
 clear hw11 hWd11 elf11 ell11 s7y s12
 refine⟨_,rfl,?_⟩
 left
 refine qeo (SqL.of elf12) fun lf2 hlf2=>?_
 have s13:=qa6 hlf2 (.lst (bsV bo))
 have elf2:upd H12 lf2 (.lst (bsV bo)) lf2=some (.lst (bsV bo)):=qa2
 generalize upd H12 lf2 (.lst (bsV bo))=H13 at*
 have hw13:=hw12.same s13
 have hWd13:WdAt K d H13 t lf2 S P bo (w.es.length+1):=by
  have z:=hWd12.same s13
  exact⟨z.tr,z.wf,z.pl,z.nn,z.hs,z.w3,elf2,bl63,fun b hb=>z.ob b (bsub b hb)⟩
 have ell13:=s13 _ _ ell12
 have s713:=s7z.trans s13
 have elfA:=s13 _ _ elf12
 clear hw12 hWd12 ell12 s7z s13 hlf2
 left
 refine⟨w,t,lf2,ll,S,P,bo,Bs,ss,sw,rfl,hw13,ok,⟨hWd13,enm,ews,ees⟩,ell13,fun R hr=>hw13.rs R (hsub R hr),b30,pss,qss,hs6,psw,qsw,hrb bo Bs hlm,fun H14 s14=>?_⟩
 have s714:=s713.trans s14
 have hS14:=s714.seq hS7
 have elfB:=s14 _ _ elfA
 clear hw13 hWd13 ell13 s713 s14 elf2
 refine⟨_,rfl,?_⟩
 left
 refine⟨a,ns,20,rfl,hS14,by decide,by decide,h63,fun H15 s15=>?_⟩
 generalize qbg ns 20=c20
 left
 refine qbz (by decide) (by decide) (by decide) (by decide) fun rs r0 r1=>?_
 left
 refine⟨a,ns,6+rs,rfl,s15.seq hS14,h63,by omega,by omega,fun H16 s16=>?_⟩
 have hstr:=hfar (6+rs) (by omega) (by omega)
 generalize nmS (qbg ns 0) (qbg ns 1) (6+rs)=st at*
 have s716:=(s714.trans s15).trans s16
 have elfC:=(s15.trans s16) _ _ elfB
 clear s714 s15 s16 hS14 r0 r1
 left
 rename_i p1 hp1 p2 hp2
 have u1:=qa6 hp1 (.lst [V.str st])
 have e1:upd H16 p1 (.lst [V.str st]) p1=some (.lst [V.str st]):=qa2
 generalize upd H16 p1 (.lst [V.str st])=H17 at*
 have u2:=qa6 hp2 (.lst [V.str st,V.ref p1,V.non,V.int 7])
 have e2:upd H17 p2 (.lst [V.str st,V.ref p1,V.non,V.int 7]) p2=some (.lst [V.str st,V.ref p1,V.non,V.int 7]):=qa2
 generalize upd H17 p2 (.lst [V.str st,V.ref p1,V.non,V.int 7])=H18 at*
 have e1:=u2 _ _ e1
 have s718:=(s716.trans u1).trans u2
 have elfD:=(u1.trans u2) _ _ elfC
 clear s716 u1 u2 hp1 hp2
 have tw:∀x∈ [V.str st,V.ref p1,V.non,V.int 7],qdl K H18 x/\who S x=none:=fun x hx=>by
  have hx:x=.str st\/x=.ref p1\/x=.non\/x=.int 7:=by simpa only [zK,yG,or_false] using hx
  rcases hx with rfl|rfl|rfl|rfl
  .exact⟨.inl ⟨_,rfl⟩,hout _ hstr⟩
  .exact⟨.inr ⟨⟨_,.lst e1,rfl⟩,fun z e=>by cases e⟩,rfl⟩
  .exact⟨.inr ⟨⟨_,.non,rfl⟩,fun z e=>by cases e⟩,rfl⟩
  .exact⟨.inr ⟨⟨_,.int 7,rfl⟩,fun z e=>by cases e⟩,rfl⟩
 refine qde (xs:=[V.str st,V.ref p1,V.non,V.int 7]) (fun i σ H'=>∃w17:Option V,σ=[some (V.ref a),some (V.ref w.wt),some (V.ref w.ln),some (V.ref w.lw),some (V.ref w.le),some (V.ref w.lr),some (V.ref w.la),some (V.ref w.lc),some (V.ref t),some (V.ref lh),some (V.ref lm),some (V.ref lg),some (V.ref lq),some (V.ref lf),some (V.ref ll),some (V.ref po),some (V.str st),w17]/\qaq H18 H') ⟨_,rfl,qaq.refl _⟩ ?_ ?_ ?_
 .rintro i σ H' _ ⟨w17,_,sm⟩;exact SqL.of (sm _ _ e2)
 .rintro i x σ H' hx ⟨w17,rfl,sm⟩
  obtain⟨tx,wx⟩:=tw x (zD hx)
  have tm:=s718.trans sm
  have hwm:=hw7.same tm
  clear hx
  left
  rename_i pd hpd
  refine qb6 (SqL.of (qab hwm.lw hpd)) xw ?_
  left
  rw [qbj]
  have u3:=qa6 hpd (.dK [(Sum.inr y0,V.int 1)])
  generalize upd H' pd (.dK [(Sum.inr y0,V.int 1)])=Hd at*
  have hWdm:=hWd7.same (tm.trans u3)
  refine⟨t,lq,S,P,bs,x,_,rfl,hWdm.h,b63,hWdm.ob,hWdm.tr,hWdm.wf,(tx.same sm).same u3,wx,fun H19 s19=>?_⟩
  refine⟨_,rfl,?_⟩
  left
  exact⟨_,rfl,(sm.trans u3).trans s19⟩
 rintro σ H20 ⟨w17,rfl,sm⟩
 have tm:=s718.trans sm
 have elf20:=sm _ _ elfD
 clear elfA elfB elfC elfD elf12
 clear tw e1 e2 sm s718 hstr
 left
 have tE:=qay (o:=.lst []) tm hlf
 refine⟨w,lq,P,bs,rfl,hw7.same tE,ok,enm,(hWd7.same tE).h,(hWd7.same tE).ob,hbs,hU,fun H21 s21=>?_⟩
 refine⟨_,rfl,?_⟩
 have t21:=tE.trans s21
 left
 rename_i pn hpn
 have t22:=t21.trans (qa6 hpn (.lst []))
 have epn:upd H21 pn (.lst []) pn=some (.lst (lwV [])):=qa2
 generalize upd H21 pn (.lst [])=H22 at*
 refine⟨lq,pn,P,bs, [],rfl,(hWd7.same t22).h,b63,(hWd7.same t22).ob,epn,by decide,fun x hx=>by simp at hx,fun l2 H23 s23 hl2 el2=>?_⟩
 have eb:bs.filter (outB (([]:List Lw).map (·.n)))=bs:=List.filter_eq_self.mpr fun b _=>rfl
 rw [eb] at el2
 have t23:=t22.trans s23
 left
 refine⟨w,l2,P,bs,rfl,hw7.same t23,ok,enm,el2,(hWd7.same t23).ob,hbs,hU,fun H24 _=>?_⟩
 exact q _
structure Fz (K:Frag) (n:Str) (s:Stmt) (f:Addr) (fd:FuncData):Prop where
 a:nsIn K mainGlobals n=some (some (.ref f))
 F:Fun K n n s f fd
structure Fm (K:Frag) (c:Addr) (n q:Str) (s:Stmt) (f:Addr) (fd:FuncData):Prop where
 a:findIn K (.ref c) n=some (some (.ref f))
 F:Fun K n q s f fd
theorem Fz.m {K:Frag} {n:Str} {s:Stmt} {f:Addr} {fd:FuncData} {h:Heap} {mg:Str->Option Value} (g:Fz K n s f fd) (X:K.In h) (G:h.Ns mainGlobals mg):mg n=some (.ref f):=PySem.W.mg_of X G g.a
theorem ln1 {p:List Value->Prop} (h:∀x0:Value,p [x0]) (us:List Value) (e:us.length=1):p us:=by
 match us,e with
 | [x0],_=>exact h x0
theorem ln2 {p:List Value->Prop} (h:∀x0 x1:Value,p [x0,x1]) (us:List Value) (e:us.length=2):p us:=by
 match us,e with
 | [x0,x1],_=>exact h x0 x1
theorem ln3 {p:List Value->Prop} (h:∀x0 x1 x2:Value,p [x0,x1,x2]) (us:List Value) (e:us.length=3):p us:=by
 match us,e with
 | [x0,x1,x2],_=>exact h x0 x1 x2
theorem ln4 {p:List Value->Prop} (h:∀x0 x1 x2 x3:Value,p [x0,x1,x2,x3]) (us:List Value) (e:us.length=4):p us:=by
 match us,e with
 | [x0,x1,x2,x3],_=>exact h x0 x1 x2 x3
theorem ln5 {p:List Value->Prop} (h:∀x0 x1 x2 x3 x4:Value,p [x0,x1,x2,x3,x4]) (us:List Value) (e:us.length=5):p us:=by
 match us,e with
 | [x0,x1,x2,x3,x4],_=>exact h x0 x1 x2 x3 x4
theorem ln6 {p:List Value->Prop} (h:∀x0 x1 x2 x3 x4 x5:Value,p [x0,x1,x2,x3,x4,x5]) (us:List Value) (e:us.length=6):p us:=by
 match us,e with
 | [x0,x1,x2,x3,x4,x5],_=>exact h x0 x1 x2 x3 x4 x5
theorem ln7 {p:List Value->Prop} (h:∀x0 x1 x2 x3 x4 x5 x6:Value,p [x0,x1,x2,x3,x4,x5,x6]) (us:List Value) (e:us.length=7):p us:=by
 match us,e with
 | [x0,x1,x2,x3,x4,x5,x6],_=>exact h x0 x1 x2 x3 x4 x5 x6
theorem txt_mk {K:Frag} {h:Heap} {mg:Str->Option Value} {fa:Addr} {f_z0 f_z1 f_z2 f_z3 f_z4 f_z5 f_z6 f_z7 f_z8 f_z9 f_z10 f_z11 f_z12 f_z13 f_z14 f_z15 f_z16 f_z17 f_z18 f_z19 f_z20 f_z21 f_z22 f_z23 f_z24 f_z25 f_z26 f_z27 f_z28 f_z29 f_z30 f_z31 f_z32 f_z33 f_z34 f_z35 f_z36 f_z37 f_z38 f_z39 f_z40 f_z41 f_z42 f_z43 f_z44 f_z45 wd7 f_z47 f_z48 f_z49 f_z50 f_z51 f_z52 f_z53 f_z54 f_z55 f_z56 f_z57 f_z58 f_z59 f_z60 f_z61 f_z62 f_z63 f_z64 f_z65 f_z66 f_z67 f_z68 w03 w00 w0c w0b w4d w5s w77 w04 w1n w5t w31 w30 w47 w42:Addr} {d_z0 d_z1 d_z2 d_z3 d_z4 d_z5 d_z6 d_z7 d_z8 d_z9 d_z10 d_z11 d_z12 d_z13 d_z14 d_z15 d_z16 d_z17 d_z18 d_z19 d_z20 d_z21 d_z22 d_z23 d_z24 d_z25 d_z26 d_z27 d_z28 d_z29 d_z30 d_z31 d_z32 d_z33 d_z34 d_z35 d_z36 d_z37 d_z38 d_z39 d_z40 d_z41 d_z42 d_z43 d_z44 d_z45 d_law d_z47 d_z50 d_z51 d_z52 d_z53 d_z54 d_z55 d_z56 d_z57 d_z58 d_z59 d_z60 d_z61 d_z62 d_z63 d_z64 d_z65 d_z66 d_z67 d_z68:FuncData} (X:K.In h) (G:h.Ns mainGlobals mg) (hfa:mg "law" =some (.ref fa))
  (g_z0:Fz K "is_whole" s_is_whole f_z0 d_z0)
  (g_z1:Fz K "is_name" s_is_name f_z1 d_z1)
  (g_z2:Fz K "is_whole_from" s_is_whole_from f_z2 d_z2)
  (g_z3:Fz K "is_amount" s_is_amount f_z3 d_z3)
  (g_z4:Fz K "amounts_of" s_amounts_of f_z4 d_z4)
  (g_z5:Fz K "above_nought" s_above_nought f_z5 d_z5)
  (g_z6:Fz K "amount_of" s_amount_of f_z6 d_z6)
  (g_z7:Fz K "added" s_added f_z7 d_z7)
  (g_z8:Fz K "beyond" s_beyond f_z8 d_z8)
  (g_z9:Fz K "total_of" s_total_of f_z9 d_z9)
  (g_z10:Fz K "holds_beneath" s_holds_beneath f_z10 d_z10)
  (g_z11:Fz K "held_by" s_held_by f_z11 d_z11)
  (g_z12:Fz K "taking" s_taking f_z12 d_z12)
  (g_z13:Fz K "used" s_used f_z13 d_z13)
  (g_z14:Fz K "fixed" s_fixed f_z14 d_z14)
  (g_z15:Fz K "rooms_left" s_rooms_left f_z15 d_z15)
  (g_z16:Fz K "first_lack" s_first_lack f_z16 d_z16)
  (g_z17:Fz K "roomy" s_roomy f_z17 d_z17)
  (g_z18:Fz K "parts_at" s_parts_at f_z18 d_z18)
  (g_z19:Fz K "first_beyond" s_first_beyond f_z19 d_z19)
  (g_z20:Fz K "claims" s_claims f_z20 d_z20)
  (g_z21:Fz K "left_over" s_left_over f_z21 d_z21)
  (g_z22:Fz K "is_claims" s_is_claims f_z22 d_z22)
  (g_z23:Fz K "are_wares" s_are_wares f_z23 d_z23)
  (g_z24:Fz K "check_name" s_check_name f_z24 d_z24)
  (g_z25:Fz K "read_house" s_read_house f_z25 d_z25)
  (g_z26:Fz K "check_promises" s_check_promises f_z26 d_z26)
  (g_z27:Fz K "_law_cell" s_cell f_z27 d_z27)
  (g_z28:Fz K "_law_mix" s_mix f_z28 d_z28)
  (g_z29:Fz K "_law_name" s_name f_z29 d_z29)
  (g_z30:Fz K "_law_lines" s_lines f_z30 d_z30)
  (g_z31:Fz K "_law_parts" s_parts f_z31 d_z31)
  (g_z32:Fz K "_law_rows" s_rows f_z32 d_z32)
  (g_z33:Fz K "_law_ends" s_ends f_z33 d_z33)
  (g_z34:Fz K "_law_sum" s_sum f_z34 d_z34)
  (g_z35:Fz K "_law_caps" s_caps f_z35 d_z35)
  (g_z36:Fz K "_law_world" s_world f_z36 d_z36)
  (g_z37:Fz K "_law_told" s_told f_z37 d_z37)
  (g_z38:Fz K "_law_promises" s_promises f_z38 d_z38)
  (g_z39:Fz K "_law_tree" s_tree f_z39 d_z39)
  (g_z40:Fz K "_law_objects" s_objects f_z40 d_z40)
  (g_z41:Fz K "_law_stay_so" s_stay_so f_z41 d_z41)
  (g_z42:Fz K "_law_short" s_short f_z42 d_z42)
  (g_z43:Fz K "_law_drawn" s_drawn f_z43 d_z43)
  (g_z44:Fz K "_law_room_told" s_room_told f_z44 d_z44)
  (g_z45:Fz K "_law_refused" s_refused f_z45 d_z45)
  (g_law:Fz K "law" s_law wd7 d_law)
  (g_z47:Fm K w03 "__init__" "House.__init__" s_House_init f_z47 d_z47)
  {od_z48 an_z48:Option Addr} {sl_z48:Array (Option Value)} {oc_z48 kV_z48 dc_z48 pm_z48 cd_z48 ct_z48 w0t:Value} {t_z48:Addr}
  (a_z48:findIn K (.ref w00) "__init__" =some (some (.ref f_z48))) (l_z48:K.lookup f_z48=some ⟨oc_z48,od_z48,.func (fnOf "__init__" "Tree.__init__" (qcc s_Tree_init) (qbx s_Tree_init) (qa8 s_Tree_init) (.ref t_z48) kV_z48 dc_z48 pm_z48 an_z48 cd_z48 ct_z48),sl_z48⟩) (c_z48:codeIn K cd_z48 "Tree.__init__" =true) (k_z48:keepIn K (.ref f_z48)=true)
  {ob_z48:Obj} {nn_z48:Nat} (tt_z48:K.lookup t_z48=some ob_z48) (td_z48:ob_z48.data=.seq #[w0t] nn_z48) (rd_z48:qbd [.int 1] [w0t])
  {od_z49 an_z49:Option Addr} {sl_z49:Array (Option Value)} {oc_z49 kV_z49 dc_z49 pm_z49 cd_z49 ct_z49 w0k:Value} {t_z49:Addr}
  (a_z49:findIn K (.ref w00) "found" =some (some (.ref f_z49))) (l_z49:K.lookup f_z49=some ⟨oc_z49,od_z49,.func (fnOf "found" "Tree.found" (qcc s_Tree_found) (qbx s_Tree_found) (qa8 s_Tree_found) (.ref t_z49) kV_z49 dc_z49 pm_z49 an_z49 cd_z49 ct_z49),sl_z49⟩) (c_z49:codeIn K cd_z49 "Tree.found" =true) (k_z49:keepIn K (.ref f_z49)=true)
  {ob_z49:Obj} {nn_z49:Nat} (tt_z49:K.lookup t_z49=some ob_z49) (td_z49:ob_z49.data=.seq #[w0k] nn_z49) (rd_z49:qbd [.int 1] [w0k])
  (g_z50:Fm K w00 "wares" "Tree.wares" s_Tree_wares f_z50 d_z50)
  (g_z51:Fm K w00 "names" "Tree.names" s_Tree_names f_z51 d_z51)
  (g_z52:Fm K w00 "has" "Tree.has" s_Tree_has f_z52 d_z52)
  (g_z53:Fm K w00 "check_house" "Tree.check_house" s_Tree_check_house f_z53 d_z53)
  (g_z54:Fm K w00 "house_of" "Tree.house_of" s_Tree_house_of f_z54 d_z54)
  (g_z55:Fm K w00 "elder_of" "Tree.elder_of" s_Tree_elder_of f_z55 d_z55)
  (g_z56:Fm K w00 "cap_of" "Tree.cap_of" s_Tree_cap_of f_z56 d_z56)
  (g_z57:Fm K w00 "kids" "Tree.kids" s_Tree_kids f_z57 d_z57)
  (g_z58:Fm K w00 "line" "Tree.line" s_Tree_line f_z58 d_z58)
  (g_z59:Fm K w00 "beneath" "Tree.beneath" s_Tree_beneath f_z59 d_z59)
  (g_z60:Fm K w00 "promised_beneath" "Tree.promised_beneath" s_Tree_promised_beneath f_z60 d_z60)
  (g_z61:Fm K w00 "check_more" "Tree.check_more" s_Tree_check_more f_z61 d_z61)
  (g_z62:Fm K w0c "__init__" "Hold.__init__" s_Hold_init f_z62 d_z62)
  (g_z63:Fm K w0c "is_sure" "Hold.is_sure" s_Hold_is_sure f_z63 d_z63)
  (g_z64:Fm K w0c "may_end" "Hold.may_end" s_Hold_may_end f_z64 d_z64)
  (g_z65:Fm K w0c "told" "Hold.told" s_Hold_told f_z65 d_z65)
  (g_z66:Fm K w0b "is_sure" "Loan.is_sure" s_Loan_is_sure f_z66 d_z66)
  (g_z67:Fm K w0b "may_end" "Loan.may_end" s_Loan_may_end f_z67 d_z67)
  (g_z68:Fm K w1n "__init__" "NoPromise.__init__" s_i_NoPromise f_z68 d_z68)
  (qi_z68:initIn K w1n f_z68=true) (hi_z68:isFn K (.ref f_z68)=true)
  (a_House:nsIn K mainGlobals "House" =some (some (.ref w03)))
  (a_Tree:nsIn K mainGlobals "Tree" =some (some (.ref w00)))
  (a_Hold:nsIn K mainGlobals "Hold" =some (some (.ref w0c)))
  (a_Loan:nsIn K mainGlobals "Loan" =some (some (.ref w0b)))
  (a_TreeError:nsIn K mainGlobals "TreeError" =some (some (.ref w4d)))
  (a_NoName:nsIn K mainGlobals "NoName" =some (some (.ref w5s)))
  (a_Taken:nsIn K mainGlobals "Taken" =some (some (.ref w77)))
  (a_NoHouse:nsIn K mainGlobals "NoHouse" =some (some (.ref w04)))
  (a_NoPromise:nsIn K mainGlobals "NoPromise" =some (some (.ref w1n)))
  (a_NoWare:nsIn K mainGlobals "NoWare" =some (some (.ref w5t)))
  (a_NoAmount:nsIn K mainGlobals "NoAmount" =some (some (.ref w31)))
  (a_NoNumber:nsIn K mainGlobals "NoNumber" =some (some (.ref w30)))
  (a_TooMany:nsIn K mainGlobals "TooMany" =some (some (.ref w47)))
  (a_TooDeep:nsIn K mainGlobals "TooDeep" =some (some (.ref w42)))
  {w45:Value} (a_LETTERS:nsIn K mainGlobals "LETTERS" =some (some w45)) (w53:qbe (.str "abcdefghijklmnopqrstuvwxyz") w45)
  {w0z:Value} (a_LONGEST_NAME:nsIn K mainGlobals "LONGEST_NAME" =some (some w0z)) (w1g:qbe (.int 8) w0z)
  {w1r:Value} (a_MOST_WARES:nsIn K mainGlobals "MOST_WARES" =some (some w1r)) (w2j:qbe (.int 6) w1r)
  {w1c:Value} (a_MOST_HOUSES:nsIn K mainGlobals "MOST_HOUSES" =some (some w1c)) (w1y:qbe (.int 40) w1c)
  {w0y:Value} (a_LONGEST_LINE:nsIn K mainGlobals "LONGEST_LINE" =some (some w0y)) (w1d:qbe (.int 12) w0y)
  {w0d:Value} (a_GREATEST_WEIGHT:nsIn K mainGlobals "GREATEST_WEIGHT" =some (some w0d)) (w0q:qbe (.int 1000) w0d)
  (q_NoHouse:excIn K w04 [.type "ValueError",.type "Exception",.type "BaseException",.type "object"] "ValueError.__new__" =true)
  (q_NoAmount:excIn K w31 [.type "ValueError",.type "Exception",.type "BaseException",.type "object"] "ValueError.__new__" =true)
  (q_NoWare:excIn K w5t [.type "ValueError",.type "Exception",.type "BaseException",.type "object"] "ValueError.__new__" =true)
  (q_NoName:excIn K w5s [.type "ValueError",.type "Exception",.type "BaseException",.type "object"] "ValueError.__new__" =true)
  (q_NoNumber:excIn K w30 [.type "ValueError",.type "Exception",.type "BaseException",.type "object"] "ValueError.__new__" =true)
  (q_Taken:excIn K w77 [.type "ValueError",.type "Exception",.type "BaseException",.type "object"] "ValueError.__new__" =true)
  (q_TooMany:excIn K w47 [.type "ValueError",.type "Exception",.type "BaseException",.type "object"] "ValueError.__new__" =true)
  (q_TooDeep:excIn K w42 [.type "ValueError",.type "Exception",.type "BaseException",.type "object"] "ValueError.__new__" =true)
  (w33:kitCls K (.ref w04) (.type "BaseException")=some true)
  (kcN:kitCls K (.ref w04) (.ref w04)=some true)
  (w19:Meth K w0c "is_sure" f_z63)
  (w15:Meth K w0b "is_sure" f_z66)
  (w2g:Meth K w0c "told" f_z65)
  (w2h:Meth K w0b "told" f_z65)
  (w0o:Meth K w0c "may_end" f_z64)
  (w0p:Meth K w0b "may_end" f_z67)
  (w1j:Cls K w03)
  (w01:Cls K w00)
  (w6n:Mk K w03 f_z47)
  (w8q:Mk K w00 f_z48)
  (w4o:Cls K w0c)
  (w3x:Cls K w0b)
  (w8i:Mk K w0c f_z62)
  (w8x:Mk K w0b f_z62)
  (w1s:Meth K w00 "found" f_z49)
  (w2z:Meth K w00 "wares" f_z50)
  (w2x:Meth K w00 "names" f_z51)
  (w2a:Meth K w00 "has" f_z52)
  (w05:Meth K w00 "check_house" f_z53)
  (w0f:Meth K w00 "house_of" f_z54)
  (w0e:Meth K w00 "elder_of" f_z55)
  (w1f:Meth K w00 "cap_of" f_z56)
  (w2i:Meth K w00 "kids" f_z57)
  (w0g:Meth K w00 "line" f_z58)
  (w09:Meth K w00 "beneath" f_z59)
  (w06:Meth K w00 "promised_beneath" f_z60)
  (w0i:Meth K w00 "check_more" f_z61)
  (w0l:findIn K (.ref w03) "elder" =some none)
  (w08:findIn K (.ref w03) "promise" =some none)
  (w0j:findIn K (.ref w03) "cap" =some none)
  (w18:findIn K (.ref w03) "weight" =some none)
  (w07:findIn K (.ref w00) "sorted_wares" =some none)
  (w02:findIn K (.ref w00) "houses" =some none)
  (w1h:findIn K (.ref w0c) "number" =some none)
  (w23:findIn K (.ref w0c) "house" =some none)
  (w1a:findIn K (.ref w0c) "amounts" =some none)
  (w2l:findIn K (.ref w0c) "rank" =some none)
  (w1v:findIn K (.ref w0c) "turns" =some none)
  (w1e:findIn K (.ref w0b) "number" =some none)
  (w1t:findIn K (.ref w0b) "house" =some none)
  (w16:findIn K (.ref w0b) "amounts" =some none)
  (w1q:findIn K (.ref w0b) "rank" =some none)
  (w21:findIn K (.ref w0b) "turns" =some none)
  (y_all:nsIn K mainGlobals "all" =some none)
  (y_any:nsIn K mainGlobals "any" =some none)
  (y_bool:nsIn K mainGlobals "bool" =some none)
  (y_dict:nsIn K mainGlobals "dict" =some none)
  (y_enumerate:nsIn K mainGlobals "enumerate" =some none)
  (y_int:nsIn K mainGlobals "int" =some none)
  (y_isinstance:nsIn K mainGlobals "isinstance" =some none)
  (y_len:nsIn K mainGlobals "len" =some none)
  (y_list:nsIn K mainGlobals "list" =some none)
  (y_max:nsIn K mainGlobals "max" =some none)
  (y_min:nsIn K mainGlobals "min" =some none)
  (y_range:nsIn K mainGlobals "range" =some none)
  (y_reversed:nsIn K mainGlobals "reversed" =some none)
  (y_set:nsIn K mainGlobals "set" =some none)
  (y_sorted:nsIn K mainGlobals "sorted" =some none)
  (y_str:nsIn K mainGlobals "str" =some none)
  (y_sum:nsIn K mainGlobals "sum" =some none)
  (y_zip:nsIn K mainGlobals "zip" =some none)
  :∃d:Ad,Tx K mg d/\fa=d.wd7/\∀(s:Shared) (v:Value),BindsTo s d.wbb ⟨[v], []⟩ [("_law_script",v)]:=by
 have e:=hfa.symm.trans (g_law.m X G)
 cases e
 have Fl:=g_law.F
 obtain⟨_,_,_,_,_,_,_,_,_,rfl,_,_⟩:=Fl.ex
 have F_z48:=funD_mk (st:=s_Tree_init) l_z48 c_z48 k_z48 tt_z48 td_z48
 have b_z48:qam K _ ["self","wares","name","promise","cap","weight"] []:=F_z48.binds (ps:=["self","wares","name","promise","cap","weight"]) fun _ _ _ _ _ _ us hl=>by have e:us.length=6:=(by simpa using hl);clear hl;revert us e;exact ln6 fun _ _ _ _ _ _=>by first|exact .inl rfl|exact .inr ⟨_,rfl,rfl⟩
 have b1_z48:qam K _ ["self","wares","name","promise","cap","weight"] [w0t]:=F_z48.binds (ps:=["self","wares","name","promise","cap","weight"]) fun _ _ _ _ _ _ us hl=>by have e:us.length=5:=(by simpa using hl);clear hl;revert us e;exact ln5 fun _ _ _ _ _=>by first|exact .inl rfl|exact .inr ⟨_,rfl,rfl⟩
 have F_z49:=funD_mk (st:=s_Tree_found) l_z49 c_z49 k_z49 tt_z49 td_z49
 have b_z49:qam K _ ["self","name","elder","promise","cap","weight"] []:=F_z49.binds (ps:=["self","name","elder","promise","cap","weight"]) fun _ _ _ _ _ _ us hl=>by have e:us.length=6:=(by simpa using hl);clear hl;revert us e;exact ln6 fun _ _ _ _ _ _=>by first|exact .inl rfl|exact .inr ⟨_,rfl,rfl⟩
 have b1_z49:qam K _ ["self","name","elder","promise","cap","weight"] [w0k]:=F_z49.binds (ps:=["self","name","elder","promise","cap","weight"]) fun _ _ _ _ _ _ us hl=>by have e:us.length=5:=(by simpa using hl);clear hl;revert us e;exact ln5 fun _ _ _ _ _=>by first|exact .inl rfl|exact .inr ⟨_,rfl,rfl⟩
 refine⟨⟨_,_,_,_,_,_,_,_,_,_,_,_,_,_,_,_,_,_,_,_,_,_,_,_,_,_,_,_,_,_,_,_,_,_,_,_,_,_,_,_,_,_,_,_,_,_,_,_,_,_,_,_,_,_,_,_,_,_,_,_,_,_,_,_,_,_,_,_,_,_,_,_,_,_,_,_,_,_,_,_,_,_,_,_,_,_,_,_,_,_,_,_,_,_,_,_,_,_,t_z48,w0t,_,_,t_z49,w0k,_,_,_,_,_,_,_,_,_,_,_,_,_,_,_,_,_,_,_,_,_,_,_,_,_,_,_,_,_,_,_,_,_,_,_,_,_,_,w03,w00,w0c,w0b,w4d,w5s,w77,w04,w1n,w5t,w31,w30,w47,w42,w45,w0z,w1r,w1c,w0y,w0d⟩,⟨g_z0.F,g_z0.m X G,g_z0.F.binds fun _ _ _ _ _ _=>ln1 fun _=>rfl,g_z1.F,g_z1.m X G,g_z1.F.binds fun _ _ _ _ _ _=>ln1 fun _=>rfl,g_z2.F,g_z2.m X G,g_z2.F.binds fun _ _ _ _ _ _=>ln3 fun _ _ _=>rfl,g_z3.F,g_z3.m X G,g_z3.F.binds fun _ _ _ _ _ _=>ln1 fun _=>rfl,g_z4.F,g_z4.m X G,g_z4.F.binds fun _ _ _ _ _ _=>ln2 fun _ _=>rfl,g_z5.F,g_z5.m X G,g_z5.F.binds fun _ _ _ _ _ _=>ln1 fun _=>rfl,g_z6.F,g_z6.m X G,g_z6.F.binds fun _ _ _ _ _ _=>ln2 fun _ _=>rfl,g_z7.F,g_z7.m X G,g_z7.F.binds fun _ _ _ _ _ _=>ln2 fun _ _=>rfl,g_z8.F,g_z8.m X G,g_z8.F.binds fun _ _ _ _ _ _=>ln2 fun _ _=>rfl,g_z9.F,g_z9.m X G,g_z9.F.binds fun _ _ _ _ _ _=>ln1 fun _=>rfl,g_z10.F,g_z10.m X G,g_z10.F.binds fun _ _ _ _ _ _=>ln3 fun _ _ _=>rfl,g_z11.F,g_z11.m X G,g_z11.F.binds fun _ _ _ _ _ _=>ln1 fun _=>rfl,g_z12.F,g_z12.m X G,g_z12.F.binds fun _ _ _ _ _ _=>ln4 fun _ _ _ _=>rfl,g_z13.F,g_z13.m X G,g_z13.F.binds fun _ _ _ _ _ _=>ln3 fun _ _ _=>rfl,g_z14.F,g_z14.m X G,g_z14.F.binds fun _ _ _ _ _ _=>ln3 fun _ _ _=>rfl,g_z15.F,g_z15.m X G,g_z15.F.binds fun _ _ _ _ _ _=>ln4 fun _ _ _ _=>rfl,g_z16.F,g_z16.m X G,g_z16.F.binds fun _ _ _ _ _ _=>ln4 fun _ _ _ _=>rfl,g_z17.F,g_z17.m X G,g_z17.F.binds fun _ _ _ _ _ _=>ln4 fun _ _ _ _=>rfl,g_z18.F,g_z18.m X G,g_z18.F.binds fun _ _ _ _ _ _=>ln3 fun _ _ _=>rfl,g_z19.F,g_z19.m X G,g_z19.F.binds fun _ _ _ _ _ _=>ln2 fun _ _=>rfl,g_z20.F,g_z20.m X G,g_z20.F.binds fun _ _ _ _ _ _=>ln6 fun _ _ _ _ _ _=>rfl,g_z21.F,g_z21.m X G,g_z21.F.binds fun _ _ _ _ _ _=>ln2 fun _ _=>rfl,g_z22.F,g_z22.m X G,g_z22.F.binds fun _ _ _ _ _ _=>ln7 fun _ _ _ _ _ _ _=>rfl,g_z23.F,g_z23.m X G,g_z23.F.binds fun _ _ _ _ _ _=>ln1 fun _=>rfl,g_z24.F,g_z24.m X G,g_z24.F.binds fun _ _ _ _ _ _=>ln1 fun _=>rfl,g_z25.F,g_z25.m X G,g_z25.F.binds fun _ _ _ _ _ _=>ln5 fun _ _ _ _ _=>rfl,g_z26.F,g_z26.m X G,g_z26.F.binds fun _ _ _ _ _ _=>ln3 fun _ _ _=>rfl,g_z27.F,g_z27.m X G,g_z27.F.binds fun _ _ _ _ _ _=>ln2 fun _ _=>rfl,g_z28.F,g_z28.m X G,g_z28.F.binds fun _ _ _ _ _ _=>ln3 fun _ _ _=>rfl,g_z29.F,g_z29.m X G,g_z29.F.binds fun _ _ _ _ _ _=>ln2 fun _ _=>rfl,g_z30.F,g_z30.m X G,g_z30.F.binds fun _ _ _ _ _ _=>ln2 fun _ _=>rfl,g_z31.F,g_z31.m X G,g_z31.F.binds fun _ _ _ _ _ _=>ln3 fun _ _ _=>rfl,g_z32.F,g_z32.m X G,g_z32.F.binds fun _ _ _ _ _ _=>ln5 fun _ _ _ _ _=>rfl,g_z33.F,g_z33.m X G,g_z33.F.binds fun _ _ _ _ _ _=>ln2 fun _ _=>rfl,g_z34.F,g_z34.m X G,g_z34.F.binds fun _ _ _ _ _ _=>ln4 fun _ _ _ _=>rfl,g_z35.F,g_z35.m X G,g_z35.F.binds fun _ _ _ _ _ _=>ln4 fun _ _ _ _=>rfl,g_z36.F,g_z36.m X G,g_z36.F.binds fun _ _ _ _ _ _=>ln2 fun _ _=>rfl,g_z37.F,g_z37.m X G,g_z37.F.binds fun _ _ _ _ _ _=>ln2 fun _ _=>rfl,g_z38.F,g_z38.m X G,g_z38.F.binds fun _ _ _ _ _ _=>ln3 fun _ _ _=>rfl,g_z39.F,g_z39.m X G,g_z39.F.binds fun _ _ _ _ _ _=>ln2 fun _ _=>rfl,g_z40.F,g_z40.m X G,g_z40.F.binds fun _ _ _ _ _ _=>ln1 fun _=>rfl,g_z41.F,g_z41.m X G,g_z41.F.binds fun _ _ _ _ _ _=>ln2 fun _ _=>rfl,g_z42.F,g_z42.m X G,g_z42.F.binds fun _ _ _ _ _ _=>ln2 fun _ _=>rfl,g_z43.F,g_z43.m X G,g_z43.F.binds fun _ _ _ _ _ _=>ln2 fun _ _=>rfl,g_z44.F,g_z44.m X G,g_z44.F.binds fun _ _ _ _ _ _=>ln4 fun _ _ _ _=>rfl,g_z45.F,g_z45.m X G,g_z45.F.binds fun _ _ _ _ _ _=>ln4 fun _ _ _ _=>rfl,Fl,g_law.m X G,g_z47.F,g_z47.F.binds fun _ _ _ _ _ _=>ln5 fun _ _ _ _ _=>rfl,F_z48,b_z48,b1_z48,rd_z48,F_z49,b_z49,b1_z49,rd_z49,g_z50.F,g_z50.F.binds fun _ _ _ _ _ _=>ln1 fun _=>rfl,g_z51.F,g_z51.F.binds fun _ _ _ _ _ _=>ln1 fun _=>rfl,g_z52.F,g_z52.F.binds fun _ _ _ _ _ _=>ln2 fun _ _=>rfl,g_z53.F,g_z53.F.binds fun _ _ _ _ _ _=>ln2 fun _ _=>rfl,g_z54.F,g_z54.F.binds fun _ _ _ _ _ _=>ln2 fun _ _=>rfl,g_z55.F,g_z55.F.binds fun _ _ _ _ _ _=>ln2 fun _ _=>rfl,g_z56.F,g_z56.F.binds fun _ _ _ _ _ _=>ln2 fun _ _=>rfl,g_z57.F,g_z57.F.binds fun _ _ _ _ _ _=>ln2 fun _ _=>rfl,g_z58.F,g_z58.F.binds fun _ _ _ _ _ _=>ln2 fun _ _=>rfl,g_z59.F,g_z59.F.binds fun _ _ _ _ _ _=>ln2 fun _ _=>rfl,g_z60.F,g_z60.F.binds fun _ _ _ _ _ _=>ln2 fun _ _=>rfl,g_z61.F,g_z61.F.binds fun _ _ _ _ _ _=>ln3 fun _ _ _=>rfl,g_z62.F,g_z62.F.binds fun _ _ _ _ _ _=>ln6 fun _ _ _ _ _ _=>rfl,g_z63.F,g_z63.F.binds fun _ _ _ _ _ _=>ln1 fun _=>rfl,g_z64.F,g_z64.F.binds fun _ _ _ _ _ _=>ln3 fun _ _ _=>rfl,g_z65.F,g_z65.F.binds fun _ _ _ _ _ _=>ln1 fun _=>rfl,g_z66.F,g_z66.F.binds fun _ _ _ _ _ _=>ln1 fun _=>rfl,g_z67.F,g_z67.F.binds fun _ _ _ _ _ _=>ln3 fun _ _ _=>rfl,g_z68.F,xcli_of qi_z68 hi_z68,g_z68.F.binds fun _ _ _ _ _ _=>ln3 fun _ _ _=>rfl,PySem.W.mg_of X G a_House,PySem.W.mg_of X G a_Tree,PySem.W.mg_of X G a_Hold,PySem.W.mg_of X G a_Loan,PySem.W.mg_of X G a_TreeError,PySem.W.mg_of X G a_NoName,PySem.W.mg_of X G a_Taken,PySem.W.mg_of X G a_NoHouse,PySem.W.mg_of X G a_NoPromise,PySem.W.mg_of X G a_NoWare,PySem.W.mg_of X G a_NoAmount,PySem.W.mg_of X G a_NoNumber,PySem.W.mg_of X G a_TooMany,PySem.W.mg_of X G a_TooDeep,PySem.W.mg_of X G a_LETTERS,w53,PySem.W.mg_of X G a_LONGEST_NAME,w1g,PySem.W.mg_of X G a_MOST_WARES,w2j,PySem.W.mg_of X G a_MOST_HOUSES,w1y,PySem.W.mg_of X G a_LONGEST_LINE,w1d,PySem.W.mg_of X G a_GREATEST_WEIGHT,w0q,PySem.W.mg_none_of X G y_all,PySem.W.mg_none_of X G y_any,PySem.W.mg_none_of X G y_bool,PySem.W.mg_none_of X G y_dict,PySem.W.mg_none_of X G y_enumerate,PySem.W.mg_none_of X G y_int,PySem.W.mg_none_of X G y_isinstance,PySem.W.mg_none_of X G y_len,PySem.W.mg_none_of X G y_list,PySem.W.mg_none_of X G y_max,PySem.W.mg_none_of X G y_min,PySem.W.mg_none_of X G y_range,PySem.W.mg_none_of X G y_reversed,PySem.W.mg_none_of X G y_set,PySem.W.mg_none_of X G y_sorted,PySem.W.mg_none_of X G y_str,PySem.W.mg_none_of X G y_sum,PySem.W.mg_none_of X G y_zip,kcN,w19,w15,w2g,w2h,w0o,w0p,w1j,w01,w6n,w8q,w4o,w3x,w8i,w8x,w1s,w2z,w2x,w2a,w05,w0f,w0e,w1f,w2i,w0g,w09,w06,w0i,w0l,w08,w0j,w18,w07,w02,w1h,w23,w1a,w2l,w1v,w1e,w1t,w16,w1q,w21,qd0 q_NoHouse,qd0 q_NoAmount,qd0 q_NoWare,qd0 q_NoName,qd0 q_NoNumber,qd0 q_Taken,qd0 q_TooMany,qd0 q_TooDeep,w33⟩,rfl,fun s v=> .of_eq rfl⟩
theorem walk {l:PySem.W.OpenLaw} {q:Program} {loose:List Str} {XP:(Str->Option Value)->Heap->Prop} {YP:World->Heap->Prop} {e:DefRec} {K:Params->Frag} (hn:l.most=some 63) (hdf:e.params.defaults=[]) (hlaw:e.name= "law")
  (hY:∀(w:World) (h:Heap),YP w h->(K w.params).In h)
  (F:∀(w:World) (mg:Str->Option Value) (fa:Addr) (h:Heap),(K w.params).In h->h.Ns mainGlobals mg->mg "law" =some (.ref fa)->∃d:Ad,Tx (K w.params) mg d/\fa=d.wd7/\∀(s:Shared) (v:Value),BindsTo s d.wbb ⟨[v], []⟩ [("_law_script",v)]):
  PySem.W.WalkO q loose XP YP l.row.toRowW e [] (fun f vs=>PySem.call f vs):=by
 refine L2.walk_of (n:=63) (k:=26) (x:="_law_script") (CX:=fun _=>CX0) (sp:=fun w=>sp_law0 (K w.params)) hn (by decide) hdf ⟨rfl,by decide,by decide⟩ hY (fun w mg fa h KX G hm=>?_) (fun _ _ a ns hl _ hS=>⟨a,ns,rfl,hS,hl,fun _=>rfl⟩) fun _ _ _ _ _ z=>z
 rw [hlaw] at hm
 obtain⟨d,T,rfl,hb⟩:=F w mg fa h KX G hm
 exact⟨d.wbb,hb,fun base _ _=>(ok_law (P:=l.prog) (w:=w) (base:=base) T).imp fun vs H Q E q=>q⟩
end Our
namespace PySem.W.Fast
def tw13359655125876640532:=0
def tw4076951715123467649:=0
def tw16856210315886353816:=0
def tw8224897810374661057:=0
def tw2586958423101793242:=0
def tw7447142450541367114:=0
def tw16738092511644199164:=0
def tw18003383505755544084:=0
def tw11626444870503636815:=0
def tw15615462716772421545:=0
def tw18411148900003528216:=0
def tw15391508796252430437:=0
def tw6652143921041772768:=0
def tw6703679755271084782:=0
def tw5836932201892494735:=0
def tw18436694126063683002:=0
def tw3735739677952174995:=0
def tw16525961377848000110:=0
def tw4642267250417886852:=0
def tw5297896206221857333:=0
def tw2261433084120339925:=0
def tw17145120520676034767:=0
def tw11232053017798063930:=0
def tw2857183647561075585:=0
def tw3687260363241430088:=0
def tw953469246910473288:=0
def tw26594071218486907:=0
def tw15443488500144447547:=0
def tw4884707673892262508:=0
def tw11365457257497813804:=0
def tw2936532675584204106:=0
def tw989430575018372232:=0
def tw8722016648533691970:=0
def tw2788708954153576341:=0
def tw135272694875739761:=0
def tw3486863397168064092:=0
def tw17228116133610334507:=0
def tw14071593459644622836:=0
def tw4602226855905176851:=0
def tw7904007806752610899:=0
def tw8751099082986412908:=0
def tw4371442105115137041:=0
def tw3090387115820554399:=0
def tw2139097609473310896:=0
def tw7223456571700173196:=0
def tw11288459812293570685:=0
def tw4266708614911285955:=0
def tw12696790388465854700:=0
def tw16215969278047822962:=0
def tw3102794273250961760:=0
def tw8705556815872317696:=0
def tw5072141992729839244:=0
def tw13378078713841649723:=0
def tw12282795830999777136:=0
def tw12063664513514783990:=0
def tw4672416470487270538:=0
def tw4791702678692577571:=0
def tw12799970226381590208:=0
def tw13820418653512961687:=0
def tw8294219147780235718:=0
def tw12404004896599035730:=0
def tw9906193871080466480:=0
def tw142580753000760346:=0
def tw16841767073288847166:=0
def tw3326541700500167717:=0
def tw2892874383057131745:=0
def tw15514076412454326939:=0
def tw17904574419944681090:=0
def tw8797660458818909980:=0
def tw16292271283801157474:=0
def tw10135210490008784996:=0
def tw8607977301566093285:=0
def tw6149874605097223521:=0
def tw3685985253094530209:=0
def tw142073623221733331:=0
def tw4667976635200289479:=0
def tw4528296386678942313:=0
def tw4828432299797648622:=0
def tw3006975551679417205:=0
def tw5811949410099420000:=0
def tw14889319261554671652:=0
def tw10036424725890827699:=0
def tw13671635814760104919:=0
def tw10439011959372078762:=0
def tw15226811580257630390:=0
def tw15878768315501581846:=0
def tw6063661035557636983:=0
def tw14117542039494189687:=0
def tw568597275513020040:=0
def tw16550960306776787297:=0
def tw2577732383470290953:=0
def tw12340131595784522053:=0
def tw17828736463294503896:=0
def tw16893366191987696185:=0
def tw5608989970812886605:=0
def tw10973209671864438958:=0
def tw13709855498342118896:=0
def tw7745104168900518414:=0
def tw15344351240809301286:=0
def tw3563536450161591514:=0
def tw7303985432251714385:=0
def tw8003391451607970875:=0
def tw13088465362631684452:=0
def tw10008984464597366590:=0
def tw7232059990274558202:=0
def tw5504108216997679734:=0
def tw6972789010451431643:=0
def tw4495787272262470175:=0
def tw1218517190660352492:=0
def tw1503926636525778159:=0
def tw6799074710035887083:=0
def tw1584141919377074926:=0
def tw12869602191019014325:=0
def tw4066215437996718510:=0
def tw6261502233357430493:=0
def tw17003958918129449419:=0
def tw3702965029689570541:=0
def tw11704951438522713399:=0
def tw16694518543857107420:=0
def tw13991423936458394435:=0
def tw16168631646074066346:=0
def tw3586808657172553109:=0
def tw5233693864399950928:=0
def tw15208038738180382249:=0
def tw12271171957534362017:=0
def tw11473609679888537260:=0
def tw11570023036686641900:=0
def tw15598397442160511436:=0
def tw3683120396802726253:=0
def tw8375468455480247259:=0
def tw18179465192051076599:=0
def tw12445874473286575362:=0
def tw17650515703705554781:=0
def tw10042428744898966188:=0
def tw18314497310674249511:=0
def tw6727501235236855372:=0
def tw8548734243203492874:=0
def tw11637174979217016129:=0
def tw17624459655835641483:=0
def tw12227971208241946718:=0
def tw801172723155842278:=0
def tw9493262759232239617:=0
def tw9932187932572910477:=0
def tw4769732564811361465:=0
def tw6244556515376142693:=0
def tw1905771658641415663:=0
def tw4408064647040639614:=0
def tw4350473360106742354:=0
def tw4212624523144329389:=0
def tw5980814672979619528:=0
def tw134902088374913776:=0
def tw6727224927804277375:=0
def tw674163549469604753:=0
def tw18438859009656064318:=0
def tw7374745853414422364:=0
def tw12691544664339382701:=0
def tw14048482575429698289:=0
def tw11238196593893219024:=0
def tw2756025436025245270:=0
def tw5394768390425757187:=0
def tw1749621683281772453:=0
def tw16324497639477854199:=0
def tw4277721244410449977:=0
def tw5682874601405727545:=0
def tw9893310918478444305:=0
def tw13351570645216505922:=0
def tw6037116302796240472:=0
def tw14196296534679861612:=0
def tw11115281848821232027:=0
def tw4989877831675762509:=0
def tw10309368322077706481:=0
def tw4442861189105702675:=0
def tw1609254875573695168:=0
def tw4479504196998652931:=0
def tw11130982668495360532:=0
def tw16727940535333256684:=0
def tw5069026317774152856:=0
def tw1828093692080510821:=0
def tw1080285146712288091:=0
def tw4403755282335972387:=0
def tw17719060070959066717:=0
def tw3349283736401311111:=0
def tw16709842478899542803:=0
def tw5557469959279529504:=0
def tw216405353694427769:=0
def tw10409330836375639675:=0
def tw16098654890944644851:=0
def tw12115928513141095351:=0
def tw2582389857488076695:=0
def tw7745913482423818097:=0
def tw9211870208482638744:=0
def tw153301972418360202:=0
def tw18242628625123500465:=0
def tw622200932985001477:=0
def tw3707599169237373815:=0
def tw6887441467525350495:=0
def tw17175265478902166894:=0
def tw2833916424748703258:=0
def tw16380907074344425155:=0
def tw3204010121363731464:=0
def tw12943609592070058061:=0
def tw4009967289380811274:=0
def tw9417329897031341624:=0
def tw4415881461475589539:=0
def tw5585660000112887274:=0
def tw13349804400863965030:=0
def tw9594302533427188900:=0
def tw6776286518459860256:=0
def tw3769299313705780519:=0
def tw1006815252990999500:=0
def tw8784540537006926754:=0
def tw7736901008602312052:=0
def tw1722225926243966820:=0
def tw13766325155168959887:=0
def tw5630294175672475742:=0
def tw13496430467124448290:=0
def tw5946936048299749996:=0
def tw13862335937010691966:=0
def tw6355434823230807168:=0
def tw8377260379807800472:=0
def tw4824137833050453090:=0
def tw13256519111247610524:=0
def tw5308077677605336961:=0
def tw12157732776386518176:=0
def tw6082557044612245250:=0
def tw3513304916371438173:=0
def tw16747776206660357615:=0
def tw2024206013253253052:=0
def tw6644060474993572748:=0
def tw9012458982337088683:=0
def tw15559203240296475275:=0
def tw872519048252057009:=0
def tw9583018066668610991:=0
def tw16337215092702362458:=0
def tw17417658676874183932:=0
def tw10666372032935289676:=0
def tw6390072856185394245:=0
def tw948387822451668921:=0
def tw3189677015472978573:=0
def tw11025521022253196616:=0
def tw16227898860158796477:=0
def tw13846875858745789844:=0
def tw9452249318372272163:=0
def tw10514230596037108204:=0
def tw14184669395569424552:=0
def tw13553971060679063036:=0
def tw7069178517405603347:=0
def tw6513576530836526303:=0
def tw12842824101508412451:=0
def tw2050740935486445528:=0
def tw18383122425518022105:=0
def tw17644205278639153954:=0
def tw14239019478142905220:=0
def tw14001774376821557466:=0
def tw1164020432916325684:=0
def tw5792281882293005296:=0
def tw11659683985197313199:=0
def tw1145887202724892506:=0
def tw17005562001891351495:=0
def tw7570303272830171975:=0
def tw769680143195890806:=0
def tw17003722118308954282:=0
def tw17985205077124047959:=0
def tw6136798706279826887:=0
def tw12323805477322281781:=0
def tw9291430855892608687:=0
def tw8352703870092137241:=0
def tw14059305180749979108:=0
def tw2920130605576916170:=0
def tw4392884911605631111:=0
def tw15391241817821092582:=0
def tw15986896867799143980:=0
def tw4053161548937273034:=0
def tw12744182767390737709:=0
def tw8813731908212736087:=0
def tw7472886594222796195:=0
def tw1376198493759759427:=0
def tw10209253878362203621:=0
def tw13030793213109512999:=0
def tw8505367043412982477:=0
def tw13386303017030002509:=0
def tw74502025694049420:=0
def tw17780253616836815949:=0
def tw13628183563384968862:=0
def tw2439848038784498996:=0
def tw13974210164401585155:=0
def tw14365246181443911092:=0
def tw7443048535339773914:=0
def tw1230749555288443299:=0
def tw1641800961874616884:=0
def tw13846821660254090424:=0
def tw12294020409890560575:=0
def tw11964221314536685278:=0
def tw6282311120295489135:=0
def tw7415473552819856745:=0
def tw6395132174867570847:=0
def tw232252784310513333:=0
def tw10175717102453428775:=0
def tw4425389300308250359:=0
def tw5695144214518264589:=0
def tw3512319934620231103:=0
def tw4868355632115306509:=0
def tw7456161237181437246:=0
def tw1711545306755291535:=0
def tw13729750861634218659:=0
def tw11675694104470603558:=0
def tw7934519581093311841:=0
def tw4573197782182474513:=0
def tw3753703231411113037:=0
def tw9920587575015639891:=0
def tw5505423886074377761:=0
def tw3639493310463025619:=0
def tw17992055156560169792:=0
def tw16520548356846440725:=0
def tw13835240425843711280:=0
def tw8697270947141073926:=0
def tw7644630381913387731:=0
def tw2070644535738232221:=0
def tw17764165011216539949:=0
def tw17623440890540766274:=0
def tw13213790573412472387:=0
def tw7854655015046457922:=0
def tw4428845914748812725:=0
def tw12151174804398468921:=0
def tw11865953646716081448:=0
def tw17561158330508292438:=0
def tw14034824697643775159:=0
def tw6642414062900105187:=0
def tw2760513861506932769:=0
def tw10728414205073375255:=0
def tw9431388402560566010:=0
def tw13355487009060860126:=0
def tw11466449071535143953:=0
def tw2813169102148804347:=0
def tw7165567748615834892:=0
def tw13822230333178495852:=0
def tw17605523530878339800:=0
def tw13794160564313882517:=0
def tw5453885050506838102:=0
def tw12291120876877210418:=0
def tw14081462297199136493:=0
def tw9840648682515871346:=0
def tw8301024579811291697:=0
def tw4747925049995371199:=0
def tw446885449060595388:=0
def tw1361181190101230427:=0
def tw11414509701047641765:=0
def tw6409841997936838303:=0
def tw9622405426620861974:=0
def tw7714119387845982792:=0
def tw17997963557486433289:=0
def tw15486821281047765399:=0
def tw15025838020170138560:=0
def tw8895930515367418171:=0
def tw13888077162868431326:=0
def tw12936351634220152095:=0
def tw9993282589158104807:=0
def tw15916287006508433849:=0
def tw11052124846138230020:=0
def tw8945152494697511601:=0
def tw7561658386401089533:=0
def tw14901740132067001654:=0
def tw9641467506224821106:=0
def tw18219278682471683676:=0
def tw12141870466441182619:=0
def tw13465198741620474013:=0
def tw1021578525186463959:=0
def tw14247203790237944057:=0
def tw5365418974084439387:=0
def tw17580251823199707999:=0
def tw13198931539946236862:=0
def tw18140942014820564339:=0
def tw15086867949932028020:=0
def tw14858035755347617855:=0
def tw14891843338107077624:=0
def tw7199671259240984830:=0
def tw5014411332989465620:=0
def tw18432271404471099130:=0
def tw11706325107685809273:=0
def tw9534009136463659439:=0
end PySem.W.Fast
open PySem PySem.W PyProof.Rows
set_option maxRecDepth 100000 in
set_option maxHeartbeats 0 in
theorem PySem.Challenge.cw_quotatree_k41_left_over_and_room_holds : PySem.Challenge.rw_quotatree_k41_left_over_and_room.Holds := by
 w_on;o_law;k_head;(case hw=>w_witness2)
 k_fill
 refine Our.walk (l:=PySem.Challenge.rw_quotatree_k41_left_over_and_room) rfl rfl rfl (fun w h Y=>PySem.W.kIn_of Y) ?F
 case F=>
  intro w mg fa h KX G hmg
  refine' Our.txt_mk KX G hmg ?g_z0 ?g_z1 ?g_z2 ?g_z3 ?g_z4 ?g_z5 ?g_z6 ?g_z7 ?g_z8 ?g_z9 ?g_z10 ?g_z11 ?g_z12 ?g_z13 ?g_z14 ?g_z15 ?g_z16 ?g_z17 ?g_z18 ?g_z19 ?g_z20 ?g_z21 ?g_z22 ?g_z23 ?g_z24 ?g_z25 ?g_z26 ?g_z27 ?g_z28 ?g_z29 ?g_z30 ?g_z31 ?g_z32 ?g_z33 ?g_z34 ?g_z35 ?g_z36 ?g_z37 ?g_z38 ?g_z39 ?g_z40 ?g_z41 ?g_z42 ?g_z43 ?g_z44 ?g_z45 ?g_law ?g_z47 ?a_z48 ?l_z48 ?c_z48 ?k_z48 ?tt_z48 ?td_z48 ?rd_z48 ?a_z49 ?l_z49 ?c_z49 ?k_z49 ?tt_z49 ?td_z49 ?rd_z49 ?g_z50 ?g_z51 ?g_z52 ?g_z53 ?g_z54 ?g_z55 ?g_z56 ?g_z57 ?g_z58 ?g_z59 ?g_z60 ?g_z61 ?g_z62 ?g_z63 ?g_z64 ?g_z65 ?g_z66 ?g_z67 ?g_z68 ?qi_z68 ?hi_z68 ?a_House ?a_Tree ?a_Hold ?a_Loan ?a_TreeError ?a_NoName ?a_Taken ?a_NoHouse ?a_NoPromise ?a_NoWare ?a_NoAmount ?a_NoNumber ?a_TooMany ?a_TooDeep ?a_LETTERS ?w53 ?a_LONGEST_NAME ?w1g ?a_MOST_WARES ?w2j ?a_MOST_HOUSES ?w1y ?a_LONGEST_LINE ?w1d ?a_GREATEST_WEIGHT ?w0q ?q_NoHouse ?q_NoAmount ?q_NoWare ?q_NoName ?q_NoNumber ?q_Taken ?q_TooMany ?q_TooDeep ?w33 ?kcN ?w19 ?w15 ?w2g ?w2h ?w0o ?w0p ?w1j ?w01 ?w6n ?w8q ?w4o ?w3x ?w8i ?w8x ?w1s ?w2z ?w2x ?w2a ?w05 ?w0f ?w0e ?w1f ?w2i ?w0g ?w09 ?w06 ?w0i ?w0l ?w08 ?w0j ?w18 ?w07 ?w02 ?w1h ?w23 ?w1a ?w2l ?w1v ?w1e ?w1t ?w16 ?w1q ?w21 ?y_all ?y_any ?y_bool ?y_dict ?y_enumerate ?y_int ?y_isinstance ?y_len ?y_list ?y_max ?y_min ?y_range ?y_reversed ?y_set ?y_sorted ?y_str ?y_sum ?y_zip
  (case a_House=>k_is)
  (case a_Tree=>k_is)
  (case a_Hold=>k_is)
  (case a_Loan=>k_is)
  (case a_TreeError=>k_is)
  (case a_NoName=>k_is)
  (case a_Taken=>k_is)
  (case a_NoHouse=>k_is)
  (case a_NoPromise=>k_is)
  (case a_NoWare=>k_is)
  (case a_NoAmount=>k_is)
  (case a_NoNumber=>k_is)
  (case a_TooMany=>k_is)
  (case a_TooDeep=>k_is)
  all_goals try (refine' ⟨?a,L2.fun_mk ?l ?c ?k⟩;(case a=>k_is);(case l=>k_is);(case c=>k_is);(case k=>k_is))
  (case a_z48=>k_is);(case l_z48=>k_is);(case c_z48=>k_is);(case k_z48=>k_is)
  (case tt_z48=>k_is);(case td_z48=>first|rfl|k_is);(case rd_z48=>first|exact .cons ⟨_,rfl⟩ .nil|exact .cons rfl .nil)
  (case a_z49=>k_is);(case l_z49=>k_is);(case c_z49=>k_is);(case k_z49=>k_is)
  (case tt_z49=>k_is);(case td_z49=>first|rfl|k_is);(case rd_z49=>first|exact .cons ⟨_,rfl⟩ .nil|exact .cons rfl .nil)
  (case qi_z68=>kernel_rfl);(case hi_z68=>k_is)
  (case a_LETTERS=>k_is)
  (case w53=>exact⟨_,rfl⟩)
  (case a_LONGEST_NAME=>k_is)
  (case w1g=>exact⟨_,rfl⟩)
  (case a_MOST_WARES=>k_is)
  (case w2j=>exact⟨_,rfl⟩)
  (case a_MOST_HOUSES=>k_is)
  (case w1y=>exact⟨_,rfl⟩)
  (case a_LONGEST_LINE=>k_is)
  (case w1d=>exact⟨_,rfl⟩)
  (case a_GREATEST_WEIGHT=>k_is)
  (case w0q=>exact⟨_,rfl⟩)
  (case q_NoHouse=>k_exc)
  (case q_NoAmount=>k_exc)
  (case q_NoWare=>k_exc)
  (case q_NoName=>k_exc)
  (case q_NoNumber=>k_exc)
  (case q_Taken=>k_exc)
  (case q_TooMany=>k_exc)
  (case q_TooDeep=>k_exc)
  (case w33=>kernel_rfl)
  (case kcN=>kernel_rfl)
  (case w19=>(constructor <;> first|k_is|kernel_rfl))
  (case w15=>(constructor <;> first|k_is|kernel_rfl))
  (case w2g=>(constructor <;> first|k_is|kernel_rfl))
  (case w2h=>(constructor <;> first|k_is|kernel_rfl))
  (case w0o=>(constructor <;> first|k_is|kernel_rfl))
  (case w0p=>(constructor <;> first|k_is|kernel_rfl))
  (case w1j=>(constructor <;> first|k_is|kernel_rfl))
  (case w01=>(constructor <;> first|k_is|kernel_rfl))
  (case w6n=>(constructor <;> first|k_is|kernel_rfl))
  (case w8q=>(constructor <;> first|k_is|kernel_rfl))
  (case w4o=>(constructor <;> first|k_is|kernel_rfl))
  (case w3x=>(constructor <;> first|k_is|kernel_rfl))
  (case w8i=>(constructor <;> first|k_is|kernel_rfl))
  (case w8x=>(constructor <;> first|k_is|kernel_rfl))
  (case w1s=>(constructor <;> first|k_is|kernel_rfl))
  (case w2z=>(constructor <;> first|k_is|kernel_rfl))
  (case w2x=>(constructor <;> first|k_is|kernel_rfl))
  (case w2a=>(constructor <;> first|k_is|kernel_rfl))
  (case w05=>(constructor <;> first|k_is|kernel_rfl))
  (case w0f=>(constructor <;> first|k_is|kernel_rfl))
  (case w0e=>(constructor <;> first|k_is|kernel_rfl))
  (case w1f=>(constructor <;> first|k_is|kernel_rfl))
  (case w2i=>(constructor <;> first|k_is|kernel_rfl))
  (case w0g=>(constructor <;> first|k_is|kernel_rfl))
  (case w09=>(constructor <;> first|k_is|kernel_rfl))
  (case w06=>(constructor <;> first|k_is|kernel_rfl))
  (case w0i=>(constructor <;> first|k_is|kernel_rfl))
  (case w0l=>k_is)
  (case w08=>k_is)
  (case w0j=>k_is)
  (case w18=>k_is)
  (case w07=>k_is)
  (case w02=>k_is)
  (case w1h=>k_is)
  (case w23=>k_is)
  (case w1a=>k_is)
  (case w2l=>k_is)
  (case w1v=>k_is)
  (case w1e=>k_is)
  (case w1t=>k_is)
  (case w16=>k_is)
  (case w1q=>k_is)
  (case w21=>k_is)
  (case y_all=>k_is)
  (case y_any=>k_is)
  (case y_bool=>k_is)
  (case y_dict=>k_is)
  (case y_enumerate=>k_is)
  (case y_int=>k_is)
  (case y_isinstance=>k_is)
  (case y_len=>k_is)
  (case y_list=>k_is)
  (case y_max=>k_is)
  (case y_min=>k_is)
  (case y_range=>k_is)
  (case y_reversed=>k_is)
  (case y_set=>k_is)
  (case y_sorted=>k_is)
  (case y_str=>k_is)
  (case y_sum=>k_is)
  (case y_zip=>k_is)