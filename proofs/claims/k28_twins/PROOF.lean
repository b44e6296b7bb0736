import PyProof.Rows.All
import Wide.All
import OpenK.AllK
import Wide.FinOn
import Lean
import PyProof.EqAt
import PyProof.EqKinds
import PyProof.TupleCall
import PyProof.NeKinds
import KE.KEqDict
import KE.KRevIter
import PyProof.FactsAll.range_2
import PyProof.ZipIter
import PyProof.FitsReplace
import PyProof.MeetsStr
import PyProof.ListRange
import PyProof.CollectWalk
import PyProof.DictItems
import PyProof.DictItemsLoops
import PyProof.DictValues
import PyProof.DictWalks
import PyProof.StrCalls
import KE.KIsAll
import PyProof.Rows.Range3
import PyProof.Rows.MinMaxN
import PyProof.SumWalkG
import PyProof.MeetsStr2
import PyProof.StrBlockL
import PyProof.Rows.StrNews2
import PyProof.StrLawsOccR
import KE.KIntText
import PyProof.StrLawsIn
import PyProof.Rows.SeqMore2
import PyProof.ListOps
import PyProof.Rows.SeqMore
import PySem.Challenge.RW_quotatree_k28_twins
open PySem.W (Frag instObj lookIn plainGet hasDictIn findIn isFn emptyDict specialIn keepIn mroIn kitOne fnOf codeIn excIn nsIn kitCls)
open List renaming getElem?_eq_getElem->zA,length_map->zB,mem_cons_self->zC,getElem?_map->zD,mem_cons_of_mem->zF,map_append->zG,mem_singleton->zH,mem_append_right->zI,mem_map->zJ,mem_of_getElem?->zK,length_append->zL,map_cons->zM,mem_append->zN,size_toArray->zO,getElem_mem->zQ,length_cons->zR,length_take->zS,take_add_one->zT,filter_cons->zU,mem_cons->zV,length_filter_le->zW,nodup_cons->zX,mem_filter->zY,take_length->zZ,append_nil->yA,filter_append->yB,append_assoc->yC,mem_iff_getElem->yD,length_singleton->yE,mem_append_left->yF,length_range->yG,drop_eq_getElem_cons->yH,pairwise_iff_getElem->yI,getElem?_append_right->yJ,getElem?_take_of_lt->yK,all_eq_true->yM,filter_eq_self->yN,map_congr_left->yO,foldl_cons->yP,map_map->yQ,mem_flatten->yR,filter_congr->yS,filter_nil->yT,find?_cons->yU,any_eq_true->yV,length_nil->yW,length_zip->yX,nodup_nil->yY,sum_cons->yZ,length_set->xB,mem_range->xC,map_nil->xD,all_cons->xE,any_cons->xF,map_set->xG
set_option compiler.extract_closed false
set_option Elab.async false
set_option linter.all false
set_option maxRecDepth 100000
namespace L2
open PySem PySem.Spec PyProof.Rows
abbrev Key:=Sum Int Str
def qgt:Key->Value->Bool
 | .inl k,v=>Value.isInt k v
 | .inr x,v=>Value.isStrOf x v
def keyH (w:World):Key->Int
 | .inl k=>hashInt k
 | .inr x=>hashStr w x
theorem qb0:∀{k:Key} {v:Value},qgt k v=true->(∃i t,k=Sum.inl i/\v=Value.int i t)\/(∃x t,k=Sum.inr x/\v=Value.str x t)
 | .inl i,v,h=>by
  obtain⟨t,e⟩:=Value.isInt_shape (k:=i) (v:=v) h
  exact .inl ⟨i,t,rfl,e⟩
 | .inr x,v,h=>by
  obtain⟨t,e⟩:=Value.isStrOf_shape (x:=x) (v:=v) h
  exact .inr ⟨x,t,rfl,e⟩
theorem keyIs_int (i:Int) (t:Tok):qgt (.inl i) (.int i t)=true:=by simp [qgt,Value.isInt]
theorem keyIs_str (x:Str) (t:Tok):qgt (.inr x) (.str x t)=true:=by simp [qgt,Value.isStrOf]
theorem key_ll (a b:Int):decide ((Sum.inl a:Key)=Sum.inl b)=(a==b):=by
 by_cases e:a=b
 .subst e;simp
 .have h:¬(Sum.inl a:Key)=Sum.inl b:=fun q=>e (Sum.inl.inj q)
  rw [decide_eq_false h]
  exact(beq_eq_false_iff_ne.mpr e).symm
theorem key_rr (a b:Str):decide ((Sum.inr a:Key)=Sum.inr b)=decide (a=b):=by
 by_cases e:a=b
 .subst e;simp
 .have h:¬(Sum.inr a:Key)=Sum.inr b:=fun q=>e (Sum.inr.inj q)
  rw [decide_eq_false h,decide_eq_false e]
theorem key_lr (a:Int) (b:Str):decide ((Sum.inl a:Key)=Sum.inr b)=false:=decide_eq_false (fun q=>nomatch q)
theorem key_rl (a:Str) (b:Int):decide ((Sum.inr a:Key)=Sum.inl b)=false:=decide_eq_false (fun q=>nomatch q)
def qb4 (prog:Program) (w:World):PySem.KeyKind prog w Key where
 is:=qgt
 hash:=keyH w
 inj:=fun v a b ha hb=>by
  rcases qb0 ha with ⟨i,t,rfl,rfl⟩ |⟨x,t,rfl,rfl⟩
  .rcases qb0 hb with ⟨j,u,rfl,e⟩ |⟨y,u,rfl,e⟩
   .injection e with e1 _;rw [e1]
   .exact nomatch e
  .rcases qb0 hb with ⟨j,u,rfl,e⟩ |⟨y,u,rfl,e⟩
   .exact nomatch e
   .injection e with e1 _;rw [e1]
 byValue:=fun k v h=>by
  rcases qb0 h with ⟨i,t,rfl,rfl⟩ |⟨x,t,rfl,rfl⟩ <;> rfl
 pyHash:=fun hv h=>by
  rcases qb0 hv with ⟨i,t,rfl,rfl⟩ |⟨x,t,rfl,rfl⟩
  .exact wpAny_pyHash_int h
  .exact wpAny_pyHash_str h
 eqBool:=fun hu hv h=>by
  rcases qb0 hu with ⟨i,t,rfl,rfl⟩ |⟨x,t,rfl,rfl⟩
  .rcases qb0 hv with ⟨j,u,rfl,rfl⟩ |⟨y,u,rfl,rfl⟩
   .rw [key_ll] at h;exact wpAny_eqBool_int h
   .rw [key_lr] at h;exact SeqAt.EqAt.int_str i t y u _ _ _ _ h
  .rcases qb0 hv with ⟨j,u,rfl,rfl⟩ |⟨y,u,rfl,rfl⟩
   .rw [key_rl] at h;exact SeqAt.EqAt.str_int x t j u _ _ _ _ h
   .rw [key_rr] at h;exact wpAny_eqBool_str h
 «strs»:=fun k x t v h=>by
  rcases qb0 h with ⟨i,u,rfl,e⟩ |⟨y,u,rfl,e⟩
  .exact nomatch e
  .injection e with e1 _
   subst e1
   cases v <;> rfl
theorem mixKind_int (prog:Program) (w:World) (i:Int) (t:Tok):(qb4 prog w).is (.inl i) (.int i t)=true:=keyIs_int i t
theorem mixKind_str (prog:Program) (w:World) (x:Str) (t:Tok):(qb4 prog w).is (.inr x) (.str x t)=true:=keyIs_str x t
inductive V where
 |non|bl (b:Bool) |int (i:Int) |str (x:Str) |byt (b:Array UInt8) |flt (b:UInt64) |ref (a:Addr) |ty (n:String)
 deriving DecidableEq
def qba:V->Value->Prop
 | .non,u=>u=Value.none
 | .bl b,u=>u=Value.bool b
 | .int i,u=>∃t,u=Value.int i t
 | .str x,u=>∃t,u=Value.str x t
 | .byt b,u=>∃t,u=Value.bytes b t
 | .flt b,u=>∃t,u=Value.float b t
 | .ref a,u=>u=Value.ref a
 | .ty n,u=>u=Value.type n
abbrev qb7:List V->List Value->Prop:=Paired qba
theorem qb7.length {xs:List V} {us:List Value} (r:qb7 xs us):xs.length=us.length:=Paired.length r
theorem qb7.get:∀{xs:List V} {us:List Value} {i:Nat} {x:V},qb7 xs us->xs[i]?=some x->∃u,us[i]?=some u/\qba x u
 |_,_,_,_,.nil,e=>by simp at e
 |_,_,0,_,.cons r _,e=>by simp at e;subst e;exact⟨_,rfl,r⟩
 |_,_,i+1,x,.cons _ t,e=>by
  obtain⟨u,h1,h2⟩:=qb7.get (i:=i) (x:=x) t (by simpa using e)
  exact⟨u,by simpa using h1,h2⟩
theorem qb7.set {x:V} {u:Value} (r:qba x u):∀{xs:List V} {us:List Value} (i:Nat),qb7 xs us->qb7 (xs.set i x) (us.set i u)
 |_,_,_,.nil=> .nil
 |_,_,0,.cons _ t=> .cons r t
 |_,_,i+1,.cons q t=> .cons q (qb7.set r i t)
theorem qb7.append:∀{xs ys:List V} {us ws:List Value},qb7 xs us->qb7 ys ws->qb7 (xs++ys) (us++ws)
 |_,_,_,_,.nil,s=>s
 |_,_,_,_,.cons r t,s=> .cons r (qb7.append t s)
theorem qb7.take:∀{xs:List V} {us:List Value} (n:Nat),qb7 xs us->qb7 (xs.take n) (us.take n)
 |_,_,0,_=> .nil
 |_,_,_+1,.nil=> .nil
 |_,_,n+1,.cons r t=> .cons r (qb7.take n t)
theorem qb7.drop:∀{xs:List V} {us:List Value} (n:Nat),qb7 xs us->qb7 (xs.drop n) (us.drop n)
 |_,_,0,r=>r
 |_,_,_+1,.nil=> .nil
 |_,_,n+1,.cons _ t=>qb7.drop n t
def qg7:Option V->Option Value->Prop
 |some v,some u=>qba v u
 |none,none=>True
 |_,_=>False
def KV {κ:Type}:List (κ × V)->List (κ × Value)->Prop:=Paired fun(p:κ × V) (q:κ × Value)=>p.1=q.1/\qba p.2 q.2
def kV:Key->V
 | .inl i=> .int i
 | .inr x=> .str x
inductive HO where
 |lst (xs:List V)
 |tup (xs:List V)
 |dK (kvs:List (Key × V)) |dT (kvs:List (List Key × V))
 |set (S:Int->Bool) (n:Nat)
 |ins (C dx:Addr) (fs:List (Str × V))
 |own (x:Addr)
 |xd (fs:List (Str × V))
 |met (f x:Addr)
 |rng (lo hi:Int)
 |frz (o:Obj) (u:HO)
 |tbl (ps:Array Value)
 |ext (φ:Heap->Prop)
abbrev Hp:=Addr->Option HO
def upd (H:Hp) (a:Addr) (o:HO):Hp:=fun b=>if b=a then some o else H b
theorem qa1 {H:Hp} {a:Addr} {o:HO}:upd H a o a=some o:=by unfold upd;rw [if_pos rfl]
theorem qa6 {H:Hp} {a b:Addr} {o:HO} (h:b≠a):upd H a o b=H b:=by unfold upd;rw [if_neg h]
theorem qbe {H:Hp} {a:Addr} {o u:HO}:upd (upd H a o) a u=upd H a u:=by
 funext b;unfold upd;split <;> rfl
theorem ne_of {H:Hp} {a b:Addr} {o u:HO} (h:H a=some o) (h':H b=some u) (d:o≠u):a≠b:=by
 intro e;subst e;rw [h] at h';exact d (Option.some.inj h')
theorem qa2 {H:Hp} {a b:Addr} {o:HO} (h:H a=some o) (h':H b=none):a≠b:=by
 intro e;subst e;rw [h] at h';cases h'
section
variable (P: Program) (w: World)
def qbp (H:Hp) (h:Heap) (a:Addr):HO->Prop
 | .lst xs=>xs.length<=sizeLine/\∃(its:List Value) (n:Nat),qb7 xs its/\h.get? a=some {cls:=.type "list",data:=.seq its.toArray n}
 | .tup xs=>xs.length<=sizeLine/\∃its:List Value,qb7 xs its/\IsTup h a its.toArray
 | .dK kvs=>kvs.length<=sizeLine/\(a==sysModules)=false/\∃vs,KV kvs vs/\h.DictOf (qb4 P w) a vs
 | .dT kvs=>kvs.length<=sizeLine/\(a==sysModules)=false/\∃xs:List (List Key × Addr × Value),
   Paired (fun(p:List Key × V) (q:List Key × Addr × Value)=>p.1=q.1/\H q.2.1=some (.tup (p.1.map kV))/\qba p.2 q.2.2) kvs xs/\
   ∃o es ep,h.get? a=some o/\o.ExactDict/\o.data=.dict es ep/\es.toList=xs.map (entryOfKey (tupleKind (qb4 P w)))/\(xs.map (·.1)).Nodup
 | .set S n=>h.SetOf (intKind P w) a S n
 | .ins C dx fs=>H dx=some (.own a)/\fs.length<=1000/\dx≠a/\h.get? a=some (instObj C dx)/\
   ∃mA,h.Ns1 dx mA/\(∀f,qg7 (fs.lookup f) (mA f))/\PySem.Within mA (fs.map (·.1))
 | .own _=>∃o,h.get? a=some o
 | .xd fs=>∃mA,h.Ns1 a mA/\∀f,qg7 (fs.lookup f) (mA f)
 | .rng lo hi=>∃t u v,h.get? a=some {cls:=.type "range",data:=.fields #[.int lo t,.int hi u,.int 1 v]}
 | .frz o u=>h.get? a=some o/\qbp H h a u
 | .tbl ps=>h.get? a=some {cls:=.none,data:=.fields ps}
 | .met f x=>h.get? a=some (PySem.W.methodObj (.ref f) (.ref x))
 | .ext φ=>φ h/\(∃o,h.get? a=some o)/\∀h1 h2:Heap,φ h1->(∀o,h1.get? a=some o->h2.get? a=some o)->φ h2
def HOk (H:Hp) (h:Heap):Prop:=∀a o,H a=some o->qbp P w H h a o
end
section
variable {P: Program} {w: World} {H H': Hp} {h h': Heap} {a: Addr} {o: HO}
theorem qbp.lt (x:qbp P w H h a o):a < h.objs.size:=by
 cases o with
 |lst xs=>obtain⟨_,_,_,_,e⟩:=x;exact Heap.lt_size e
 |tup xs=>obtain⟨_,_,_,p⟩:=x;exact p.lt
 |dK kvs=>obtain⟨_,_,_,_,o,_,_,e,_⟩:=x;exact Heap.lt_size e
 |dT kvs=>obtain⟨_,_,_,_,o,_,_,e,_⟩:=x;exact Heap.lt_size e
 |set S n=>obtain⟨o,_,_,_,e,_⟩:=x;exact Heap.lt_size e
 |ins C dx fs=>obtain⟨_,_,_,e,_⟩:=x;exact Heap.lt_size e
 |own y=>obtain⟨_,e⟩:=x;exact Heap.lt_size e
 |xd fs=>obtain⟨_,⟨_,_,_,e,_⟩,_⟩:=x;exact Heap.lt_size e
 |rng lo hi=>obtain⟨_,_,_,e⟩:=x;exact Heap.lt_size e
 |frz ob u=>obtain⟨e,_⟩:=x;exact Heap.lt_size e
 |tbl ps=>exact Heap.lt_size (show h.get? a=some _ from x)
 |met f y=>exact Heap.lt_size (show h.get? a=some _ from x)
 |ext φ=>obtain⟨_,⟨_,e⟩,_⟩:=x;exact Heap.lt_size e
theorem Paired.mapP {α β:Type} {F G:α->β->Prop}:∀{l₁:List α} {l₂:List β},Paired F l₁ l₂->(∀a b,F a b->G a b)->Paired G l₁ l₂
 |_,_,.nil,_=> .nil
 |_,_,.cons r t,f=> .cons (f _ _ r) (Paired.mapP t f)
theorem qbp.stay (x:qbp P w H h a o) (k:∀b u,(b=a\/H b=some (.own a))->h.get? b=some u->h'.get? b=some u)
  (ho:∀b,H b=some (.own a)->H' b=some (.own a)) (ht:∀b xs,H b=some (.tup xs)->H' b=some (.tup xs)):qbp P w H' h' a o:=by
 induction o with
 |lst xs=>obtain⟨z,its,n,r,e⟩:=x;exact⟨z,its,n,r,k _ _ (.inl rfl) e⟩
 |tup xs=>obtain⟨z,its,r,ob,e,c⟩:=x;exact⟨z,its,r,ob,k _ _ (.inl rfl) e,c⟩
 |dK kvs=>obtain⟨z,y,vs,r,ob,es,ep,e,c⟩:=x;exact⟨z,y,vs,r,ob,es,ep,k _ _ (.inl rfl) e,c⟩
 |dT kvs=>
  obtain⟨z,y,xs,r,ob,es,ep,e,c⟩:=x
  exact⟨z,y,xs,Paired.mapP r fun p q z=>⟨z.1,ht _ _ z.2.1,z.2.2⟩,ob,es,ep,k _ _ (.inl rfl) e,c⟩
 |set S n=>obtain⟨ob,es,ep,t,e,c⟩:=x;exact⟨ob,es,ep,t,k _ _ (.inl rfl) e,c⟩
 |ins C dx fs=>
  obtain⟨d,z,ne,e,mA,⟨od,es,ep,e2,c⟩,r⟩:=x
  exact⟨ho _ d,z,ne,k _ _ (.inl rfl) e,mA,⟨od,es,ep,k _ _ (.inr d) e2,c⟩,r⟩
 |own y=>obtain⟨ob,e⟩:=x;exact⟨ob,k _ _ (.inl rfl) e⟩
 |xd fs=>obtain⟨mA,⟨od,es,ep,e,c⟩,r⟩:=x;exact⟨mA,⟨od,es,ep,k _ _ (.inl rfl) e,c⟩,r⟩
 |rng lo hi=>obtain⟨t,u,v,e⟩:=x;exact⟨t,u,v,k _ _ (.inl rfl) e⟩
 |frz ob u ih=>obtain⟨e,q⟩:=x;exact⟨k _ _ (.inl rfl) e,ih q⟩
 |tbl ps=>
  have e:h.get? a=some {cls:=.none,data:=.fields ps}:=x
  show h'.get? a=some {cls:=.none,data:=.fields ps}
  exact k a _ (.inl rfl) e
 |met f y=>
  have e:h.get? a=some (PySem.W.methodObj (.ref f) (.ref y)):=x
  show h'.get? a=some (PySem.W.methodObj (.ref f) (.ref y))
  exact k a _ (.inl rfl) e
 |ext φ=>obtain⟨p,⟨o,e⟩,st⟩:=x;exact⟨st _ _ p fun o q=>k _ _ (.inl rfl) q,⟨o,k _ _ (.inl rfl) e⟩,st⟩
theorem HOk.lt (x:HOk P w H h) (e:H a=some o):a < h.objs.size:=(x a o e).lt
theorem HOk.fresh (x:HOk P w H h) (e:h.objs.size<=a):H a=none:=by
 cases q:H a with
 |none=>rfl
 |some u=>exact absurd (Nat.lt_of_lt_of_le (x.lt q) e) (Nat.lt_irrefl _)
theorem HOk.kept (x:HOk P w H h) (k:∀b u,h.get? b=some u->h'.get? b=some u):HOk P w H h':=fun a o e=>
 (x a o e).stay (fun b u _ q=>k b u q) (fun _ q=>q) fun _ _ q=>q
theorem HOk.laid (x:HOk P w H h) (k:∀b u,h.get? b=some u->h'.get? b=some u) (hp:h.objs.size<=a) (new:qbp P w (upd H a o) h' a o):HOk P w (upd H a o) h':=fun b u e=>by
 have hn:=x.fresh hp
 by_cases hb:b=a
 .subst hb;rw [qa1] at e;cases e;exact new
 .rw [qa6 hb] at e
  exact(x b u e).stay (fun c v _ q=>k c v q) (fun c q=>by rw [qa6 (qa2 q hn)];exact q) fun c xs q=>by rw [qa6 (qa2 q hn)];exact q
end
def Rd (H:Hp) (a:Addr) (u:HO):Prop:=H a=some u\/∃o,H a=some (.frz o u)
theorem Rd.of {H:Hp} {a:Addr} {u:HO} (h:H a=some u):Rd H a u:=.inl h
theorem Rd.ok {P:Program} {w:World} {H:Hp} {h:Heap} {a:Addr} {u:HO} (r:Rd H a u) (x:HOk P w H h):qbp P w H h a u:=by
 rcases r with r|⟨o,r⟩
 .exact x a u r
 .obtain⟨_,q⟩:=x a _ r
  exact q
def Mut:Option HO->Prop
 |some (.lst _)=>True
 |some (.dK _)=>True
 |some (.dT _)=>True
 |some (.set _ _)=>True
 |some (.ins _ _ _)=>True
 |some (.ext _)=>True
 |_=>False
section
variable {P: Program} {w: World} {H: Hp} {h h': Heap} {x e: Addr} {o': HO}
theorem HOk.write (ok:HOk P w H h) (mu:Mut (H x)) (he:e=x\/H e=some (.own x)) (k:∀b u,b≠e->h.get? b=some u->h'.get? b=some u) (heo:∃u,h'.get? e=some u)
  (new:qbp P w (upd H x o') h' x o'):HOk P w (upd H x o') h':=fun b u q=>by
 have nown:∀c y,H c=some (.own y)->c≠x:=fun c y r z=>by subst z;rw [r] at mu;exact mu
 have ntup:∀c xs,H c=some (.tup xs)->c≠x:=fun c xs r z=>by subst z;rw [r] at mu;exact mu
 by_cases hb:b=x
 .subst hb;rw [qa1] at q;cases q;exact new
 .rw [qa6 hb] at q
  by_cases hbe:b=e
  .have q':H b=some (.own x):=by
    rcases he with z|z
    .exact absurd (hbe.trans z) hb
    .rw [hbe];exact z
   rw [q] at q';cases q'
   obtain⟨v,hv⟩:=heo
   exact⟨v,by rw [hbe];exact hv⟩
  .refine(ok b u q).stay (fun c v hc r=>k c v ?_ r) (fun c r=>by rw [qa6 (nown c b r)];exact r) fun c xs r=>by rw [qa6 (ntup c xs r)];exact r
   rcases hc with rfl|hc
   .exact hbe
   .rintro rfl
    rcases he with z|z
    .exact nown c b hc z
    .rw [hc] at z;cases z;exact hb rfl
end
structure Un (fs ex:List Addr) (H H':Hp) (h h':Heap):Prop where
 keep:∀b o,h.get? b=some o->H b=none->b∉fs->b∉ex->h'.get? b=some o
 slot:∀b o,h.get? b=some o->H b=none->b∈fs->b∉ex->∃sl,h'.get? b=some {o with slots:=sl}
 free:∀b o,h.get? b=some o->H b=none->b∉ex->H' b=none
 there:∀b o,h.get? b=some o->b∉ex->∃o',h'.get? b=some o'
 tups:∀b xs,H b=some (.tup xs)->H' b=some (.tup xs)
 frzs:∀b o u,H b=some (.frz o u)->H' b=some (.frz o u)
 tbls:∀b ps,H b=some (.tbl ps)->∃more,H' b=some (.tbl (ps++more))
section
variable {fs ex: List Addr} {H H1: Hp} {h h1 h': Heap} {a x e: Addr} {o: HO}
theorem Un.any (u:Un fs ex H H1 h h1) {b:Addr} {ob:Obj} (q:h.get? b=some ob) (n:H b=none) (hx:b∉ex):∃sl,h1.get? b=some {ob with slots:=sl}:=by
 by_cases hb:b∈fs
 .exact u.slot b ob q n hb hx
 .exact⟨ob.slots,u.keep b ob q n hb hx⟩
theorem Un.kept (k:∀b u,h.get? b=some u->h'.get? b=some u):Un fs ex H H h h':=
 ⟨fun b ob q _ _ _=>k b ob q,fun b ob q _ _ _=>⟨ob.slots,k b ob q⟩,fun _ _ _ n _=>n,fun b ob q _=>⟨ob,k b ob q⟩,fun _ _ q=>q,fun _ _ _ q=>q,fun _ ps q=>⟨#[],by rw [q];simp⟩⟩
theorem Un.refl:Un fs ex H H h h:=Un.kept fun _ _ q=>q
theorem Un.laid (k:∀b u,h.get? b=some u->h'.get? b=some u) (hp:h.objs.size<=a) (hn:H a=none):Un fs ex H (upd H a o) h h' where
 keep:=fun b u q _ _ _=>k b u q
 slot:=fun b u q _ _ _=>⟨u.slots,k b u q⟩
 free:=fun b u q n _=>by rw [qa6 (Nat.ne_of_lt (Nat.lt_of_lt_of_le (Heap.lt_size q) hp))];exact n
 there:=fun b u q _=>⟨u,k b u q⟩
 tups:=fun b xs q=>by rw [qa6 (qa2 q hn)];exact q
 frzs:=fun b u xs q=>by rw [qa6 (qa2 q hn)];exact q
 tbls:=fun b ps q=>⟨#[],by rw [qa6 (qa2 q hn),q];simp⟩
theorem Un.write (mu:Mut (H x)) (he:e=x\/H e=some (.own x)) (k:∀b u,b≠e->h.get? b=some u->h'.get? b=some u) (heo:∃u,h'.get? e=some u):Un fs ex H (upd H x o) h h':=by
 have hx:∀b,H b=none->b≠x:=fun b n z=>by subst z;rw [n] at mu;exact mu
 have hb:∀b,H b=none->b≠e:=fun b n z=>by
  subst z
  rcases he with r|r
  .exact hx b n r
  .rw [n] at r;cases r
 have hm:∀b u,H b=some u->¬Mut (some u)->b≠x:=fun b u q nm z=>by subst z;rw [q] at mu;exact nm mu
 refine⟨fun b u q n _ _=>k b u (hb b n) q,fun b u q n _ _=>⟨u.slots,k b u (hb b n) q⟩,fun b u q n _=>by rw [qa6 (hx b n)];exact n,fun b u q _=>?_,
  fun b xs q=>by rw [qa6 (hm b _ q fun z=>z)];exact q,fun b u xs q=>by rw [qa6 (hm b _ q fun z=>z)];exact q,fun b ps q=>⟨#[],by rw [qa6 (hm b _ q fun z=>z),q];simp⟩⟩
 by_cases hbe:b=e
 .subst hbe;exact heo
 .exact⟨u,k b u hbe q⟩
end
def trk (h:Heap) (H:Hp):List Addr:=(List.range h.objs.size).filter fun a=>(H a).isSome
def hidT (h:Heap) (H:Hp):Heap:=PySem.W.hideAll h (trk h H)
theorem hidT_size (h:Heap) (H:Hp):(hidT h H).objs.size=h.objs.size:=PySem.W.hideAll_size _ _
theorem hidT_get {h:Heap} {H:Hp} {b:Addr} {o:Obj} (e:h.get? b=some o) (n:H b=none):(hidT h H).get? b=some o:=
 PySem.W.hideAll_get _ e fun hm=>by
  have q:(H b).isSome=true:=(zY.mp hm).2
  rw [n] at q;simp at q
theorem of_hidT {h:Heap} {H:Hp} {b:Addr} {o:Obj} (e:(hidT h H).get? b=some o):h.get? b=some o/\H b=none:=by
 have e':h.get? b=some o:=PySem.W.of_hideAll (trk h H) e
 refine⟨e',?_⟩
 cases q:H b with
 |none=>rfl
 |some x=>
  have hm:b∈trk h H:=zY.mpr ⟨xC.mpr (Heap.lt_size e'),by simp [q]⟩
  have z:(hidT h H).get? b=none:=PySem.W.hideAll_none (trk h H) hm
  rw [z] at e;cases e
def allNews (g h:Heap) (L:Addr):List (Addr × Obj):=(List.range h.objs.size).filterMap fun a=>if a=L\/(g.get? a).isSome=true then none else (h.get? a).map fun o=>(a,o)
def rest (g h:Heap) (L d:Addr):List (Addr × Obj):=(allNews g h L).filter fun p=>decide (p.1≠d)
structure Mod (K:Frag) (mg:Str->Option Value) (base:Heap):Prop where
 kin:K.In base
 glob:base.Ns mainGlobals mg
 blt:∃mb,base.Ns builtinsNs mb/\∀x:Str,x≠"__name__"->mb x=bootBuiltins x
 nolimit:base.NoLimit
structure Cx where
 prog:Program
 w:World
 K:Frag
 mg:Str->Option Value
 base:Heap
 A:Around
 N:List Str
 s₀:Shared
 H₀:Hp
 env:Env
 outer:List Env
 stack:List Env
 ex:List Addr
 fn:Str->Bool
 calm:Bool
 pn:List (Addr × Obj)
 xe:Value->Shared->Prop
def frs (l:List Env):List Addr:=l.filterMap (·.frame)
abbrev Cx.fs (X:Cx):List Addr:=frs X.outer
def Vis (sc:Scope) (x:Str):Prop:=sc.names.lookup x=some .local\/sc.names.lookup x=some .cell\/sc.names.lookup x=some .free
def Loc (sc:Scope) (x:Str):Prop:=sc.names.lookup x=some .local\/sc.names.lookup x=some .cell
def Look (env:Env) (h:Heap) (m:Str->Option Value) (x:Str) (u:Value):Prop:=
 (env.kindOf x=some .local/\m x=some u)\/((env.kindOf x=some .cell\/env.kindOf x=some .free)/\∃c,env.cells.lookup x=some c/\h.IsCell c (some u))
structure Cx.Ok (X:Cx):Prop where
 mod:Mod X.K X.mg X.base
 kind:X.env.scope.kind=.function
 glob:X.env.globals=mainGlobals
 blt:X.env.builtins=builtinsNs
 above:X.s₀.heap.objs.size<=X.env.locals
 inj:∀x y c,X.env.cells.lookup x=some c->X.env.cells.lookup y=some c->x=y
 has:∀x,(X.env.kindOf x=some .cell\/X.env.kindOf x=some .free)->∃c,X.env.cells.lookup x=some c
 cab:∀x c,X.fn x=true->X.env.cells.lookup x=some c->X.s₀.heap.objs.size<=c
 hd:X.calm=true->X.A.handled=none
 frames:X.A.frames=some X.stack
 stk:X.stack=X.outer\/(X.stack=X.env :: X.outer/\X.env.frame=some X.env.locals)
 exf:∀b∈X.ex,b≠X.env.locals/\∀x c,X.env.cells.lookup x=some c->c≠b
 bs:∀b o,X.base.get? b=some o->X.s₀.heap.get? b=some o/\X.H₀ b=none
 bsz:X.base.objs.size<=X.s₀.heap.objs.size
 noex:∀b o,X.base.get? b=some o->b∉X.ex
 exfs:∀b∈X.ex,b∉X.fs
 funs:X.s₀.heap.FunFrames X.base X.outer
 frf:∀b∈X.fs,X.H₀ b=none
structure Inv (X:Cx) (pins:List (Addr × Obj)) (σ:List (Option V)) (H:Hp) (s:Shared):Prop where
 ok:X.Ok
 os:s.os=X.s₀.os
 bare:AllBare s.gens
 base:Un X.fs X.ex X.H₀ H X.s₀.heap s.heap
 loc:∃m,s.heap.Ns X.env.locals m/\∀(i:Nat) (x:Str) (v:V),X.N[i]?=some x->σ[i]?=some (some v)->Vis X.env.scope x->∃u,qba v u/\Look X.env s.heap m x u
 cell:∀x c,X.env.cells.lookup x=some c->∃v,s.heap.IsCell c v
 free:H X.env.locals=none
 freeC:∀x c,X.env.cells.lookup x=some c->H c=none
 pin:∀p∈X.pn++pins,s.heap.get? p.1=some p.2/\H p.1=none/\p.1≠X.env.locals/\p.1∉X.fs/\∀v,p.2.data≠ .cell v
 hok:HOk X.prog X.w H s.heap
 len:σ.length=X.N.length
section
variable {X: Cx} {pins: List (Addr × Obj)} {σ: List (Option V)} {H H': Hp} {s: Shared} {h': Heap}
theorem Cx.Ok.nofr (ok:X.Ok) {b:Addr} {o:Obj} (e:X.base.get? b=some o):b∉X.fs:=fun hb=>by
 have:=(ok.funs.mem hb).1
 rw [e] at this;cases this
theorem Inv.bs (I:Inv X pins σ H s):∀b o,X.base.get? b=some o->s.heap.get? b=some o/\H b=none:=fun b o e=>
 ⟨I.base.keep b o (I.ok.bs b o e).1 (I.ok.bs b o e).2 (I.ok.nofr e) (I.ok.noex b o e),I.base.free b o (I.ok.bs b o e).1 (I.ok.bs b o e).2 (I.ok.noex b o e)⟩
theorem Inv.bk (I:Inv X pins σ H s):∀b o,X.base.get? b=some o->s.heap.get? b=some o:=fun b o e=>(I.bs b o e).1
theorem Inv.mod (I:Inv X pins σ H s):Mod X.K X.mg X.base:=I.ok.mod
theorem Inv.kIn (I:Inv X pins σ H s):X.K.In s.heap:=I.ok.mod.kin.keeps I.bk
theorem Inv.lt (I:Inv X pins σ H s):X.env.locals < s.heap.objs.size:=let ⟨_,hn,_⟩:=I.loc;hn.lt
theorem Inv.sz (I:Inv X pins σ H s):X.s₀.heap.objs.size<=s.heap.objs.size:=Nat.le_trans I.ok.above (Nat.le_of_lt I.lt)
theorem Inv.nofs (I:Inv X pins σ H s) {a:Addr} (h:s.heap.objs.size<=a):a∉X.fs:=fun hb=>by
 obtain⟨_,o,ho,_⟩:=I.ok.funs.mem hb
 exact absurd (Nat.lt_of_lt_of_le (Heap.lt_size ho) (Nat.le_trans I.sz h)) (Nat.lt_irrefl _)
theorem Inv.cne (I:Inv X pins σ H s):∀x c,X.env.cells.lookup x=some c->c≠X.env.locals:=fun x c e z=>by
 obtain⟨v,o,ho,hd⟩:=I.cell x c e
 obtain⟨m,⟨o',es,ep,ho',hd',_⟩,_⟩:=I.loc
 rw [z,ho'] at ho;cases ho;rw [hd'] at hd;cases hd
theorem Inv.funs (I:Inv X pins σ H s):s.heap.FunFrames X.base X.outer:=by
 have all:∀(l:List Env),(∀b∈frs l,b∈X.fs)->X.s₀.heap.FunFrames X.base l->s.heap.FunFrames X.base l:=by
  intro l
  induction l with
  |nil=>intro _ _;trivial
  |cons env r ih=>
   intro hs hl
   obtain⟨hk,⟨L,o,hf,hn,ho,hd⟩,hr⟩:=hl
   have hL:L∈X.fs:=hs L (by unfold frs;rw [List.filterMap_cons,hf];exact zC)
   obtain⟨sl,e⟩:=I.base.slot L o ho (I.ok.frf L hL) hL fun z=>I.ok.exfs L z hL
   exact⟨hk,⟨L,_,hf,hn,e,hd⟩,ih (fun b hb=>hs b (by unfold frs;rw [List.filterMap_cons,hf];exact zF _ hb)) hr⟩
 exact all X.outer (fun _ hb=>hb) I.ok.funs
theorem Inv.stack (I:Inv X pins σ H s):s.heap.FunFrames X.base X.stack:=by
 rcases I.ok.stk with e|⟨e,hf⟩
 .rw [e];exact I.funs
 .rw [e]
  obtain⟨m,hn,_⟩:=I.loc
  refine .cons (by rw [I.ok.kind];decide) hf hn ?_ I.funs
  exact Heap.get?_none_of_le (Nat.le_trans I.ok.bsz I.ok.above)
theorem Inv.stkSub (I:Inv X pins σ H s):∀b∈frs X.stack,b∈X.env.locals :: X.fs:=fun b hb=>by
 rcases I.ok.stk with e|⟨e,hf⟩
 .rw [e] at hb;exact zF _ hb
 .rw [e] at hb
  unfold frs at hb
  rw [List.filterMap_cons,hf] at hb
  exact hb
theorem Inv.stkFree (I:Inv X pins σ H s):∀b∈frs X.stack,H b=none:=fun b hb=>by
 rcases zV.mp (I.stkSub b hb) with e|hb
 .rw [e];exact I.free
 .obtain⟨_,o,ho,_⟩:=I.ok.funs.mem hb
  exact I.base.free b o ho (I.ok.frf b hb) fun z=>I.ok.exfs b z hb
theorem Inv.step {g':Array GenState} {t':Nat} {d':Drawn} {ch:List Addr} (I:Inv X pins σ H s)
  (hch:∀b∈ch,(b∈X.ex\/X.s₀.heap.objs.size<=b)/\b≠X.env.locals/\(∀x c,X.env.cells.lookup x=some c->c≠b)/\∀p∈X.pn++pins,p.1≠b)
  (keep:∀b o,b≠X.env.locals->b∉X.fs->b∉ch->s.heap.get? b=some o->H b=none->h'.get? b=some o)
  (slot:∀b o,b≠X.env.locals->b∈X.fs->b∉ch->s.heap.get? b=some o->H b=none->∃sl,h'.get? b=some {o with slots:=sl}) (free:∀b o,b∉ch->s.heap.get? b=some o->H b=none->H' b=none)
  (there:∀b o,b∉ch->s.heap.get? b=some o->∃o',h'.get? b=some o')
  (tups:∀b xs,H b=some (.tup xs)->H' b=some (.tup xs)) (frzs:∀b o u,H b=some (.frz o u)->H' b=some (.frz o u)) (tbls:∀b ps,H b=some (.tbl ps)->∃more,H' b=some (.tbl (ps++more)))
  (ns:∀m,s.heap.Ns X.env.locals m->h'.Ns X.env.locals m) (hok:HOk X.prog X.w H' h') (hg:AllBare g'):
  Inv X pins σ H' {s with heap:=h',gens:=g',drawn:=d',toks:=t'}:=by
 have neL:∀b o,X.s₀.heap.get? b=some o->b≠X.env.locals:=fun b o e=>Nat.ne_of_lt (Nat.lt_of_lt_of_le (Heap.lt_size e) I.ok.above)
 have neC:∀b o,X.s₀.heap.get? b=some o->b∉X.ex->b∉ch:=fun b o e hx hb=>by
  rcases(hch b hb).1 with z|z
  .exact hx z
  .exact absurd (Nat.lt_of_lt_of_le (Heap.lt_size e) z) (Nat.lt_irrefl _)
 have cellK:∀x c,X.env.cells.lookup x=some c->∀v,s.heap.IsCell c v->h'.IsCell c v:=fun x c e v ⟨o,ho,hd⟩=>by
  have nch:c∉ch:=fun z=>(hch c z).2.2.1 x c e rfl
  by_cases hc:c∈X.fs
  .obtain⟨sl,q⟩:=slot c o (I.cne x c e) hc nch ho (I.freeC x c e)
   exact⟨_,q,hd⟩
  .exact⟨o,keep c o (I.cne x c e) hc nch ho (I.freeC x c e),hd⟩
 refine⟨I.ok,I.os,hg,⟨fun b o e n hb hx=>?_,fun b o e n hb hx=>?_,fun b o e n hx=>?_,fun b o e hx=>?_,fun b xs e=>tups b xs (I.base.tups b xs e),fun b o xs e=>frzs b o xs (I.base.frzs b o xs e),fun b ps e=>?_⟩,?_,fun x c e=>?_,?_,fun x c e=>?_,fun p hp=>?_,hok,I.len⟩
 .exact keep b o (neL b o e) hb (neC b o e hx) (I.base.keep b o e n hb hx) (I.base.free b o e n hx)
 .obtain⟨sl,e1⟩:=I.base.slot b o e n hb hx
  obtain⟨sl',e2⟩:=slot b _ (neL b o e) hb (neC b o e hx) e1 (I.base.free b o e n hx)
  exact⟨sl',e2⟩
 .obtain⟨o',e1⟩:=I.base.there b o e hx
  exact free b o' (neC b o e hx) e1 (I.base.free b o e n hx)
 .obtain⟨o',e1⟩:=I.base.there b o e hx
  exact there b o' (neC b o e hx) e1
 .obtain⟨m1,e1⟩:=I.base.tbls b ps e
  obtain⟨m2,e2⟩:=tbls b _ e1
  exact⟨m1++m2,by rw [e2,Array.append_assoc]⟩
 .obtain⟨m,hn,hl⟩:=I.loc
  refine⟨m,ns m hn,fun i x v e1 e2 e3=>?_⟩
  obtain⟨u,r,l⟩:=hl i x v e1 e2 e3
  refine⟨u,r,?_⟩
  rcases l with l|⟨k,c,e,z⟩
  .exact .inl l
  .exact .inr ⟨k,c,e,cellK x c e _ z⟩
 .obtain⟨v,z⟩:=I.cell x c e
  exact⟨v,cellK x c e v z⟩
 .obtain⟨m,⟨o,_,_,ho,_⟩,_⟩:=I.loc
  exact free _ o (fun z=>(hch _ z).2.1 rfl) ho I.free
 .obtain⟨v,o,ho,hd⟩:=I.cell x c e
  exact free c o (fun z=>(hch c z).2.2.1 x c e rfl) ho (I.freeC x c e)
 .obtain⟨e,n,ne,nf,d⟩:=I.pin p hp
  have nch:p.1∉ch:=fun z=>(hch p.1 z).2.2.2 p hp rfl
  exact⟨keep p.1 p.2 ne nf nch e n,free p.1 p.2 nch e n,ne,nf,d⟩
theorem Inv.un {t':Nat} (I:Inv X pins σ H s) (u:Un X.fs [] H H' s.heap h') (hok:HOk X.prog X.w H' h'):Inv X pins σ H' {s with heap:=h',toks:=t'}:=by
 obtain⟨m,⟨o,es,ep,ho,r⟩,_⟩:=id I.loc
 obtain⟨sl,hL⟩:=u.any ho I.free (by simp)
 exact I.step (g':=s.gens) (d':=s.drawn) (ch:=[]) (fun _ z=>nomatch z) (fun b o _ hb _ e n=>u.keep b o e n hb (by simp)) (fun b o _ hb _ e n=>u.slot b o e n hb (by simp)) (fun b o _ e n=>u.free b o e n (by simp)) (fun b o _ e=>u.there b o e (by simp)) u.tups u.frzs u.tbls (fun m' hm=>by
  obtain⟨o',es',ep',ho',r'⟩:=hm
  rw [ho] at ho';cases ho'
  exact⟨_,es',ep',hL,r'⟩) hok I.bare
theorem Inv.call {g':Array GenState} {t':Nat} {d':Drawn} {ch:List Addr} (I:Inv X pins σ H s) (u:Un (frs X.stack) ch H H' s.heap h') (hok:HOk X.prog X.w H' h') (hg:AllBare g')
  (hch:∀b∈ch,(b∈X.ex\/X.s₀.heap.objs.size<=b)/\b≠X.env.locals/\(∀x c,X.env.cells.lookup x=some c->c≠b)/\∀p∈X.pn++pins,p.1≠b):
  Inv X pins σ H' {s with heap:=h',gens:=g',drawn:=d',toks:=t'}:=by
 obtain⟨m,⟨o,es,ep,ho,r⟩,_⟩:=id I.loc
 obtain⟨sl,hL⟩:=u.any ho I.free fun z=>(hch _ z).2.1 rfl
 exact I.step (ch:=ch) hch (fun b o hL hb hc e n=>u.keep b o e n (fun z=>(zV.mp (I.stkSub b z)).elim hL hb) hc) (fun b o _ _ hc e n=>u.any e n hc) (fun b o hc e n=>u.free b o e n hc) (fun b o hc e=>u.there b o e hc) u.tups u.frzs u.tbls (fun m' hm=>by
  obtain⟨o',es',ep',ho',r'⟩:=hm
  rw [ho] at ho';cases ho'
  exact⟨_,es',ep',hL,r'⟩) hok hg
theorem Inv.turned {t':Nat} {it:Addr} (I:Inv X pins σ H s) (k:∀b o,b≠it->s.heap.get? b=some o->h'.get? b=some o) (hn:H it=none) (hL:it≠X.env.locals)
  (h1:it∈X.ex\/X.s₀.heap.objs.size<=it) (h2:∀x c,X.env.cells.lookup x=some c->c≠it) (h3:∀p∈X.pn++pins,p.1≠it):Inv X pins σ H {s with heap:=h',toks:=t'}:=by
 have nit:∀b u,H b=some u->b≠it:=fun b u e z=>by rw [z,hn] at e;cases e
 refine I.step (g':=s.gens) (d':=s.drawn) (ch:=[it]) (fun b hb=>?_) (fun b o _ _ hc e _=>k b o (fun z=>hc (by simp [z])) e) (fun b o _ _ hc e _=>⟨o.slots,k b o (fun z=>hc (by simp [z])) e⟩) (fun _ _ _ _ n=>n)
  (fun b o hc e=>⟨o,k b o (fun z=>hc (by simp [z])) e⟩) (fun _ _ e=>e) (fun _ _ _ e=>e) (fun b ps e=>⟨#[],by rw [e];simp⟩) (fun m hm=>?_) (fun b u e=>?_) I.bare
 .have e:b=it:=by simpa using hb
  subst e
  exact⟨h1,hL,h2,h3⟩
 .obtain⟨o,es,ep,ho,r⟩:=hm
  exact⟨o,es,ep,k _ o (Ne.symm hL) ho,r⟩
 .refine(I.hok b u e).stay (fun c v hc q=>k c v ?_ q) (fun _ q=>q) fun _ _ q=>q
  rcases hc with z|z
  .rw [z];exact nit b u e
  .exact nit c _ z
theorem Inv.tok (I:Inv X pins σ H s) (t:Nat):Inv X pins σ H {s with toks:=t}:=I.un (h':=s.heap) (t':=t) Un.refl I.hok
theorem Inv.kept {t':Nat} (I:Inv X pins σ H s) (k:∀b u,s.heap.get? b=some u->h'.get? b=some u):Inv X pins σ H {s with heap:=h',toks:=t'}:=I.un (Un.kept k) (I.hok.kept k)
theorem Inv.laid {a:Addr} {o:HO} {t':Nat} (I:Inv X pins σ H s) (k:∀b u,s.heap.get? b=some u->h'.get? b=some u) (hp:s.heap.objs.size<=a) (new:qbp X.prog X.w (upd H a o) h' a o):
  Inv X pins σ (upd H a o) {s with heap:=h',toks:=t'}:=I.un (Un.laid k hp (I.hok.fresh hp)) (I.hok.laid k hp new)
theorem Inv.write {x e:Addr} {o:HO} {t':Nat} (I:Inv X pins σ H s) (mu:Mut (H x)) (he:e=x\/H e=some (.own x)) (k:∀b u,b≠e->s.heap.get? b=some u->h'.get? b=some u) (heo:∃u,h'.get? e=some u)
  (new:qbp X.prog X.w (upd H x o) h' x o):Inv X pins σ (upd H x o) {s with heap:=h',toks:=t'}:=I.un (Un.write mu he k heo) (I.hok.write mu he k heo new)
theorem Inv.pins_of {pins':List (Addr × Obj)} (I:Inv X pins σ H s) (h:∀p∈pins',s.heap.get? p.1=some p.2/\H p.1=none/\p.1≠X.env.locals/\p.1∉X.fs/\∀v,p.2.data≠ .cell v):Inv X pins' σ H s:=
 ⟨I.ok,I.os,I.bare,I.base,I.loc,I.cell,I.free,I.freeC,fun p hp=>(zN.mp hp).elim (fun z=>I.pin p (yF _ z)) (h p),I.hok,I.len⟩
theorem nodup_ix {N:List Str} (hN:N.Nodup) {i j:Nat} {x:Str} (a:N[i]?=some x) (b:N[j]?=some x):i=j:=by
 obtain⟨h1,e1⟩:=List.getElem?_eq_some_iff.mp a
 obtain⟨h2,e2⟩:=List.getElem?_eq_some_iff.mp b
 exact(List.getElem_inj hN).mp (e1.trans e2.symm)
theorem store_ok2 {M:Model} {A:Around} {E:Value->Shared->Prop} {i:Nat} {x:Str} {v:V} {u:Value} {Q:Unit->Shared->Prop} (I:Inv X pins σ H s) (hN:X.N.Nodup) (hi:X.N[i]?=some x) (hx:Loc X.env.scope x) (r:qba v u)
  (h:∀s',Inv X pins (σ.set i (some v)) H s'->(∃a,Heap.SameBut a s.heap s'.heap/\(a=X.env.locals\/X.env.cells.lookup x=some a))->Q () s') (hf:X.fn x=true\/X.env.scope.names.lookup x=some .local:=by first|exact .inl rfl|exact .inr rfl|assumption):wpAny M A (storeName X.env x u) Q E s:=by
 obtain⟨m,hn,hl⟩:=id I.loc
 have hcls:(X.env.scope.kind==.class ||(X.env.scope.kind==.module && X.env.locals !=X.env.globals))=false:=by rw [I.ok.kind];rfl
 have hiσ:i < σ.length:=by rw [I.len];exact(List.getElem?_eq_some_iff.mp hi).1
 have cne:=I.cne
 have tracked:∀{a:Addr} {h':Heap},(∃o,s.heap.get? a=some o/\H a=none)->Heap.SameBut a s.heap h'->HOk X.prog X.w H h':=fun {a h'} ha hs b ob e=>by
  obtain⟨_,_,hfree⟩:=ha
  refine(I.hok b ob e).stay (fun c w' hc q=>(hs.2 c ?_).trans q) (fun _ q=>q) fun _ _ q=>q
  rintro rfl
  rcases hc with rfl|hc
  .rw [hfree] at e;cases e
  .rw [hfree] at hc;cases hc
 rcases hx with hk|hk
 .refine wpAny_storeName_local hk hn (fun h' hn' hs=>?_) hcls
  obtain⟨oL,_,_,hoL,_⟩:=id hn
  refine h _ ⟨I.ok,I.os,I.bare,⟨fun b o e n hb hx=>?_,fun b o e n hb hx=>?_,I.base.free,fun b o e hx=>?_,I.base.tups,I.base.frzs,I.base.tbls⟩,⟨_,hn',fun j y v' e1 e2 e3=>?_⟩,fun y c e=>?_,I.free,I.freeC,fun p hp=>?_,tracked ⟨oL,hoL,I.free⟩ hs,by simpa using I.len⟩ ⟨_,hs,.inl rfl⟩
  .exact(hs.2 b (Nat.ne_of_lt (Nat.lt_of_lt_of_le (Heap.lt_size e) I.ok.above))).trans (I.base.keep b o e n hb hx)
  .obtain⟨sl,e1⟩:=I.base.slot b o e n hb hx
   exact⟨sl,(hs.2 b (Nat.ne_of_lt (Nat.lt_of_lt_of_le (Heap.lt_size e) I.ok.above))).trans e1⟩
  .obtain⟨o',e1⟩:=I.base.there b o e hx
   exact⟨o',(hs.2 b (Nat.ne_of_lt (Nat.lt_of_lt_of_le (Heap.lt_size e) I.ok.above))).trans e1⟩
  .by_cases hj:j=i
   .subst hj
    rw [hi] at e1;cases e1
    rw [List.getElem?_set_self hiσ] at e2
    cases e2
    exact⟨u,r,.inl ⟨hk,by simp⟩⟩
   .rw [List.getElem?_set_ne (Ne.symm hj)] at e2
    obtain⟨u',r',q⟩:=hl j y v' e1 e2 e3
    refine⟨u',r',?_⟩
    rcases q with ⟨k,e⟩ |⟨k,c,e,z⟩
    .refine .inl ⟨k,?_⟩
     have:y≠x:=fun e=>hj (nodup_ix hN e1 (e ▸ hi))
     simp [this,e]
    .exact .inr ⟨k,c,e,z.sameBut hs (cne y c e)⟩
  .obtain⟨w',z⟩:=I.cell y c e
   exact⟨w',z.sameBut hs (cne y c e)⟩
  .obtain⟨e,n,ne,nf,d⟩:=I.pin p hp
   exact⟨(hs.2 p.1 ne).trans e,n,ne,nf,d⟩
 .have hfn:X.fn x=true:=by
   rcases hf with z|z
   .exact z
   .rw [z] at hk;cases hk
  obtain⟨c,hc⟩:=I.ok.has x (.inl hk)
  obtain⟨w',z⟩:=I.cell x c hc
  refine wpAny_storeName_cell I.ok.kind hk hc z (fun h' hc' hs=>?_)
  obtain⟨oc,hoc,hocd⟩:=id z
  refine h {s with heap:=h'} ⟨I.ok,I.os,I.bare,⟨fun b o e n hb hx=>?_,fun b o e n hb hx=>?_,I.base.free,fun b o e hx=>?_,I.base.tups,I.base.frzs,I.base.tbls⟩,⟨m,hn.sameBut hs (Ne.symm (cne x c hc)),fun j y v' e1 e2 e3=>?_⟩,fun y c' e=>?_,I.free,I.freeC,fun p hp=>?_,tracked ⟨oc,hoc,I.freeC x c hc⟩ hs,by simpa using I.len⟩ ⟨c,hs,.inr hc⟩
  .exact(hs.2 b (Nat.ne_of_lt (Nat.lt_of_lt_of_le (Heap.lt_size e) (I.ok.cab x c hfn hc)))).trans (I.base.keep b o e n hb hx)
  .obtain⟨sl,e1⟩:=I.base.slot b o e n hb hx
   exact⟨sl,(hs.2 b (Nat.ne_of_lt (Nat.lt_of_lt_of_le (Heap.lt_size e) (I.ok.cab x c hfn hc)))).trans e1⟩
  .obtain⟨o',e1⟩:=I.base.there b o e hx
   exact⟨o',(hs.2 b (Nat.ne_of_lt (Nat.lt_of_lt_of_le (Heap.lt_size e) (I.ok.cab x c hfn hc)))).trans e1⟩
  .by_cases hj:j=i
   .subst hj
    rw [hi] at e1;cases e1
    rw [List.getElem?_set_self hiσ] at e2
    cases e2
    exact⟨u,r,.inr ⟨.inl hk,c,hc,hc'⟩⟩
   .rw [List.getElem?_set_ne (Ne.symm hj)] at e2
    obtain⟨u',r',q⟩:=hl j y v' e1 e2 e3
    refine⟨u',r',?_⟩
    rcases q with q|⟨k,c',e,z'⟩
    .exact .inl q
    .refine .inr ⟨k,c',e,z'.sameBut hs ?_⟩
     rintro rfl
     exact hj (nodup_ix hN e1 (I.ok.inj _ _ _ e hc ▸ hi))
  .by_cases hcc:c'=c
   .subst hcc;exact⟨_,hc'⟩
   .obtain⟨w2,z2⟩:=I.cell y c' e
    exact⟨w2,z2.sameBut hs hcc⟩
  .obtain⟨e,n,ne,nf,d⟩:=I.pin p hp
   refine⟨(hs.2 p.1 ?_).trans e,n,ne,nf,d⟩
   intro q
   rw [q,hoc] at e
   have q':oc=p.2:=Option.some.inj e
   exact d w' (by rw [<-q'];exact hocd)
theorem qeo {M:Model} {A:Around} {E:Value->Shared->Prop} {i:Nat} {x:Str} {v:V} {u:Value} {Q:Unit->Shared->Prop} (I:Inv X pins σ H s) (hN:X.N.Nodup) (hi:X.N[i]?=some x) (hx:Loc X.env.scope x) (r:qba v u)
  (h:∀s',Inv X pins (σ.set i (some v)) H s'->Q () s') (hf:X.fn x=true\/X.env.scope.names.lookup x=some .local:=by first|exact .inl rfl|exact .inr rfl|assumption):wpAny M A (storeName X.env x u) Q E s:=
 store_ok2 I hN hi hx r (fun s' I' _=>h s' I') hf
theorem Inv.call' {s':Shared} {ch:List Addr} (I:Inv X pins σ H s) (ho:s'.os=s.os) (u:Un (frs X.stack) ch H H' s.heap s'.heap) (hok:HOk X.prog X.w H' s'.heap) (hg:AllBare s'.gens)
  (hch:∀b∈ch,(b∈X.ex\/X.s₀.heap.objs.size<=b)/\b≠X.env.locals/\(∀x c,X.env.cells.lookup x=some c->c≠b)/\∀p∈X.pn++pins,p.1≠b):Inv X pins σ H' s':=by
 obtain⟨h',g',d',t',o'⟩:=s'
 have e:o'=s.os:=ho
 subst e
 exact I.call (g':=g') (t':=t') (d':=d') u hok hg hch
end
abbrev XK:=Value->Option Addr->Hp->Prop
abbrev St:=List (Option V)
abbrev VK:=V->Hp->Prop
abbrev TE:=St->Hp->VK->Prop
abbrev TT:=St->Hp->(Bool->Hp->Prop)->Prop
abbrev TA:=St->Hp->(List V->Hp->Prop)->Prop
structure Ends where
 nx:St->Hp->Prop
 rt:VK
 bk:St->Hp->Prop:=fun _ _=>False
 ct:St->Hp->Prop:=fun _ _=>False
abbrev TS:=Ends->St->Hp->Prop
def EP (X:Cx) (pins:List (Addr × Obj)) (σ:St) (Q:VK) (u:Value) (s':Shared):Prop:=∃v H',Inv X pins σ H' s'/\qba v u/\Q v H'
def TP (X:Cx) (pins:List (Addr × Obj)) (σ:St) (Q:Bool->Hp->Prop) (b:Bool) (s':Shared):Prop:=∃H',Inv X pins σ H' s'/\Q b H'
def AP (X:Cx) (pins:List (Addr × Obj)) (σ:St) (Q:List V->Hp->Prop) (us:List Value) (s':Shared):Prop:=∃vs H',Inv X pins σ H' s'/\qb7 vs us/\Q vs H'
def SP (X:Cx) (pins:List (Addr × Obj)) (D:Ends) (f:Flow) (s':Shared):Prop:=
 match f with
 | .next=>∃σ' H',Inv X pins σ' H' s'/\D.nx σ' H'
 | .brk=>∃σ' H',Inv X pins σ' H' s'/\D.bk σ' H'
 | .cont=>∃σ' H',Inv X pins σ' H' s'/\D.ct σ' H'
 | .ret u=>∃v σ' H',Inv X pins σ' H' s'/\qba v u/\D.rt v H'
def PE (X:Cx) (e:Expr) (t:TE):Prop:=
 ∀(pins:List (Addr × Obj)) (s:Shared) (σ:St) (H:Hp) (Q:VK),Inv X pins σ H s->t σ H Q->wpAny (model X.prog X.w) X.A (eval e X.env) (EP X pins σ Q) X.xe s
def PT (X:Cx) (e:Expr) (t:TT):Prop:=
 ∀(pins:List (Addr × Obj)) (s:Shared) (σ:St) (H:Hp) (Q:Bool->Hp->Prop),Inv X pins σ H s->t σ H Q->wpAny (model X.prog X.w) X.A (isTrue e X.env (eval e X.env)) (TP X pins σ Q) X.xe s
def PW (X:Cx) (e:Expr) (t:TT):Prop:=
 ∀(whole:Sem Value) (pins:List (Addr × Obj)) (s:Shared) (σ:St) (H:Hp) (Q:Bool->Hp->Prop),Inv X pins σ H s->t σ H Q->wpAny (model X.prog X.w) X.A (isTrue e X.env whole) (TP X pins σ Q) X.xe s
theorem PW.pt {X:Cx} {e:Expr} {t:TT} (h:PW X e t):PT X e t:=h _
def PA (X:Cx) (es:List Expr) (t:TA):Prop:=
 ∀(pos:Pos) (pins:List (Addr × Obj)) (s:Shared) (σ:St) (H:Hp) (Q:List V->Hp->Prop),Inv X pins σ H s->t σ H Q->wpAny (model X.prog X.w) X.A (spliced (backTo pos (starEach es X.env))) (AP X pins σ Q) X.xe s
def PS (X:Cx) (st:Stmt) (t:TS):Prop:=
 ∀(pins:List (Addr × Obj)) (s:Shared) (σ:St) (H:Hp) (D:Ends),Inv X pins σ H s->t D σ H->wpAny (model X.prog X.w) X.A (exec st X.env) (SP X pins D) X.xe s
def PSs (X:Cx) (st:List Stmt) (t:TS):Prop:=
 ∀(pins:List (Addr × Obj)) (s:Shared) (σ:St) (H:Hp) (D:Ends),Inv X pins σ H s->t D σ H->wpAny (model X.prog X.w) X.A (execs st X.env) (SP X pins D) X.xe s
theorem thn {α:Type} {t:Sem α} {Q Q':α->Shared->Prop} {M:Model} {A:Around} {E:Value->Shared->Prop} {s:Shared} (h:wpAny M A t Q E s) (hQ:∀a s,Q a s->Q' a s):wpAny M A t Q' E s:=wpAny_mono h hQ fun _ _ x=>x
section
variable {X: Cx}
theorem bin {a b:Expr} {ta tb:TE} (ha:PE X a ta) (hb:PE X b tb) {pins:List (Addr × Obj)} {s:Shared} {σ:St} {H:Hp} {R:V->V->Hp->Prop} (I:Inv X pins σ H s) (h:ta σ H fun x H1=>tb σ H1 fun y H2=>R x y H2)
  {α:Type} {Q:α->Shared->Prop} {f:Value->Value->Sem α}
  (hf:∀v u s2 x y H2,Inv X pins σ H2 s2->qba x v->qba y u->R x y H2->wpAny (model X.prog X.w) X.A (f v u) Q X.xe s2):
  wpAny (model X.prog X.w) X.A (eval a X.env) (fun v s₁=>wpAny (model X.prog X.w) X.A (eval b X.env) (fun u s₂=>wpAny (model X.prog X.w) X.A (f v u) Q X.xe s₂) X.xe s₁) X.xe s:=by
 refine thn (ha pins s σ H _ I h) fun v s1 ⟨x,H1,I1,r1,q1⟩=>?_
 refine thn (hb pins s1 σ H1 _ I1 q1) fun u s2 ⟨y,H2,I2,r2,q2⟩=>?_
 exact hf v u s2 x y H2 I2 r1 r2 q2
def tVar (i:Nat):TE:=fun σ H Q=>∃v,σ[i]?=some (some v)/\Q v H
def tC (v:V):TE:=fun _ H Q=>Q v H
theorem pe_var {i:Nat} {x:Str} {pos:Pos} (hN:X.N[i]?=some x) (hv:Vis X.env.scope x) (hd:(x==("__debug__" :Str))=false:=by decide) (hcd:(x==("__classdict__" :Str))=false:=by decide):PE X (.Name x pos) (tVar i):=by
 intro pins s σ H Q I h
 obtain⟨v,e,h⟩:=h
 obtain⟨m,hn,hl⟩:=I.loc
 obtain⟨u,r,l⟩:=hl i x v hN e hv
 have fin:EP X pins σ Q u s:=⟨v,H,I,r,h⟩
 rcases l with ⟨hk,hm⟩ |⟨hk,c,hc,hcell⟩
 .exact wpAny_Name (wpAny_loadName_local I.ok.kind hk hn hm fin) hd
 .rcases hk with hk|hk
  .exact wpAny_Name (wpAny_loadName_cell I.ok.kind hk hc hcell fin) hd
  .exact wpAny_Name (wpAny_loadName_free I.ok.kind hk hc hcell fin hcd) hd
theorem qa7 {i j pos}:PE X (.Constant (.int i) j pos) (tC (.int i)):=fun _ _ _ H _ I h=>wpAny_Constant_int ⟨.int i,H,I.tok _,⟨_,rfl⟩,h⟩
theorem qcs {b j pos}:PE X (.Constant (.bool b) j pos) (tC (.bl b)):=fun _ _ _ H _ I h=>Constant_bool ⟨.bl b,H,I,rfl,h⟩
theorem qck {j pos}:PE X (.Constant .none j pos) (tC .non):=fun _ _ _ H _ I h=>Constant_none ⟨.non,H,I,rfl,h⟩
theorem qcr {x j pos}:PE X (.Constant (.str x) j pos) (tC (.str x)):=fun _ _ _ H _ I h=>Calls.Constant_str ⟨.str x,H,I.tok _,⟨_,rfl⟩,h⟩
def Gl (X:Cx) (x:Str):Prop:=X.env.kindOf x=some .globalImplicit
theorem qdt {E:Value->Shared->Prop} {pins:List (Addr × Obj)} {s:Shared} {σ:St} {H:Hp} {x:Str} {u:Value} {pos:Pos} {Q:Value->Shared->Prop} (I:Inv X pins σ H s) (hg:Gl X x) (hm:X.mg x=some u) (h:Q u s)
  (hd:(x==("__debug__" :Str))=false:=by decide):wpAny (model X.prog X.w) X.A (eval (.Name x pos) X.env) Q E s:=
 Calls.Name_function_global I.ok.kind hg (Calls.loadGlobal_global (by rw [I.ok.glob];exact I.mod.glob.keeps I.bk) hm h) hd
theorem ld_blt {E:Value->Shared->Prop} {pins:List (Addr × Obj)} {s:Shared} {σ:St} {H:Hp} {x:Str} {u:Value} {pos:Pos} {Q:Value->Shared->Prop} (I:Inv X pins σ H s) (hg:Gl X x) (hm:X.mg x=none) (hv:bootBuiltins x=some u) (h:Q u s)
  (hn:x≠"__name__":=by decide) (hd:(x==("__debug__" :Str))=false:=by decide):wpAny (model X.prog X.w) X.A (eval (.Name x pos) X.env) Q E s:=by
 obtain⟨mb,h1,h2⟩:=I.mod.blt
 exact Calls.Name_function_global I.ok.kind hg (Calls.loadGlobal_builtin (by rw [I.ok.glob];exact I.mod.glob.keeps I.bk) hm (by rw [I.ok.blt];exact h1.keeps I.bk) ((h2 x hn).trans hv) h) hd
theorem qec {x:Str} {v:V} {u:Value} {pos:Pos} (hg:Gl X x) (hm:X.mg x=some u) (r:qba v u) (hd:(x==("__debug__" :Str))=false:=by decide):PE X (.Name x pos) (tC v):=
 fun _ _ _ H _ I h=>qdt I hg hm ⟨v,H,I,r,h⟩ hd
theorem qbr {x:Str} {v:V} {u:Value} {pos:Pos} (hg:Gl X x) (hm:X.mg x=none) (hv:bootBuiltins x=some u) (r:qba v u) (hn:x≠"__name__":=by decide) (hd:(x==("__debug__" :Str))=false:=by decide):PE X (.Name x pos) (tC v):=
 fun _ _ _ H _ I h=>ld_blt I hg hm hv ⟨v,H,I,r,h⟩ hn hd
variable {a b: Expr} {ta tb: TE} {pos: Pos}
def PC (X:Cx) (op:CmpOp) (a b:Expr) (t:TE):Prop:=
 ∀(pins:List (Addr × Obj)) (s:Shared) (σ:St) (H:Hp) (Q:VK),Inv X pins σ H s->t σ H Q->
  wpAny (model X.prog X.w) X.A (eval a X.env) (fun v s₁=>wpAny (model X.prog X.w) X.A (eval b X.env) (fun u s₂=>wpAny (model X.prog X.w) X.A (compareOp op v u) (EP X pins σ Q) X.xe s₂) X.xe s₁) X.xe s
def tB (t:TE):TT:=fun σ H Q=>t σ H fun x H1=>∃c,x=.bl c/\Q c H1
theorem pe_cmp {op:CmpOp} {t:TE} (h:PC X op a b t) (h1:behindInMarks op b=false:=by first|exact nobehind _ (by decide) (by decide) |rfl):PE X (.Compare a [op] [b] pos) t:=fun pins s σ H Q I hw=>wpAny_Compare1 (h pins s σ H Q I hw) h1
theorem pt_cmp {op:CmpOp} {t:TE} (h:PC X op a b t) (h1:behindInMarks op b=false:=by first|exact nobehind _ (by decide) (by decide) |rfl):PT X (.Compare a [op] [b] pos) (tB t):=by
 intro pins s σ H Q I hw
 refine wpAny_isTrue_Compare1 (thn (h pins s σ H _ I hw) fun v s1 h1=>thn h1 fun u s2 h2=>thn h2 fun c s3 ⟨x,H1,I1,r1,q1⟩=>?_) h1
 obtain⟨d,rfl,q⟩:=q1
 cases r1
 exact wpAny_truthy_bool ⟨H1,I1,q⟩
theorem qaz {e:Expr} {t:TE} (h:PE X e t) (he:∀whole,isTrue e X.env whole=(do let v<-whole;standAt e.pos;holding [v] (truthy v)):=by intro _;rfl):PT X e (tB t):=by
 intro pins s σ H Q I hw
 refine isTrue_plain (thn (h pins s σ H _ I hw) fun v s1 ⟨x,H1,I1,r1,q1⟩=>?_) (he _)
 obtain⟨d,rfl,q⟩:=q1
 cases r1
 exact wpAny_truthy_bool ⟨H1,I1,q⟩
variable {tA tB': TT} {rest: List Expr}
def tAnd (t u:TT):TT:=fun σ H Q=>t σ H fun c H1=>if c=true then u σ H1 Q else Q false H1
def tOr (t u:TT):TT:=fun σ H Q=>t σ H fun c H1=>if c=true then Q true H1 else u σ H1 Q
def tNot (t:TT):TT:=fun σ H Q=>t σ H fun c H1=>Q (!c) H1
theorem qey (ha:PT X a tA):PW X (.BoolOp .And [a] pos) tA:=by
 intro wh pins s σ H Q I h
 refine isTrue_and (thn (ha pins s σ H Q I h) fun c s1 e=>?_)
 cases c with
 |true=>exact isTrue_and_nil e
 |false=>exact e
theorem qex (ha:PT X a tA):PW X (.BoolOp .Or [a] pos) tA:=by
 intro wh pins s σ H Q I h
 refine isTrue_or (thn (ha pins s σ H Q I h) fun c s1 e=>?_)
 cases c with
 |false=>exact isTrue_or_nil e
 |true=>exact e
theorem qez (ha:PT X a tA) (hb:PW X (.BoolOp .And (b :: rest) pos) tB'):PW X (.BoolOp .And (a :: b :: rest) pos) (tAnd tA tB'):=by
 intro wh pins s σ H Q I h
 refine isTrue_and (thn (ha pins s σ H _ I h) fun c s1 ⟨H1,I1,q1⟩=>?_)
 cases c with
 |true=>exact hb wh pins s1 σ H1 Q I1 q1
 |false=>exact⟨H1,I1,q1⟩
theorem qem (ha:PT X a tA) (hb:PW X (.BoolOp .Or (b :: rest) pos) tB'):PW X (.BoolOp .Or (a :: b :: rest) pos) (tOr tA tB'):=by
 intro wh pins s σ H Q I h
 refine isTrue_or (thn (ha pins s σ H _ I h) fun c s1 ⟨H1,I1,q1⟩=>?_)
 cases c with
 |true=>exact⟨H1,I1,q1⟩
 |false=>exact hb wh pins s1 σ H1 Q I1 q1
theorem qbd (ha:PT X a tA):PT X (.UnaryOp .Not a pos) (tNot tA):=by
 intro pins s σ H Q I h
 exact isTrue_not (ha pins s σ H (fun c H1=>Q (!c) H1) I h)
def tAndV (ta tb:TE):TE:=fun σ H Q=>ta σ H fun x H1=>∃c,x=.bl c/\if c=true then tb σ H1 Q else Q (.bl false) H1
def tOrV (ta tb:TE):TE:=fun σ H Q=>ta σ H fun x H1=>∃c,x=.bl c/\if c=true then Q (.bl true) H1 else tb σ H1 Q
def tNotV (ta:TE):TE:=fun σ H Q=>ta σ H fun x H1=>∃c,x=.bl c/\Q (.bl (!c)) H1
theorem qdl {op} {t:TE} (h:PE X a t):PE X (.BoolOp op [a] pos) t:=fun pins s σ H Q I hw=>BoolOp_one (h pins s σ H Q I hw)
theorem qe0 (ha:PE X a ta) (hb:PE X (.BoolOp .And (b :: rest) pos) tb):PE X (.BoolOp .And (a :: b :: rest) pos) (tAndV ta tb):=by
 intro pins s σ H Q I h
 refine BoolOp_and (thn (ha pins s σ H _ I h) fun v s1 ⟨x,H1,I1,r1,q1⟩=>?_)
 obtain⟨c,rfl,q1⟩:=q1
 cases r1
 refine wpAny_truthy_bool ?_
 cases c with
 |true=>exact hb pins s1 σ H1 Q I1 q1
 |false=>exact⟨.bl false,H1,I1,rfl,q1⟩
theorem pe_or (ha:PE X a ta) (hb:PE X (.BoolOp .Or (b :: rest) pos) tb):PE X (.BoolOp .Or (a :: b :: rest) pos) (tOrV ta tb):=by
 intro pins s σ H Q I h
 refine BoolOp_or (thn (ha pins s σ H _ I h) fun v s1 ⟨x,H1,I1,r1,q1⟩=>?_)
 obtain⟨c,rfl,q1⟩:=q1
 cases r1
 refine wpAny_truthy_bool ?_
 cases c with
 |false=>exact hb pins s1 σ H1 Q I1 q1
 |true=>exact⟨.bl true,H1,I1,rfl,q1⟩
theorem pe_not (ha:PE X a ta):PE X (.UnaryOp .Not a pos) (tNotV ta):=by
 intro pins s σ H Q I h
 refine UnaryOp_ (thn (ha pins s σ H _ I h) fun v s1 ⟨x,H1,I1,r1,q1⟩=>?_)
 obtain⟨c,rfl,q1⟩:=q1
 cases r1
 exact not_of (wpAny_truthy_bool ⟨.bl (!c),H1,I1,rfl,q1⟩)
end
def SqL (K:Frag) (H:Hp) (a:Addr) (xs:List V):Prop:=
 Rd H a (.lst xs)\/
  ∃(o:Obj) (its:Array Value) (n:Nat),K.lookup a=some o/\o.cls=.type "list"/\o.dict=none/\o.data=.seq its n/\its.size<=sizeLine/\qb7 xs its.toList
def SqT (K:Frag) (H:Hp) (a:Addr) (xs:List V):Prop:=
 Rd H a (.tup xs)\/
  ∃(o:Obj) (its:Array Value) (n:Nat),K.lookup a=some o/\o.cls=.type "tuple"/\o.data=.seq its n/\its.size<=sizeLine/\qb7 xs its.toList
def absV:Value->Option V
 | .none=>some .non
 | .bool b=>some (.bl b)
 | .int i _=>some (.int i)
 | .str x _=>some (.str x)
 | .bytes b _=>some (.byt b)
 | .float b _=>some (.flt b)
 | .ref a=>some (.ref a)
 | .type n=>some (.ty n)
 |_=>none
theorem qba.abs {x:V} {u:Value} (r:qba x u):absV u=some x:=by
 cases x with
 |non=>cases r;rfl
 |bl _=>cases r;rfl
 |int _=>obtain⟨t,rfl⟩:=r;rfl
 |str _=>obtain⟨t,rfl⟩:=r;rfl
 |byt _=>obtain⟨t,rfl⟩:=r;rfl
 |flt _=>obtain⟨t,rfl⟩:=r;rfl
 |ref _=>cases r;rfl
 |ty _=>cases r;rfl
theorem qba.inj {x y:V} {u:Value} (r:qba x u) (q:qba y u):x=y:=Option.some.inj (r.abs.symm.trans q.abs)
theorem qb7.inj:∀{xs ys:List V} {us:List Value},qb7 xs us->qb7 ys us->xs=ys
 |_,_,_,.nil,.nil=>rfl
 |_,_,_,.cons r t,.cons r' t'=>by rw [r.inj r',qb7.inj t t']
section
variable {X: Cx} {pins: List (Addr × Obj)} {σ: St} {H: Hp} {s: Shared} {a: Addr} {xs ys: List V}
theorem SqL.of {K:Frag} (h:H a=some (.lst xs)):SqL K H a xs:=.inl (.inl h)
theorem SqT.of {K:Frag} (h:H a=some (.tup xs)):SqT K H a xs:=.inl (.inl h)
theorem Inv.list (I:Inv X pins σ H s) (h:SqL X.K H a xs):∃its:List Value,qb7 xs its/\PlainL s.heap a its.toArray/\xs.length<=sizeLine:=by
 rcases h with h|⟨o,its,n,hk,hc,hd,hs,hz,r⟩
 .obtain⟨z,its,n,r,e⟩:=h.ok I.hok
  exact⟨its,r,⟨_,n,e,rfl,rfl,rfl⟩,z⟩
 .refine⟨its.toList,r,⟨o,n,I.kIn a o hk,hc,hd,by simpa using hs⟩,?_⟩
  have e:=r.length
  simp only [Array.length_toList] at e
  omega
theorem Inv.tuple (I:Inv X pins σ H s) (h:SqT X.K H a xs):∃its:List Value,qb7 xs its/\IsTup s.heap a its.toArray/\xs.length<=sizeLine:=by
 rcases h with h|⟨o,its,n,hk,hc,hs,hz,r⟩
 .obtain⟨z,its,r,p⟩:=h.ok I.hok
  exact⟨its,r,p,z⟩
 .refine⟨its.toList,r,⟨o,I.kIn a o hk,hc,n,by simpa using hs⟩,?_⟩
  have e:=r.length
  simp only [Array.length_toList] at e
  omega
theorem Inv.list_inj (I:Inv X pins σ H s) (h:SqL X.K H a xs) (h':SqL X.K H a ys):xs=ys:=by
 obtain⟨its,r,⟨o,n,e,_,_,d⟩,_⟩:=I.list h
 obtain⟨its',r',⟨o',n',e',_,_,d'⟩,_⟩:=I.list h'
 rw [e] at e';cases e'
 rw [d] at d'
 injection d' with d1 _
 have:its=its':=by simpa using congrArg Array.toList d1
 subst this
 exact r.inj r'
end
abbrev Cx.wish (X:Cx) (E:Value->Shared->Prop):Cx:={X with xe:=E}
abbrev Cx.nox (X:Cx):Cx:=X.wish fun _ _=>False
theorem Cx.Ok.wish {X:Cx} (ok:X.Ok) (E:Value->Shared->Prop):(X.wish E).Ok:=
 ⟨ok.mod,ok.kind,ok.glob,ok.blt,ok.above,ok.inj,ok.has,ok.cab,ok.hd,ok.frames,ok.stk,ok.exf,ok.bs,ok.bsz,ok.noex,ok.exfs,ok.funs,ok.frf⟩
theorem Cx.Ok.unwish {X:Cx} {E:Value->Shared->Prop} (ok:(X.wish E).Ok):X.Ok:=
 ⟨ok.mod,ok.kind,ok.glob,ok.blt,ok.above,ok.inj,ok.has,ok.cab,ok.hd,ok.frames,ok.stk,ok.exf,ok.bs,ok.bsz,ok.noex,ok.exfs,ok.funs,ok.frf⟩
section
variable {X: Cx} {pins: List (Addr × Obj)} {σ: St} {H: Hp} {s: Shared} {E: Value -> Shared -> Prop}
theorem Inv.wish (I:Inv X pins σ H s) (E:Value->Shared->Prop):Inv (X.wish E) pins σ H s:=⟨I.ok.wish E,I.os,I.bare,I.base,I.loc,I.cell,I.free,I.freeC,I.pin,I.hok,I.len⟩
theorem Inv.unwish (I:Inv (X.wish E) pins σ H s):Inv X pins σ H s:=⟨I.ok.unwish,I.os,I.bare,I.base,I.loc,I.cell,I.free,I.freeC,I.pin,I.hok,I.len⟩
theorem SP.unwish {D:Ends} {f:Flow} {s':Shared} (h:SP (X.wish E) pins D f s'):SP X pins D f s':=by
 cases f with
 |next=>obtain⟨σ',H',I,q⟩:=h;exact⟨σ',H',I.unwish,q⟩
 |brk=>obtain⟨σ',H',I,q⟩:=h;exact⟨σ',H',I.unwish,q⟩
 |cont=>obtain⟨σ',H',I,q⟩:=h;exact⟨σ',H',I.unwish,q⟩
 |ret u=>obtain⟨v,σ',H',I,r,q⟩:=h;exact⟨v,σ',H',I.unwish,r,q⟩
theorem PSs.nox {st:List Stmt} {t:TS} (h:PSs X.nox st t):PSs X st t:=fun pins s σ H D I hw=>
 wpAny_mono (h pins s σ H D (I.wish _) hw) (fun _ _ q=>q.unwish) fun _ _ z=>False.elim z
end
section
variable {X: Cx} {st: Stmt} {rest: List Stmt} {t u: TS} {e: Expr} {te: TE} {pos: Pos}
def tNext:TS:=fun D σ H=>D.nx σ H
def tSeq (t u:TS):TS:=fun D σ H=>t {D with nx:=u D} σ H
theorem qam:PSs X [] tNext:=fun _ _ σ H _ I h=>wpAny_execs_nil ⟨σ,H,I,h⟩
theorem qa4 (h1:PS X st t) (h2:PSs X rest u):PSs X (st :: rest) (tSeq t u):=by
 intro pins s σ H D I h
 refine wpAny_execs_cons (thn (h1 pins s σ H {D with nx:=u D} I h) fun f s1 q=>?_)
 cases f with
 |next=>
  obtain⟨σ',H',I',q⟩:=q
  exact h2 pins s1 σ' H' D I' q
 |ret v=>exact q
 |brk=>exact q
 |cont=>exact q
theorem qa5 (h1:PS X st t):PSs X [st] t:=by
 intro pins s σ H D I h
 refine wpAny_execs_cons (thn (h1 pins s σ H D I h) fun f s1 q=>?_)
 cases f with
 |next=>exact wpAny_execs_nil q
 |ret v=>exact q
 |brk=>exact q
 |cont=>exact q
theorem Inv.quiet {pins:List (Addr × Obj)} {σ:St} {H:Hp} {s:Shared} (I:Inv X pins σ H s):interactive X.env=false:=by simp [interactive,I.ok.kind]
def tDrop (te:TE):TS:=fun D σ H=>te σ H fun _ H1=>D.nx σ H1
theorem qat (he:PE X e te) (hs:swapsWith e none pos.line X.env=pure false:=by rfl):PS X (.Expr e pos) (tDrop te):=by
 intro pins s σ H D I h
 exact wpAny_Expr_any (thn (he pins s σ H _ I h) fun v s1 ⟨x,H1,I1,r1,q1⟩=>⟨σ,H1,I1,q1⟩) I.quiet hs
def tRet (te:TE):TS:=fun D σ H=>te σ H D.rt
theorem qae (he:PE X e te):PS X (.Return (some e) pos) (tRet te):=by
 intro pins s σ H D I h
 exact wpAny_Return_some (thn (he pins s σ H _ I h) fun v s1 ⟨x,H1,I1,r1,q1⟩=>⟨x,σ,H1,I1,r1,q1⟩)
def tIfS (c:TT) (t u:TS):TS:=fun D σ H=>c σ H fun b H1=>if b=true then t D σ H1 else u D σ H1
theorem qay {c:Expr} {a b:List Stmt} {tc:TT} (hc:PT X c tc) (ha:PSs X a t) (hb:PSs X b u):PS X (.If c a b pos) (tIfS tc t u):=by
 intro pins s σ H D I h
 refine wpAny_If (thn (hc pins s σ H _ I h) fun d s1 ⟨H1,I1,q1⟩=>?_)
 cases d with
 |true=>exact ha pins s1 σ H1 D I1 q1
 |false=>exact hb pins s1 σ H1 D I1 q1
end
abbrev TG:=V->St->Hp->(St->Hp->Prop)->Prop
abbrev TGs:=List V->St->Hp->(St->Hp->Prop)->Prop
def PG (X:Cx) (target:Expr) (t:TG):Prop:=
 ∀(pins:List (Addr × Obj)) (s:Shared) (σ:St) (H:Hp) (v:V) (u:Value) (Q:St->Hp->Prop),Inv X pins σ H s->qba v u->t v σ H Q->
  wpAny (model X.prog X.w) X.A (assign target X.env u) (fun _ s'=>∃σ' H',Inv X pins σ' H' s'/\Q σ' H') X.xe s
def PGs (X:Cx) (ts:List Expr) (t:TGs):Prop:=
 ∀(pins:List (Addr × Obj)) (s:Shared) (σ:St) (H:Hp) (vs:List V) (us:List Value) (Q:St->Hp->Prop),Inv X pins σ H s->qb7 vs us->t vs σ H Q->
  wpAny (model X.prog X.w) X.A (assignInOrder ((assignEach ts X.env).map (·.2)) us) (fun _ s'=>∃σ' H',Inv X pins σ' H' s'/\Q σ' H') X.xe s
section
variable {X: Cx} {pos: Pos}
def qfb (i:Nat):TG:=fun v σ H Q=>Q (σ.set i (some v)) H
theorem qau {i:Nat} {x:Str} (hN:X.N.Nodup) (hi:X.N[i]?=some x) (hx:Loc X.env.scope x) (hf:X.fn x=true\/X.env.scope.names.lookup x=some .local:=by first|exact .inl rfl|exact .inr rfl|assumption):PG X (.Name x pos) (qfb i):=by
 intro pins s σ H v u Q I r h
 exact wpAny_assign_Name (qeo I hN hi hx r (fun s' I'=>⟨_,H,I',h⟩) hf)
def gNil:TGs:=fun vs σ H Q=>vs=[]/\Q σ H
def gCons (t:TG) (u:TGs):TGs:=fun vs σ H Q=>∃v r,vs=v :: r/\t v σ H fun σ' H'=>u r σ' H' Q
theorem pgs_nil:PGs X [] gNil:=by
 intro pins s σ H vs us Q I r h
 obtain⟨e,h⟩:=h
 subst e
 cases r
 exact assignInOrder_nil ⟨σ,H,I,h⟩
theorem qdx {e:Expr} {es:List Expr} {t:TG} {u:TGs} (h1:PG X e t) (h2:PGs X es u)
  (hs:(assignEach (e :: es) X.env).map (·.2)=assign e X.env ::(assignEach es X.env).map (·.2):=by rfl):PGs X (e :: es) (gCons t u):=by
 intro pins s σ H vs us Q I r h
 obtain⟨v,vr,e1,h⟩:=h
 subst e1
 cases r with
 |cons r rr=>
  rw [hs]
  refine assignInOrder_cons (thn (h1 pins s σ H _ _ _ I r h) fun _ s1 ⟨σ1,H1,I1,q1⟩=>?_)
  exact h2 pins s1 σ1 H1 _ _ Q I1 rr q1
def gTup (K:Frag) (n:Nat) (t:TGs):TG:=fun v σ H Q=>∃a xs,v=.ref a/\SqT K H a xs/\xs.length=n/\t xs σ H Q
theorem pg_tup {es:List Expr} {k:Nat} {t:TGs} {n:Nat} (hc:X.calm=true) (h:PGs X es t)
  (hn:(assignEach es X.env).length=n:=by rfl) (hst:(assignEach es X.env).findIdx? (·.1)=none:=by rfl):PG X (.Tuple es k pos) (gTup X.K n t):=by
 intro pins s σ H v u Q I r hw
 obtain⟨a,xs,e1,hq,hl,hw⟩:=hw
 subst e1
 cases r
 obtain⟨its,rv,ht,hz⟩:=I.tuple hq
 refine assign_Tuple_tuple (I.ok.hd hc) ht (by simp [hn,<-hl,rv.length]) hst fun h' hx=>?_
 have I1:Inv X pins σ H {s with heap:=h'}:=I.kept (t':=s.toks) fun b o e=>hx b o (Nat.ne_of_lt (Heap.lt_size e)) e
 exact h pins _ σ H xs _ Q I1 (by simpa using rv) hw
def tAsg (te:TE) (g:TG):TS:=fun D σ H=>te σ H fun x H1=>g x σ H1 D.nx
theorem ps_asg {tg e:Expr} {te:TE} {g:TG} (he:PE X e te) (hg:PG X tg g) (hs:swapsWithSole [tg] e pos.line X.env=pure false:=by rfl) (hw:swappedStores [tg] e X.env=pure none:=by rfl)
  (h1:(assignEach [tg] X.env).map (·.2)=[assign tg X.env]:=by rfl):PS X (.Assign [tg] e pos) (tAsg te g):=by
 intro pins s σ H D I h
 refine wpAny_Assign_stores (thn (he pins s σ H _ I h) fun v s1 ⟨x,H1,I1,r1,q1⟩=>?_) hs hw
 rw [h1]
 exact thn (hg pins s1 σ H1 x v _ I1 r1 q1) fun _ s2 q=>q
theorem qag {i:Nat} {x:Str} {e:Expr} {te:TE} {pos':Pos} (hN:X.N.Nodup) (hi:X.N[i]?=some x) (hx:Loc X.env.scope x) (he:PE X e te) (hs:swapsWith e (some (.Name x pos')) pos.line X.env=pure false:=by rfl) (hf:X.fn x=true\/X.env.scope.names.lookup x=some .local:=by first|exact .inl rfl|exact .inr rfl|assumption):
  PS X (.Assign [.Name x pos'] e pos) (tAsg te (qfb i)):=by
 intro pins s σ H D I h
 refine wpAny_Assign_Name (thn (he pins s σ H _ I h) fun v s1 ⟨y,H1,I1,r1,q1⟩=>?_) hs
 exact qeo I1 hN hi hx r1 (fun s2 I2=>⟨_,H1,I2,q1⟩) hf
end
section
variable {X: Cx} {pos: Pos}
def tWhile (c:TT) (tb:TS):TS:=fun D σ H=>∃W:Nat->St->Hp->Prop,(∃m,W m σ H)/\∀m σ H,W m σ H->
 c σ H fun b H1=>if b=true then ∃N:St->Hp->Prop,(∀σ' H',N σ' H'->∃m',m' < m/\W m' σ' H')/\tb {D with nx:=N,ct:=N,bk:=D.nx} σ H1 else D.nx σ H1
theorem ps_while {c:Expr} {body:List Stmt} {tc:TT} {tb:TS} (hp:PassesOwn (model X.prog X.w) X.A X.env X.xe) (hc:PT X c tc) (hb:PSs X body tb):PS X (.While c body [] pos) (tWhile tc tb):=by
 intro pins s σ H D I h
 obtain⟨W,⟨m0,w0⟩,turn⟩:=h
 refine wpAny_While (codeAny_whileLoop (fun n s'=>∃σ' H',Inv X pins σ' H' s'/\W n σ' H') ?_ m0 ⟨σ,H,I,w0⟩)
 rintro n s1 ⟨σ1,H1,I1,w1⟩
 refine wpAny_passesOwn hp (thn (hc pins s1 σ1 H1 _ I1 (turn n σ1 H1 w1)) fun b s2 ⟨H2,I2,q2⟩=>?_)
 cases b with
 |true=>
  obtain⟨N,hN,q2⟩:=q2
  rw [if_pos rfl]
  refine wpAny_passesOwn hp (thn (hb pins s2 σ1 H2 _ I2 q2) fun f s3 q3=>?_)
  cases f with
  |next=>
   obtain⟨σ3,H3,I3,n3⟩:=q3
   obtain⟨m',hm,w3⟩:=hN σ3 H3 n3
   exact⟨m',hm,σ3,H3,I3,w3⟩
  |cont=>
   obtain⟨σ3,H3,I3,n3⟩:=q3
   obtain⟨m',hm,w3⟩:=hN σ3 H3 n3
   exact⟨m',hm,σ3,H3,I3,w3⟩
  |brk=>exact q3
  |ret v=>exact q3
 |false=>
  rw [if_neg Bool.false_ne_true]
  exact wpAny_execs_nil ⟨σ1,H2,I2,q2⟩
end
structure It where
 go:Nat->Hp->Prop
 yld:Nat->Hp->V->Hp->Prop
 stop:Nat->Hp->Prop
def FpOk (X:Cx) (pins:List (Addr × Obj)) (H:Hp) (b:Addr):Prop:=
 H b=none/\b≠X.env.locals/\b∉X.fs/\(b∈X.ex\/X.s₀.heap.objs.size<=b)/\(∀x c,X.env.cells.lookup x=some c->c≠b)/\∀p∈X.pn++pins,p.1≠b
theorem Inv.fpOk {X:Cx} {pins:List (Addr × Obj)} {σ:St} {H H':Hp} {s:Shared} {b:Addr} (I:Inv X pins σ H s) (hb:s.heap.objs.size<=b) (hn:H' b=none):FpOk X pins H' b:=by
 refine⟨hn,Nat.ne_of_gt (Nat.lt_of_lt_of_le I.lt hb),I.nofs hb,.inr (Nat.le_trans I.sz hb),fun x c e z=>?_,fun p hp z=>?_⟩
 .obtain⟨v,q⟩:=I.cell x c e
  exact absurd (Nat.lt_of_lt_of_le q.lt (by rw [z];exact hb)) (Nat.lt_irrefl _)
 .exact absurd (Nat.lt_of_lt_of_le (Heap.lt_size (I.pin p hp).1) (by rw [z];exact hb)) (Nat.lt_irrefl _)
structure Turn (P:Program) (w:World) (K:Frag) (tg:Expr) (J:It) (fp:List Addr) (it:Addr) (tn:Nat->Heap->Prop):Prop where
 mem:it∈fp
 obj:∀i h,tn i h->∀b∈fp,∃o,h.get? b=some o/\∀v,o.data≠ .cell v
 keep:∀i h h',tn i h->(∀b∈fp,∀o,h.get? b=some o->h'.get? b=some o)->tn i h'
 item:∀(X:Cx),X.prog=P->X.w=w->X.K=K->X.calm=true->∀(i:Nat) (pins:List (Addr × Obj)) (s:Shared) (σ:St) (H:Hp) (E:Value->Shared->Prop),Inv X pins σ H s->(∀b∈fp,FpOk X pins H b)->tn i s.heap->J.go i H->
  wpAny (model P w) X.A (pyNext (.ref it)) (fun r s1=>∃u,r=some u/\
   wpAny (model P w) X.A (letOwnedTupleGo tg (.ref it) u) (fun _ s2=>∃x H',Inv X pins σ H' s2/\qba x u/\J.yld i H x H'/\tn (i+1) s2.heap/\∀b∈fp,H' b=none) E s1) E s
 done:∀(X:Cx),X.prog=P->X.w=w->X.K=K->X.calm=true->∀(i:Nat) (pins:List (Addr × Obj)) (s:Shared) (σ:St) (H:Hp) (E:Value->Shared->Prop),Inv X pins σ H s->(∀b∈fp,FpOk X pins H b)->tn i s.heap->J.stop i H->
  wpAny (model P w) X.A (pyNext (.ref it)) (fun r s1=>r=none/\Inv X pins σ H s1) E s
 self:∀(A:Around) (i:Nat) (s:Shared) (Q:Value->Shared->Prop) (E:Value->Shared->Prop),tn i s.heap->Q (.ref it) s->wpAny (model P w) A (pyIter (.ref it)) Q E s
abbrev TI:=St->Hp->(It->Hp->Prop)->Prop
def PIE (X:Cx) (pins:List (Addr × Obj)) (σ:St) (tg:Expr) (R:It->Hp->Prop) (itv:Value) (s2:Shared):Prop:=
 ∃(it:Addr) (fp:List Addr) (tn:Nat->Heap->Prop) (J:It) (H':Hp),itv=.ref it/\Inv X pins σ H' s2/\Turn X.prog X.w X.K tg J fp it tn/\tn 0 s2.heap/\(∀b∈fp,FpOk X pins H' b)/\R J H'
def PI (X:Cx) (tg iter:Expr) (wi:TI):Prop:=
 ∀(pins:List (Addr × Obj)) (s:Shared) (σ:St) (H:Hp) (R:It->Hp->Prop),Inv X pins σ H s->wi σ H R->
  wpAny (model X.prog X.w) X.A (eval iter X.env) (fun v s1=>wpAny (model X.prog X.w) X.A (pyIter v) (PIE X pins σ tg R) X.xe s1) X.xe s
theorem go_of {M:Model} {A:Around} {E:Value->Shared->Prop} {s:Shared} {tg:Expr} {it:Addr} {u:Value} {o:Obj} {n:String} {vs:Array Value} {Q:Unit->Shared->Prop} (ho:s.heap.get? it=some o) (hc:o.cls=.type n) (hd:o.data=.fields vs)
  (hn: ["enumerate","zip","dict_itemiterator","dict_reverseitemiterator","odict_iterator","itertools.zip_longest","itertools.pairwise"].contains n=false) (hQ:Q () s):wpAny M A (letOwnedTupleGo tg (.ref it) u) Q E s:=by
 unfold letOwnedTupleGo
 cases tg <;> first
  |exact wpAny_pure hQ
  |(cases u <;> first
    |exact wpAny_pure hQ
    |(refine wpAny_bind (wpAny_load ho ?_)
      rw [hc,hd]
      show wpAny M A (if (["enumerate","zip","dict_itemiterator","dict_reverseitemiterator","odict_iterator","itertools.zip_longest","itertools.pairwise"].contains n && vs[0]?==some (rawInt _))=true then _ else _) Q E s
      rw [if_neg (by intro h;rw [hn,Bool.false_and] at h;cases h)]
      exact wpAny_pure hQ))
def Itl (K:Frag) (a:Addr):It:=
 ⟨fun i H=>∃xs x,SqL K H a xs/\xs[i]?=some x,fun i H x H'=>H'=H/\∀xs,SqL K H a xs->xs[i]?=some x,fun i H=>∃xs,SqL K H a xs/\xs.length<=i⟩
def Itr (lo:Int) (n:Nat):It:=⟨fun i _=>i < n,fun i H x H'=>H'=H/\x=.int (lo+i),fun i _=>n<=i⟩
theorem turn_list {P:Program} {w:World} {K:Frag} {tg:Expr} (a it:Addr):Turn P w K tg (Itl K a) [it] it (fun i h=>h.IsListIter it a i) where
 mem:=by simp
 obj:=fun i h st b hb=>by
  have e:b=it:=by simpa using hb
  subst e
  obtain⟨o,e,c,d⟩:=st
  exact⟨o,e,fun v z=>by rw [d] at z;cases z⟩
 keep:=fun i h h' st k=>st.at fun o e=>k it (by simp) o e
 item:=by
  intro X hP hw hK hc i pins s σ H E I hf st hg
  subst hP hw hK
  obtain⟨xs,x,hq,hx⟩:=hg
  obtain⟨its,rv,p,hz⟩:=I.list hq
  obtain⟨u,hu,ru⟩:=rv.get hx
  obtain⟨f0,f1,f2,f3,f4,f5⟩:=hf it (by simp)
  refine wpAny_pyNext_list_item st p.isList (x:=u) (by simpa using hu) fun h' st' sb=>?_
  have I1:Inv X pins σ H {s with heap:=h'}:=I.turned (t':=s.toks) (fun b o hb e=>(sb.2 b hb).trans e) f0 f1 f3 f4 f5
  obtain⟨o,e,c,d⟩:=id st'
  exact⟨u,rfl,go_of (s:={s with heap:=h'}) e c d (by decide) ⟨x,H,I1,ru,⟨rfl,fun ys hy=>by rw [I.list_inj hy hq];exact hx⟩,st',fun b hb=>(hf b hb).1⟩⟩
 done:=by
  intro X hP hw hK hc i pins s σ H E I hf st hg
  subst hP hw hK
  obtain⟨xs,hq,hx⟩:=hg
  obtain⟨its,rv,p,hz⟩:=I.list hq
  obtain⟨f0,f1,f2,f3,f4,f5⟩:=hf it (by simp)
  have hl:=rv.length
  exact wpAny_pyNext_list_end (I.ok.hd hc) st p.isList (by simp;omega) fun h' eb=>⟨rfl,I.turned (t':=s.toks) (fun b o hb e=>eb b o hb e) f0 f1 f3 f4 f5⟩
 self:=fun _ _ _ _ _ st h=>wpAny_pyIter_listiter st h
theorem turn_range {P:Program} {w:World} {K:Frag} {tg:Expr} (it:Addr) (lo:Int) (n:Nat):Turn P w K tg (Itr lo n) [it] it (fun i h=>IsRangeIter h it (lo+(i:Nat)*1) ((n:Int) - (i:Nat)) 1) where
 mem:=by simp
 obj:=fun i h st b hb=>by
  have e:b=it:=by simpa using hb
  subst e
  exact⟨_,st,fun v z=>by
   have z':Data.fields _=Data.cell v:=z
   cases z'⟩
 keep:=fun i h h' st k=>k it (by simp) _ st
 item:=by
  intro X hP hw hK hc i pins s σ H E I hf st hg
  subst hP hw hK
  obtain⟨f0,f1,f2,f3,f4,f5⟩:=hf it (by simp)
  have W:=Walks.range (prog:=X.prog) (w:=X.w) (I.ok.hd hc) it lo 1 n
  refine W.item i s _ _ hg st fun v h' tk hv st' kk=>?_
  obtain⟨t,rfl⟩:=hv
  have I1:Inv X pins σ H {s with heap:=h',toks:=tk}:=I.turned (fun b o hb e=>kk b o (by simpa using hb) e) f0 f1 f3 f4 f5
  refine⟨_,rfl,go_of (s:={s with heap:=h',toks:=tk}) (n:="range_iterator") st' rfl rfl (by decide) ⟨.int (lo+i),H,I1,⟨t,?_⟩,⟨rfl,rfl⟩,st',fun b hb=>(hf b hb).1⟩⟩
  rw [Int.mul_one]
 done:=by
  intro X hP hw hK hc i pins s σ H E I hf st hg
  subst hP hw hK
  obtain⟨f0,f1,f2,f3,f4,f5⟩:=hf it (by simp)
  exact wpAny_pyNext_range_end (I.ok.hd hc) st (by have:n<=i:=hg;omega) fun h' eb=>⟨rfl,I.turned (t':=s.toks) (fun b o hb e=>eb b o hb e) f0 f1 f3 f4 f5⟩
 self:=fun _ _ _ _ _ st h=>wpAny_pyIter_rangeiter st h
section
variable {X: Cx} {tg: Expr}
def iList (K:Frag) (tl:TE):TI:=fun σ H R=>tl σ H fun x H1=>∃a,x=.ref a/\(∃xs,SqL K H1 a xs)/\R (Itl K a) H1
theorem qb6 {l:Expr} {tl:TE} (hl:PE X l tl):PI X tg l (iList X.K tl):=by
 intro pins s σ H R I h
 refine thn (hl pins s σ H _ I h) fun v s1 ⟨x,H1,I1,r1,q1⟩=>?_
 obtain⟨a,e,⟨xs,hq⟩,q⟩:=q1
 subst e
 cases r1
 obtain⟨its,rv,p,hz⟩:=I1.list hq
 refine wpAny_pyIter_list p.isList ?_
 refine⟨s1.heap.objs.size, [s1.heap.objs.size],_,_,H1,rfl,I1.kept (t':=s1.toks) fun b o e=>Heap.get?_push_of_some _ e,turn_list a _,⟨_,Heap.get?_push_size _ rfl,rfl,rfl⟩,fun b hb=>?_,q⟩
 have e:b=s1.heap.objs.size:=by simpa using hb
 subst e
 exact I1.fpOk (Nat.le_refl _) (I1.hok.fresh (Nat.le_refl _))
theorem range_it {pins:List (Addr × Obj)} {σ:St} {H:Hp} {s:Shared} {R:It->Hp->Prop} {E:Value->Shared->Prop} {lo hi:Int} {t u v:Tok} {tk:Nat} (I:Inv X pins σ H s) (h1: -(2^62)<=lo) (h2:lo < 2^62) (h3: -(2^62)<=hi) (h4:hi < 2^62)
  (q:R (Itr lo (hi - lo).toNat) H):wpAny (model X.prog X.w) X.A (pyIter (.ref s.heap.objs.size)) (PIE X pins σ tg R) E {s with heap:=s.heap.push {cls:=.type "range",data:=.fields #[.int lo t,.int hi u,.int 1 v]},toks:=tk}:=by
 refine wpAny_pyIter_range (IsRange.new ..) (small_one h1 h2 h3 h4) ?_
 have I1:Inv X pins σ H {s with heap:=s.heap.push {cls:=.type "range",data:=.fields #[.int lo t,.int hi u,.int 1 v]},toks:=tk}:=I.kept fun b o e=>Heap.get?_push_of_some _ e
 refine⟨(s.heap.push {cls:=.type "range",data:=.fields #[.int lo t,.int hi u,.int 1 v]}).objs.size, [(s.heap.push {cls:=.type "range",data:=.fields #[.int lo t,.int hi u,.int 1 v]}).objs.size],_,_,H,rfl,
  I1.kept (t':=tk) fun b o e=>Heap.get?_push_of_some _ e,turn_range _ lo (hi - lo).toNat,?_,fun b hb=>?_,q⟩
 .have e1:lo+((0:Nat):Int)*1=lo:=by simp
  have e2:(((hi - lo).toNat:Nat):Int) - ((0:Nat):Int)=Builtin.Range.rangeSize lo hi 1:=by rw [rangeSize_one];split <;> omega
  show IsRangeIter _ _ (lo+((0:Nat):Int)*1) ((((hi - lo).toNat:Nat):Int) - ((0:Nat):Int)) 1
  rw [e1,e2]
  exact Heap.get?_push_size _ rfl
 .have e:b=(s.heap.push {cls:=.type "range",data:=.fields #[.int lo t,.int hi u,.int 1 v]}).objs.size:=by simpa using hb
  subst e
  exact I1.fpOk (Nat.le_refl _) (I1.hok.fresh (Nat.le_refl _))
def iRng1 (ta:TA):TI:=fun σ H R=>ta σ H fun vs H1=>∃j:Int,vs=[.int j]/\-(2^62)<=j/\j < 2^62/\R (Itr 0 j.toNat) H1
theorem qca {a:Expr} {ta:TA} {p pos:Pos} (hg:Gl X "range") (hm:X.mg "range" =none) (ha:PA X [a] ta) (hs:starEach [a] X.env=[(false,eval a X.env)]:=by rfl):PI X tg (.Call (.Name "range" p) [a] [] pos) (iRng1 ta):=by
 intro pins s σ H R I h
 refine Call_ (ld_blt I hg hm boot_range (PyProof.Rows.callWith_type1 (thn (ha pos pins s σ H _ I h) fun us s1 ⟨vs,H1,I1,r1,q1⟩=>?_) hs rfl))
 obtain⟨j,e,q1,q2,q⟩:=q1
 subst e
 cases r1 with
 |cons r rr=>
  cases rr
  obtain⟨t,rfl⟩:=r
  exact call_range_1 (range_it I1 (by omega) (by omega) q1 q2 (by simpa using q))
def tFor (wi:TI) (g:TG) (tb:TS):TS:=fun D σ H=>wi σ H fun J H1=>∃W:Nat->Nat->St->Hp->Prop,(∃m,W 0 m σ H1)/\∀i m σ H,W i m σ H->
 (J.stop i H/\D.nx σ H)\/(J.go i H/\∃N:St->Hp->Prop,(∀σ' H',N σ' H'->∃m',m' < m/\W (i+1) m' σ' H')/\∀x H',J.yld i H x H'->g x σ H' fun σ2 H2=>tb {D with nx:=N,ct:=N,bk:=D.nx} σ2 H2)
def qcq (fp:List Addr) (h:Heap):List (Addr × Obj):=fp.filterMap fun b=>(h.get? b).map fun o=>(b,o)
theorem qci {fp:List Addr} {h:Heap} {b:Addr} {o:Obj} (hb:b∈fp) (e:h.get? b=some o):(b,o)∈qcq fp h:=List.mem_filterMap.mpr ⟨b,hb,by rw [e];rfl⟩
theorem of_pinsAt {fp:List Addr} {h:Heap} {p:Addr × Obj} (hp:p∈qcq fp h):p.1∈fp/\h.get? p.1=some p.2:=by
 obtain⟨b,hb,e⟩:=List.mem_filterMap.mp hp
 cases q:h.get? b with
 |none=>rw [q] at e;cases e
 |some o=>
  rw [q] at e
  have e':(b,o)=p:=Option.some.inj e
  subst e'
  exact⟨hb,q⟩
theorem Inv.pinned {pins:List (Addr × Obj)} {σ:St} {H:Hp} {s:Shared} {fp:List Addr} (I:Inv X pins σ H s) (hf:∀b∈fp,FpOk X pins H b) (ho:∀b∈fp,∃o,s.heap.get? b=some o/\∀v,o.data≠ .cell v):Inv X (pins++qcq fp s.heap) σ H s:=
 I.pins_of fun p hp=>(zN.mp hp).elim (fun z=>I.pin p (zI _ z)) fun z=>by
  obtain⟨hb,e⟩:=of_pinsAt z
  obtain⟨f0,f1,f2,_⟩:=hf p.1 hb
  obtain⟨o,e',d⟩:=ho p.1 hb
  rw [e] at e';cases e'
  exact⟨e,f0,f1,f2,d⟩
theorem Inv.unpinned {pins pl:List (Addr × Obj)} {σ:St} {H:Hp} {s:Shared} (I:Inv X (pins++pl) σ H s):Inv X pins σ H s:=I.pins_of fun p hp=>I.pin p (zI _ (yF _ hp))
theorem qbh {iter:Expr} {body:List Stmt} {wi:TI} {g:TG} {tb:TS} {pos:Pos} (hp:PassesOwn (model X.prog X.w) X.A X.env X.xe) (hc:X.calm=true) (hi:PI X tg iter wi) (hg:PG X tg g) (hb:PSs X body tb)
  (hs:∀x,foldedSetIterable iter X.env x=pure x:=by intro _;rfl):PS X (.For tg iter body [] pos) (tFor wi g tb):=by
 intro pins s σ H D I h
 refine wpAny_For (thn (hi pins s σ H _ I h) fun v s1 h1=>thn h1 fun itv s2 h2=>?_) hs
 obtain⟨it,fp,tn,J,H2,e,I2,T,st2,f2,W,⟨m0,w0⟩,turn⟩:=h2
 subst e
 have stat:∀{H':Hp},(∀b∈fp,H' b=none)->∀b∈fp,FpOk X pins H' b:=fun hn b hb=>⟨hn b hb,(f2 b hb).2⟩
 refine codeAny_forLoop_any (fun n s'=>∃i σ' H',Inv X pins σ' H' s'/\tn i s'.heap/\(∀b∈fp,H' b=none)/\W i n σ' H') ?_ m0 ⟨0,σ,H2,I2,st2,fun b hb=>(f2 b hb).1,w0⟩
 rintro n s3 ⟨i,σ3,H3,I3,st3,fr3,w3⟩
 rcases turn i n σ3 H3 w3 with ⟨stop,qn⟩ |⟨go,N,hN,step⟩
 .refine wpAny_passesOwn hp (thn (T.done X rfl rfl rfl hc i pins s3 σ3 H3 X.xe I3 (stat fr3) st3 stop) fun r s4 ⟨hr,I4⟩=>?_)
  subst hr
  exact wpAny_execs_nil ⟨σ3,H3,I4,qn⟩
 .refine wpAny_passesOwn hp (thn (T.item X rfl rfl rfl hc i pins s3 σ3 H3 X.xe I3 (stat fr3) st3 go) fun r s4 ⟨u,hr,h4⟩=>?_)
  subst hr
  refine wpAny_passesOwn hp (thn h4 fun _ s5 ⟨x,H5,I5,r5,y5,st5,fr5⟩=>?_)
  have I5':=I5.pinned (stat fr5) (T.obj _ _ st5)
  refine wpAny_passesOwn hp (thn (hg _ s5 σ3 H5 x u _ I5' r5 (step x H5 y5)) fun _ s6 ⟨σ6,H6,I6,q6⟩=>?_)
  refine wpAny_passesOwn hp (thn (hb _ s6 σ6 H6 _ I6 q6) fun f s7 q7=>?_)
  have again:∀{σ7:St} {H7:Hp},Inv X (pins++qcq fp s5.heap) σ7 H7 s7->N σ7 H7->∃m,m < n/\∃i σ' H',Inv X pins σ' H' s7/\tn i s7.heap/\(∀b∈fp,H' b=none)/\W i m σ' H':=fun {σ7 H7} I7 n7=>by
   obtain⟨m',hm,w7⟩:=hN σ7 H7 n7
   refine⟨m',hm,i+1,σ7,H7,I7.unpinned,T.keep _ _ _ st5 fun b hb o e=>(I7.pin (b,o) (zI _ (zI _ (qci hb e)))).1,fun b hb=>?_,w7⟩
   obtain⟨o,e,d⟩:=T.obj _ _ st5 b hb
   exact(I7.pin (b,o) (zI _ (zI _ (qci hb e)))).2.1
  cases f with
  |next=>obtain⟨σ7,H7,I7,n7⟩:=q7;exact again I7 n7
  |cont=>obtain⟨σ7,H7,I7,n7⟩:=q7;exact again I7 n7
  |brk=>obtain⟨σ7,H7,I7,q7⟩:=q7;exact⟨σ7,H7,I7.unpinned,q7⟩
  |ret v=>obtain⟨x7,σ7,H7,I7,r7,q7⟩:=q7;exact⟨x7,σ7,H7,I7.unpinned,r7,q7⟩
end
theorem for_list {K:Frag} {a:Addr} {xs:List V} {g:TG} {tb:TS} {D:Ends} {σ:St} {H:Hp} (Pv:Nat->St->Hp->Prop) (h0:Pv 0 σ H) (hl:∀i σ H,i<=xs.length->Pv i σ H->SqL K H a xs)
  (hs:∀i x σ H,xs[i]?=some x->Pv i σ H->g x σ H fun σ2 H2=>tb {D with nx:=Pv (i+1),ct:=Pv (i+1),bk:=D.nx} σ2 H2) (hd:∀σ H,Pv xs.length σ H->D.nx σ H):
  ∃W:Nat->Nat->St->Hp->Prop,(∃m,W 0 m σ H)/\∀i m σ H,W i m σ H->
   ((Itl K a).stop i H/\D.nx σ H)\/((Itl K a).go i H/\∃N:St->Hp->Prop,(∀σ' H',N σ' H'->∃m',m' < m/\W (i+1) m' σ' H')/\∀x H',(Itl K a).yld i H x H'->g x σ H' fun σ2 H2=>tb {D with nx:=N,ct:=N,bk:=D.nx} σ2 H2):=by
 refine⟨fun i m σ H=>m=xs.length - i/\i<=xs.length/\Pv i σ H,⟨xs.length,by simp,Nat.zero_le _,h0⟩,?_⟩
 rintro i m σ H ⟨rfl,hi,p⟩
 have q:=hl i σ H hi p
 by_cases hlt:i < xs.length
 .refine .inr ⟨⟨xs,xs[i],q,by simp [hlt]⟩,Pv (i+1),fun σ' H' p'=>⟨xs.length - (i+1),by omega,rfl,hlt,p'⟩,fun x H' y=>?_⟩
  obtain⟨e,y⟩:=y
  subst e
  exact hs i x σ _ (y xs q) p
 .have e:i=xs.length:=by omega
  subst e
  exact .inl ⟨⟨xs,q,Nat.le_refl _⟩,hd σ H p⟩
theorem for_range {lo:Int} {n:Nat} {g:TG} {tb:TS} {D:Ends} {σ:St} {H:Hp} (Pv:Nat->St->Hp->Prop) (h0:Pv 0 σ H)
  (hs:∀i σ H,i < n->Pv i σ H->g (.int (lo+i)) σ H fun σ2 H2=>tb {D with nx:=Pv (i+1),ct:=Pv (i+1),bk:=D.nx} σ2 H2) (hd:∀σ H,Pv n σ H->D.nx σ H):
  ∃W:Nat->Nat->St->Hp->Prop,(∃m,W 0 m σ H)/\∀i m σ H,W i m σ H->
   ((Itr lo n).stop i H/\D.nx σ H)\/((Itr lo n).go i H/\∃N:St->Hp->Prop,(∀σ' H',N σ' H'->∃m',m' < m/\W (i+1) m' σ' H')/\∀x H',(Itr lo n).yld i H x H'->g x σ H' fun σ2 H2=>tb {D with nx:=N,ct:=N,bk:=D.nx} σ2 H2):=by
 refine⟨fun i m σ H=>m=n - i/\i<=n/\Pv i σ H,⟨n,by simp,Nat.zero_le _,h0⟩,?_⟩
 rintro i m σ H ⟨rfl,hi,p⟩
 by_cases hlt:i < n
 .refine .inr ⟨hlt,Pv (i+1),fun σ' H' p'=>⟨n - (i+1),by omega,rfl,hlt,p'⟩,fun x H' y=>?_⟩
  obtain⟨e,y⟩:=y
  subst e y
  exact hs i σ _ hlt p
 .have e:i=n:=by omega
  subst e
  exact .inl ⟨Nat.le_refl _,hd σ H p⟩
theorem while_by {c:TT} {tb:TS} {D:Ends} {σ:St} {H:Hp} (Pv:St->Hp->Prop) (μ:St->Hp->Nat) (h0:Pv σ H)
  (hs:∀σ H,Pv σ H->c σ H fun b H1=>if b=true then tb {D with nx:=fun σ' H'=>Pv σ' H'/\μ σ' H' < μ σ H,ct:=fun σ' H'=>Pv σ' H'/\μ σ' H' < μ σ H,bk:=D.nx} σ H1 else D.nx σ H1)
  (mono:∀σ H Q Q',(∀b H1,Q b H1->Q' b H1)->c σ H Q->c σ H Q'):tWhile c tb D σ H:=by
 refine⟨fun m σ H=>m=μ σ H/\Pv σ H,⟨_,rfl,h0⟩,?_⟩
 rintro m σ H ⟨rfl,p⟩
 refine mono σ H _ _ (fun b H1 q=>?_) (hs σ H p)
 cases b with
 |true=>exact⟨_,fun σ' H' ⟨p',l⟩=>⟨_,l,rfl,p'⟩,q⟩
 |false=>exact q
abbrev R2:=V->V->Hp->VK->Prop
def OpR (X:Cx) (f:Value->Value->Sem Value) (r:R2):Prop:=
 ∀(pins:List (Addr × Obj)) (s:Shared) (σ:St) (H:Hp) (x y:V) (v u:Value) (Q:VK),Inv X pins σ H s->qba x v->qba y u->r x y H Q->
  wpAny (model X.prog X.w) X.A (f v u) (EP X pins σ Q) X.xe s
def qcp (X:Cx) (f:Value) (r:List V->Hp->VK->Prop):Prop:=
 ∀(pins:List (Addr × Obj)) (s:Shared) (σ:St) (H:Hp) (xs:List V) (us:List Value) (Q:VK),Inv X pins σ H s->qb7 xs us->r xs H Q->
  wpAny (model X.prog X.w) X.A (call f us) (EP X pins σ Q) X.xe s
def tOp (r:R2) (ta tb:TE):TE:=fun σ H Q=>ta σ H fun x H1=>tb σ H1 fun y H2=>r x y H2 Q
def rI (C:Int->Int->Prop) (g:Int->Int->V):R2:=fun x y H Q=>∃i j,x=.int i/\y=.int j/\C i j/\Q (g i j) H
def rI0 (g:Int->Int->V):R2:=fun x y H Q=>∃i j,x=.int i/\y=.int j/\Q (g i j) H
section
variable {X: Cx} {a b: Expr} {ta tb: TE} {pos: Pos}
theorem binT (ha:PE X a ta) (hb:PE X b tb) {pins:List (Addr × Obj)} {s:Shared} {σ:St} {H:Hp} {R:V->V->Hp->Prop} (I:Inv X pins σ H s)
  (h:ta σ H fun x H1=>tb σ H1 fun y H2=>R x y H2) {Q:Value->Shared->Prop} {f:Value->Value->Sem Value}
  (hf:∀v u s2 x y H2,Inv X pins σ H2 s2->qba x v->qba y u->R x y H2->wpAny (model X.prog X.w) X.A (f v u) Q X.xe s2):
  wpAny (model X.prog X.w) X.A (eval a X.env) (fun v s₁=>wpAny (model X.prog X.w) X.A (eval b X.env) (fun u s₂=>wpAny (model X.prog X.w) X.A (f v u) Q X.xe s₂) X.xe s₁) X.xe s:=by
 refine thn (ha pins s σ H _ I h) fun v s1 ⟨x,H1,I1,r1,q1⟩=>?_
 refine thn (hb pins s1 σ H1 _ I1 q1) fun u s2 ⟨y,H2,I2,r2,q2⟩=>?_
 exact hf v u s2 x y H2 I2 r1 r2 q2
theorem qar {op:Operator} {r:R2} (ho:OpR X (binaryOp op) r) (ha:PE X a ta) (hb:PE X b tb):PE X (.BinOp a op b pos) (tOp r ta tb):=by
 intro pins s σ H Q I h
 exact wpAny_BinOp (binT ha hb I h fun v u s2 x y H2 I2 rx ry q=>ho pins s2 σ H2 x y v u Q I2 rx ry q)
theorem opI {f:Value->Value->Sem Value} {C:Int->Int->Prop} {g:Int->Int->Int}
  (rule:∀(i j:Int) (t u:Tok) (s:Shared) (Q:Value->Shared->Prop) (E:Value->Shared->Prop),C i j->Q (.int (g i j) s.toks) {s with toks:=s.toks+1}->wpAny (model X.prog X.w) X.A (f (.int i t) (.int j u)) Q E s):
  OpR X f (rI C fun i j=> .int (g i j)):=by
 intro pins s σ H x y v u Q I rx ry h
 obtain⟨i,j,rfl,rfl,hc,q⟩:=h
 obtain⟨t,rfl⟩:=rx
 obtain⟨t',rfl⟩:=ry
 exact rule i j t t' s _ _ hc ⟨.int (g i j),H,I.tok _,⟨_,rfl⟩,q⟩
theorem opI0 {f:Value->Value->Sem Value} {g:Int->Int->Int}
  (rule:∀(i j:Int) (t u:Tok) (s:Shared) (Q:Value->Shared->Prop) (E:Value->Shared->Prop),Q (.int (g i j) s.toks) {s with toks:=s.toks+1}->wpAny (model X.prog X.w) X.A (f (.int i t) (.int j u)) Q E s):
  OpR X f (rI0 fun i j=> .int (g i j)):=by
 intro pins s σ H x y v u Q I rx ry h
 obtain⟨i,j,rfl,rfl,q⟩:=h
 obtain⟨t,rfl⟩:=rx
 obtain⟨t',rfl⟩:=ry
 exact rule i j t t' s _ _ ⟨.int (g i j),H,I.tok _,⟨_,rfl⟩,q⟩
theorem opB0 {f:Value->Value->Sem Value} {g:Int->Int->Bool}
  (rule:∀(i j:Int) (t u:Tok) (s:Shared) (Q:Value->Shared->Prop) (E:Value->Shared->Prop),Q (.bool (g i j)) s->wpAny (model X.prog X.w) X.A (f (.int i t) (.int j u)) Q E s):
  OpR X f (rI0 fun i j=> .bl (g i j)):=by
 intro pins s σ H x y v u Q I rx ry h
 obtain⟨i,j,rfl,rfl,q⟩:=h
 obtain⟨t,rfl⟩:=rx
 obtain⟨t',rfl⟩:=ry
 exact rule i j t t' s _ _ ⟨.bl (g i j),H,I,rfl,q⟩
def CPow (i j:Int):Prop:=0<=j/\j<=1000000/\i.natAbs < 2^64
theorem qb8:OpR X (binaryOp .Add) (rI0 fun i j=> .int (i+j)):=opI0 fun _ _ _ _ _ _ _ q=>add_int q
theorem op_sub:OpR X (binaryOp .Sub) (rI0 fun i j=> .int (i - j)):=opI0 fun _ _ _ _ _ _ _ q=>sub_int q
theorem qcl:OpR X (binaryOp .Mod) (rI (fun _ j=>0 < j) fun i j=> .int (i%j)):=opI fun i j _ _ _ _ _ hc q=>by
 have h1:(0:Int) < j:=hc
 exact mod_int' (by omega) (by rw [Int.fmod_eq_emod_of_nonneg i (by omega)];exact q)
theorem op_pow:OpR X (binaryOp .Pow) (rI CPow fun i j=> .int (i^j.toNat)):=opI fun _ _ _ _ _ _ _ hc q=>pow_int_small hc.1 hc.2.1 hc.2.2 q
end
def scal:V->V->Bool
 | .non,.non=>true| .non,.int _=>true| .int _,.non=>true| .non,.bl _=>true| .bl _,.non=>true| .non,.str _=>true| .str _,.non=>true
 | .int _,.int _=>true| .bl _,.bl _=>true| .str _,.str _=>true| .byt _,.byt _=>true
 | .int _,.str _=>true| .str _,.int _=>true| .bl _,.str _=>true| .str _,.bl _=>true
 |_,_=>false
def rEq:R2:=fun x y H Q=>scal x y=true/\Q (.bl (decide (x=y))) H
def rNe:R2:=fun x y H Q=>scal x y=true/\Q (.bl (!decide (x=y))) H
theorem dec_int {i j:Int}:decide (V.int i=V.int j)=(i==j):=by
 rw [Bool.eq_iff_iff]
 simp
theorem dec_bl {i j:Bool}:decide (V.bl i=V.bl j)=(i==j):=by
 rw [Bool.eq_iff_iff]
 simp
theorem dec_str {i j:Str}:decide (V.str i=V.str j)=(i==j):=by
 rw [Bool.eq_iff_iff]
 simp
theorem dec_byt {i j:Array UInt8}:decide (V.byt i=V.byt j)=(i.toList==j.toList):=by
 rw [Bool.eq_iff_iff]
 cases i
 cases j
 simp
section
variable {X: Cx} {a b c: Expr} {ta tb tc: TE} {pos: Pos}
theorem qb1 {pins:List (Addr × Obj)} {σ:St} {H:Hp} {s:Shared} {Q:VK} {k k':Bool} (I:Inv X pins σ H s) (q:Q (.bl k) H) (e:k=k'):EP X pins σ Q (.bool k') s:=by
 subst e
 exact⟨.bl k,H,I,rfl,q⟩
theorem qee:OpR X (compareOp .Eq) rEq:=by
 intro pins s σ H x y v u Q I rx ry h
 obtain⟨hs,q⟩:=h
 cases x with
 |non=>
  cases rx
  cases y with
  |non=>cases ry;exact PySem.EqNone.eq_none_none (qb1 I q (by simp))
  |bl j=>cases ry;exact PySem.EqNone.eq_none_bool (qb1 I q (by simp))
  |int j=>obtain⟨t',rfl⟩:=ry;exact PySem.EqNone.eq_none_int (qb1 I q (by simp))
  |str j=>obtain⟨t',rfl⟩:=ry;exact PySem.EqNone.eq_none_str (qb1 I q (by simp))
  |_=>exact absurd (show false=true from hs) Bool.false_ne_true
 |bl i=>
  cases rx
  cases y with
  |non=>cases ry;exact PySem.EqNone.eq_bool_none (qb1 I q (by simp))
  |bl j=>cases ry;exact eq_bool (qb1 I q dec_bl)
  |str j=>obtain⟨t',rfl⟩:=ry;exact PySem.EqMixed.eq_bool_str (qb1 I q (by simp))
  |_=>exact absurd (show false=true from hs) Bool.false_ne_true
 |int i=>
  obtain⟨t,rfl⟩:=rx
  cases y with
  |non=>cases ry;exact PySem.EqNone.eq_int_none (qb1 I q (by simp))
  |int j=>obtain⟨t',rfl⟩:=ry;exact eq_int (qb1 I q dec_int)
  |str j=>obtain⟨t',rfl⟩:=ry;exact PySem.EqMixed.eq_int_str (qb1 I q (by simp))
  |_=>exact absurd (show false=true from hs) Bool.false_ne_true
 |str i=>
  obtain⟨t,rfl⟩:=rx
  cases y with
  |non=>cases ry;exact PySem.EqNone.eq_str_none (qb1 I q (by simp))
  |bl j=>cases ry;exact PySem.EqMixed.eq_str_bool (qb1 I q (by simp))
  |int j=>obtain⟨t',rfl⟩:=ry;exact PySem.EqMixed.eq_str_int (qb1 I q (by simp))
  |str j=>obtain⟨t',rfl⟩:=ry;exact eq_str (qb1 I q dec_str)
  |_=>exact absurd (show false=true from hs) Bool.false_ne_true
 |byt i=>
  obtain⟨t,rfl⟩:=rx
  cases y with
  |byt j=>obtain⟨t',rfl⟩:=ry;exact PySem.W.eq_bytes (qb1 I q dec_byt)
  |_=>exact absurd (show false=true from hs) Bool.false_ne_true
 |_=>cases y <;> exact absurd (show false=true from hs) Bool.false_ne_true
theorem op_ne:OpR X (compareOp .NotEq) rNe:=by
 intro pins s σ H x y v u Q I rx ry h
 obtain⟨hs,q⟩:=h
 cases x with
 |non=>
  cases rx
  cases y with
  |non=>cases ry;exact PySem.EqNone.ne_none_none (qb1 I q (by simp))
  |bl j=>cases ry;exact PySem.EqNone.ne_none_bool (qb1 I q (by simp))
  |int j=>obtain⟨t',rfl⟩:=ry;exact PySem.EqNone.ne_none_int (qb1 I q (by simp))
  |str j=>obtain⟨t',rfl⟩:=ry;exact PySem.EqNone.ne_none_str (qb1 I q (by simp))
  |_=>exact absurd (show false=true from hs) Bool.false_ne_true
 |bl i=>
  cases rx
  cases y with
  |non=>cases ry;exact PySem.EqNone.ne_bool_none (qb1 I q (by simp))
  |bl j=>cases ry;exact ne_bool (qb1 I q (congrArg not dec_bl))
  |str j=>obtain⟨t',rfl⟩:=ry;exact PySem.EqMixed.ne_bool_str (qb1 I q (by simp))
  |_=>exact absurd (show false=true from hs) Bool.false_ne_true
 |int i=>
  obtain⟨t,rfl⟩:=rx
  cases y with
  |non=>cases ry;exact PySem.EqNone.ne_int_none (qb1 I q (by simp))
  |int j=>obtain⟨t',rfl⟩:=ry;exact ne_int (qb1 I q (congrArg not dec_int))
  |str j=>obtain⟨t',rfl⟩:=ry;exact PySem.EqMixed.ne_int_str (qb1 I q (by simp))
  |_=>exact absurd (show false=true from hs) Bool.false_ne_true
 |str i=>
  obtain⟨t,rfl⟩:=rx
  cases y with
  |non=>cases ry;exact PySem.EqNone.ne_str_none (qb1 I q (by simp))
  |bl j=>cases ry;exact PySem.EqMixed.ne_str_bool (qb1 I q (by simp))
  |int j=>obtain⟨t',rfl⟩:=ry;exact PySem.EqMixed.ne_str_int (qb1 I q (by simp))
  |str j=>obtain⟨t',rfl⟩:=ry;exact ne_str (qb1 I q (congrArg not dec_str))
  |_=>exact absurd (show false=true from hs) Bool.false_ne_true
 |byt i=>
  obtain⟨t,rfl⟩:=rx
  cases y with
  |byt j=>obtain⟨t',rfl⟩:=ry;exact PySem.W.ne_bytes (qb1 I q (congrArg not dec_byt))
  |_=>exact absurd (show false=true from hs) Bool.false_ne_true
 |_=>cases y <;> exact absurd (show false=true from hs) Bool.false_ne_true
theorem op_lt:OpR X (compareOp .Lt) (rI0 fun i j=> .bl (decide (i < j))):=opB0 fun _ _ _ _ _ _ _ q=>lt_int q
theorem op_le:OpR X (compareOp .LtE) (rI0 fun i j=> .bl (decide (i<=j))):=opB0 fun _ _ _ _ _ _ _ q=>le_int q
theorem qf6:OpR X (compareOp .Gt) (rI0 fun i j=> .bl (decide (j < i))):=opB0 fun _ _ _ _ _ _ _ q=>gt_int q
theorem op_ge:OpR X (compareOp .GtE) (rI0 fun i j=> .bl (decide (j<=i))):=opB0 fun _ _ _ _ _ _ _ q=>ge_int q
theorem op_in_str:OpR X (compareOp .In) (fun x y H Q=>∃i j,x=.str i/\y=.str j/\Q (.bl (!(Builtin.Str.occurrences j i 0 j.length 1).isEmpty)) H):=by
 intro pins s σ H x y v u Q I rx ry h
 obtain⟨i,j,rfl,rfl,q⟩:=h
 obtain⟨t,rfl⟩:=rx
 obtain⟨t',rfl⟩:=ry
 exact in_str (qb1 I q rfl)
theorem op_isN:OpR X (compareOp .Is) (fun x y H Q=>y=.non/\Q (.bl (decide (x=.non))) H):=by
 intro pins s σ H x y v u Q I rx ry h
 obtain⟨rfl,q⟩:=h
 cases ry
 refine is_none_gen (qb1 I q ?_)
 cases x <;> first
  |(cases rx;rfl)
  |(obtain⟨t,rfl⟩:=rx;rfl)
theorem op_notN:OpR X (compareOp .IsNot) (fun x y H Q=>y=.non/\Q (.bl (!decide (x=.non))) H):=by
 intro pins s σ H x y v u Q I rx ry h
 obtain⟨rfl,q⟩:=h
 cases ry
 refine isnot_none_gen (qb1 I q ?_)
 cases x <;> first
  |(cases rx;rfl)
  |(obtain⟨t,rfl⟩:=rx;rfl)
theorem qap (b:Expr) {op:CmpOp} (h:op≠ .In:=by decide) (h2:op≠ .NotIn:=by decide):behindInMarks op b=false:=by
 have e1:(op==CmpOp.In)=false:=by cases op <;> first|rfl|exact absurd rfl h
 have e2:(op==CmpOp.NotIn)=false:=by cases op <;> first|rfl|exact absurd rfl h2
 cases b <;> simp [behindInMarks,e1,e2]
theorem qd4 {op:CmpOp} {r:R2} (ho:OpR X (compareOp op) r) (ha:PE X a ta) (hb:PE X b tb) (hm:behindInMarks op b=false):PE X (.Compare a [op] [b] pos) (tOp r ta tb):=by
 intro pins s σ H Q I h
 exact wpAny_Compare1 (binT ha hb I h fun v u s2 x y H2 I2 rx ry q=>ho pins s2 σ H2 x y v u Q I2 rx ry q) hm
def tTest (t:TE):TT:=fun σ H Q=>t σ H fun x H'=>∃k,x=.bl k/\Q k H'
theorem qal {op:CmpOp} {r:R2} (ho:OpR X (compareOp op) r) (ha:PE X a ta) (hb:PE X b tb) (hm:behindInMarks op b=false):PT X (.Compare a [op] [b] pos) (tTest (tOp r ta tb)):=by
 intro pins s σ H Q I h
 refine wpAny_isTrue_Compare1 (thn (ha pins s σ H _ I h) fun v s1 ⟨x,H1,I1,r1,q1⟩=>thn (hb pins s1 σ H1 _ I1 q1) fun u s2 ⟨y,H2,I2,r2,q2⟩=>
  thn (ho pins s2 σ H2 x y v u _ I2 r1 r2 q2) fun c s3 ⟨z,H3,I3,r3,k,e,q3⟩=>?_) hm
 subst e
 cases r3
 exact wpAny_truthy_bool ⟨H3,I3,q3⟩
def tChain (r r':R2) (ta tb tc:TE):TE:=fun σ H Q=>ta σ H fun x H1=>tb σ H1 fun y H2=>r x y H2 fun z H3=>∃k,z=.bl k/\
 (if k=true then tc σ H3 fun w' H4=>r' y w' H4 Q else Q (.bl false) H3)
theorem pe_chain {op op':CmpOp} {r r':R2} (ho:OpR X (compareOp op) r) (ho':OpR X (compareOp op') r') (ha:PE X a ta) (hb:PE X b tb) (hc:PE X c tc)
  (hm:lastMarks [op,op'] [b,c]=false:=by with_unfolding_all rfl):PE X (.Compare a [op,op'] [b,c] pos) (tChain r r' ta tb tc):=by
 intro pins s σ H Q I h
 refine Compare_chain (thn (ha pins s σ H _ I h) fun v s1 ⟨x,H1,I1,r1,q1⟩=>chain_link (thn (hb pins s1 σ H1 _ I1 q1) fun u s2 ⟨y,H2,I2,r2,q2⟩=>
  thn (ho pins s2 σ H2 x y v u _ I2 r1 r2 q2) fun d s3 ⟨z,H3,I3,r3,k,e,q3⟩=>?_)) hm
 subst e
 cases r3
 refine wpAny_truthy_bool ?_
 cases k with
 |false=>exact ite_ff ⟨.bl false,H3,I3,rfl,q3⟩
 |true=>exact ite_tt (chain_last (thn (hc pins s3 σ H3 _ I3 q3) fun w' s4 ⟨z',H4,I4,r4,q4⟩=>ho' pins s4 σ H4 y z' u w' Q I4 r2 r4 q4))
theorem line63:(sizeLine:Nat) < 2^63:=by rw [sizeLine_eq];decide
theorem vals1 {x:V} {us:List Value} (r:qb7 [x] us):∃u,us=[u]/\qba x u:=by
 cases r with
 |cons r1 r2=>cases r2;exact⟨_,rfl,r1⟩
theorem vals2 {x y:V} {us:List Value} (r:qb7 [x,y] us):∃u w',us=[u,w']/\qba x u/\qba y w':=by
 cases r with
 |cons r1 r2=>
  cases r2 with
  |cons r3 r4=>cases r4;exact⟨_,_,rfl,r1,r3⟩
theorem call_max2 (hc:X.calm=true):qcp X (.builtin "max") (fun xs H Q=>∃i j,xs=[.int i,.int j]/\Q (.int (if j > i then j else i)) H):=by
 intro pins s σ H xs us Q I r h
 obtain⟨i,j,rfl,q⟩:=h
 obtain⟨u,w',rfl,⟨t,rfl⟩,⟨t',rfl⟩⟩:=vals2 r
 refine max_two_ints (I.ok.hd hc) fun h' tk k=>⟨_,H,I.kept k,?_,q⟩
 by_cases hj:j > i
 .rw [if_pos hj,if_pos hj];exact⟨_,rfl⟩
 .rw [if_neg hj,if_neg hj];exact⟨_,rfl⟩
theorem call_min2 (hc:X.calm=true):qcp X (.builtin "min") (fun xs H Q=>∃i j,xs=[.int i,.int j]/\Q (.int (if j < i then j else i)) H):=by
 intro pins s σ H xs us Q I r h
 obtain⟨i,j,rfl,q⟩:=h
 obtain⟨u,w',rfl,⟨t,rfl⟩,⟨t',rfl⟩⟩:=vals2 r
 refine min_two_ints (I.ok.hd hc) fun h' tk k=>⟨_,H,I.kept k,?_,q⟩
 by_cases hj:j < i
 .rw [if_pos hj,if_pos hj];exact⟨_,rfl⟩
 .rw [if_neg hj,if_neg hj];exact⟨_,rfl⟩
end
structure ObjM (h:Heap) (x dx C:Addr) (mA:Str->Option Value):Prop where
 obj:h.get? x=some (instObj C dx)
 ns:h.Ns1 dx mA
 ne:dx≠x
theorem lookIn_ns {h:Heap} {dx:Addr} {mA:Str->Option Value} (n:h.Ns1 dx mA):∃od,h.get? dx=some od/\∀name,lookIn name od=some (mA name):=by
 obtain⟨o,es,ep,ho,hd,hk,_,hm⟩:=n
 refine⟨o,ho,fun name=>?_⟩
 have e:=hm name
 unfold nsFind findBy at e
 rw [<-Array.find?_toList] at e
 unfold lookIn
 rw [hd]
 dsimp only
 split
 .rename_i y q
  rw [q] at e
  exact congrArg some e
 .rename_i q
  rw [q] at e
  have a:es.toList.any (·.refKey)=false:=by
   rw [List.any_eq_false]
   intro y hy
   obtain⟨z,t,hkey⟩:=hk y (Array.mem_toList_iff.mp hy)
   simp [DictEntry.refKey,hkey]
  have a':¬es.toList.any (·.refKey)=true:=by rw [a];exact Bool.false_ne_true
  rw [if_neg a']
  exact congrArg some e
theorem ObjM.look {h:Heap} {x dx C:Addr} {mA:Str->Option Value} (I:ObjM h x dx C mA):∃od,PySem.W.InstAt h x (instObj C dx) C (some od)/\∀name,lookIn name od=some (mA name):=
 let ⟨od,ho,hl⟩:=lookIn_ns I.ns
 ⟨od,⟨I.obj,rfl,rfl,ho⟩,hl⟩
section
variable {prog: Program} {w: World} {A: Around} {E: Value -> Shared -> Prop} {s: Shared} {K: Frag} {x dx C f: Addr} {mA: Str -> Option Value} {name: Str} {v: Value}
theorem get_map {expr:Bool} {Q:Value->Shared->Prop} (X:K.In s.heap) (I:ObjM s.heap x dx C mA) (hg:plainGet K C name=true) (hh:hasDictIn K C=true)
  (ha:findIn K (.ref C) name=some none) (hv:mA name=some v) (hv':PySem.W.handedIn v=true) (h:Q v {s with toks:=s.toks+1}):
  wpAny (model prog w) A (getAttr (.ref x) name expr) Q E s:=by
 obtain⟨od,J,hl⟩:=I.look
 exact PySem.W.get_value X J (PySem.W.plainGet_of hg).1 (PySem.W.findObj_own hh ha rfl (by rw [hl,hv])) hv' h
theorem get_meth {pl:Sem Bool} {Q:Value × List Value->Shared->Prop} (X:K.In s.heap) (I:ObjM s.heap x dx C mA) (hg:plainGet K C name=true)
  (hf:findIn K (.ref C) name=some (some (.ref f))) (ht:isFn K (.ref f)=true) (hv:mA name=none) (h:Q (.ref f, [.ref x]) s):
  wpAny (model prog w) A (getMethod (.ref x) name pl) Q E s:=by
 obtain⟨od,J,hl⟩:=I.look
 exact PySem.W.method_fn X J (PySem.W.plainGet_of hg).1 (PySem.W.plainGet_of hg).2 hf (beq_iff_eq.mp ht) (by show (lookIn name od).map (·.isSome)=some false;rw [hl,hv];rfl) h
theorem set_map {ns:List Str} {Q:Unit->Shared->Prop} (X:K.In s.heap) (I:ObjM s.heap x dx C mA)
  (hs:findIn K (.ref C) "__setattr__" =some (some (.builtin "object.__setattr__"))) (hp:PySem.W.plainOver K C=true) (ht:PySem.W.takerIn K C name=some none) (hh:hasDictIn K C=true)
  (hw:PySem.Within mA ns) (hsz:ns.length<=sizeLine)
  (h:∀h',ObjM h' x dx C (fun y=>if y=name then some v else mA y)->Heap.SameBut dx s.heap h'->Q () {s with heap:=h',toks:=s.toks+2}):
  wpAny (model prog w) A (setAttr (.ref x) name v) Q E s:=by
 obtain⟨od,J,hl⟩:=I.look
 refine PySem.W.set_plain X J hs (PySem.W.osa_open (s:={s with toks:=s.toks+1}) (r:=none) X J hp ht fun b=>?_)
 obtain⟨cd,hc,hd'⟩:=PySem.W.any_some hh
 have hx:s.heap.get? x=some ⟨.ref C,some dx,.plain,#[]⟩:=I.obj
 refine wpAny_bind (wpAny_pure (wpAny_bind (wpAny_bind (wpAny_loadPart hx (wpAny_bind (PySem.W.Looks.here (s:={s with toks:=s.toks+1}) (PySem.W.looks_clsIn X hc) ?_))))))
 rw [hd']
 refine wpAny_pure (a:=some dx) (wpAny_bind (wpAny_pure (wpAny_bind ?_)))
 refine wpAny_nsSet1 (s:={s with toks:=s.toks+1}) I.ns fun h' hn2 hs2=>?_
 obtain⟨oD,esD,epD,hoD,hdD,hcD⟩:=hn2.count (PySem.Within.cons name v hw)
 refine wpAny_bind (wpAny_lookBehind hoD (by rw [hdD];exact pastItsLine_dict (Nat.le_trans hcD (by rw [zR];omega))) ?_)
 exact wpAny_pure (h _ ⟨(hs2.2 _ (Ne.symm I.ne)).trans I.obj,hn2,I.ne⟩ hs2)
theorem make_map {R:Result->Shared->Prop} {vs:List Value} {kw:List (Str × Value)} (X:K.In s.heap) (hm:PySem.W.makesIn K C=true)
  (hi:findIn K (.ref C) "__init__" =some (some (.ref f))) (hf:PySem.W.typeIn K (.ref f)=some (.type "function"))
  (h:codeAny (model prog w) (A.under (.builtin "type.__call__" ⟨.ref C :: vs,kw⟩)) (.call (.ref f) ⟨.ref (s.heap.objs.size+1) :: vs,kw⟩) (PySem.W.InitBack (s.heap.objs.size+1) R)
   {s with heap:=(s.heap.push emptyDict).push (instObj C s.heap.objs.size)}):
  codeAny (model prog w) A (.call (.ref C) ⟨vs,kw⟩) R s:=by
 obtain⟨hh,g,d,t,os⟩:=s
 exact PySem.W.make_core (PySem.W.makes_of X hm) (PySem.W.looks_findIn X hi) (fun self=>PySem.W.bind_fn X self hf) (.inl rfl) h
end
def qdw (f:Str) (v:V):List (Str × V)->List (Str × V)
 | []=> [(f,v)]
 |(g,x) :: r=>if g=f then (g,v) :: r else (g,x) :: qdw f v r
theorem qf7 (f g:Str) (v:V):∀fs:List (Str × V),(qdw f v fs).lookup g=if g=f then some v else fs.lookup g
 | []=>by
  show List.lookup g [(f,v)]=_
  by_cases h:g=f
  .have hb:(g==f)=true:=beq_iff_eq.mpr h
   simp only [List.lookup,hb,if_pos h]
  .have hb:(g==f)=false:=beq_eq_false_iff_ne.mpr h
   simp only [List.lookup,hb,if_neg h]
 |(k,x) :: r=>by
  have ih:=qf7 f g v r
  rw [show qdw f v ((k,x) :: r)=(if k=f then (k,v) :: r else (k,x) :: qdw f v r) from rfl]
  by_cases hk:k=f
  .rw [if_pos hk]
   by_cases h:g=k
   .have hb:(g==k)=true:=beq_iff_eq.mpr h
    simp only [List.lookup,hb,if_pos (h.trans hk)]
   .have hb:(g==k)=false:=beq_eq_false_iff_ne.mpr h
    simp only [List.lookup,hb,if_neg (fun e:g=f=>h (e.trans hk.symm))]
  .rw [if_neg hk]
   by_cases h:g=k
   .have hb:(g==k)=true:=beq_iff_eq.mpr h
    simp only [List.lookup,hb,if_neg (fun e:g=f=>hk (h.symm.trans e))]
   .have hb:(g==k)=false:=beq_eq_false_iff_ne.mpr h
    simp only [List.lookup,hb]
    exact ih
theorem qf9 (f:Str) (v:V):∀fs:List (Str × V),f∈(qdw f v fs).map (·.1)/\∀g,g∈fs.map (·.1)->g∈(qdw f v fs).map (·.1)
 | []=>⟨by simp [qdw],fun g h=>by simp at h⟩
 |(k,x) :: r=>by
  obtain⟨i1,i2⟩:=qf9 f v r
  rw [show qdw f v ((k,x) :: r)=(if k=f then (k,v) :: r else (k,x) :: qdw f v r) from rfl]
  by_cases hk:k=f
  .rw [if_pos hk]
   subst hk
   exact⟨by simp,fun g h=>by simpa using h⟩
  .rw [if_neg hk]
   refine⟨?_,fun g h=>?_⟩
   .rw [zM]
    exact zF _ i1
   .rw [zM] at h ⊢
    rcases zV.mp h with e|e
    .exact zV.mpr (.inl e)
    .exact zF _ (i2 g e)
theorem qf8 (f:Str) (v:V):∀fs:List (Str × V),(qdw f v fs).length<=fs.length+1
 | []=>by simp [qdw]
 |(k,x) :: r=>by
  have ih:=qf8 f v r
  rw [show qdw f v ((k,x) :: r)=(if k=f then (k,v) :: r else (k,x) :: qdw f v r) from rfl]
  by_cases hk:k=f
  .rw [if_pos hk,zR,zR];omega
  .rw [if_neg hk,zR,zR];omega
theorem qg7.some_of {v:V} {o:Option Value} (r:qg7 (some v) o):∃u,o=some u/\qba v u:=by
 cases o with
 |none=>exact(show False from r).elim
 |some u=>exact⟨u,rfl,r⟩
theorem qg7.none_of {o:Option Value} (r:qg7 none o):o=none:=by
 cases o with
 |none=>rfl
 |some u=>exact(show False from r).elim
theorem handed_of {v:V} {u:Value} (r:qba v u):PySem.W.handedIn u=true:=by
 cases v with
 |non=>cases (show u=Value.none from r);rfl
 |bl b=>cases (show u=Value.bool b from r);rfl
 |int i=>obtain⟨t,e⟩:=(show ∃t,u=Value.int i t from r);cases e;rfl
 |str x=>obtain⟨t,e⟩:=(show ∃t,u=Value.str x t from r);cases e;rfl
 |byt b=>obtain⟨t,e⟩:=(show ∃t,u=Value.bytes b t from r);cases e;rfl
 |flt b=>obtain⟨t,e⟩:=(show ∃t,u=Value.float b t from r);cases e;rfl
 |ref a=>cases (show u=Value.ref a from r);rfl
 |ty n=>cases (show u=Value.type n from r);rfl
section
variable {P: Program} {w: World} {H: Hp} {h: Heap} {a C dx: Addr} {fs: List (Str × V)}
theorem qgu (hok:HOk P w H h) (e:H a=some (.ins C dx fs)):∃mA,ObjM h a dx C mA/\(∀f,qg7 (fs.lookup f) (mA f))/\PySem.Within mA (fs.map (·.1))/\fs.length<=1000/\H dx=some (.own a):=by
 obtain⟨d,z,ne,ob,mA,n,r,q⟩:=(show qbp P w H h a (.ins C dx fs) from hok a _ e)
 exact⟨mA,⟨ob,n,ne⟩,r,q,z,d⟩
end
structure Cls (K:Frag) (C:Addr):Prop where
 pg:plainGet K C Str.empty=true
 hd:hasDictIn K C=true
 po:PySem.W.plainOver K C=true
 sa:findIn K (.ref C) "__setattr__" =some (some (.builtin "object.__setattr__"))
theorem Cls.get {K:Frag} {C:Addr} (c:Cls K C) (f:Str):plainGet K C f=true:=c.pg
def qak (K:Frag) (C:Addr) (f:Str):Prop:=findIn K (.ref C) f=some none
theorem qak.taker {K:Frag} {C:Addr} {f:Str} (n:qak K C f):PySem.W.takerIn K C f=some none:=by
 unfold PySem.W.takerIn
 rw [show findIn K (.ref C) f=some none from n]
 rfl
structure Con (K:Frag) (C:Addr) (f:Str) (v:V) (u:Value):Prop where
 at_:findIn K (.ref C) f=some (some u)
 rel:qba v u
 get:specialIn K u "__get__" =some none
 cp:PySem.W.copiedNames.contains f=false
structure Meth (K:Frag) (C:Addr) (m:Str) (f:Addr):Prop where
 at_:findIn K (.ref C) m=some (some (.ref f))
 fn:isFn K (.ref f)=true
 kp:keepIn K (.ref f)=true
section
variable {X: Cx} {pins: List (Addr × Obj)} {σ: St} {H: Hp} {s: Shared} {a C dx: Addr} {fs: List (Str × V)} {f: Str} {v: V} {A: Around} {E: Value -> Shared -> Prop}
theorem qg3 {b:Bool} {Q:Value->Shared->Prop} (I:Inv X pins σ H s) (e:H a=some (.ins C dx fs)) (c:Cls X.K C) (n:qak X.K C f) (l:fs.lookup f=some v)
  (h:∀u s',Inv X pins σ H s'->qba v u->Q u s'):wpAny (model X.prog X.w) A (getAttr (.ref a) f b) Q E s:=by
 obtain⟨mA,O,r,_,_,_⟩:=qgu I.hok e
 obtain⟨u,hu,ru⟩:=qg7.some_of (v:=v) (o:=mA f) (by rw [<-l];exact r f)
 exact get_map I.kIn O (c.get f) c.hd n hu (handed_of ru) (h u _ (I.tok _) ru)
theorem qcz {m:Str} {g:Addr} {pl:Sem Bool} {Q:Value × List Value->Shared->Prop} (I:Inv X pins σ H s) (e:H a=some (.ins C dx fs)) (c:Cls X.K C) (k:Meth X.K C m g) (l:fs.lookup m=none)
  (h:Q (.ref g, [.ref a]) s):wpAny (model X.prog X.w) A (getMethod (.ref a) m pl) Q E s:=by
 obtain⟨mA,O,r,_,_,_⟩:=qgu I.hok e
 have hn:mA m=none:=qg7.none_of (by rw [<-l];exact r m)
 exact get_meth I.kIn O (c.get m) k.at_ k.fn hn h
theorem qfx {y:V} {u:Value} {Q:Unit->Shared->Prop} (I:Inv X pins σ H s) (e:H a=some (.ins C dx fs)) (c:Cls X.K C) (n:qak X.K C f) (hl:fs.length < 1000) (ry:qba y u)
  (h:∀s',Inv X pins σ (upd H a (.ins C dx (qdw f y fs))) s'->Q () s'):wpAny (model X.prog X.w) A (setAttr (.ref a) f u) Q E s:=by
 obtain⟨mA,O,r,wi,_,ho⟩:=qgu I.hok e
 have hz:(fs.map (·.1)).length<=sizeLine:=by rw [zB,sizeLine_eq];omega
 refine set_map I.kIn O c.sa c.po n.taker c.hd wi hz fun h' O' sb=>h _ ?_
 have hd:∃o,h'.get? dx=some o:=let ⟨o,_,_,e',_⟩:=O'.ns;⟨o,e'⟩
 refine I.write (x:=a) (e:=dx) (by rw [e];exact True.intro) (.inr ho) (fun b q hb z=>(sb.2 b hb).trans z) hd ?_
 refine⟨by rw [qa6 O.ne];exact ho,?_,O.ne,O'.obj,_,O'.ns,fun g=>?_,fun g hg=>?_⟩
 .have:=qf8 f y fs;omega
 .show qg7 ((qdw f y fs).lookup g) (if g=f then some u else mA g)
  rw [qf7]
  by_cases q:g=f
  .rw [if_pos q,if_pos q];exact ry
  .rw [if_neg q,if_neg q];exact r g
 .by_cases q:g=f
  .rw [q];exact(qf9 f y fs).1
  .refine(qf9 f y fs).2 g (wi g fun z=>hg ?_)
   show (if g=f then some u else mA g)=none
   rw [if_neg q];exact z
theorem Inv.made (I:Inv X pins σ H s):Inv X pins σ (upd (upd H s.heap.objs.size (.own (s.heap.objs.size+1))) (s.heap.objs.size+1) (.ins C s.heap.objs.size []))
  {s with heap:=(s.heap.push emptyDict).push (instObj C s.heap.objs.size)}:=by
 have e1:(s.heap.push emptyDict).get? s.heap.objs.size=some emptyDict:=Heap.get?_push_size s.heap rfl
 have e2:((s.heap.push emptyDict).push (instObj C s.heap.objs.size)).get? (s.heap.objs.size+1)=some (instObj C s.heap.objs.size):=by
  have:=Heap.get?_push_size (s.heap.push emptyDict) (o:=instObj C s.heap.objs.size) rfl
  rwa [Heap.size_push] at this
 have e3:(s.heap.push emptyDict).Ns s.heap.objs.size (fun _=>none):=⟨emptyDict,#[],_,e1,rfl,(fun e he=>absurd he (by simp)),fun _=>rfl⟩
 have I1:=I.laid (a:=s.heap.objs.size) (o:=.own (s.heap.objs.size+1)) (h':=s.heap.push emptyDict) (t':=s.toks) (fun b u q=>Heap.get?_push_of_some _ q) (Nat.le_refl _) ⟨_,e1⟩
 refine I1.laid (a:=s.heap.objs.size+1) (o:=.ins C s.heap.objs.size []) (t':=s.toks) (fun b u q=>Heap.get?_push_of_some _ q) (Nat.le_of_eq (Heap.size_push _ _)) ?_
 have ne:s.heap.objs.size≠s.heap.objs.size+1:=Nat.ne_of_lt (Nat.lt_succ_self _)
 refine⟨by rw [qa6 ne,qa1],Nat.zero_le _,ne,e2,fun _=>none,(Heap.Ns1.of_empty e3).at fun o q=>Heap.get?_push_of_some _ q,fun _=>True.intro,fun y hy=>absurd rfl hy⟩
theorem attr_of {prog:Program} {w:World} {env:Env} {e:Expr} {f:Str} {pos:Pos} {s:Shared} {Q:Value->Shared->Prop} (hb:attributeBase e f env (eval e env)=eval e env)
  (h:wpAny (model prog w) A (eval e env) (fun o s₁=>wpAny (model prog w) A (getAttr o f true) Q E s₁) E s):wpAny (model prog w) A (eval (.Attribute e f pos) env) Q E s:=
 Attribute_any_ h (by rw [arm_eval_Attribute,hb])
end
def tFld (K:Frag) (ta:TE) (f:Str):TE:=fun σ H Q=>ta σ H fun x H1=>∃a C dx fs v,x=.ref a/\H1 a=some (.ins C dx fs)/\Cls K C/\qak K C f/\fs.lookup f=some v/\Q v H1
def sFld (K:Frag) (ta tv:TE) (f:Str):TS:=fun D σ H=>tv σ H fun y H1=>ta σ H1 fun x H2=>∃a C dx fs,x=.ref a/\H2 a=some (.ins C dx fs)/\Cls K C/\qak K C f/\fs.length < 1000/\
 D.nx σ (upd H2 a (.ins C dx (qdw f y fs)))
def InOp (X:Cx) (op:Operator) (rd:V->V->Hp->VK->Prop):Prop:=
 ∀(pins:List (Addr × Obj)) (s:Shared) (σ:St) (H:Hp) (x y:V) (u v:Value) (Q:VK),Inv X pins σ H s->qba x u->qba y v->rd x y H Q->wpAny (model X.prog X.w) X.A (inplaceOp op u v) (EP X pins σ Q) X.xe s
def sFldAug (K:Frag) (ta tv:TE) (rd:V->V->Hp->VK->Prop) (f:Str):TS:=fun D σ H=>ta σ H fun x H1=>∃a C dx fs v,x=.ref a/\H1 a=some (.ins C dx fs)/\Cls K C/\qak K C f/\fs.lookup f=some v/\
 tv σ H1 fun y H2=>rd v y H2 fun z H3=>∃dx' fs',H3 a=some (.ins C dx' fs')/\fs'.length < 1000/\D.nx σ (upd H3 a (.ins C dx' (qdw f z fs')))
section
variable {X: Cx} {o e value: Expr} {f: Str} {pos pos' tpos: Pos} {ta tv: TE}
theorem qaj (he:PE X e ta) (hb:attributeBase e f X.env (eval e X.env)=eval e X.env):PE X (.Attribute e f pos) (tFld X.K ta f):=by
 intro pins s σ H Q I h
 refine attr_of hb (thn (he pins s σ H _ I h) fun u s1 ⟨x,H1,I1,rx,a,C,dx,fs,v,ex,ea,c,n,l,q⟩=>?_)
 subst ex
 obtain rfl:u=Value.ref a:=rx
 exact qg3 I1 ea c n l fun u' s2 I2 ru=>⟨v,H1,I2,ru,q⟩
theorem qcg (ha:PE X o ta) (hv:PE X value tv) (hs:swapsWith value (some (.Attribute o f pos')) pos.line X.env=pure false):PS X (.Assign [.Attribute o f pos'] value pos) (sFld X.K ta tv f):=by
 intro pins s σ H D I h
 refine plainObj_wpAny_Assign_Attribute (thn (hv pins s σ H _ I h) fun u s1 ⟨y,H1,I1,ry,q⟩=>thn (ha pins s1 σ H1 _ I1 q) fun ov s2 ⟨x,H2,I2,rx,a,C,dx,fs,ex,ea,c,n,l,q2⟩=>?_) hs
 subst ex
 obtain rfl:ov=Value.ref a:=rx
 exact qfx I2 ea c n l ry fun s3 I3=>⟨σ,_,I3,q2⟩
theorem ps_fldaug {op:Operator} {rd:V->V->Hp->VK->Prop} (ha:PE X o ta) (hv:PE X value tv) (hop:InOp X op rd):PS X (.AugAssign (.Attribute o f tpos) op value pos) (sFldAug X.K ta tv rd f):=by
 intro pins s σ H D I h
 refine wpAny_AugAssign_AttributeAny (thn (ha pins s σ H _ I h) fun ov s1 ⟨x,H1,I1,rx,a,C,dx,fs,v,ex,ea,c,n,l,q⟩=>?_)
 subst ex
 obtain rfl:ov=Value.ref a:=rx
 refine qg3 I1 ea c n l fun u s2 I2 ru=>thn (hv pins s2 σ H1 _ I2 q) fun w3 s3 ⟨y,H2,I3,ry,q3⟩=>thn (hop pins s3 σ H2 v y u w3 _ I3 ru ry q3) fun w4 s4 ⟨z,H3,I4,rz,dx',fs',ea',l',q4⟩=>?_
 exact qfx I4 ea' c n l' rz fun s5 I5=>⟨σ,_,I5,q4⟩
def rAdd:V->V->Hp->VK->Prop:=fun x y H Q=>∃i j,x=.int i/\y=.int j/\Q (.int (i+j)) H
theorem in_add:InOp X .Add rAdd:=by
 rintro pins s σ H x y u v Q I rx ry ⟨i,j,rfl,rfl,q⟩
 obtain⟨t,rfl⟩:=(show ∃t,u=Value.int i t from rx)
 obtain⟨t',rfl⟩:=(show ∃t',v=Value.int j t' from ry)
 exact PyProof.Rows.iadd_int ⟨.int (i+j),H,I.tok _,⟨_,rfl⟩,q⟩
theorem methcall_of {pl:Sem Bool} {m:Str} {apos:Pos} {args:List Expr} {pins:List (Addr × Obj)} {s:Shared} {σ:St} {H:Hp} {Q:Value->Shared->Prop} {te:TE} (he:PE X e te) (I:Inv X pins σ H s)
  (h:te σ H fun x H1=>∃a C dx fs g,x=.ref a/\H1 a=some (.ins C dx fs)/\Cls X.K C/\Meth X.K C m g/\fs.lookup m=none/\
   ∀s1,Inv X pins σ H1 s1->wpAny (model X.prog X.w) X.A (callWith pos (.ref g) [.ref a] (backTo pos (starEach args X.env)) (backToKw pos (keywordEach [] X.env))) Q X.xe s1)
  (ht:eval (.Call (.Attribute e m apos) args [] pos) X.env=(do
   let ov<-eval e X.env
   standAt apos.atName
   let (f,first)<-holding [ov] (getMethod ov m pl)
   callWith pos f first (backTo pos (starEach args X.env)) (backToKw pos (keywordEach [] X.env)))):
  wpAny (model X.prog X.w) X.A (eval (.Call (.Attribute e m apos) args [] pos) X.env) Q X.xe s:=by
 refine PySem.W.methodCall_KW (pl:=pl) (thn (he pins s σ H _ I h) fun u s1 ⟨x,H1,I1,rx,a,C,dx,fs,g,ex,ea,c,k,l,q⟩=>?_) ht
 subst ex
 obtain rfl:u=Value.ref a:=rx
 exact qcz I1 ea c k l (q s1 I1)
end
section
variable {X: Cx} {pins: List (Addr × Obj)} {σ: St} {H: Hp} {s: Shared} {A: Around} {E: Value -> Shared -> Prop} {Q: Value -> Shared -> Prop} {c: Value} {b: Bool}
inductive TyOf (K:Frag) (H:Hp):V->Value->Prop where
 |non:TyOf K H .non (.type "NoneType")
 |bl (x:Bool):TyOf K H (.bl x) (.type "bool")
 |int (i:Int):TyOf K H (.int i) (.type "int")
 |str (x:Str):TyOf K H (.str x) (.type "str")
 |flt (x:UInt64):TyOf K H (.flt x) (.type "float")
 |lst {a:Addr} {xs:List V} (e:H a=some (.lst xs)):TyOf K H (.ref a) (.type "list")
 |frz {a:Addr} {o:Obj} {xs:List V} (e:H a=some (.frz o (.lst xs))):TyOf K H (.ref a) (.type "list")
 |tup {a:Addr} {xs:List V} (e:H a=some (.tup xs)):TyOf K H (.ref a) (.type "tuple")
 |dK {a:Addr} {kvs:List (Key × V)} (e:H a=some (.dK kvs)):TyOf K H (.ref a) (.type "dict")
 |dT {a:Addr} {kvs:List (List Key × V)} (e:H a=some (.dT kvs)):TyOf K H (.ref a) (.type "dict")
 |ins {a C dx:Addr} {fs:List (Str × V)} (e:H a=some (.ins C dx fs)) (cl:Cls K C) (ha:findIn K (.ref C) "__class__" =some (some (.builtin "object.__class__")))
   (hn:specialIn K (.builtin "object.__class__") "__get__" =some (some (.builtin "getset_descriptor.__get__"))) (htk:PySem.W.takesIn K (.builtin "object.__class__")=some true)
   (hm:mroIn K C (.type "object")=some true):TyOf K H (.ref a) (.ref C)
theorem isinst_ok {x:V} {u t:Value} (I:Inv X pins σ H s) (rx:qba x u) (ty:TyOf X.K H x t) (e:kitOne X.K t c=some b) (h:∀tk,Q (.bool b) {s with toks:=tk}):
  wpAny (model X.prog X.w) A (call (.builtin "isinstance") [u,c]) Q E s:=by
 cases ty with
 |non=>cases (show u=Value.none from rx);exact PySem.W.kia_one PySem.W.kitx_none I.kIn True.intro e (fun z=>nomatch z) h
 |bl y=>cases (show u=Value.bool y from rx);exact PySem.W.kia_one PySem.W.kitx_bool I.kIn True.intro e (fun z=>nomatch z) h
 |int i=>obtain⟨t,q⟩:=(show ∃t,u=Value.int i t from rx);cases q;exact PySem.W.kia_one PySem.W.kitx_int I.kIn True.intro e (fun z=>nomatch z) h
 |str y=>obtain⟨t,q⟩:=(show ∃t,u=Value.str y t from rx);cases q;exact PySem.W.kia_one PySem.W.kitx_str I.kIn True.intro e (fun z=>nomatch z) h
 |flt y=>obtain⟨t,q⟩:=(show ∃t,u=Value.float y t from rx);cases q;exact PySem.W.kia_one PySem.W.kitx_float I.kIn True.intro e (fun z=>nomatch z) h
 | @lst a xs ea=>
  cases (show u=Value.ref a from rx)
  obtain⟨_,_,n,_,h1⟩:=(show qbp X.prog X.w H s.heap a (.lst xs) from I.hok a _ ea)
  exact PySem.W.kia_one PySem.W.kitx_list I.kIn ⟨_,h1,rfl⟩ e (fun z=>nomatch z) h
 | @frz a ob xs ea=>
  cases (show u=Value.ref a from rx)
  obtain⟨_,_,_,n,_,h1⟩:=(show qbp X.prog X.w H s.heap a (.frz ob (.lst xs)) from I.hok a _ ea)
  exact PySem.W.kia_one PySem.W.kitx_list I.kIn ⟨_,h1,rfl⟩ e (fun z=>nomatch z) h
 | @tup a xs ea=>
  cases (show u=Value.ref a from rx)
  obtain⟨_,_,_,p⟩:=(show qbp X.prog X.w H s.heap a (.tup xs) from I.hok a _ ea)
  obtain⟨o,h1,h2,_⟩:=p
  exact PySem.W.kia_one PySem.W.kitx_tuple I.kIn ⟨o,h1,h2⟩ e (fun z=>nomatch z) h
 | @dK a kvs ea=>
  cases (show u=Value.ref a from rx)
  obtain⟨_,_,vs,_,p⟩:=(show qbp X.prog X.w H s.heap a (.dK kvs) from I.hok a _ ea)
  obtain⟨o,es,ep,h1,h2,_⟩:=p
  exact PySem.W.kia_one PySem.W.kitx_dict I.kIn ⟨o,h1,h2.1⟩ e (fun z=>nomatch z) h
 | @dT a kvs ea=>
  cases (show u=Value.ref a from rx)
  obtain⟨_,_,xs,_,o,es,ep,h1,h2,_⟩:=(show qbp X.prog X.w H s.heap a (.dT kvs) from I.hok a _ ea)
  exact PySem.W.kia_one PySem.W.kitx_dict I.kIn ⟨o,h1,h2.1⟩ e (fun z=>nomatch z) h
 | @ins a C dx fs ea cl ha hn htk hm=>
  cases (show u=Value.ref a from rx)
  obtain⟨mA,O,_⟩:=qgu I.hok ea
  obtain⟨od,J,_⟩:=O.look
  exact PySem.W.kia_one (PySem.W.kitx_own (cl.get _) cl.hd ha hn htk hm) I.kIn J e (fun z=>nomatch z) h
end
structure Room (k:Nat) (A:Around):Prop where
 hd:A.handled=none
 dp:A.depth+3*k+5 < recursionLimit
 un:A.units+16*k+200 < cLine
theorem Room.mono {j k:Nat} {A:Around} (r:Room k A) (h:j<=k):Room j A:=⟨r.hd,by have:=r.dp;omega,by have:=r.un;omega⟩
theorem Room.deeper {k:Nat} {A:Around} (r:Room (k+1) A) (env:Env):Room k (A.deeper env):=
 ⟨r.hd,by have:=r.dp;show A.depth+1+3*k+5 < _;omega,by have:=r.un;show A.units+3+16*k+200 < _;omega⟩
theorem make_depth {A:Around} {C:Addr} {us:List Value} {kw:List (Str × Value)}:(A.under (.builtin "type.__call__" ⟨.ref C :: us,kw⟩)).depth=A.depth+1:=by
 first|rfl|simp [Around.under,Code.weight,Code.isCreation,Code.isGuard,Code.isCaller,Code.frames,Code.isFrame,guardIds]
theorem make_units {A:Around} {C:Addr} {us:List Value} {kw:List (Str × Value)}:(A.under (.builtin "type.__call__" ⟨.ref C :: us,kw⟩)).units=A.units+1:=by
 first|rfl|simp [Around.under,Code.cUnits,Code.frames,Code.isFrame]
theorem Room.make {k:Nat} {A:Around} (r:Room (k+1) A) (C:Addr) (us:List Value) (kw:List (Str × Value)):Room k (A.under (.builtin "type.__call__" ⟨.ref C :: us,kw⟩)):=
 ⟨r.hd,by have:=r.dp;rw [make_depth];omega,by have:=r.un;rw [make_units];omega⟩
theorem Room.depth {k:Nat} {A:Around} (r:Room k A):A.depth < recursionLimit:=by have:=r.dp;omega
theorem Room.units {k:Nat} {A:Around} (r:Room k A):A.units+64 < cLine:=by have:=r.un;omega
def tNil:TA:=fun _ H Q=>Q [] H
def tCons (ta:TE) (tr:TA):TA:=fun σ H Q=>ta σ H fun x H1=>tr σ H1 fun xs H2=>Q (x :: xs) H2
section
variable {X: Cx} {e: Expr} {es: List Expr} {te: TE} {t: TA} {pos: Pos}
theorem qa3:PA X [] tNil:=fun _ _ _ _ H Q I h=>Calls.spliced_nil ⟨[],H,I,.nil,h⟩
theorem qa0 (ha:PE X e te) (hr:PA X es t) (hs:starEach (e :: es) X.env=(false,eval e X.env) :: starEach es X.env:=by rfl):PA X (e :: es) (tCons te t):=by
 intro pos pins s σ H Q I h
 rw [hs]
 show wpAny _ _ (spliced ((false,eval e X.env) :: backTo pos (starEach es X.env))) _ _ s
 refine Calls.spliced_cons (thn (ha pins s σ H _ I h) fun u s1 ⟨x,H1,I1,r1,q1⟩=>?_)
 exact thn (hr pos pins s1 σ H1 _ I1 q1) fun us s2 ⟨xs,H2,I2,r2,q2⟩=>⟨x :: xs,H2,I2,.cons r1 r2,q2⟩
def tTup (t:TA):TE:=fun σ H Q=>t σ H fun xs H1=>xs.length<=sizeLine/\∀p,H1 p=none->Q (.ref p) (upd H1 p (.tup xs))
def tLst (t:TA):TE:=fun σ H Q=>t σ H fun xs H1=>xs.length<=sizeLine/\∀p,H1 p=none->Q (.ref p) (upd H1 p (.lst xs))
theorem qg0 {x1} (h:PA X es t):PE X (.Tuple es x1 pos) (tTup t):=by
 intro pins s σ H Q I hq
 refine wpAny_Tuple_spliced (thn (h pos pins s σ H _ I hq) fun us s1 ⟨xs,H1,I1,r,z,q⟩=>⟨by rw [<-r.length];exact z,?_⟩)
 have hf:H1 s1.heap.objs.size=none:=I1.hok.fresh (Nat.le_refl _)
 refine⟨.ref s1.heap.objs.size,upd H1 s1.heap.objs.size (.tup xs),I1.laid (t':=s1.toks) (fun b u e=>Heap.get?_push_of_some _ e) (Nat.le_refl _) ?_,rfl,q _ hf⟩
 exact⟨z,us,r,⟨_,Heap.get?_push_size _ rfl,rfl,_,rfl⟩⟩
theorem qcb (h:PA X es t):PE X (.List es pos) (tLst t):=by
 intro pins s σ H Q I hq
 refine wpAny_List_spliced (thn (h pos pins s σ H _ I hq) fun us s1 ⟨xs,H1,I1,r,z,q⟩=>⟨by rw [<-r.length];exact z,?_⟩)
 have hf:H1 s1.heap.objs.size=none:=I1.hok.fresh (Nat.le_refl _)
 refine⟨.ref s1.heap.objs.size,upd H1 s1.heap.objs.size (.lst xs),I1.laid (t':=s1.toks) (fun b u e=>Heap.get?_push_of_some _ e) (Nat.le_refl _) ?_,rfl,q _ hf⟩
 exact⟨z,us,0,r,Heap.get?_push_size _ rfl⟩
end
abbrev Sp:=List V->Hp->VK->XK->Prop
abbrev CXT:=List Env->Hp->Shared->XK->Value->Shared->Prop
structure Env0 (P:Program) (w:World) (K:Frag) (mg:Str->Option Value) (base:Heap) (A:Around) (outer:List Env) (s:Shared) (H:Hp):Prop where
 frames:A.frames=some outer
 mod:Mod K mg base
 bs:∀b o,base.get? b=some o->s.heap.get? b=some o/\H b=none
 bsz:base.objs.size<=s.heap.objs.size
 funs:s.heap.FunFrames base outer
 frf:∀b∈frs outer,H b=none
 hok:HOk P w H s.heap
 bare:AllBare s.gens
def CE (outer:List Env) (P:Program) (w:World) (H:Hp) (s:Shared) (Q:VK) (u:Value) (s':Shared):Prop:=
 ∃v H',s'.os=s.os/\AllBare s'.gens/\Un (frs outer) [] H H' s.heap s'.heap/\HOk P w H' s'.heap/\qba v u/\Q v H'
def CR (CX:CXT) (outer:List Env) (P:Program) (w:World) (H:Hp) (s:Shared) (Q:VK) (E:XK) (r:Result) (s':Shared):Prop:=
 match r with
 | .ok (.ret u)=>CE outer P w H s Q u s'
 | .ok _=>False
 | .error e=>CX outer H s E e s'
structure FnOk (P:Program) (w:World) (K:Frag) (mg:Str->Option Value) (base:Heap) (CX:CXT) (k:Nat) (f:Addr) (fd:FuncData) (ps:List Str) (sp:Sp):Prop where
 len:∀vs H Q E,sp vs H Q E->vs.length=ps.length
 run:∀(A:Around) (outer:List Env) (s:Shared) (H:Hp) (args:Args) (us:List Value) (vs:List V) (Q:VK) (E:XK),Room k A->Env0 P w K mg base A outer s H->BindsTo s fd args (ps.zip us)->qb7 vs us->sp vs H Q E->
  codeAny (model P w) A (.call (.ref f) args) (CR CX outer P w H s Q E) s
theorem FnOk.mono {P:Program} {w:World} {K:Frag} {mg:Str->Option Value} {base:Heap} {CX:CXT} {j k:Nat} {f:Addr} {fd:FuncData} {ps:List Str} {sp:Sp} (F:FnOk P w K mg base CX j f fd ps sp) (h:j<=k):
  FnOk P w K mg base CX k f fd ps sp:=⟨F.len,fun A outer s H args us vs Q E hr=>F.run A outer s H args us vs Q E (hr.mono h)⟩
theorem FnOk.imp {P:Program} {w:World} {K:Frag} {mg:Str->Option Value} {base:Heap} {CX:CXT} {k:Nat} {f:Addr} {fd:FuncData} {ps:List Str} {sp sp':Sp} (F:FnOk P w K mg base CX k f fd ps sp)
  (h:∀vs H Q E,sp' vs H Q E->sp vs H Q E):FnOk P w K mg base CX k f fd ps sp':=
 ⟨fun vs H Q E q=>F.len vs H Q E (h _ _ _ _ q),fun A outer s H args us vs Q E hr he hb hv hs=>F.run A outer s H args us vs Q E hr he hb hv (h _ _ _ _ hs)⟩
theorem Env0.make {P:Program} {w:World} {K:Frag} {mg:Str->Option Value} {base:Heap} {A:Around} {outer:List Env} {s:Shared} {H:Hp} (e:Env0 P w K mg base A outer s H) (C:Addr) (us:List Value) (kw:List (Str × Value)):
  Env0 P w K mg base (A.under (.builtin "type.__call__" ⟨.ref C :: us,kw⟩)) outer s H:=⟨by first|exact e.frames|(simpa [Around.under,Code.envs,Code.isFrame,pushEnvs] using e.frames),e.mod,e.bs,e.bsz,e.funs,e.frf,e.hok,e.bare⟩
section
variable {X: Cx} {pins: List (Addr × Obj)} {σ: St} {H: Hp} {s s': Shared}
theorem Inv.env0 (I:Inv X pins σ H s):Env0 X.prog X.w X.K X.mg X.base X.A X.stack s H:=
 ⟨I.ok.frames,I.ok.mod,I.bs,Nat.le_trans I.ok.bsz I.sz,I.stack,I.stkFree,I.hok,I.bare⟩
theorem Inv.after {Q:VK} {u:Value} (I:Inv X pins σ H s) (h:CE X.stack X.prog X.w H s Q u s'):EP X pins σ Q u s':=by
 obtain⟨v,H',os,bare,un,hok,r,q⟩:=h
 obtain⟨hh,g,d,t,os'⟩:=s'
 obtain rfl:os'=s.os:=os
 exact⟨v,H',I.call (h':=hh) (g':=g) (d':=d) (t':=t) (ch:=[]) un hok bare (fun b z=>absurd z (by simp)),r,q⟩
end
def tCall (sp:Sp) (dvs:List V) (E:XK) (t:TA):TE:=fun σ H Q=>t σ H fun vs H1=>sp (vs++dvs) H1 Q E
def tMeth (C:Addr) (m:Str) (sp:Sp) (dvs:List V) (E:XK) (ta:TE) (t:TA):TE:=fun σ H Q=>ta σ H fun x H1=>∃a dx fs,x=.ref a/\H1 a=some (.ins C dx fs)/\fs.lookup m=none/\
 t σ H1 fun vs H2=>sp (x ::(vs++dvs)) H2 Q E
def tMake (C:Addr) (sp:Sp) (dvs:List V) (E:XK) (t:TA):TE:=fun σ H Q=>t σ H fun vs H1=>∀x dx,H1 x=none->H1 dx=none->dx≠x->
 sp (.ref x ::(vs++dvs)) (upd (upd H1 dx (.own x)) x (.ins C dx [])) (fun v H2=>v=.non/\Q (.ref x) H2) E
def qah (K:Frag) (fd:FuncData) (ps:List Str) (ds:List Value):Prop:=
 ∀(s:Shared) (us:List Value),K.In s.heap->(us++ds).length=ps.length->BindsTo s fd ⟨us, []⟩ (ps.zip (us++ds))
theorem qah.all {K:Frag} {fd:FuncData} {ps:List Str} (h:∀us:List Value,us.length=ps.length->bindArgs fd ⟨us, []⟩=pure (ps.zip us)):qah K fd ps []:=fun s us _ hl=>by
 rw [yA] at hl ⊢
 exact .of_eq (h us hl)
def qfj (CX:CXT) (X:Cx) (E:XK):Prop:=∀(pins:List (Addr × Obj)) (σ:St) (H:Hp) (s:Shared) (e:Value) (s':Shared),Inv X pins σ H s->CX X.stack H s E e s'->X.xe e s'
section
variable {X: Cx} {CX: CXT} {k: Nat} {f C: Addr} {fd: FuncData} {ps: List Str} {sp: Sp} {dvs: List V} {ds: List Value} {E: XK} {x m: Str} {p pos apos: Pos} {e o: Expr} {es: List Expr} {ta: TE} {t: TA}
theorem run_fn {pins:List (Addr × Obj)} {σ:St} {H:Hp} {s:Shared} {Q:VK} {us:List Value} {vs:List V} (F:FnOk X.prog X.w X.K X.mg X.base CX k f fd ps sp) (hr:Room k X.A) (hb:qah X.K fd ps ds) (hd:qb7 dvs ds) (hx:qfj CX X E)
  (I:Inv X pins σ H s) (r:qb7 vs us) (h:sp (vs++dvs) H Q E):wpAny (model X.prog X.w) X.A (call (.ref f) us) (EP X pins σ Q) X.xe s:=by
 have r2:qb7 (vs++dvs) (us++ds):=r.append hd
 have hl:(us++ds).length=ps.length:=by rw [<-r2.length];exact F.len _ _ _ _ h
 refine wpAny_call (codeAny_mono (F.run X.A X.stack s H ⟨us, []⟩ (us++ds) (vs++dvs) Q E hr I.env0 (hb s us I.kIn hl) r2 h) fun r s' hq=>?_)
 cases r with
 |error e=>exact hx pins σ H s e s' I hq
 |ok fl=>
  cases fl with
  |ret u=>exact I.after hq
  |next=>exact False.elim hq
  |brk=>exact False.elim hq
  |cont=>exact False.elim hq
theorem qab (F:FnOk X.prog X.w X.K X.mg X.base CX k f fd ps sp) (hr:Room k X.A) (hg:Gl X x) (hm:X.mg x=some (.ref f)) (hk:keepIn X.K (.ref f)=true) (hb:qah X.K fd ps ds) (hd:qb7 dvs ds) (hx:qfj CX X E)
  (ha:PA X (e :: es) t) (hdb:(x==("__debug__" :Str))=false:=by decide) (he:starEach (e :: es) X.env=(false,eval e X.env) :: starEach es X.env:=by rfl) (hpl:(backTo pos (starEach es X.env)).any (·.1)=false:=by rfl):
  PE X (.Call (.Name x p) (e :: es) [] pos) (tCall sp dvs E t):=by
 intro pins s σ H Q I h
 refine wpAny_Call_Name_kw (qdt I hg hm ?_ hdb)
 refine PySem.W.callWith_K (h₀:=X.base) I.ok.mod.kin hk (thn (ha pos pins s σ H _ I h) fun us s1 ⟨vs,H1,I1,r,q⟩=>⟨I1.kIn,?_⟩) he hpl
 exact run_fn F hr hb hd hx I1 r q
theorem qgm {pl:Sem Bool} (he:PE X o ta) (c:Cls X.K C) (hm:Meth X.K C m f) (F:FnOk X.prog X.w X.K X.mg X.base CX k f fd ps sp) (hr:Room k X.A) (hb:qah X.K fd ps ds) (hd:qb7 dvs ds) (hx:qfj CX X E) (ha:PA X (e :: es) t)
  (hst:starEach (e :: es) X.env=(false,eval e X.env) :: starEach es X.env:=by rfl) (hpl:(backTo pos (starEach es X.env)).any (·.1)=false:=by rfl)
  (ht:eval (.Call (.Attribute o m apos) (e :: es) [] pos) X.env=(do
   let ov<-eval o X.env
   standAt apos.atName
   let (f,first)<-holding [ov] (getMethod ov m pl)
   callWith pos f first (backTo pos (starEach (e :: es) X.env)) (backToKw pos (keywordEach [] X.env))):=by rfl):
  PE X (.Call (.Attribute o m apos) (e :: es) [] pos) (tMeth C m sp dvs E ta t):=by
 intro pins s σ H Q I h
 refine PySem.W.methodCall_KW (pl:=pl) (thn (he pins s σ H _ I h) fun u s1 ⟨x,H1,I1,rx,a,dx,fs,ex,ea,l,q⟩=>?_) ht
 subst ex
 obtain rfl:u=Value.ref a:=rx
 refine qcz I1 ea c hm l ?_
 refine PySem.W.callWith_K (first:=[.ref a]) (h₀:=X.base) I.ok.mod.kin hm.kp (thn (ha pos pins s1 σ H1 _ I1 q) fun us s2 ⟨vs,H2,I2,r,q2⟩=>⟨I2.kIn,?_⟩) hst hpl
 exact run_fn (us:=.ref a :: us) (vs:=.ref a :: vs) F hr hb hd hx I2 (.cons rfl r) q2
theorem qbi {pl:Sem Bool} (he:PE X o ta) (c:Cls X.K C) (hm:Meth X.K C m f) (F:FnOk X.prog X.w X.K X.mg X.base CX k f fd ps sp) (hr:Room k X.A) (hb:qah X.K fd ps ds) (hd:qb7 dvs ds) (hx:qfj CX X E)
  (ht:eval (.Call (.Attribute o m apos) [] [] pos) X.env=(do
   let ov<-eval o X.env
   standAt apos.atName
   let (f,first)<-holding [ov] (getMethod ov m pl)
   callWith pos f first (backTo pos (starEach [] X.env)) (backToKw pos (keywordEach [] X.env))):=by rfl):
  PE X (.Call (.Attribute o m apos) [] [] pos) (tMeth C m sp dvs E ta tNil):=by
 intro pins s σ H Q I h
 refine PySem.W.methodCall_KW (pl:=pl) (thn (he pins s σ H _ I h) fun u s1 ⟨x,H1,I1,rx,a,dx,fs,ex,ea,l,q⟩=>?_) ht
 subst ex
 obtain rfl:u=Value.ref a:=rx
 refine qcz I1 ea c hm l ?_
 exact PySem.W.callWith_K0 (first:=[.ref a]) I1.kIn hm.kp (run_fn (us:=[.ref a]) (vs:=[.ref a]) F hr hb hd hx I1 (.cons rfl .nil) q)
structure Mk (K:Frag) (C f:Addr):Prop where
 makes:PySem.W.makesIn K C=true
 init:findIn K (.ref C) "__init__" =some (some (.ref f))
 fn:isFn K (.ref f)=true
 kp:keepIn K (.ref C)=true
theorem run_make {pins:List (Addr × Obj)} {σ:St} {H:Hp} {s:Shared} {Q:VK} {us:List Value} {vs:List V} (M:Mk X.K C f) (F:FnOk X.prog X.w X.K X.mg X.base CX k f fd ps sp) (hr:Room (k+1) X.A) (hb:qah X.K fd ps ds) (hd:qb7 dvs ds)
  (hx:qfj CX X E) (I:Inv X pins σ H s) (r:qb7 vs us)
  (h:∀x dx,H x=none->H dx=none->dx≠x->sp (.ref x ::(vs++dvs)) (upd (upd H dx (.own x)) x (.ins C dx [])) (fun v H2=>v=.non/\Q (.ref x) H2) E):
  wpAny (model X.prog X.w) X.A (call (.ref C) us) (EP X pins σ Q) X.xe s:=by
 have hq:=h (s.heap.objs.size+1) s.heap.objs.size (I.hok.fresh (Nat.le_succ _)) (I.hok.fresh (Nat.le_refl _)) (Nat.ne_of_lt (Nat.lt_succ_self _))
 have I2:=Inv.made (C:=C) I
 have r2:qb7 (V.ref (s.heap.objs.size+1) ::(vs++dvs)) (Value.ref (s.heap.objs.size+1) ::(us++ds)):=.cons rfl (r.append hd)
 have hl:(Value.ref (s.heap.objs.size+1) :: us++ds).length=ps.length:=by
  have e:=r2.length
  rw [F.len _ _ _ _ hq] at e
  exact e.symm
 refine wpAny_call (make_map (f:=f) I.kIn M.makes M.init (beq_iff_eq.mp M.fn) (codeAny_mono (F.run _ X.stack _ _ ⟨Value.ref (s.heap.objs.size+1) :: us, []⟩ (Value.ref (s.heap.objs.size+1) ::(us++ds)) _ _ E (hr.make C us [])
  (I2.env0.make C us []) (hb _ (Value.ref (s.heap.objs.size+1) :: us) I2.kIn hl) r2 hq) fun r s' hq'=>?_))
 cases r with
 |error e=>exact hx pins σ _ _ e s' I2 hq'
 |ok fl=>
  cases fl with
  |ret u=>
   obtain⟨v,H',I3,rv,ev,q3⟩:=I2.after hq'
   subst ev
   exact⟨rv,⟨V.ref (s.heap.objs.size+1),H',I3,rfl,q3⟩⟩
  |next=>exact False.elim hq'
  |brk=>exact False.elim hq'
  |cont=>exact False.elim hq'
theorem qf4 (M:Mk X.K C f) (F:FnOk X.prog X.w X.K X.mg X.base CX k f fd ps sp) (hr:Room (k+1) X.A) (hg:Gl X x) (hm:X.mg x=some (.ref C)) (hb:qah X.K fd ps ds) (hd:qb7 dvs ds) (hx:qfj CX X E)
  (ha:PA X (e :: es) t) (hdb:(x==("__debug__" :Str))=false:=by decide) (he:starEach (e :: es) X.env=(false,eval e X.env) :: starEach es X.env:=by rfl) (hpl:(backTo pos (starEach es X.env)).any (·.1)=false:=by rfl):
  PE X (.Call (.Name x p) (e :: es) [] pos) (tMake C sp dvs E t):=by
 intro pins s σ H Q I h
 refine wpAny_Call_Name_kw (qdt I hg hm ?_ hdb)
 refine PySem.W.callWith_K (h₀:=X.base) I.ok.mod.kin M.kp (thn (ha pos pins s σ H _ I h) fun us s1 ⟨vs,H1,I1,r,q⟩=>⟨I1.kIn,?_⟩) he hpl
 exact run_make M F hr hb hd hx I1 r q
end
section
variable {fd: FuncData} {ps ks: List Str}
structure KBinds (K:Frag) (fd:FuncData) (ps ks:List Str) (g:List Value->List Value->List Value) (gV:List V->List V->List V):Prop where
 to:∀(s:Shared) (us ws:List Value),K.In s.heap->(g us ws).length=ps.length->BindsTo s fd ⟨us,ks.zip ws⟩ (ps.zip (g us ws))
 rel:∀{vs:List V} {us:List Value} {zs:List V} {ws:List Value},qb7 vs us->qb7 zs ws->qb7 (gV vs zs) (g us ws)
end
structure FnScope (N P:List Str) (sc:Scope):Prop where
 kind:sc.kind=.function
 co:sc.isCoroutine=false
 gen:sc.isGenerator=false
 nd:N.Nodup
 pre:N.take P.length=P
 par:∀x∈P,sc.names.lookup x=some .local\/sc.names.lookup x=some .cell
 nofree:∀y∈sc.names,y.2≠ .free
theorem bindL_out {kindOf:Str->Option NameKind} {x:Str}:∀{binds:List (Str × Value)} {m:Str->Option Value},(∀v,(x,v)∉binds)->bindL kindOf binds m x=m x
 | [],_,_=>rfl
 |(n,v) :: r,m,h=>by
  unfold bindL
  rw [bindL_out fun w hw=>h w (zF _ hw)]
  split
  .have:x≠n:=by rintro rfl;exact h v zC
   simp [this]
  .rfl
theorem bindC_out {kindOf:Str->Option NameKind} {x:Str}:∀{binds:List (Str × Value)} {m:Str->Option Value},(∀v,(x,v)∉binds)->bindC kindOf binds m x=m x
 | [],_,_=>rfl
 |(n,v) :: r,m,h=>by
  unfold bindC
  rw [bindC_out fun w hw=>h w (zF _ hw)]
  split
  .rfl
  .have:x≠n:=by rintro rfl;exact h v zC
   simp [this]
theorem bindL_get {kindOf:Str->Option NameKind} {x:Str} {v:Value}:∀{P:List Str} {vs:List Value} {i:Nat} {m:Str->Option Value},P.Nodup->P[i]?=some x->vs[i]?=some v->kindOf x=some .local->
  bindL kindOf (P.zip vs) m x=some v
 | [],_,_,_,_,h,_,_=>by simp at h
 |_ :: _, [],_,_,_,_,h,_=>by simp at h
 |p :: P,w :: vs,0,m,nd,h1,h2,hk=>by
  simp at h1 h2;subst h1;subst h2
  show bindL kindOf ((p,w) :: P.zip vs) m p=_
  unfold bindL
  rw [bindL_out fun v hv=>(zX.mp nd).1 (List.of_mem_zip hv).1,if_pos hk]
  simp
 |p :: P,w :: vs,i+1,m,nd,h1,h2,hk=>by
  show bindL kindOf ((p,w) :: P.zip vs) m x=_
  unfold bindL
  exact bindL_get (i:=i) (zX.mp nd).2 (by simpa using h1) (by simpa using h2) hk
theorem bindC_get {kindOf:Str->Option NameKind} {x:Str} {v:Value}:∀{P:List Str} {vs:List Value} {i:Nat} {m:Str->Option Value},P.Nodup->P[i]?=some x->vs[i]?=some v->kindOf x≠some .local->
  bindC kindOf (P.zip vs) m x=some v
 | [],_,_,_,_,h,_,_=>by simp at h
 |_ :: _, [],_,_,_,_,h,_=>by simp at h
 |p :: P,w :: vs,0,m,nd,h1,h2,hk=>by
  simp at h1 h2;subst h1;subst h2
  show bindC kindOf ((p,w) :: P.zip vs) m p=_
  unfold bindC
  rw [bindC_out fun v hv=>(zX.mp nd).1 (List.of_mem_zip hv).1,if_neg hk]
  simp
 |p :: P,w :: vs,i+1,m,nd,h1,h2,hk=>by
  show bindC kindOf ((p,w) :: P.zip vs) m x=_
  unfold bindC
  exact bindC_get (i:=i) (zX.mp nd).2 (by simpa using h1) (by simpa using h2) hk
def qek (N:List Str) (vs:List V):St:=vs.map some++List.replicate (N.length - vs.length) none
def cxOf (CX:CXT) (P:Program) (w:World) (K:Frag) (mg:Str->Option Value) (base:Heap) (N:List Str) (qual:Str) (scope:Scope) (f:Addr) (cd:Value) (A:Around) (outer:List Env) (s:Shared) (H:Hp) (E:XK):Cx where
 prog:=P
 w:=w
 K:=K
 mg:=mg
 base:=base
 A:=A.deeper (envOfC qual scope s.heap.objs.size f cd)
 N:=N
 s₀:=s
 H₀:=H
 env:=envOfC qual scope s.heap.objs.size f cd
 outer:=outer
 stack:=envOfC qual scope s.heap.objs.size f cd :: outer
 ex:=[]
 calm:=true
 fn:=fun _=>true
 pn:=[]
 xe:=fun e s'=>wpAny (model P w) (A.deeper (envOfC qual scope s.heap.objs.size f cd)) (leaving (envOfC qual scope s.heap.objs.size f cd) e) (fun _ s''=>CX outer H s E e s'') (fun e' s''=>CX outer H s E e' s'') s'
theorem cell_has {sc:Scope} {n:Nat} {x:Str} (h:sc.names.lookup x=some .cell):∃c,(cellsFrom n sc.names []).lookup x=some c:=by
 have q:=PySem.W.cellsFrom_some sc.names n [] (.inl h)
 exact Option.isSome_iff_exists.mp q
theorem inv_start {CX:CXT} {P:Program} {w:World} {K:Frag} {mg:Str->Option Value} {base:Heap} {N ps:List Str} {qual:Str} {scope:Scope} {f:Addr} {cd:Value} {A:Around} {outer:List Env} {s s1:Shared} {H:Hp} {E:XK} {us:List Value} {vs:List V}
  (S:FnScope N ps scope) (hd:A.handled=none) (e0:Env0 P w K mg base A outer s H) (hl:vs.length=ps.length) (r:qb7 vs us)
  (x:InCallC s s.heap.objs.size (bindL (envOfC qual scope s.heap.objs.size f cd).kindOf (ps.zip us) fun _=>none) (cellsFrom (s.heap.objs.size+1) scope.names []) (bindC (envOfC qual scope s.heap.objs.size f cd).kindOf (ps.zip us) fun _=>none) s1):
  Inv (cxOf CX P w K mg base N qual scope f cd A outer s H E) [] (qek N vs) H s1:=by
 have hpl:ps.length<=N.length:=by have:=congrArg List.length S.pre;rw [zS] at this;omega
 obtain⟨h1,tk,rfl,hk⟩:=x.done
 have noA:∀b:Addr,b∉(cxOf CX P w K mg base N qual scope f cd A outer s H E).ex:=fun b z=>absurd (show b∈([]:List Addr) from z) (by simp)
 refine⟨⟨e0.mod,S.kind,rfl,rfl,Nat.le_refl _,fun y z c h1 h2=>?_,fun y hy=>?_,fun y c _ h=>?_,fun _=>hd,Around.frames_deeper e0.frames,.inr ⟨rfl,rfl⟩,fun b z=>absurd z (noA b),e0.bs,e0.bsz,fun b _ _=>noA b,fun b z=>absurd z (noA b),e0.funs,e0.frf⟩,
  rfl,e0.bare,Un.kept hk,⟨_,x.toInCall.ns,fun i y v h1 h2 h3=>?_⟩,fun y c h=>⟨_,x.cell y c h⟩,e0.hok.fresh (Nat.le_refl _),fun y c h=>?_,fun p hp=>absurd (show p∈([]:List (Addr × Obj)) from hp) (by simp),e0.hok.kept hk,?_⟩
 .exact name_of_addr x.apart (PySem.mem_of_lookup h1) (PySem.mem_of_lookup h2)
 .have hy:scope.names.lookup y=some .cell\/scope.names.lookup y=some .free:=hy
  rcases hy with hy|hy
  .exact cell_has hy
  .exact absurd rfl (S.nofree _ (PySem.mem_of_lookup hy))
 .exact Nat.le_of_lt (x.above y c (PySem.mem_of_lookup h))
 .have hi:i < vs.length:=by
   unfold qek at h2
   by_cases hi:i < vs.length
   .exact hi
   .rw [yJ (by simpa using hi)] at h2
    rw [List.getElem?_replicate] at h2
    split at h2 <;> cases h2
  have ha:vs[i]?=some v:=by
   unfold qek at h2
   rw [List.getElem?_append_left (by simpa using hi),zD] at h2
   cases e:vs[i]? with
   |none=>rw [e] at h2;cases h2
   |some a=>rw [e] at h2;cases h2;rfl
  obtain⟨u,hu,rv⟩:=r.get ha
  have hp:ps[i]?=some y:=by
   rw [<-S.pre,yK (by omega)];exact h1
  have ndP:ps.Nodup:=by rw [<-S.pre];exact S.nd.sublist (List.take_sublist _ _)
  refine⟨u,rv,?_⟩
  rcases S.par y (zK hp) with k|k
  .exact .inl ⟨k,bindL_get ndP hp hu k⟩
  .obtain⟨c,e⟩:=cell_has (n:=s.heap.objs.size+1) k
   refine .inr ⟨.inl k,c,e,?_⟩
   have q:=x.cell y c e
   rw [bindC_get ndP hp hu (by show scope.names.lookup y≠_;rw [k];decide)] at q
   exact q
 .exact e0.hok.fresh (Nat.le_of_lt (x.above y c (PySem.mem_of_lookup h)))
 .unfold qek
  show _=N.length
  rw [zL,zB,List.length_replicate]
  omega
theorem fn_of {CX:CXT} {P:Program} {w:World} {K:Frag} {mg:Str->Option Value} {base:Heap} {k:Nat} {f:Addr} {name qual:Str} {params:Arguments} {body:List Stmt} {scope:Scope} {dV kV doc pm cdv ct oc:Value} {an od:Option Addr}
  {osl:Array (Option Value)} {N ps:List Str} {sp:Sp} (lk:K.lookup f=some ⟨oc,od,.func (fnOf name qual params body scope dV kV doc pm an cdv ct),osl⟩) (hcd:codeIn K cdv qual=true) (S:FnScope N ps scope)
  (len:∀vs H Q E,sp vs H Q E->vs.length=ps.length)
  (hbody:∀(A:Around) (outer:List Env) (s:Shared) (H:Hp) (vs:List V) (Q:VK) (E:XK),Room k (A.deeper (envOfC qual scope s.heap.objs.size f cdv))->sp vs H Q E->
   ∃t,PSs (cxOf CX P w K mg base N qual scope f cdv A outer s H E) body t/\t {nx:=fun _ H'=>Q .non H',rt:=Q} (qek N vs) H):
  FnOk P w K mg base CX (k+1) f (fnOf name qual params body scope dV kV doc pm an cdv ct) ps sp:=by
 refine⟨len,fun A outer s H args us vs Q E hr e0 hb r hsp=>?_⟩
 have hl:=len _ _ _ _ hsp
 have KX:K.In s.heap:=e0.mod.kin.keeps fun b o e=>(e0.bs b o e).1
 have lim:s.heap.NoLimit:=e0.mod.nolimit.keeps fun b o e=>(e0.bs b o e).1
 have hkind:∀y∈ps.zip us,scope.names.lookup y.1=some .local\/(scope.names.lookup y.1=some .cell/\((cellsFrom (s.heap.objs.size+1) scope.names []).lookup y.1).isSome=true):=fun⟨n,v⟩ hy=>by
  rcases S.par n (List.of_mem_zip hy).1 with q|q
  .exact .inl q
  .exact .inr ⟨q,PySem.W.cellsFrom_some _ _ _ (.inl q)⟩
 refine codeAny_call_function hr.depth (KX _ _ lk) rfl S.co S.gen rfl (PySem.W.codeRec_of KX hcd) (hb _ _ _ _ ?_)
 refine wpAny_newFunctionEnv_cells S.kind hkind fun env he s1 x=>?_
 subst he
 refine⟨lim.keeps x.toInCall.keep,codeAny_func ?_⟩
 obtain⟨t,ht,hq⟩:=hbody A outer s H vs Q E (hr.deeper _) hsp
 have I:Inv (cxOf CX P w K mg base N qual scope f cdv A outer s H E) [] (qek N vs) H s1:=inv_start S hr.hd e0 hl r x
 refine wpAny_mono (ht [] s1 (qek N vs) H _ I hq) (fun fl s' hs=>?_) fun e s' hs=>hs
 have fin:∀{σ':St} {H':Hp} {v:V} {u:Value},Inv (cxOf CX P w K mg base N qual scope f cdv A outer s H E) [] σ' H' s'->qba v u->Q v H'->CE outer P w H s Q u s':=
  fun {σ' H' v u} J rv q=>⟨v,H',J.os,J.bare,J.base,J.hok,rv,q⟩
 cases fl with
 |ret u=>
  obtain⟨v,σ',H',J,rv,q⟩:=hs
  exact fin J rv q
 |next=>
  obtain⟨σ',H',J,q⟩:=hs
  exact fin (v:=V.non) (u:=Value.none) J rfl q
 |brk=>
  obtain⟨_,_,_,q⟩:=hs
  exact False.elim q
 |cont=>
  obtain⟨_,_,_,q⟩:=hs
  exact False.elim q
section
variable {X: Cx} {x: Str} {p pos: Pos} {e: Expr} {es: List Expr} {t: TA} {id T: String} {r: List V -> Hp -> VK -> Prop}
def tCB (r:List V->Hp->VK->Prop) (t:TA):TE:=fun σ H Q=>t σ H fun vs H1=>r vs H1 Q
theorem qad (hc:qcp X (.builtin id) r) (hg:Gl X x) (hm:X.mg x=none) (hv:bootBuiltins x=some (.builtin id)) (ha:PA X (e :: es) t) (hn:x≠"__name__":=by decide) (hdb:(x==("__debug__" :Str))=false:=by decide)
  (he:starEach (e :: es) X.env=(false,eval e X.env) :: starEach es X.env:=by rfl) (hpl:(backTo pos (starEach es X.env)).any (·.1)=false:=by rfl):PE X (.Call (.Name x p) (e :: es) [] pos) (tCB r t):=by
 intro pins s σ H Q I h
 refine wpAny_Call_Name_kw (ld_blt I hg hm hv ?_ hn hdb)
 exact PyProof.Rows.callWith_builtin1 (thn (ha pos pins s σ H _ I h) fun us s1 ⟨vs,H1,I1,r1,q1⟩=>hc pins s1 σ H1 vs us Q I1 r1 q1) he hpl
theorem qbs (hc:qcp X (.type T) r) (hg:Gl X x) (hm:X.mg x=none) (hv:bootBuiltins x=some (.type T)) (ha:PA X (e :: es) t) (hn:x≠"__name__":=by decide) (hdb:(x==("__debug__" :Str))=false:=by decide)
  (he:starEach (e :: es) X.env=(false,eval e X.env) :: starEach es X.env:=by rfl) (hpl:(backTo pos (starEach es X.env)).any (·.1)=false:=by rfl):PE X (.Call (.Name x p) (e :: es) [] pos) (tCB r t):=by
 intro pins s σ H Q I h
 refine wpAny_Call_Name_kw (ld_blt I hg hm hv ?_ hn hdb)
 exact PyProof.Rows.callWith_type1 (thn (ha pos pins s σ H _ I h) fun us s1 ⟨vs,H1,I1,r1,q1⟩=>hc pins s1 σ H1 vs us Q I1 r1 q1) he hpl
end
end L2
namespace HT
open PySem PyProof.Rows
section
variable {prog: Program} {w: World} {A: Around} {E: Value -> Shared -> Prop} {s: Shared}
theorem cat_tup {t b:Addr} {vs ws:List Value} {Q:Value->Shared->Prop} (ht:IsTup s.heap t vs.toArray) (hb:IsTup s.heap b ws.toArray) (hv:vs≠ [])
  (h1:ws=[]->Q (.ref t) s) (h2:ws≠ []->Q (.ref s.heap.objs.size) {s with heap:=s.heap.push {cls:=.type "tuple",data:=.seq (vs++ws).toArray}})
  (hsz:vs.length+ws.length<=sizeLine):wpAny (model prog w) A (binaryOp .Add (.ref t) (.ref b)) Q E s:=by
 obtain⟨⟨cls,dd,data,sl⟩,ho,hc,n,hd⟩:=id ht
 obtain⟨⟨cls2,dd2,data2,sl2⟩,ho2,hc2,n2,hd2⟩:=id hb
 simp only at hc hd hc2 hd2
 subst hc hd hc2 hd2
 have e:vs.toArray++ws.toArray=(vs++ws).toArray:=by simp
 by_cases hw:ws=[]
 .exact concat_meets ⟨_,ho,rfl⟩ ⟨_,ho2,rfl⟩ noFill_tuple_add seq_tuple_add PySem.F.slot_tuple_add PySem.F.entry_tuple_add (PySem.F.args_tuple_add_2 _ _)
   (tuple_addW1 t b vs.toArray ws.toArray n n2 dd dd2 sl sl2 (by simpa using hv) (by simp [hw])) ⟨ho,ho2,h1 hw⟩
 .refine concat_meets ⟨_,ho,rfl⟩ ⟨_,ho2,rfl⟩ noFill_tuple_add seq_tuple_add PySem.F.slot_tuple_add PySem.F.entry_tuple_add (PySem.F.args_tuple_add_2 _ _)
   (tuple_addW2 t b vs.toArray ws.toArray n n2 dd dd2 sl sl2 (by simpa using hv) (by simpa using hw) (by rw [zO,zO];exact hsz)) ⟨ho,ho2,?_⟩
  rw [e]
  exact h2 hw
def sIx (n d:Nat):Option Int->Nat
 |none=>d
 |some v=>if v < 0 then (v+(n:Int)).toNat else min v.toNat n
theorem sIx_nat (n d k:Nat):sIx n d (some (k:Int))=min k n:=by
 show (if (k:Int) < 0 then ((k:Int)+(n:Int)).toNat else min (k:Int).toNat n)=min k n
 rw [if_neg (by omega),Int.toNat_natCast]
theorem sIx_le (n d:Nat) (hd:d<=n) (o:Option Int):sIx n d o<=n:=by
 cases o with
 |none=>exact hd
 |some v=>
  show (if v < 0 then (v+(n:Int)).toNat else min v.toNat n)<=n
  by_cases hv:v < 0
  .rw [if_pos hv];omega
  .rw [if_neg hv];exact Nat.min_le_right _ _
theorem clip_eq (v:Int) (n d:Nat):(if v < 0 then max (v+(n:Int)) 0 else min v (n:Int))=((sIx n d (some v):Nat):Int):=by
 show (if v < 0 then max (v+(n:Int)) 0 else min v (n:Int))=(((if v < 0 then (v+(n:Int)).toNat else min v.toNat n):Nat):Int)
 by_cases hv:v < 0
 .simp only [if_pos hv];omega
 .simp only [if_neg hv];omega
theorem adjust_gen (lo hi:Option Int) (n:Nat):Builtin.Slice.sliceAdjust lo hi 1 (n:Int)=(((sIx n 0 lo:Nat):Int),((sIx n n hi:Nat):Int)):=by
 have h1:¬((1:Int) < 0):=by omega
 unfold Builtin.Slice.sliceAdjust
 simp only [h1,if_false]
 refine Prod.ext ?_ ?_
 .cases lo with
  |none=>rfl
  |some v=>exact clip_eq v n 0
 .cases hi with
  |none=>rfl
  |some v=>exact clip_eq v n n
theorem places_gen (i j:Nat):Builtin.Slice.slicePlaces (i:Int) (j:Int) 1=j - i:=by
 unfold Builtin.Slice.slicePlaces
 have h1:(1:Int) > 0:=by omega
 simp only [h1,if_true,Int.ediv_one]
 split <;> omega
theorem qfw {v:Value} {o:Option Int} {Q:Option Int->Shared->Prop} (p:IsPart v o) (h:Q o s):wpAny (model prog w) A (Builtin.Slice.slicePartIndex v) Q E s:=by
 cases p with
 |none=>exact slicePart_none h
 |int i t=>exact slicePart_int h
theorem qel {sl:Addr} {vl vu:Value} {lo hi:Option Int} {n:Nat} {Q:Int × Int × Nat->Shared->Prop} (hs:s.heap.IsSliceOf sl vl vu .none) (pl:IsPart vl lo) (pu:IsPart vu hi)
  (h:Q (((sIx n 0 lo:Nat):Int),1,sIx n n hi - sIx n 0 lo) s):wpAny (model prog w) A (Builtin.Slice.sliceApplied (.ref sl) (pure (n:Int))) Q E s:=by
 obtain⟨os,hos,hcs,hds⟩:=id hs
 unfold Builtin.Slice.sliceApplied Builtin.Slice.sliceFields
 refine wpAny_bind (wpAny_bind (wpAny_field hos hds (x:=vl) rfl (wpAny_bind (wpAny_field hos hds (x:=vu) rfl (wpAny_bind (wpAny_field hos hds (x:=.none) rfl (wpAny_pure ?_)))))))
 refine wpAny_bind (slicePart_none ?_)
 show wpAny _ _ (if ((1:Int)==0)=true then _ else _) _ _ s
 rw [if_neg (by decide)]
 refine wpAny_bind (qfw pl (wpAny_bind (qfw pu (wpAny_bind (wpAny_pure ?_)))))
 show wpAny _ _ (match Builtin.Slice.sliceAdjust lo hi 1 (n:Int) with|(lo,hi)=>pure (lo,(1:Int),Builtin.Slice.slicePlaces lo hi 1)) _ _ s
 rw [adjust_gen lo hi n]
 show wpAny _ _ (pure (((sIx n 0 lo:Nat):Int),(1:Int),Builtin.Slice.slicePlaces ((sIx n 0 lo:Nat):Int) ((sIx n n hi:Nat):Int) 1)) _ _ s
 rw [places_gen]
 exact wpAny_pure h
theorem pick_gen (xs:Array Value) (i k:Nat):((List.range k).filterMap fun(m:Nat)=>xs[((i:Int)+(m:Int)*1).toNat]?).toArray=((xs.toList.drop i).take k).toArray:=by
 have e:(fun(m:Nat)=>xs[((i:Int)+(m:Int)*1).toNat]?)=fun m=>xs[i+m]?:=by
  funext m
  have:((i:Int)+(m:Int)*1).toNat=i+m:=by omega
  rw [this]
 rw [e]
 have:=pick_run xs i k
 rw [List.filterMap_map] at this
 have e2:((fun x=>xs[x]?)∘fun x=>i+x)=fun m=>xs[i+m]?:=rfl
 rw [e2] at this
 rw [this]
theorem getItem_tuple_cut {t sl:Addr} {items:Array Value} {vl vu:Value} {lo hi:Option Int} {Q:Value->Shared->Prop} (ht:IsTup s.heap t items) (hs:s.heap.IsSliceOf sl vl vu .none) (pl:IsPart vl lo) (pu:IsPart vu hi)
  (hw:¬(sIx items.size 0 lo=0/\sIx items.size items.size hi=items.size))
  (h:Q (.ref s.heap.objs.size) {s with heap:=s.heap.push {cls:=.type "tuple",data:=.seq ((items.toList.drop (sIx items.size 0 lo)).take (sIx items.size items.size hi - sIx items.size 0 lo)).toArray}})
  (hsz:items.size<=sizeLine):wpAny (model prog w) A (getItem (.ref t) (.ref sl)) Q E s:=by
 have htake:sizeOk (.seq ((items.toList.drop (sIx items.size 0 lo)).take (sIx items.size items.size hi - sIx items.size 0 lo)).toArray):=by
  show ((items.toList.drop (sIx items.size 0 lo)).take (sIx items.size items.size hi - sIx items.size 0 lo)).toArray.size<=sizeLine
  rw [zO,zS,List.length_drop,Array.length_toList]
  omega
 have hj:sIx items.size items.size hi<=items.size:=sIx_le _ _ (Nat.le_refl _) hi
 obtain⟨os,hos,hcs,hds⟩:=id hs
 have hTs:s.TypeIs (.ref sl) "slice":=⟨os,hos,hcs⟩
 unfold getItem
 try with_reducible refine wpAny_holding ?_
 first|refine wpAny_bind (wpAny_pure ?_) |skip
 refine wpAny_bind (wpAny_sequenceKey ht.typeIs (by decide) ?_)
 refine wpAny_bind (wpAny_callSpecial?_slot (name:=Str.ofString "__getitem__") ht.typeIs PyProof.Rows.slot_tuple_getitem
  (wpAny_call_entry PyProof.Rows.slot_tuple_getitem ht.typeIs entry_tuple_getitem ?_ (args_tuple_getitem _ _)))
 show wpAny _ _ (Builtin.Tuple.tupleItemsOf (.ref t) >>= _) _ _ s
 refine wpAny_bind (tupleItemsOf_ ht ?_)
 refine wpAny_bind (wpAny_typeOf hTs ?_)
 rw [if_pos (by decide)]
 refine wpAny_bind (qel hs pl pu ?_)
 have hno:¬((((sIx items.size 0 lo:Nat):Int)==0 && (1:Int)==1 && (sIx items.size items.size hi - sIx items.size 0 lo)==items.size)=true):=by
  intro q
  rw [Bool.and_eq_true,Bool.and_eq_true] at q
  have q1:((sIx items.size 0 lo:Nat):Int)=0:=eq_of_beq q.1.1
  have q2:sIx items.size items.size hi - sIx items.size 0 lo=items.size:=eq_of_beq q.2
  exact hw ⟨by omega,by omega⟩
 show wpAny _ _ (if (((sIx items.size 0 lo:Nat):Int)==0 && (1:Int)==1 && (sIx items.size items.size hi - sIx items.size 0 lo)==items.size)=true then _ else _) _ _ s
 rw [if_neg hno,pick_gen]
 first
  |exact wpAny_bind (m:=Builtin.Tuple.tupleExact _) (wpAny_newObj_type (wpAny_pure ⟨_,rfl,wpAny_pure h⟩) htake)
  |exact wpAny_bind (m:=Builtin.Tuple.tupleExact _) (wpAny_newObj_type (wpAny_bind (wpAny_pure (wpAny_pure ⟨_,rfl,wpAny_pure h⟩))) htake)
  |exact wpAny_bind (wpAny_bind (m:=Builtin.Tuple.tupleExact _) (wpAny_newObj_type (wpAny_pure (wpAny_pure ⟨_,rfl,wpAny_pure h⟩)) htake))
  |exact wpAny_bind (wpAny_bind (m:=Builtin.Tuple.tupleExact _) (wpAny_newObj_type (wpAny_pure ⟨_,rfl,wpAny_pure h⟩) htake))
end
end HT
namespace L2
open PySem PySem.Spec PyProof.Rows
abbrev TO:=St->Hp->(Option Int->Hp->Prop)->Prop
def PO (X:Cx) (e:Option Expr) (t:TO):Prop:=
 ∀(pins:List (Addr × Obj)) (s:Shared) (σ:St) (H:Hp) (Q:Option Int->Hp->Prop),Inv X pins σ H s->t σ H Q->
  wpAny (model X.prog X.w) X.A (evalPart e X.env) (fun u s'=>∃o H',Inv X pins σ H' s'/\IsPart u o/\Q o H') X.xe s
def tNoPart:TO:=fun _ H Q=>Q none H
def tPart (t:TE):TO:=fun σ H Q=>t σ H fun x H1=>∃i,x=.int i/\Q (some i) H1
section
variable {X: Cx} {e: Expr} {te: TE} {lo hi: Option Expr} {tl th: TO} {pos p2: Pos}
theorem qf3:PO X none tNoPart:=by
 intro pins s σ H Q I h
 rw [evalPart_none]
 exact wpAny_pure ⟨none,H,I,.none,h⟩
theorem qdq (h:PE X e te):PO X (some e) (tPart te):=by
 intro pins s σ H Q I hw
 rw [evalPart_some]
 refine thn (h pins s σ H _ I hw) fun u s1 ⟨x,H1,I1,r1,q1⟩=>?_
 obtain⟨i,rfl,q⟩:=q1
 obtain⟨t,rfl⟩:=r1
 exact⟨some i,H1,I1,.int i t,q⟩
def SlR (X:Cx) (r:V->Option Int->Option Int->Hp->VK->Prop):Prop:=
 ∀(pins:List (Addr × Obj)) (s:Shared) (σ:St) (H:Hp) (x:V) (v vl vu:Value) (lo hi:Option Int) (sl:Addr) (Q:VK),Inv X pins σ H s->qba x v->s.heap.IsSliceOf sl vl vu .none->IsPart vl lo->IsPart vu hi->r x lo hi H Q->
  ∃T id,typeLookup (.type T) "__getitem__" =pure (some (.builtin id))/\s.TypeIs v T/\wpAny (model X.prog X.w) X.A (getItem v (.ref sl)) (EP X pins σ Q) X.xe s
def tSl (r:V->Option Int->Option Int->Hp->VK->Prop) (te:TE) (tl th:TO):TE:=fun σ H Q=>te σ H fun x H1=>tl σ H1 fun l H2=>th σ H2 fun u H3=>r x l u H3 Q
theorem qde {r:V->Option Int->Option Int->Hp->VK->Prop} (hr:SlR X r) (he:PE X e te) (hl:PO X lo tl) (hu:PO X hi th):PE X (.Subscript e (.Slice lo hi none p2) pos) (tSl r te tl th):=by
 intro pins s σ H Q I h
 refine Subscript_ (thn (he pins s σ H _ I h) fun v s1 ⟨x,H1,I1,r1,q1⟩=>?_)
 refine wpAny_Slice (thn (hl pins s1 σ H1 _ I1 q1) fun vl s2 ⟨l,H2,I2,pl,q2⟩=>thn (hu pins s2 σ H2 _ I2 q2) fun vu s3 ⟨u,H3,I3,pu,q3⟩=>?_)
 rw [evalPart_none]
 refine wpAny_pure ?_
 have I4:Inv X pins σ H3 {s3 with heap:=s3.heap.push {cls:=.type "slice",data:=.fields #[vl,vu,.none]}}:=I3.kept (t':=s3.toks) fun b ob q=>Heap.get?_push_of_some _ q
 obtain⟨T,id,hT,ht,hg⟩:=hr pins {s3 with heap:=s3.heap.push {cls:=.type "slice",data:=.fields #[vl,vu,.none]}} σ H3 x v vl vu l u s3.heap.objs.size Q I4 r1 (Heap.IsSliceOf.new ..) pl pu q3
 show wpAny (model X.prog X.w) X.A (subscriptTail e (.Slice lo hi none p2) v (.ref s3.heap.objs.size)) (EP X pins σ Q) X.xe {s3 with heap:=s3.heap.push {cls:=.type "slice",data:=.fields #[vl,vu,.none]}}
 exact tail_any (ops:=[.ref s3.heap.objs.size,v]) ht hT hg (by with_unfolding_all rfl)
def cutV (xs:List V) (lo hi:Option Int):List V:=(xs.drop (HT.sIx xs.length 0 lo)).take (HT.sIx xs.length xs.length hi - HT.sIx xs.length 0 lo)
theorem qfe (xs:List V) (lo hi:Option Int):(cutV xs lo hi).length<=xs.length:=by
 unfold cutV
 rw [zS,List.length_drop]
 omega
def rSlT (K:Frag):V->Option Int->Option Int->Hp->VK->Prop:=fun x lo hi H Q=>∃a xs,x=.ref a/\SqT K H a xs/\
 ¬(HT.sIx xs.length 0 lo=0/\HT.sIx xs.length xs.length hi=xs.length)/\∀p,H p=none->Q (.ref p) (upd H p (.tup (cutV xs lo hi)))
theorem sl_tup:SlR X (rSlT X.K):=by
 intro pins s σ H x v vl vu lo hi sl Q I rx hs pl pu h
 obtain⟨a,xs,rfl,hx,hw,q⟩:=h
 cases rx
 obtain⟨its,r,ht,hz⟩:=I.tuple hx
 have hlen:its.toArray.size=xs.length:=by rw [zO];exact r.length.symm
 refine⟨"tuple",_,PyProof.Rows.slot_tuple_getitem.lookup,ht.typeIs,?_⟩
 refine HT.getItem_tuple_cut ht hs pl pu (by rw [hlen];exact hw) ?_ (by rw [hlen];exact hz)
 rw [hlen]
 refine⟨.ref s.heap.objs.size,_,I.laid (t':=s.toks) (o:=.tup (cutV xs lo hi)) (fun b ob q=>Heap.get?_push_of_some _ q) (Nat.le_refl _) ?_,rfl,q _ (I.hok.fresh (Nat.le_refl _))⟩
 exact⟨Nat.le_trans (qfe xs lo hi) hz,_,(r.drop (HT.sIx xs.length 0 lo)).take (HT.sIx xs.length xs.length hi - HT.sIx xs.length 0 lo),IsTup.new _ _⟩
def rCatT (K:Frag):R2:=fun x y H Q=>∃a b xs ys,x=.ref a/\y=.ref b/\SqT K H a xs/\SqT K H b ys/\xs≠ []/\xs.length+ys.length<=sizeLine/\
 (ys=[]->Q (.ref a) H)/\(ys≠ []->∀p,H p=none->Q (.ref p) (upd H p (.tup (xs++ys))))
theorem qb7.nil_iff {xs:List V} {us:List Value} (r:qb7 xs us):us=[]↔xs=[]:=by
 cases r with
 |nil=>simp
 |cons _ _=>simp
theorem op_catT:OpR X (binaryOp .Add) (rCatT X.K):=by
 intro pins s σ H x y v u Q I rx ry h
 obtain⟨a,b,xs,ys,rfl,rfl,ha,hb,hx,hz,q1,q2⟩:=h
 cases rx
 cases ry
 obtain⟨its,r1,p1,_⟩:=I.tuple ha
 obtain⟨its2,r2,p2,_⟩:=I.tuple hb
 refine HT.cat_tup p1 p2 (fun z=>hx (r1.nil_iff.mp z)) (fun z=>⟨.ref a,H,I,rfl,q1 (r2.nil_iff.mp z)⟩) (fun z=>?_) (by rw [<-r1.length,<-r2.length];exact hz)
 refine⟨.ref s.heap.objs.size,_,I.laid (t':=s.toks) (o:=.tup (xs++ys)) (fun b ob q=>Heap.get?_push_of_some _ q) (Nat.le_refl _) ?_,rfl,q2 (fun w=>z (r2.nil_iff.mpr w)) _ (I.hok.fresh (Nat.le_refl _))⟩
 exact⟨by rw [zL];exact hz,_,r1.append r2,IsTup.new _ _⟩
end
def ixN (n:Nat) (i:Int):Option Nat:=if 0<=i then (if i < n then some i.toNat else none) else if -(n:Int)<=i then some (i+n).toNat else none
def atI {α:Type} (xs:List α) (i:Int):Option α:=(ixN xs.length i).bind fun j=>xs[j]?
theorem ixN_seq {n:Nat} {i:Int} {j:Nat} (h:ixN n i=some j):seqIndex? i n=some j/\j < n/\-(n:Int)<=i/\i < n:=by
 unfold ixN at h
 by_cases h0:0<=i
 .rw [if_pos h0] at h
  by_cases h1:i < n
  .rw [if_pos h1] at h
   have e:i.toNat=j:=Option.some.inj h
   exact⟨by rw [seqIndex_of h0 h1,e],by omega,by omega,h1⟩
  .rw [if_neg h1] at h;cases h
 .rw [if_neg h0] at h
  by_cases h1: -(n:Int)<=i
  .rw [if_pos h1] at h
   have e:(i+n).toNat=j:=Option.some.inj h
   exact⟨by rw [seqIndex_neg (by omega) h1,e],by omega,h1,by omega⟩
  .rw [if_neg h1] at h;cases h
theorem atI_get {α:Type} {xs:List α} {i:Int} {v:α} (h:atI xs i=some v):∃j,seqIndex? i xs.length=some j/\xs[j]?=some v/\j < xs.length/\-(xs.length:Int)<=i/\i < xs.length:=by
 unfold atI at h
 cases e:ixN xs.length i with
 |none=>rw [e] at h;cases h
 |some j=>
  rw [e] at h
  obtain⟨h1,h2,h3,h4⟩:=ixN_seq e
  exact⟨j,h1,h,h2,h3,h4⟩
theorem qbn {α:Type} {xs:List α} {j:Nat} {v:α} (h:xs[j]?=some v):atI xs (j:Int)=some v:=by
 have hj:j < xs.length:=(List.getElem?_eq_some_iff.mp h).1
 have e:ixN xs.length (j:Int)=some j:=by
  unfold ixN
  rw [if_pos (by omega),if_pos (by omega)];simp
 unfold atI;rw [e];exact h
def PlainIx (b:Expr):Prop:=∀o i,subscripted b false o i=operate [o,i] (getItem o i)
def IxR (X:Cx) (r:R2):Prop:=
 ∀(value slice:Expr) (pins:List (Addr × Obj)) (s:Shared) (σ:St) (H:Hp) (x y:V) (v u:Value) (Q:VK),Inv X pins σ H s->qba x v->qba y u->r x y H Q->
  subscripted slice false v u=operate [v,u] (getItem v u)->wpAny (model X.prog X.w) X.A (subscriptTail value slice v u) (EP X pins σ Q) X.xe s
def MtR (X:Cx) (id:String) (r:V->List V->Hp->VK->Prop):Prop:=
 ∀(pins:List (Addr × Obj)) (s:Shared) (σ:St) (H:Hp) (x:V) (xs:List V) (v:Value) (us:List Value) (Q:VK),Inv X pins σ H s->qba x v->qb7 xs us->r x xs H Q->
  wpAny (model X.prog X.w) X.A (call (.builtin id) (v :: us)) (EP X pins σ Q) X.xe s
section
variable {X: Cx} {a b: Expr} {ta tb: TE} {pos: Pos}
theorem qaq {r:R2} (hr:IxR X r) (ha:PE X a ta) (hb:PE X b tb) (hs:PlainIx b):PE X (.Subscript a b pos) (tOp r ta tb):=by
 intro pins s σ H Q I h
 exact Subscript_ (binT ha hb I h fun v u s2 x y H2 I2 rx ry q=>hr a b pins s2 σ H2 x y v u Q I2 rx ry q (hs _ _))
def rIxL (K:Frag):R2:=fun x y H Q=>∃p xs i v,x=.ref p/\y=.int i/\SqL K H p xs/\atI xs i=some v/\Q v H
def rIxT (K:Frag):R2:=fun x y H Q=>∃p xs i v,x=.ref p/\y=.int i/\SqT K H p xs/\atI xs i=some v/\Q v H
def rIxS:R2:=fun x y H Q=>∃z i c,x=.str z/\y=.int i/\z.length<=sizeLine/\atI z.cps.toList i=some c/\Q (.str ⟨#[c]⟩) H
theorem qaw:IxR X (rIxL X.K):=by
 intro value slice pins s σ H x y v u Q I rx ry h hs
 obtain⟨p,xs,i,z,rfl,rfl,hq,he,q⟩:=h
 cases rx
 obtain⟨t,rfl⟩:=ry
 obtain⟨its,r,pl,hz⟩:=I.list hq
 obtain⟨j,h1,h2,h3,h4,h5⟩:=atI_get he
 obtain⟨w,ew,rw'⟩:=r.get h2
 have hl:=r.length
 have hn:=line63
 have fin:EP X pins σ Q w s:=⟨z,H,I,rw',q⟩
 by_cases h0:0<=i
 .have hj:i.toNat=j:=by
   rw [seqIndex_of h0 h5] at h1
   exact Option.some.inj h1
  exact item_listR pl.isList h0 (by omega) (by rw [hj];simpa using ew) fin hs
 .have hj:(i+(its.toArray.size:Int)).toNat=j:=by
   rw [seqIndex_neg (by omega) h4] at h1
   rw [zO,<-hl]
   exact Option.some.inj h1
  exact subscriptTail_builtinR (x:=w) pl.isList.typeIs slot_list_getitem.lookup
   (wpAny_getItem_list_neg (Q:=fun r s'=>r=w/\EP X pins σ Q r s') pl.isList (by omega) (by rw [zO] <;> omega) (by omega) (by rw [hj];simpa using ew) ⟨rfl,fin⟩) hs
theorem qav:IxR X (rIxT X.K):=by
 intro value slice pins s σ H x y v u Q I rx ry h hs
 obtain⟨p,xs,i,z,rfl,rfl,hq,he,q⟩:=h
 cases rx
 obtain⟨t,rfl⟩:=ry
 obtain⟨its,r,pl,hz⟩:=I.tuple hq
 obtain⟨j,h1,h2,h3,h4,h5⟩:=atI_get he
 obtain⟨w,ew,rw'⟩:=r.get h2
 have hl:=r.length
 have hn:=line63
 have fin:EP X pins σ Q w s:=⟨z,H,I,rw',q⟩
 exact subscriptTail_builtinR (x:=w) pl.typeIs slot_tuple_getitem.lookup
  (getItem_tuple (j:=j) (Q:=fun r s'=>r=w/\EP X pins σ Q r s') pl (by omega) (by omega) (by rw [zO,<-hl];exact h1) (by simpa using ew) ⟨rfl,fin⟩) hs
theorem ix_str:IxR X rIxS:=by
 intro value slice pins s σ H x y v u Q I rx ry h hs
 obtain⟨z,i,c,rfl,rfl,hz,he,q⟩:=h
 obtain⟨t,rfl⟩:=rx
 obtain⟨t',rfl⟩:=ry
 obtain⟨j,h1,h2,h3,h4,h5⟩:=atI_get he
 have hl:z.cps.toList.length=z.length:=by simp [Str.length]
 rw [hl] at h1 h4 h5
 have hn:=line63
 exact tail_any (typeIs_str s z t) slot_str_getitem.lookup (getItem_str (c:=c) (by
  have e1:decide (i < -(2^63:Int))=false:=decide_eq_false (by omega)
  have e2:decide (i≥2^63)=false:=decide_eq_false (by omega)
  rw [e1,e2,Bool.or_false]) (by rw [h1];simpa using h2) ⟨.str ⟨#[c]⟩,H,I.tok _,⟨_,rfl⟩,q⟩) hs
theorem slice_bounds (lo hi:Option Int) (n:Nat):(sliceBounds lo hi none n).1=((HT.sIx n 0 lo:Nat):Int)/\(sliceBounds lo hi none n).2.1=((HT.sIx n n hi:Nat):Int)/\(sliceBounds lo hi none n).2.2=1:=by
 refine⟨?_,?_,rfl⟩
 .cases lo with
  |none=>simp [sliceBounds,HT.sIx]
  |some i=>
   simp only [sliceBounds,HT.sIx,Option.getD_none,show (1:Int) > 0 by decide,if_true]
   by_cases h:i < 0
   .simp only [h,if_true] <;> omega
   .simp only [h,if_false] <;> omega
 .cases hi with
  |none=>simp [sliceBounds,HT.sIx]
  |some i=>
   simp only [sliceBounds,HT.sIx,Option.getD_none,show (1:Int) > 0 by decide,if_true]
   by_cases h:i < 0
   .simp only [h,if_true] <;> omega
   .simp only [h,if_false] <;> omega
theorem qgh (its:List Value) (lo hi:Option Int):slicePick its.toArray lo hi none=((its.drop (HT.sIx its.length 0 lo)).take (HT.sIx its.length its.length hi - HT.sIx its.length 0 lo)).toArray:=by
 obtain⟨h1,h2,h3⟩:=slice_bounds lo hi its.toArray.size
 unfold slicePick
 rw [h1,h2,h3]
 simp only [sliceRange_one,pick_run,zO] <;> rfl
def rSlL (K:Frag):V->Option Int->Option Int->Hp->VK->Prop:=fun x lo hi H Q=>∃a xs,x=.ref a/\SqL K H a xs/\∀p,H p=none->Q (.ref p) (upd H p (.lst (cutV xs lo hi)))
theorem sl_list:SlR X (rSlL X.K):=by
 intro pins s σ H x v vl vu lo hi sl Q I rx hs pl pu h
 obtain⟨a,xs,rfl,hx,q⟩:=h
 cases rx
 obtain⟨its,r,ht,hz⟩:=I.list hx
 have hlen:=r.length
 refine⟨"list",_,slot_list_getitem.lookup,ht.isList.typeIs,?_⟩
 refine wpAny_getItem_list_slice ht.isList hs pl pu .none (by simp) ?_ (by rw [zO] <;> omega)
 rw [qgh,<-hlen]
 refine⟨.ref s.heap.objs.size,_,I.laid (t':=s.toks) (o:=.lst (cutV xs lo hi)) (fun b ob q=>Heap.get?_push_of_some _ q) (Nat.le_refl _) ?_,rfl,q _ (I.hok.fresh (Nat.le_refl _))⟩
 exact⟨Nat.le_trans (qfe xs lo hi) hz,_,0,(r.drop (HT.sIx xs.length 0 lo)).take (HT.sIx xs.length xs.length hi - HT.sIx xs.length 0 lo),Heap.get?_push_size _ rfl⟩
def qd6:V->Bool
 | .non=>true
 | .bl _=>true
 | .int _=>true
 | .str _=>true
 |_=>false
def eqV:V->V->Bool
 | .non,.non=>true
 | .bl a,.bl b=>a==b
 | .bl a,.int b=>(if a then 1 else 0)==b
 | .int a,.bl b=>a==(if b then 1 else 0)
 | .int a,.int b=>a==b
 | .str a,.str b=>a==b
 |_,_=>false
theorem eqAt_V {A:Around} {s:Shared} {y x:V} {u v:Value} (ry:qba y u) (rx:qba x v) (fy:qd6 y=true) (fx:qd6 x=true):SeqAt.EqAt A s u v (eqV y x):=by
 cases y with
 |non=>
  cases ry
  cases x with
  |non=>cases rx;exact SeqAt.EqAt.same _
  |bl b=>cases rx;exact SeqAt.EqAt.none_bool b
  |int b=>obtain⟨t,rfl⟩:=rx;exact SeqAt.EqAt.none_int b t
  |str b=>obtain⟨t,rfl⟩:=rx;exact SeqAt.EqAt.none_str b t
  |_=>exact absurd (show false=true from fx) Bool.false_ne_true
 |bl a=>
  cases ry
  cases x with
  |non=>cases rx;exact SeqAt.EqAt.bool_none a
  |bl b=>cases rx;exact SeqAt.EqAt.bool_bool a b
  |int b=>obtain⟨t,rfl⟩:=rx;exact SeqAt.EqAt.bool_int a b t
  |str b=>obtain⟨t,rfl⟩:=rx;exact SeqAt.EqAt.bool_str a b t
  |_=>exact absurd (show false=true from fx) Bool.false_ne_true
 |int a=>
  obtain⟨t',rfl⟩:=ry
  cases x with
  |non=>cases rx;exact SeqAt.EqAt.int_none a t'
  |bl b=>cases rx;exact SeqAt.EqAt.int_bool a t' b
  |int b=>obtain⟨t,rfl⟩:=rx;exact SeqAt.EqAt.int_int a t' b t
  |str b=>obtain⟨t,rfl⟩:=rx;exact SeqAt.EqAt.int_str a t' b t
  |_=>exact absurd (show false=true from fx) Bool.false_ne_true
 |str a=>
  obtain⟨t',rfl⟩:=ry
  cases x with
  |non=>cases rx;exact SeqAt.EqAt.str_none a t'
  |bl b=>cases rx;exact SeqAt.EqAt.str_bool a t' b
  |int b=>obtain⟨t,rfl⟩:=rx;exact SeqAt.EqAt.str_int a t' b t
  |str b=>obtain⟨t,rfl⟩:=rx;exact SeqAt.EqAt.str_str a t' b t
  |_=>exact absurd (show false=true from fx) Bool.false_ne_true
 |_=>exact absurd (show false=true from fy) Bool.false_ne_true
def eqU (x:V) (u:Value):Bool:=match u with
 | .none=>eqV .non x
 | .bool b=>eqV (.bl b) x
 | .int i _=>eqV (.int i) x
 | .str z _=>eqV (.str z) x
 |_=>false
theorem eqU_of {x y:V} {u:Value} (r:qba y u) (f:qd6 y=true):eqU x u=eqV y x:=by
 cases y with
 |non=>cases r;rfl
 |bl b=>cases r;rfl
 |int i=>obtain⟨t,rfl⟩:=r;rfl
 |str z=>obtain⟨t,rfl⟩:=r;rfl
 |_=>exact absurd (show false=true from f) Bool.false_ne_true
theorem qfg {x:V}:∀{xs:List V} {us:List Value},qb7 xs us->xs.all qd6=true->us.any (eqU x)=xs.any fun y=>eqV y x
 |_,_,.nil,_=>rfl
 |y :: xs,u :: us,.cons r t,f=>by
  rw [xE,Bool.and_eq_true] at f
  rw [xF,xF,eqU_of r f.1,qfg t f.2]
theorem qe2 {A:Around} {s:Shared} {x:V} {v:Value} (rx:qba x v) (fx:qd6 x=true):∀{xs:List V} {us:List Value},qb7 xs us->xs.all qd6=true->∀u∈us,SeqAt.EqAt A s u v (eqU x u)
 |_,_,.nil,_=>fun u hu=>by cases hu
 |y :: xs,u :: us,.cons r t,f=>fun u' hu=>by
  rw [xE,Bool.and_eq_true] at f
  rcases zV.mp hu with rfl|hu
  .rw [eqU_of r f.1];exact eqAt_V r rx f.1 fx
  .exact qe2 rx fx t f.2 u' hu
def inV (x:V) (xs:List V):Bool:=xs.any fun y=>eqV y x
def rIn (K:Frag) (neg:Bool):R2:=fun x y H Q=>∃p xs,y=.ref p/\(SqL K H p xs\/SqT K H p xs)/\qd6 x=true/\xs.all qd6=true/\Q (.bl (if neg then !inV x xs else inV x xs)) H
theorem op_in_seq:OpR X (compareOp .In) (rIn X.K false):=by
 intro pins s σ H x y v u Q I rx ry h
 obtain⟨p,xs,rfl,hq,fx,fs,q⟩:=h
 cases ry
 rcases hq with hq|hq
 .obtain⟨its,r,pl,hz⟩:=I.list hq
  refine SeqAt.in_listAt (eqU x) pl.isList (fun w hw=>qe2 rx fx r fs w (by simpa using hw)) ⟨.bl _,H,I,rfl,?_⟩
  rw [show its.toArray.any (eqU x)=its.any (eqU x) by simp,qfg r fs]
  exact q
 .obtain⟨its,r,pl,hz⟩:=I.tuple hq
  refine SeqAt.in_tupleAt (eqU x) pl (fun w hw=>qe2 rx fx r fs w (by simpa using hw)) ⟨.bl _,H,I,rfl,?_⟩
  rw [show its.toArray.any (eqU x)=its.any (eqU x) by simp,qfg r fs]
  exact q
theorem op_notIn_seq:OpR X (compareOp .NotIn) (rIn X.K true):=by
 intro pins s σ H x y v u Q I rx ry h
 obtain⟨p,xs,rfl,hq,fx,fs,q⟩:=h
 cases ry
 rcases hq with hq|hq
 .obtain⟨its,r,pl,hz⟩:=I.list hq
  refine SeqAt.notIn_listAt (eqU x) pl.isList (fun w hw=>qe2 rx fx r fs w (by simpa using hw)) ⟨.bl _,H,I,rfl,?_⟩
  rw [show its.toArray.any (eqU x)=its.any (eqU x) by simp,qfg r fs]
  exact q
 .obtain⟨its,r,pl,hz⟩:=I.tuple hq
  refine SeqAt.notIn_tupleAt (eqU x) pl (fun w hw=>qe2 rx fx r fs w (by simpa using hw)) ⟨.bl _,H,I,rfl,?_⟩
  rw [show its.toArray.any (eqU x)=its.any (eqU x) by simp,qfg r fs]
  exact q
theorem call_len_seq:qcp X (.builtin "len") (fun xs H Q=>∃p ys,xs=[.ref p]/\(SqL X.K H p ys\/SqT X.K H p ys)/\Q (.int ys.length) H):=by
 intro pins s σ H xs us Q I r h
 obtain⟨p,ys,rfl,hq,q⟩:=h
 obtain⟨u,rfl,rx⟩:=vals1 r
 cases rx
 have hn:=line63
 rcases hq with hq|hq
 .obtain⟨its,r',pl,hz⟩:=I.list hq
  have hlen:=r'.length
  exact Calls.call_len_list pl.isList (by simp only [zO] <;> omega) ⟨.int ys.length,H,I.tok _,⟨s.toks+1,by rw [zO,hlen]⟩,q⟩
 .obtain⟨its,r',pl,hz⟩:=I.tuple hq
  have hlen:=r'.length
  exact len_tuple pl (by simp only [zO] <;> omega) ⟨.int ys.length,H,I.tok _,⟨s.toks+1,by rw [zO,hlen]⟩,q⟩
theorem call_len_str:qcp X (.builtin "len") (fun xs H Q=>∃z,xs=[.str z]/\z.length<=sizeLine/\Q (.int z.length) H):=by
 intro pins s σ H xs us Q I r h
 obtain⟨z,rfl,hz,q⟩:=h
 obtain⟨u,rfl,t,rfl⟩:=vals1 r
 have hn:=line63
 exact len_str (by omega) ⟨.int z.length,H,I.tok _,⟨_,rfl⟩,q⟩
theorem call_list_of:qcp X (.type "list") (fun xs H Q=>∃p ys,xs=[.ref p]/\(SqL X.K H p ys\/SqT X.K H p ys)/\∀l,H l=none->Q (.ref l) (upd H l (.lst ys))):=by
 intro pins s σ H xs us Q I r h
 obtain⟨p,ys,rfl,hq,q⟩:=h
 obtain⟨u,rfl,rx⟩:=vals1 r
 cases rx
 have fin:∀(its:List Value),qb7 ys its->ys.length<=sizeLine->∀(h':Heap) (c':Nat),(∀b o',s.heap.get? b=some o'->h'.get? b=some o')->
   h'.get? s.heap.objs.size=some {cls:=.type "list",dict:=none,data:=.seq its.toArray c',slots:=#[]}->EP X pins σ Q (.ref s.heap.objs.size) {s with heap:=h'}:=fun its r' hz h' c' kp e=>
  ⟨.ref s.heap.objs.size,_,I.laid (t':=s.toks) kp (Nat.le_refl _) (show qbp X.prog X.w _ h' _ (.lst ys) from⟨hz,its,c',r',e⟩),rfl,q _ (I.hok.fresh (Nat.le_refl _))⟩
 rcases hq with hq|hq
 .obtain⟨its,r',pl,hz⟩:=I.list hq
  have hlen:=r'.length
  obtain⟨o,ho,hc,n,hd⟩:=pl.isList
  exact call_list_seq p (.inl rfl) ho hc hd (fun h' c' kp e=>fin its r' hz h' c' kp e) (by simp only [zO] <;> omega)
 .obtain⟨its,r',pl,hz⟩:=I.tuple hq
  have hlen:=r'.length
  obtain⟨o,ho,hc,n,hd⟩:=pl
  exact call_list_seq p (.inr rfl) ho hc hd (fun h' c' kp e=>fin its r' hz h' c' kp e) (by simp only [zO] <;> omega)
def tyV (K:Frag) (T:String) (x:V) (H:Hp):Prop:=match x with
 | .str _=>T= "str"
 | .int _=>T= "int"
 | .ref p=>(T= "list"/\∃xs,SqL K H p xs)\/(T= "tuple"/\∃o,K.lookup p=some o/\o.cls=.type "tuple"/\o.dict=none)\/
   (T= "dict"/\((∃kvs,H p=some (.dK kvs))\/∃kvs,H p=some (.dT kvs)))\/(T= "set"/\∃S n,H p=some (.set S n))
 |_=>False
theorem tyV_is {pins:List (Addr × Obj)} {σ:St} {H:Hp} {s:Shared} {T:String} {x:V} {v:Value} (I:Inv X pins σ H s) (r:qba x v) (ty:tyV X.K T x H):
  s.TypeIs v T/\∀a,v=.ref a->∃ob,s.heap.get? a=some ob/\ob.dict=none:=by
 cases x with
 |str z=>
  obtain⟨t,rfl⟩:=r
  cases (show T= "str" from ty)
  exact⟨typeIs_str s z t,fun _ e=>nomatch e⟩
 |int i=>
  obtain⟨t,rfl⟩:=r
  cases (show T= "int" from ty)
  exact⟨typeIs_int s i t,fun _ e=>nomatch e⟩
 |ref p=>
  cases r
  rcases ty with ⟨rfl,xs,hq⟩ |⟨rfl,o,hk,hc,hd⟩ |⟨rfl,hk⟩ |⟨rfl,S,n,hk⟩
  .obtain⟨its,_,pl,_⟩:=I.list hq
   refine⟨pl.isList.typeIs,fun a e=>?_⟩
   cases e
   obtain⟨o,n,e,c,hd,_⟩:=pl
   exact⟨o,e,hd⟩
  .refine⟨⟨o,I.kIn p o hk,hc⟩,fun a e=>?_⟩
   cases e
   exact⟨o,I.kIn _ o hk,hd⟩
  .have z:∃o,s.heap.get? p=some o/\o.ExactDict:=by
    rcases hk with ⟨kvs,hk⟩ |⟨kvs,hk⟩
    .obtain⟨_,_,_,_,o,_,_,e,ex,_⟩:=I.hok p _ hk
     exact⟨o,e,ex⟩
    .obtain⟨_,_,_,_,o,_,_,e,ex,_⟩:=I.hok p _ hk
     exact⟨o,e,ex⟩
   obtain⟨o,e,ex⟩:=z
   refine⟨⟨o,e,ex.1⟩,fun a e2=>?_⟩
   cases e2
   exact⟨o,e,ex.2.1⟩
  .obtain⟨o,_,_,_,e,ex,_⟩:=I.hok p _ hk
   refine⟨⟨o,e,ex.1⟩,fun a e2=>?_⟩
   cases e2
   exact⟨o,e,ex.2.1⟩
 |_=>exact False.elim ty
def tBM0 (K:Frag) (T:String) (r:V->List V->Hp->VK->Prop) (to:TE):TE:=fun σ H Q=>to σ H fun x H1=>tyV K T x H1/\r x [] H1 Q
def tBM (K:Frag) (T:String) (r:V->List V->Hp->VK->Prop) (to:TE) (t:TA):TE:=fun σ H Q=>to σ H fun x H1=>tyV K T x H1/\t σ H1 fun xs H2=>r x xs H2 Q
variable {o e: Expr} {es: List Expr} {to: TE} {t: TA} {name: Str} {apos cpos: Pos} {T id: String} {r: V -> List V -> Hp -> VK -> Prop}
theorem pe_bm0 (pa:PlainAttrs T) (slot:Slot T name id) (hty:typeOf (.builtin id)=pure (.type "method_descriptor")) (hm:MtR X id r) (ho:PE X o to)
  (hbase:attributeBase o name X.env (eval o X.env)=eval o X.env:=by rfl) (hline:(apos.endLine==cpos.line)=true:=by rfl):PE X (.Call (.Attribute o name apos) [] [] cpos) (tBM0 X.K T r to):=by
 intro pins s σ H Q I h
 refine wpAny_Call_method0_late hbase hline (thn (ho pins s σ H _ I h) fun v s1 ⟨x,H1,I1,r1,ty,q1⟩=>?_)
 obtain⟨h1,h2⟩:=tyV_is I1 r1 ty
 exact⟨T,id,pa,slot,hty,h1,h2,Calls.callWith_builtin rfl (PySem.evalArgs_none (hm pins s1 σ H1 x [] v [] Q I1 r1 .nil q1))⟩
theorem qdr (pa:PlainAttrs T) (slot:Slot T name id) (hty:typeOf (.builtin id)=pure (.type "method_descriptor")) (hm:MtR X id r) (ho:PE X o to) (ha:PA X (e :: es) t)
  (hbase:attributeBase o name X.env (eval o X.env)=eval o X.env:=by rfl)
  (hfew:((backTo cpos (starEach (e :: es) X.env)).all (fun x=>!x.1) && (backToKw cpos (keywordEach [] X.env)).all (fun x=>x.1.isSome)
   && decide ((e :: es).length+([]:List Keyword).length+(if ([]:List Keyword).isEmpty then 0 else 1) < 30))=true:=by rfl)
  (hline:(apos.endLine==cpos.line)=true:=by rfl) (hs:starEach (e :: es) X.env=(false,eval e X.env) :: starEach es X.env:=by rfl) (hplain:(backTo cpos (starEach es X.env)).any (·.1)=false:=by rfl):
  PE X (.Call (.Attribute o name apos) (e :: es) [] cpos) (tBM X.K T r to t):=by
 intro pins s σ H Q I h
 refine wpAny_Call_method_late hbase hfew hline rfl (thn (ho pins s σ H _ I h) fun v s1 ⟨x,H1,I1,r1,ty,q1⟩=>?_)
 obtain⟨h1,h2⟩:=tyV_is I1 r1 ty
 refine⟨T,id,pa,slot,hty,h1,h2,?_⟩
 have hA:=ha cpos pins s1 σ H1 _ I1 q1
 rw [hs] at hA ⊢
 refine Calls.callWith_builtin (by show (false ||(backTo cpos (starEach es X.env)).any (·.1))=false;rw [hplain] <;> rfl) (Calls.evalArgs_plain ?_)
 exact thn hA fun us s2 ⟨vs,H2,I2,r2,q2⟩=>hm pins s2 σ H2 x vs v us Q I2 r1 r2 q2
end
def MtM (X:Cx) (id:String) (r:V->List V->Hp->VK->Prop):Prop:=
 ∀(pins:List (Addr × Obj)) (s:Shared) (σ:St) (H:Hp) (x:V) (xs:List V) (v:Value) (us:List Value) (Q:VK),Inv X pins σ H s->qba x v->qb7 xs us->r x xs H Q->
  wpAny (model X.prog X.w) X.A (call (.builtin id) (v :: us)) (EP X pins σ Q) X.xe s
theorem qb7.one:∀{x:V} {us:List Value},qb7 [x] us->∃u,us=[u]/\qba x u
 |_,_,.cons r .nil=>⟨_,rfl,r⟩
theorem qb7.zero:∀{us:List Value},qb7 [] us->us=[]
 |_,.nil=>rfl
theorem qb7.eraseIdx:∀{xs:List V} {us:List Value} (i:Nat),qb7 xs us->qb7 (xs.eraseIdx i) (us.eraseIdx i)
 |_,_,_,.nil=> .nil
 |_,_,0,.cons _ t=>t
 |_,_,i+1,.cons r t=> .cons r (qb7.eraseIdx i t)
theorem len_erase {α:Type}:∀(l:List α) (i:Nat),(l.eraseIdx i).length<=l.length
 | [],_=>Nat.le_refl _
 |_ :: _,0=>Nat.le_succ _
 |_ :: r,i+1=>Nat.succ_le_succ (len_erase r i)
section
variable {X: Cx} {pins: List (Addr × Obj)} {σ: St} {H: Hp} {s: Shared} {l: Addr} {xs ys: List V}
theorem Inv.lset {its its':List Value} {n:Nat} {f:Array Value->Array Value} {t':Nat} (I:Inv X pins σ H s) (hH:H l=some (.lst xs))
  (e:s.heap.get? l=some {cls:=.type "list",data:=.seq its.toArray n}) (hf:f its.toArray=its'.toArray) (hv:qb7 ys its') (hz:ys.length<=sizeLine):
  Inv X pins σ (upd H l (.lst ys)) {s with heap:=s.heap.update l (Obj.mapSeq f),toks:=t'}:=by
 have q:=PySem.IsL.update e f
 rw [hf] at q
 refine I.write (x:=l) (e:=l) (by rw [hH];exact trivial) (.inl rfl) (fun b' u hb hu=>(Heap.get?_update_other s.heap (Obj.mapSeq f) (Ne.symm hb)).trans hu) ⟨_,q⟩ ?_
 exact⟨hz,its',_,hv,q⟩
theorem Inv.lnew {its:List Value} {t':Nat} (I:Inv X pins σ H s) (hv:qb7 ys its) (hz:ys.length<=sizeLine):
  Inv X pins σ (upd H s.heap.objs.size (.lst ys)) {s with heap:=s.heap.push {cls:=.type "list",data:=.seq its.toArray},toks:=t'}:=
 I.laid (fun _ _ q=>Heap.get?_push_of_some _ q) (Nat.le_refl _) ⟨hz,its,0,hv,Heap.get?_push_size _ rfl⟩
theorem Inv.lstM (I:Inv X pins σ H s) (hH:H l=some (.lst xs)):xs.length<=sizeLine/\∃(its:List Value) (n:Nat),qb7 xs its/\xs.length=its.length/\s.heap.get? l=some {cls:=.type "list",data:=.seq its.toArray n}:=by
 obtain⟨z,its,n,r,e⟩:=I.hok l _ hH
 exact⟨z,its,n,r,r.length,e⟩
theorem notLongL {n:Nat} (h:n<=sizeLine):Builtin.List.listTooLong n=false:=by
 unfold Builtin.List.listTooLong
 exact decide_eq_false (by omega)
end
section
variable {X: Cx}
def rAppend:V->List V->Hp->VK->Prop:=fun x vs H Q=>∃l xs y,x=.ref l/\vs=[y]/\H l=some (.lst xs)/\xs.length < sizeLine/\Q .non (upd H l (.lst (xs++ [y])))
theorem qbt:MtM X "list.append" rAppend:=by
 intro pins s σ H x vs v us Q I rx rv h
 obtain⟨l,xs,y,rfl,rfl,hH,hz,q⟩:=h
 cases rx
 obtain⟨u,rfl,ru⟩:=rv.one
 obtain⟨z,its,n,r,hl,e⟩:=I.lstM hH
 refine call_meets F.slot_list_append ⟨_,e,rfl⟩ F.entry_list_append (F.args_list_append_2 _ _) (PySem.list_append l its.toArray n u (by rw [zO];omega)) ⟨e,?_⟩
 refine⟨.non,_,I.lset (its':=its++ [u]) hH e (by simp) (r.append (.cons ru .nil)) ?_,rfl,q⟩
 rw [zL,yE]
 omega
def rExtend:V->List V->Hp->VK->Prop:=fun x vs H Q=>∃l b xs zs,x=.ref l/\vs=[.ref b]/\H l=some (.lst xs)/\H b=some (.lst zs)/\xs.length+zs.length<=sizeLine/\Q .non (upd H l (.lst (xs++zs)))
theorem mt_extend:MtM X "list.extend" rExtend:=by
 intro pins s σ H x vs v us Q I rx rv h
 obtain⟨l,b,xs,zs,rfl,rfl,hH,hB,hz,q⟩:=h
 cases rx
 obtain⟨u,rfl,ru⟩:=rv.one
 cases ru
 obtain⟨z,its,n,r,hl,e⟩:=I.lstM hH
 obtain⟨z2,its2,n2,r2,hl2,e2⟩:=I.lstM hB
 have hsz:its.toArray.size+its2.toArray.size<=sizeLine:=by rw [zO,zO];omega
 have hlong:¬(!its.toArray.isEmpty && Builtin.List.listTooLong (its.toArray.size+its2.toArray.size))=true:=by
  rw [notLongL hsz,Bool.and_false]
  exact Bool.false_ne_true
 refine call_meets F.slot_list_extend ⟨_,e,rfl⟩ F.entry_list_extend (F.args_list_extend_2 _ _)
  (AutoSeq1.list_extend_list_list_0 l its.toArray n b its2.toArray n2 hlong (by rw [zO];omega) (by omega)) ⟨e,e2,?_⟩
 refine⟨.non,_,I.lset (its':=its++its2) hH e (by simp) (r.append r2) ?_,rfl,q⟩
 rw [zL]
 omega
def rPopAt:V->List V->Hp->VK->Prop:=fun x vs H Q=>∃l xs i k y,x=.ref l/\vs=[.int i]/\H l=some (.lst xs)/\-(2^63)<=i/\i < 2^63/\seqIndex? i xs.length=some k/\xs[k]?=some y/\Q y (upd H l (.lst (xs.eraseIdx k)))
theorem mt_popAt:MtM X "list.pop" rPopAt:=by
 intro pins s σ H x vs v us Q I rx rv h
 obtain⟨l,xs,i,k,y,rfl,rfl,hH,h1,h2,hk,hy,q⟩:=h
 cases rx
 obtain⟨u,rfl,ru⟩:=rv.one
 obtain⟨t,rfl⟩:=ru
 obtain⟨z,its,n,r,hl,e⟩:=I.lstM hH
 obtain⟨w,hw,rw'⟩:=r.get hy
 refine call_meets F.slot_list_pop ⟨_,e,rfl⟩ F.entry_list_pop (F.args_list_pop_2 _ _)
  (MeetsSeq.list_pop_at l its.toArray n i t k w (fitsIndex_both h1 h2) (by rw [zO,<-hl];exact hk) (by rw [<-Array.getElem?_toList];exact hw) (by rw [zO];omega)) ⟨e,?_⟩
 refine⟨y,_,I.lset (its':=its.eraseIdx k) hH e ?_ (r.eraseIdx k) ?_,rw',q⟩
 .show its.toArray.eraseIdxIfInBounds k=(its.eraseIdx k).toArray
  rw [List.eraseIdxIfInBounds_toArray]
 .have:=len_erase xs k
  omega
def rRep:R2:=fun x y H Q=>∃l k xs,x=.ref l/\y=.int k/\H l=some (.lst xs)/\-(2^63)<=k/\k < 2^63/\xs.length*k.toNat<=sizeLine/\
 ∀p,H p=none->Q (.ref p) (upd H p (.lst (List.replicate k.toNat xs).flatten))
end
end L2
namespace Att
open PySem PySem.W PySem.Calls PyProof.Rows
theorem qfa {P:Params} {h:Heap}:∀(ns:List Int) (vs:List Value),WellAll P h vs (ns.map WData.int)->IntsAre vs ns:=by
 intro ns
 induction ns with
 |nil=>
  intro vs w
  rw [xD] at w
  cases w
  exact .nil
 |cons n ns ih=>
  intro vs w
  rw [zM] at w
  cases w with
  |cons a b=>
   cases a
   exact .cons _ _ (ih _ b)
theorem script_of {l:OpenLaw} {n:Nat} (hn:l.most=some n) {P:Params} {h:Heap} {args:List WData} {vals:List Value}
  (hpre:l.row.toRowW.claim.pre args=true) (hwl:WellAll P h vals args):
  ∃a vs ns,vals=[Value.ref a]/\args=[WData.list (ns.map WData.int)]/\h.get? a=some {cls:=.type "list",data:=.seq vs.toArray}/\IntsAre vs ns/\ns.length<=n:=by
 have hsh:WShape.hasAll [] args [.list .int]=true:=(pre_splitW hpre).1
 have hc:l.pre.holds [] {args:=args}=true:=(pre_splitW hpre).2
 obtain⟨d,r,rfl,h1,h2⟩:=hasAllW_cons hsh
 obtain rfl:=hasAllW_nil h2
 obtain⟨xs,rfl,h3⟩:=hasW_list h1
 obtain⟨ns,rfl⟩:=items_int h3
 have hlen:ns.length<=n:=by
  unfold OpenLaw.pre at hc
  have h4:(WTm.not (.lt (.lit (.int (n:Int))) (.len (.arg 0)))).holds [] {args:=[.list (ns.map .int)]}=true:=by
   have h4:=(holds_andW hc).1
   rw [hn] at h4
   exact h4
  have h5:=condW_of h4 (w_not (w_lt w_lit (w_len_list (w_arg rfl))))
  rw [zB] at h5
  refine Nat.le_of_not_lt fun q=>?_
  have q':(n:Int) <((ns.length:Nat):Int):=by omega
  first
   |(rw [decide_eq_true q'] at h5;exact absurd h5 (by decide))
   |(simp at h5;omega)
 cases hwl with
 |cons w1 w2=>
  cases w2
  cases w1 with
  |list ho hall=>exact⟨_,_,ns,rfl,rfl,ho,qfa ns _ hall,hlen⟩
theorem post_true (l:OpenLaw) (args:List WData):l.row.toRowW.claim.post args (.bool true) args=true:=
 postW_of (r:=l.row.toRowW) (X:=(true==true))
  (show WShape.has [] (.bool true) .bool=true by first|rfl|decide|simp [WShape.has,WShape.arms,WShape.armsAll])
  (show (WTm.eq .res (.lit (.bool true))).value [] {args:=args,res:=some (.bool true),after:=args}=some (.bool (true==true)) from w_eq_bool (w_res rfl) w_lit) rfl
theorem attach_call {l:OpenLaw} {n:Nat} {q:Program} {loose:List Str} {XP:(Str->Option Value)->Heap->Prop} {YP:World->Heap->Prop} {d:DefRec}
  (hn:l.most=some n) (hdf:d.params.defaults=[])
  (call:∀(w:World) (s₀ s₁:Shared) (mg mb:Str->Option Value) (fa:Addr) (o:Obj) (pm cd doc:Value) (a:Addr) (vs:List Value) (ns:List Int),
   Ground q loose [] XP w s₀ mg mb s₁.heap->YP w s₁.heap->
   s₁.heap.get? fa=some o->o.data=.func (docDef d.name d.params d.body d.scope pm cd doc)->s₁.heap.CodeRec cd d.name->mg d.name=some (.ref fa)->
   s₁.heap.get? a=some {cls:=.type "list",data:=.seq vs.toArray}->IntsAre vs ns->ns.length<=n->s₁.gens= #[]->
   codeAny (model l.prog w) callerA (.call (.ref fa) ⟨[.ref a], []⟩) (fun r s'=>r=.ok (.ret (.bool true))/\OldK s₁.heap s'.heap/\s'.os=s₁.os/\AllBare s'.gens) s₁):
  WalkO q loose XP YP l.row.toRowW d [] (fun f vs=>PySem.call f vs):=by
 intro w s₀ s₁ mg mb G Y fa o pm cd doc dV kV ho hd hcd hD hmg hg args vals as hpre hlay hrd hwl hlo
 obtain rfl:dV=.none:=Dflts.none hD hdf
 obtain rfl:kV=.none:=Dflts.noKw hD
 obtain⟨a,vs,ns,rfl,rfl,hobj,hints,hlen⟩:=script_of hn hpre hwl
 refine enter_call (codeAny_mono (call w s₀ s₁ mg mb fa o pm cd doc a vs ns G Y ho (fd_plain hd) hcd hmg hobj hints hlen hg) fun r s' hq=>?_)
 obtain⟨rfl,h2,h3,h4⟩:=hq
 exact⟨.inl ⟨.bool true,.bool true, [],rfl,fun _=>rfl,.bool true,post_true l _,fun _=>⟨List.Pairwise.nil,fun _ hm=>(nomatch hm)⟩⟩,h2,h3,h4⟩
end Att
namespace L2
open PySem PySem.Spec PyProof.Rows
theorem vals_ints:∀{vs:List Value} {ns:List Int},IntsAre vs ns->qb7 (ns.map V.int) vs
 |_,_,.nil=> .nil
 |_,_,.cons n t h=> .cons ⟨t,rfl⟩ (vals_ints h)
def Only (H:Hp):Prop:=∀b,H b=none\/∃o xs,H b=some (.frz o (.lst xs))
theorem law_call {P:Program} {w:World} {K:Frag} {mg mb:Str->Option Value} {CX:CXT} {k:Nat} {fa a:Addr} {fd:FuncData} {x:Str} {sp:Sp} {s₁:Shared} {vs:List Value} {ns:List Int}
  (KX:K.In s₁.heap) (hns:s₁.heap.Ns mainGlobals mg) (hb:s₁.heap.Ns builtinsNs mb) (hbb:∀x:Str,x≠"__name__"->mb x=bootBuiltins x) (hlim:s₁.heap.NoLimit) (hg:s₁.gens= #[])
  (ha:s₁.heap.get? a=some {cls:=.type "list",data:=.seq vs.toArray}) (hi:IntsAre vs ns) (hl:ns.length<=sizeLine) (hr:Room k callerA)
  (F:∀base:Heap,K.In base->base.Ns mainGlobals mg->FnOk P w K mg base CX k fa fd [x] sp) (hbind:∀(s:Shared) (u:Value),BindsTo s fd ⟨[u], []⟩ [(x,u)])
  (hsp:∀H:Hp,Only H->SqL K H a (ns.map V.int)->sp [.ref a] H (fun v _=>v=.bl true) fun _ _ _=>False)
  (hCX:∀H e s',CX [] H s₁ (fun _ _ _=>False) e s'->False):
  codeAny (model P w) callerA (.call (.ref fa) ⟨[.ref a], []⟩) (fun r s'=>r=.ok (.ret (.bool true))/\OldK s₁.heap s'.heap/\s'.os=s₁.os/\AllBare s'.gens) s₁:=by
 have rv:=vals_ints hi
 have lenV:=hi.length
 have core:∀H:Hp,Only H->SqL K H a (ns.map V.int)->HOk P w H s₁.heap->(∀b,H b≠none->b=a)->(H a≠none->K.lookup a=none)->
   codeAny (model P w) callerA (.call (.ref fa) ⟨[.ref a], []⟩) (fun r s'=>r=.ok (.ret (.bool true))/\OldK s₁.heap s'.heap/\s'.os=s₁.os/\AllBare s'.gens) s₁:=by
  intro H hO hS hok hA hK
  have base_of:∀{b:Addr} {o:Obj},s₁.heap.get? b=some o->H b=none->(hidT s₁.heap H).get? b=some o:=fun e n=>hidT_get e n
  have noA:∀{b:Addr} {o:Obj} {es:Array DictEntry} {ep:Nat},s₁.heap.get? b=some o->o.data=.dict es ep->H b=none:=fun {b o es ep} e d=>by
   cases q:H b with
   |none=>rfl
   |some u=>
    have e':b=a:=hA b (by rw [q];simp)
    subst e'
    rw [ha] at e;cases e
    have d':Data.seq vs.toArray _=Data.dict es ep:=d
    cases d'
  have nsK:∀{b:Addr} {m:Str->Option Value},s₁.heap.Ns b m->(hidT s₁.heap H).Ns b m:=fun {b m} ⟨o,es,ep,e,d,r⟩=>⟨o,es,ep,base_of e (noA e d),d,r⟩
  have hKb:K.In (hidT s₁.heap H):=fun b o e=>base_of (KX b o e) (by
   cases q:H b with
   |none=>rfl
   |some u=>
    have e':b=a:=hA b (by rw [q];simp)
    subst e'
    rw [hK (by rw [q];simp)] at e;cases e)
  have hM:Mod K mg (hidT s₁.heap H):=⟨hKb,nsK hns,⟨mb,nsK hb,hbb⟩,let ⟨mc,h1,h2⟩:=hlim;⟨mc,nsK h1,h2⟩⟩
  have e0:Env0 P w K mg (hidT s₁.heap H) callerA [] s₁ H:=⟨rfl,hM,fun b o e=>of_hidT e,Nat.le_of_eq (hidT_size _ _),trivial,fun b hb=>absurd (show b∈([]:List Addr) from hb) (by simp),hok,.of_eq hg⟩
  refine codeAny_mono ((F _ hKb (nsK hns)).run callerA [] s₁ H ⟨[.ref a], []⟩ [.ref a] [.ref a] _ _ hr e0 (hbind s₁ (.ref a)) (.cons rfl .nil) (hsp H hO hS)) fun r s' h=>?_
  cases r with
  |error e=>exact(hCX H e s' h).elim
  |ok fl=>
   cases fl with
   |next=>exact False.elim h
   |brk=>exact False.elim h
   |cont=>exact False.elim h
   |ret u=>
    obtain⟨v,H',os,bare,un,hok',r',q⟩:=h
    have q':v=.bl true:=q
    subst q'
    obtain rfl:u=Value.bool true:=r'
    refine⟨rfl,OldK.of_keep fun b o e=>?_,os,bare⟩
    cases q:H b with
    |none=>exact un.keep b o e q (by intro z;exact absurd (show b∈([]:List Addr) from z) (by simp)) (by simp)
    |some u=>
     rcases hO b with z|⟨ob,xs,z⟩
     .rw [q] at z;cases z
     .have z2:=un.frzs b ob _ z
      obtain⟨e1,_⟩:=hok b _ z
      obtain⟨e2,_⟩:=hok' b _ z2
      rw [e] at e1;cases e1
      exact e2
 cases hk:K.lookup a with
 |some o=>
  have e:=KX a o hk
  rw [ha] at e
  cases e
  refine core (fun _=>none) (fun _=> .inl rfl) (.inr ⟨_,vs.toArray,_,hk,rfl,rfl,rfl,by rw [zO,lenV];exact hl,by simpa using rv⟩) (fun b u z=>by have z':(none:Option HO)=some u:=z;cases z') (fun b z=>absurd rfl z) fun z=>absurd rfl z
 |none=>
  refine core (fun b=>if b=a then some (.frz {cls:=.type "list",data:=.seq vs.toArray} (.lst (ns.map V.int))) else none) (fun b=>?_) (.inl (.inr ⟨{cls:=.type "list",data:=.seq vs.toArray},if_pos rfl⟩)) (fun b u z=>?_) (fun b z=>?_) fun _=>hk
  .by_cases hb:b=a
   .exact .inr ⟨_,_,if_pos hb⟩
   .exact .inl (if_neg hb)
  .by_cases hb:b=a
   .have z':=(if_pos hb).symm.trans z
    cases z'
    subst hb
    exact⟨ha,by rw [zB];exact hl,vs,_,rv,ha⟩
   .have z':=(if_neg hb).symm.trans z
    cases z'
  .by_cases hb:b=a
   .exact hb
   .exact absurd (if_neg hb) z
theorem walk_of {l:PySem.W.OpenLaw} {n k:Nat} {q:Program} {loose:List Str} {XP:(Str->Option Value)->Heap->Prop} {YP:World->Heap->Prop} {d:DefRec} {K:Params->Frag} {CX:World->CXT} {sp:World->Sp} {x:Str}
  (hn:l.most=some n) (hn2:n<=sizeLine) (hdf:d.params.defaults=[]) (hr:Room k callerA)
  (hY:∀(w:World) (h:Heap),YP w h->(K w.params).In h)
  (F:∀(w:World) (mg:Str->Option Value) (fa:Addr) (h:Heap),(K w.params).In h->h.Ns mainGlobals mg->mg d.name=some (.ref fa)->
   ∃fd:FuncData,(∀(s:Shared) (u:Value),BindsTo s fd ⟨[u], []⟩ [(x,u)])/\
    ∀base:Heap,(K w.params).In base->base.Ns mainGlobals mg->FnOk l.prog w (K w.params) mg base (CX w) k fa fd [x] (sp w))
  (hsp:∀(w:World) (H:Hp) (a:Addr) (ns:List Int),ns.length<=n->Only H->SqL (K w.params) H a (ns.map V.int)->sp w [.ref a] H (fun v _=>v=.bl true) fun _ _ _=>False)
  (hCX:∀(w:World) (H:Hp) (s:Shared) (e:Value) (s':Shared),CX w [] H s (fun _ _ _=>False) e s'->False):
  PySem.W.WalkO q loose XP YP l.row.toRowW d [] (fun f vs=>PySem.call f vs):=by
 refine Att.attach_call hn hdf fun w s₀ s₁ mg mb fa o pm cd doc a vs ns G Y ho hd hcd hmg hobj hints hlen hg=>?_
 have KX:=hY w _ Y
 obtain⟨fd,hb,hF⟩:=F w mg fa _ KX G.T.g hmg
 exact law_call KX G.T.g G.T.b G.T.builtins G.T.nolimit hg hobj hints (Nat.le_trans hlen hn2) hr hF hb (fun H hO hS=>hsp w H a ns hlen hO hS) fun H e s'=>hCX w H s₁ e s'
def qcf (s:Stmt):Arguments:=match s with
 | .FunctionDef _ a _ _ _ _ _ _ _ _=>a
 |_=>{posonlyargs:=[],args:=[],vararg:=none,kwonlyargs:=[],kw_defaults:=[],kwarg:=none,defaults:=[]}
def qby (s:Stmt):List Stmt:=match s with
 | .FunctionDef _ _ b _ _ _ _ _ _ _=>b
 |_=> []
def qa9 (s:Stmt):Scope:=match s with
 | .FunctionDef _ _ _ _ _ _ sc _ _ _=>sc
 |_=>{kind:=.function,names:=[],isGenerator:=false,isCoroutine:=false}
abbrev CX0:CXT:=fun _ _ _ _ _ _=>False
abbrev E0:XK:=fun _ _ _=>False
theorem qaf {X:Cx}:qfj CX0 X E0:=fun _ _ _ _ _ _ _ h=>h.elim
structure Fun (K:Frag) (x qual:Str) (st:Stmt) (f:Addr) (fd:FuncData):Prop where
 ex:∃(oc:Value) (od:Option Addr) (kV doc pm:Value) (an:Option Addr) (cdv ct:Value) (osl:Array (Option Value)),
  fd=fnOf x qual (qcf st) (qby st) (qa9 st) .none kV doc pm an cdv ct/\K.lookup f=some ⟨oc,od,.func fd,osl⟩/\codeIn K cdv qual=true
 kp:keepIn K (.ref f)=true
section
variable {P: Program} {w: World} {K: Frag} {mg: Str -> Option Value} {base: Heap}
theorem Fun.ok {x qual:Str} {st:Stmt} {f:Addr} {fd:FuncData} {N ps:List Str} {k:Nat} {sp:Sp} (F:Fun K x qual st f fd) (S:FnScope N ps (qa9 st)) (len:∀vs H Q E,sp vs H Q E->vs.length=ps.length)
  (hbody:∀(cdv:Value) (A:Around) (outer:List Env) (s:Shared) (H:Hp) (vs:List V) (Q:VK) (E:XK),Room k (A.deeper (envOfC qual (qa9 st) s.heap.objs.size f cdv))->sp vs H Q E->
   ∃t,PSs (cxOf CX0 P w K mg base N qual (qa9 st) f cdv A outer s H E).nox (qby st) t/\t {nx:=fun _ H'=>Q .non H',rt:=Q} (qek N vs) H):FnOk P w K mg base CX0 (k+1) f fd ps sp:=by
 obtain⟨oc,od,kV,doc,pm,an,cdv,ct,osl,rfl,lk,hcd⟩:=F.ex
 refine fn_of lk hcd S len fun A outer s H vs Q E hr hsp=>?_
 obtain⟨t,h,q⟩:=hbody cdv A outer s H vs Q E hr hsp
 exact⟨t,h.nox,q⟩
theorem Fun.binds {x qual:Str} {st:Stmt} {f:Addr} {fd:FuncData} {ps:List Str} (F:Fun K x qual st f fd)
  (h:∀(kV doc pm:Value) (an:Option Addr) (cdv ct:Value) (us:List Value),us.length=ps.length->bindArgs (fnOf x qual (qcf st) (qby st) (qa9 st) .none kV doc pm an cdv ct) ⟨us, []⟩=pure (ps.zip us)):qah K fd ps []:=by
 obtain⟨oc,od,kV,doc,pm,an,cdv,ct,osl,rfl,lk,hcd⟩:=F.ex
 exact .all (h kV doc pm an cdv ct)
theorem fun_mk {x qual:Str} {st:Stmt} {f:Addr} {oc:Value} {od an:Option Addr} {osl:Array (Option Value)} {kV doc pm cdv ct:Value} (l:K.lookup f=some ⟨oc,od,.func (fnOf x qual (qcf st) (qby st) (qa9 st) .none kV doc pm an cdv ct),osl⟩)
  (c:codeIn K cdv qual=true) (k:keepIn K (.ref f)=true):Fun K x qual st f (fnOf x qual (qcf st) (qby st) (qa9 st) .none kV doc pm an cdv ct):=⟨⟨oc,od,kV,doc,pm,an,cdv,ct,osl,rfl,l,c⟩,k⟩
end
theorem qb9 {A:Around} {k:Nat} (hr:Room k A):A.units+1 < cLine:=Nat.lt_of_le_of_lt (Nat.add_le_add_left (by decide:1<=64) _) hr.units
section
variable {X: Cx}
theorem pv (i:Nat) {x:Str} {pos:Pos} (hN:X.N[i]?=some x:=by rfl) (hv:Vis X.env.scope x:=by first|exact Or.inl rfl|exact Or.inr (Or.inl rfl) |exact Or.inr (Or.inr rfl)) (hd:(x==("__debug__" :Str))=false:=by decide)
  (hcd:(x==("__classdict__" :Str))=false:=by decide):PE X (.Name x pos) (tVar i):=pe_var hN hv hd hcd
end
theorem iteF {A B:Prop} (h:B):if false=true then A else B:=by
 rw [if_neg Bool.false_ne_true]
 exact h
theorem iteT {A B:Prop} (h:A):if true=true then A else B:=by
 rw [if_pos rfl]
 exact h
def qas (H H':Hp):Prop:=∀b o,H b=some o->H' b=some o
theorem qas.refl (H:Hp):qas H H:=fun _ _ h=>h
theorem qas.trans {H H1 H2:Hp} (a:qas H H1) (b:qas H1 H2):qas H H2:=fun c o h=>b c o (a c o h)
theorem qas.free {H H':Hp} (e:qas H H') {l:Addr} (h:H' l=Option.none):H l=Option.none:=by
 cases q:H l with
 |none=>rfl
 |some o=>
  rw [e l o q] at h
  cases h
theorem qas.seq {K:Frag} {H H':Hp} {a:Addr} {xs:List V} (e:qas H H') (h:SqL K H a xs):SqL K H' a xs:=by
 rcases h with (h|⟨o,h⟩) |h
 .exact .inl (.inl (e _ _ h))
 .exact .inl (.inr ⟨o,e _ _ h⟩)
 .exact .inr h
end L2
namespace My
open PySem PySem.Spec PyProof.Rows L2
section
variable {X: Cx}
theorem bits600 {k:Int} (h:k.natAbs < 2^600):Builtin.Int.intBits k<=2^20:=
 Nat.le_trans (PyProof.Rows.intBits_le (k:=600) h) (by decide)
def CBig (i j:Int):Prop:=i.natAbs < 2^600/\j.natAbs < 2^600
theorem qct:OpR X (binaryOp .Mult) (rI CBig fun i j=> .int (i*j)):=opI fun _ _ _ _ _ _ _ hc q=>mul_int q (IntMulOk.of_bits (bits600 hc.1) (bits600 hc.2))
def CDivB (i j:Int):Prop:=j≠0/\j.natAbs < 2^600
theorem noPy {x y:Int} (h:y.natAbs < 2^600):Builtin.divisionGoesByPylong x y=false:=by
 refine PyProof.noPylong_of_log2 ?_
 by_cases h0:y.natAbs=0
 .rw [h0];decide+kernel
 .have h30:y.natAbs.log2 < 600:=(Nat.log2_lt h0).mpr h
  omega
theorem qep:OpR X (binaryOp .FloorDiv) (rI CDivB fun i j=> .int (i.fdiv j)):=opI fun _ _ _ _ _ _ _ hc q=>floordiv_int hc.1 q (.inl (noPy hc.2))
end
theorem qaa {H:Hp} {p:Addr} (h:H p=none) (o:HO):qas H (upd H p o):=fun b u q=>by rw [qa6 (qa2 q h)];exact q
theorem same_tup {K:Frag} {H H':Hp} {a:Addr} {xs:List V} (e:qas H H') (h:SqT K H a xs):SqT K H' a xs:=by
 rcases h with (h|⟨o,h⟩) |h
 .exact .inl (.inl (e _ _ h))
 .exact .inl (.inr ⟨o,e _ _ h⟩)
 .exact .inr h
def cell (ns:List Int) (k:Int):Int:=(ns[k.toNat]?).getD 0
theorem cell_at {ns:List Int} {k:Int} (h0:0<=k) (h:k <(ns.length:Int)):atI (ns.map V.int) k=some (.int (cell ns k)):=by
 have hk:k.toNat < ns.length:=by omega
 have ek:k=((k.toNat:Nat):Int):=by omega
 have q:atI (ns.map V.int) ((k.toNat:Nat):Int)=some (.int ns[k.toNat]):=qbn (by rw [zD,zA hk] <;> rfl)
 rw [<-ek] at q
 rw [q]
 unfold cell
 rw [zA hk]
 rfl
end My
set_option maxHeartbeats 1000000
namespace My
open PySem PySem.Spec PyProof.Rows L2
section
variable {X: Cx} {pins: List (Addr × Obj)} {σ: L2.St} {H: Hp} {s: Shared} {h': Heap}
structure Rec (X:Cx) (pins:List (Addr × Obj)) (H:Hp) (h:Heap) (b:Addr):Prop where
 nw:X.s₀.heap.get? b=none
 un:H b=none
 pin:∀p∈X.pn++pins,p.1≠b
 ob:∃o vs,h.get? b=some o/\o.data=.fields vs
theorem Rec.loc (I:Inv X pins σ H s) {b:Addr} (r:Rec X pins H s.heap b):b≠X.env.locals:=fun z=>by
 obtain⟨o,vs,e,d⟩:=r.ob
 obtain⟨m,⟨o',es,ep,e',d',_⟩,_⟩:=I.loc
 rw [z,e'] at e;cases e;rw [d'] at d;cases d
theorem Rec.cel (I:Inv X pins σ H s) {b:Addr} (r:Rec X pins H s.heap b):∀x c,X.env.cells.lookup x=some c->c≠b:=fun x c hc z=>by
 obtain⟨o,vs,e,d⟩:=r.ob
 obtain⟨v,o',e',d'⟩:=I.cell x c hc
 rw [z,e] at e';cases e';rw [d] at d';cases d'
theorem Rec.frs (I:Inv X pins σ H s) {b:Addr} (r:Rec X pins H s.heap b):b∉frs X.stack:=fun z=>by
 obtain⟨o,vs,e,d⟩:=r.ob
 obtain⟨_,o',e',d'⟩:=I.stack.mem z
 rw [e] at e';cases e';exact d' vs d
theorem Inv.marks {ch:List Addr} {t':Nat} (I:Inv X pins σ H s) (hch:∀b∈ch,Rec X pins H s.heap b)
  (k1:∀b o,b∉frs X.stack->b∉ch->s.heap.get? b=some o->h'.get? b=some o)
  (k2:∀b o,b∉ch->s.heap.get? b=some o->∃sl,h'.get? b=some {o with slots:=sl}):Inv X pins σ H {s with heap:=h',toks:=t'}:=by
 have sub:∀b,b≠X.env.locals->b∉X.fs->b∉frs X.stack:=fun b h1 h2 z=>(zV.mp (I.stkSub b z)).elim h1 h2
 have neL:∀b o,X.s₀.heap.get? b=some o->b≠X.env.locals:=fun b o e=>Nat.ne_of_lt (Nat.lt_of_lt_of_le (Heap.lt_size e) I.ok.above)
 have neC:∀b o,X.s₀.heap.get? b=some o->b∉ch:=fun b o e z=>by rw [(hch b z).nw] at e;cases e
 have cel:∀x c,X.env.cells.lookup x=some c->∀v,s.heap.IsCell c v->h'.IsCell c v:=fun x c e v ⟨o,ho,hd⟩=>by
  obtain⟨sl,q⟩:=k2 c o (fun z=>(hch c z).cel I x c e rfl) ho
  exact⟨_,q,hd⟩
 refine⟨I.ok,I.os,I.bare,⟨fun b o e n hb hx=>k1 b o (sub b (neL b o e) hb) (neC b o e) (I.base.keep b o e n hb hx),fun b o e n hb hx=>?_,I.base.free,fun b o e hx=>?_,I.base.tups,I.base.frzs,I.base.tbls⟩,
  ?_,fun x c e=>?_,I.free,I.freeC,fun p hp=>?_,fun a o e=>?_,I.len⟩
 .obtain⟨sl,e1⟩:=I.base.slot b o e n hb hx
  obtain⟨sl',e2⟩:=k2 b _ (neC b o e) e1
  exact⟨sl',e2⟩
 .obtain⟨o',e1⟩:=I.base.there b o e hx
  obtain⟨sl',e2⟩:=k2 b _ (neC b o e) e1
  exact⟨_,e2⟩
 .obtain⟨m,hm,hl⟩:=I.loc
  have hm':h'.Ns X.env.locals m:=by
   obtain⟨o,es,ep,e,r⟩:=hm
   obtain⟨sl,q⟩:=k2 _ o (fun z=>(hch _ z).loc I rfl) e
   exact⟨_,es,ep,q,r⟩
  refine⟨m,hm',fun i x v e1 e2 e3=>?_⟩
  obtain⟨u,r,l⟩:=hl i x v e1 e2 e3
  refine⟨u,r,?_⟩
  rcases l with l|⟨k,c,e,z⟩
  .exact .inl l
  .exact .inr ⟨k,c,e,cel x c e _ z⟩
 .obtain⟨v,z⟩:=I.cell x c e
  exact⟨v,cel x c e v z⟩
 .obtain⟨e,n,ne,nf,d⟩:=I.pin p hp
  exact⟨k1 p.1 p.2 (sub p.1 ne nf) (fun z=>(hch p.1 z).pin p hp rfl) e,n,ne,nf,d⟩
 .refine(I.hok a o e).stay (fun b u hb q=>k1 b u ?_ ?_ q) (fun _ q=>q) fun _ _ q=>q
  .intro z
   have n:=I.stkFree b z
   rcases hb with rfl|hb
   .rw [n] at e;cases e
   .rw [n] at hb;cases hb
  .intro z
   have n:=(hch b z).un
   rcases hb with rfl|hb
   .rw [n] at e;cases e
   .rw [n] at hb;cases hb
theorem obj_there {P:Program} {w:World} {H:Hp} {h:Heap} {a:Addr} {o:HO} (x:qbp P w H h a o):∃ob,h.get? a=some ob:=by
 cases o with
 |lst xs=>obtain⟨_,_,_,_,e⟩:=x;exact⟨_,e⟩
 |tup xs=>obtain⟨_,_,_,ob,e,_⟩:=x;exact⟨_,e⟩
 |dK kvs=>obtain⟨_,_,_,_,o,_,_,e,_⟩:=x;exact⟨_,e⟩
 |dT kvs=>obtain⟨_,_,_,_,o,_,_,e,_⟩:=x;exact⟨_,e⟩
 |set S n=>obtain⟨o,_,_,_,e,_⟩:=x;exact⟨_,e⟩
 |ins C dx fs=>obtain⟨_,_,_,e,_⟩:=x;exact⟨_,e⟩
 |own y=>exact x
 |xd fs=>obtain⟨_,⟨_,_,_,e,_⟩,_⟩:=x;exact⟨_,e⟩
 |rng lo hi=>obtain⟨_,_,_,e⟩:=x;exact⟨_,e⟩
 |frz ob u=>obtain⟨e,_⟩:=x;exact⟨_,e⟩
 |tbl ps=>exact⟨_,(show h.get? a=some _ from x)⟩
 |met f y=>exact⟨_,(show h.get? a=some _ from x)⟩
 |ext φ=>obtain⟨_,e,_⟩:=x;exact e
theorem un_of {P:Program} {w:World} {H:Hp} {h:Heap} {a:Addr} (x:HOk P w H h) (e:h.get? a=none):H a=none:=by
 cases q:H a with
 |none=>rfl
 |some o=>obtain⟨ob,z⟩:=obj_there (x a o q);rw [e] at z;cases z
theorem new_of (I:Inv X pins σ H s) (hex:X.ex=[]) {b:Addr} (e:s.heap.get? b=none):X.s₀.heap.get? b=none:=by
 cases q:X.s₀.heap.get? b with
 |none=>rfl
 |some o=>obtain⟨o',z⟩:=I.base.there b o q (by rw [hex];simp);rw [e] at z;cases z
def XNew (h:Heap) (e:Addr) (C:Value) (d:Option Addr):Prop:=
 ∃oe vs,h.get? e=some oe/\oe.cls=C/\oe.dict=d/\oe.data=.fields vs/\vs[1]?=some .none
def XTr (h:Heap) (e:Addr) (C:Value) (d:Option Addr) (fl:Value) (T:Addr):Prop:=
 ∃oe vs oT ts,h.get? e=some oe/\oe.cls=C/\oe.dict=d/\oe.data=.fields vs/\vs[1]?=some (.ref T)/\T≠e/\h.get? T=some oT/\oT.data=.fields ts/\ts[3]?=some fl
def XIn (X:Cx) (pins:List (Addr × Obj)) (H:Hp) (h:Heap) (e:Addr) (C:Value) (d:Option Addr):Prop:=
 Rec X pins H h e/\(XNew h e C d\/∃T,Rec X pins H h T/\∃fl,XTr h e C d fl T)
def qfh (X:Cx) (pins:List (Addr × Obj)) (H:Hp) (h:Heap) (e:Addr) (C:Value) (d:Option Addr) (fl:Value):Prop:=
 Rec X pins H h e/\∃T,Rec X pins H h T/\XTr h e C d fl T
theorem dict_mapF (f:Array Value->Array Value) (o:Obj):(o.mapFields f).dict=o.dict:=by
 obtain⟨c,d,dt,sl⟩:=o
 cases dt <;> rfl
theorem entry_x {M:Model} {A:Around} {E:Value->Shared->Prop} {e:Addr} {C:Value} {d:Option Addr} {head:Value} {hadNext:Bool} {Q:Unit->Shared->Prop}
  (I:Inv X pins σ H s) (hA:A.frames=some X.stack) (hst:X.stack=X.env :: X.outer) (hf:X.env.frame=some X.env.locals) (r:Rec X pins H s.heap e)
  (ho:∃oe vs,s.heap.get? e=some oe/\oe.cls=C/\oe.dict=d/\oe.data=.fields vs/\1 < vs.size)
  (h:∀s',Inv X pins σ H s'->qfh X pins H s'.heap e C d (rawInt X.env.locals)->Q () s'):
  wpAny M A (do let a<-frameOf X.env;let pl<-entryPlaceOf X.env.locals hadNext;let b<-EntryCells.newEntry head a .none (rawInt X.env.locals) .none pl;setField (.ref e) 1 b) Q E s:=by
 obtain⟨oe,vs,he,hc,hdd,hd,hsz⟩:=ho
 have hl:=I.stack
 rw [hst] at hl hA
 have ne:e∉L2.frs X.stack:=r.frs I
 refine wpAny_bind (wpAny_frameOf_fun hA hl hf fun h₁ hs₁=>wpAny_bind (wpAny_entryPlaceOf fun pl hpl=>?_))
 unfold EntryCells.newEntry newFields
 refine wpAny_bind (wpAny_newObj_type ?_ (hpl.sizeOk5 _ _ _ _ _))
 rw [<-hst] at hs₁
 have he1:h₁.get? e=some oe:=(hs₁.2.1 e ne).trans he
 generalize hN:({cls:=.type "traceback",dict:=none,data:=.fields ([head,.ref X.env.locals,.none,rawInt X.env.locals,.none]++(if pl.isEmpty then List.replicate 6 Value.none else pl)).toArray}:Obj)=N
 have he2:(h₁.push N).get? e=some oe:=Heap.get?_push_of_some _ he1
 refine wpAny_setField he2 hd hsz (h _ ?_ ?_)
 .refine Inv.marks (s:=s) (ch:=[e]) (t':=s.toks) I (fun b hb=>by rw [zH.mp hb];exact r) (fun b o h1 h2 q=>?_) fun b o h2 q=>?_
  .have hb:b≠e:=fun z=>h2 (by simp [z])
   rw [Heap.get?_update_other _ _ (Ne.symm hb)]
   exact Heap.get?_push_of_some _ ((hs₁.2.1 b h1).trans q)
  .have hb:b≠e:=fun z=>h2 (by simp [z])
   obtain⟨sl,q1⟩:=hs₁.2.2 b o q
   exact⟨sl,by rw [Heap.get?_update_other _ _ (Ne.symm hb)];exact Heap.get?_push_of_some _ q1⟩
 .have sz1:h₁.objs.size=s.heap.objs.size:=hs₁.1
  have hTe:h₁.objs.size≠e:=Nat.ne_of_gt (Heap.lt_size he1)
  have d3:=Obj.data_mapFields hd (·.setIfInBounds 1 (Value.ref h₁.objs.size))
  have e3:=Heap.get?_update_self (Obj.mapFields (·.setIfInBounds 1 (Value.ref h₁.objs.size))) he2 (Obj.isFreed_of_fields d3)
  have nf:N.isFreed=false:=by rw [<-hN];rfl
  have t3:=(Heap.get?_update_other (h₁.push N) (Obj.mapFields (·.setIfInBounds 1 (Value.ref h₁.objs.size))) (Ne.symm hTe)).trans (Heap.get?_push_size h₁ nf)
  have rT:Rec X pins H ((h₁.push N).update e (Obj.mapFields (·.setIfInBounds 1 (Value.ref h₁.objs.size)))) h₁.objs.size:=by
   refine⟨Heap.get?_none_of_le (by rw [sz1];exact I.sz),I.hok.fresh (by rw [sz1];exact Nat.le_refl _),fun p hp z=>?_,⟨N,_,t3,by rw [<-hN]⟩⟩
   obtain⟨q,_⟩:=I.pin p hp
   have w:=Heap.lt_size q
   rw [z,sz1] at w
   exact absurd w (Nat.lt_irrefl _)
  refine⟨⟨r.nw,r.un,r.pin,⟨_,_,e3,d3⟩⟩,h₁.objs.size,rT,_,_,N,_,e3,(Obj.cls_mapFields _ _).trans hc,?_,d3,by simp [hsz],hTe,t3,by rw [<-hN],?_⟩
  .rw [<-hdd];exact dict_mapF _ _
  .first|(simp;done) |(rcases hpl with rfl|⟨_,_,_,_,_,_,_,rfl⟩ <;> simp)
theorem note_x {M:Model} {A:Around} {E:Value->Shared->Prop} {e:Addr} {C:Value} {d:Option Addr} {Q:Unit->Shared->Prop}
  (I:Inv X pins σ H s) (hA:A.frames=some X.stack) (hst:X.stack=X.env :: X.outer) (hf:X.env.frame=some X.env.locals) (x:XIn X pins H s.heap e C d)
  (h:∀s',Inv X pins σ H s'->qfh X pins H s'.heap e C d (rawInt X.env.locals)->Q () s'):wpAny M A (noteFrame (.ref e) X.env) Q E s:=by
 obtain⟨r,x⟩:=x
 unfold noteFrame
 simp only [hf]
 rcases x with ⟨oe,vs,he,hc,hdd,hd,h1⟩ |⟨T,rT,fl,oe,vs,oT,ts,he,hc,hdd,hd,h1,hTe,hT,hdT,h3⟩
 .refine wpAny_bind (wpAny_field he hd h1 ?_)
  rw [if_neg (by decide)]
  exact entry_x I hA hst hf r ⟨oe,vs,he,hc,hdd,hd,(Array.getElem?_eq_some_iff.mp h1).1⟩ h
 .refine wpAny_bind (wpAny_field he hd h1 ?_)
  rw [if_pos (show (Value.ref T !=Value.none)=true from by simp)]
  refine wpAny_bind (wpAny_field hT hdT h3 ?_)
  by_cases qf:(fl==rawInt X.env.locals)=true
  .rw [if_pos qf]
   have ef:fl=rawInt X.env.locals:=eq_of_beq qf
   rw [ef] at h3
   exact wpAny_pure (h s I ⟨r,T,rT,oe,vs,oT,ts,he,hc,hdd,hd,h1,hTe,hT,hdT,h3⟩)
  .rw [if_neg qf]
   refine wpAny_bind (wpAny_setField hT hdT (Array.getElem?_eq_some_iff.mp h3).1 ?_)
   have oth:∀b,b≠T->(s.heap.update T (Obj.mapFields (·.setIfInBounds 3 Value.none))).get? b=s.heap.get? b:=fun b hb=>Heap.get?_update_other _ _ (Ne.symm hb)
   have J:Inv X pins σ H {s with heap:=s.heap.update T (Obj.mapFields (·.setIfInBounds 3 Value.none))}:=
    Inv.marks (s:=s) (ch:=[T]) (t':=s.toks) I (fun b hb=>by rw [zH.mp hb];exact rT) (fun b o _ h2 q=>(oth b fun z=>h2 (by simp [z])).trans q) fun b o h2 q=>⟨o.slots,(oth b fun z=>h2 (by simp [z])).trans q⟩
   have he':=(oth e (Ne.symm hTe)).trans he
   exact entry_x J hA hst hf ⟨r.nw,r.un,r.pin,⟨oe,vs,he',hd⟩⟩ ⟨oe,vs,he',hc,hdd,hd,(Array.getElem?_eq_some_iff.mp h1).1⟩ h
theorem flight_g (fr:Option Addr) {M:Model} {A:Around} {E:Value->Shared->Prop} {e:Addr} {C fl:Value} {d:Option Addr} {Q:Unit->Shared->Prop}
  (I:Inv X pins σ H s) (x:qfh X pins H s.heap e C d fl)
  (h:∀s',Inv X pins σ H s'->qfh X pins H s'.heap e C d (fr.elim Value.none fun f=>rawInt f)->Q () s'):wpAny M A (setFlight (.ref e) fr) Q E s:=by
 obtain⟨r,T,rT,oe,vs,oT,ts,he,hc,hdd,hd,h1,hTe,hT,hdT,h3⟩:=x
 have hsz:=(Array.getElem?_eq_some_iff.mp h3).1
 unfold setFlight
 refine wpAny_bind (wpAny_field he hd h1 ?_)
 rw [if_pos (show (Value.ref T !=Value.none)=true from by simp)]
 refine wpAny_setField hT hdT hsz (h _ ?_ ?_)
 all_goals have oth:∀b,b≠T->(s.heap.update T (Obj.mapFields (·.setIfInBounds 3 (fr.elim Value.none fun f=>rawInt f)))).get? b=s.heap.get? b:=fun b hb=>Heap.get?_update_other _ _ (Ne.symm hb)
 .exact Inv.marks (s:=s) (ch:=[T]) (t':=s.toks) I (fun b hb=>by rw [zH.mp hb];exact rT) (fun b o _ h2 q=>(oth b fun z=>h2 (by simp [z])).trans q) fun b o h2 q=>⟨o.slots,(oth b fun z=>h2 (by simp [z])).trans q⟩
 .have he':=(oth e (Ne.symm hTe)).trans he
  have d3:=Obj.data_mapFields hdT (·.setIfInBounds 3 (fr.elim Value.none fun f=>rawInt f))
  have hT':=Heap.get?_update_self (Obj.mapFields (·.setIfInBounds 3 (fr.elim Value.none fun f=>rawInt f))) hT (Obj.isFreed_of_fields d3)
  exact⟨⟨r.nw,r.un,r.pin,⟨oe,vs,he',hd⟩⟩,T,⟨rT.nw,rT.un,rT.pin,⟨_,_,hT',d3⟩⟩,oe,vs,_,_,he',hc,hdd,hd,h1,hTe,hT',d3,by simp [hsz]⟩
theorem flight_x {M:Model} {A:Around} {E:Value->Shared->Prop} {e:Addr} {C fl:Value} {d:Option Addr} {Q:Unit->Shared->Prop}
  (I:Inv X pins σ H s) (x:qfh X pins H s.heap e C d fl)
  (h:∀s',Inv X pins σ H s'->qfh X pins H s'.heap e C d .none->Q () s'):wpAny M A (setFlight (.ref e) none) Q E s:=flight_g none I x h
theorem qfh.xin {h:Heap} {e:Addr} {C fl:Value} {d:Option Addr} (x:qfh X pins H h e C d fl):XIn X pins H h e C d:=
 let ⟨r,T,rT,q⟩:=x
 ⟨r,.inr ⟨T,rT,_,q⟩⟩
theorem qfh.xinL {h:Heap} {e:Addr} {C:Value} {d:Option Addr} (x:qfh X pins H h e C d (rawInt X.env.locals)):XIn X pins H h e C d:=x.xin
def CX1 (P:Program) (w:World):CXT:=fun outer H s E e s'=>∃(a:Addr) (C:Value) (d:Option Addr) (H':Hp),e=.ref a/\s'.os=s.os/\AllBare s'.gens/\Un (L2.frs outer) [] H H' s.heap s'.heap/\HOk P w H' s'.heap/\
 s.heap.get? a=none/\H' a=none/\(∃T,s.heap.get? T=none/\H' T=none/\XTr s'.heap a C d .none T)/\E C d H'
def Xes (X:Cx) (W:L2.St->XK):Prop:=∀(pins:List (Addr × Obj)) (σ:L2.St) (H:Hp) (s:Shared) (a:Addr) (C:Value) (d:Option Addr),Inv X pins σ H s->XIn X pins H s.heap a C d->W σ C d H->X.xe (.ref a) s
theorem xes_call {W:L2.St->XK} (h:Xes X W) (hex:X.ex=[]) {e:Value} {s':Shared} (I:Inv X pins σ H s) (q:CX1 X.prog X.w X.stack H s (W σ) e s'):X.xe e s':=by
 obtain⟨a,C,d,H',rfl,os,bare,un,hok,la,na,⟨T,lT,nT,x⟩,w⟩:=q
 have J:Inv X pins σ H' s':=I.call' (ch:=[]) os un hok bare (fun b z=>absurd z (by simp))
 have pn:∀b,s.heap.get? b=none->∀p∈X.pn++pins,p.1≠b:=fun b lb p hp z=>by
  have w:=(I.pin p hp).1
  rw [z,lb] at w
  cases w
 obtain⟨oe,vs,oT,ts,he,hc,hdd,hd,h1,hTe,hT,hdT,h3⟩:=id x
 exact h pins σ H' s' a C d J ⟨⟨new_of I hex la,na,pn a la,⟨oe,vs,he,hd⟩⟩,.inr ⟨T,⟨new_of I hex lT,nT,pn T lT,⟨oT,ts,hT,hdT⟩⟩,_,x⟩⟩ w
end
section
variable {X: Cx} {pins: List (Addr × Obj)} {σ: L2.St} {H: Hp} {s: Shared} {W: L2.St -> XK}
def XSt (X:Cx) (W:L2.St->XK) (e:Value) (s:Shared):Prop:=∃(a:Addr) (C:Value) (d:Option Addr) (σ:L2.St) (H:Hp),e=.ref a/\Inv X [] σ H s/\XIn X [] H s.heap a C d/\W σ C d H
abbrev xw (X:Cx) (W:L2.St->XK):Cx:=X.wish (XSt X W)
theorem Rec.less {h:Heap} {b:Addr} (r:Rec X pins H h b):Rec X [] H h b:=⟨r.nw,r.un,fun p hp=>r.pin p (by rw [yA] at hp;exact yF _ hp),r.ob⟩
theorem XIn.less {h:Heap} {a:Addr} {C:Value} {d:Option Addr} (x:XIn X pins H h a C d):XIn X [] H h a C d:=by
 obtain⟨r,x⟩:=x
 rcases x with x|⟨T,rT,x⟩
 .exact⟨r.less,.inl x⟩
 .exact⟨r.less,.inr ⟨T,rT.less,x⟩⟩
theorem Rec.unwish {E:Value->Shared->Prop} {h:Heap} {b:Addr} (r:Rec (X.wish E) pins H h b):Rec X pins H h b:=⟨r.nw,r.un,r.pin,r.ob⟩
theorem XIn.unwish {E:Value->Shared->Prop} {h:Heap} {a:Addr} {C:Value} {d:Option Addr} (x:XIn (X.wish E) pins H h a C d):XIn X pins H h a C d:=by
 obtain⟨r,x⟩:=x
 rcases x with x|⟨T,rT,x⟩
 .exact⟨r.unwish,.inl x⟩
 .exact⟨r.unwish,.inr ⟨T,rT.unwish,x⟩⟩
theorem qao:Xes (xw X W) W:=fun pins σ H s a C d I x w=>⟨a,C,d,σ,H,rfl,I.unwish.pins_of (fun _ z=>nomatch z),x.unwish.less,w⟩
theorem qed (hst:X.stack=X.env :: X.outer) (hf:X.env.frame=some X.env.locals):PassesOwn (model X.prog X.w) X.A X.env (XSt X W):=by
 rintro e s' ⟨a,C,d,σ,H,rfl,I,x,w⟩
 show wpAny _ _ (noteFrame (.ref a) X.env) _ _ s'
 refine note_x I I.ok.frames hst hf x fun s2 I2 x2=>?_
 obtain⟨r,T,rT,oe,vs,oT,ts,he,hc,hdd,hd,h1,r2⟩:=id x2
 unfold cameBackBy
 refine wpAny_bind (wpAny_field he hd h1 ?_)
 have fin:wpAny (model X.prog X.w) X.A (setFlight (.ref a) X.env.frame) (fun _ s''=>XSt X W (.ref a) s'') (XSt X W) s2:=by
  rw [hf]
  exact flight_g (some X.env.locals) I2 x2 fun s3 I3 x3=>⟨a,C,d,σ,H,rfl,I3,qfh.xinL x3,w⟩
 first
  |(rw [if_neg (show ¬((Value.ref T==Value.none)=true) from by simp)];exact fin)
  |(rw [if_neg (show ¬((Value.ref T==Value.none)=true) from by simp)];exact wpAny_bind (wpAny_pure fin))
  |(refine wpAny_bind ?_;rw [if_neg (show ¬((Value.ref T==Value.none)=true) from by simp)];exact wpAny_pure fin)
theorem PSs.xes {st:List Stmt} {t:TS} (hx:Xes X W) (h:PSs (xw X W) st t):PSs X st t:=fun pins s σ H D I hw=>
 wpAny_mono (h pins s σ H D (I.wish _) hw) (fun _ _ q=>q.unwish) fun _ _ ⟨a,C,d,σ',H',e,I',x,w⟩=>by subst e;exact hx [] σ' H' _ a C d I' x w
end
section
variable {P: Program} {w: World} {K: Frag} {mg: Str -> Option Value} {base: Heap}
theorem xes_fn {N:List Str} {qual:Str} {scope:Scope} {f:Addr} {cd:Value} {A:Around} {outer:List Env} {s:Shared} {H:Hp} {E:XK}:
  Xes (cxOf (CX1 P w) P w K mg base N qual scope f cd A outer s H E) (fun _=>E):=by
 intro pins σ H1 s1 a C d I x wE
 show wpAny _ _ (leaving _ _) _ _ s1
 unfold leaving
 refine wpAny_bind (note_x I I.ok.frames rfl rfl x fun s2 I2 x2=>flight_x I2 x2 fun s3 I3 x3=>?_)
 obtain⟨r,T,rT,xt⟩:=x3
 exact⟨a,C,d,H1,rfl,I3.os,I3.bare,I3.base,I3.hok,r.nw,r.un,⟨T,rT.nw,rT.un,xt⟩,wE⟩
theorem okX {x qual:Str} {st:Stmt} {f:Addr} {fd:FuncData} {N ps:List Str} {k:Nat} {sp:Sp} (F:Fun K x qual st f fd) (S:FnScope N ps (qa9 st)) (len:∀vs H Q E,sp vs H Q E->vs.length=ps.length)
  (hbody:∀(cdv:Value) (A:Around) (outer:List Env) (s:Shared) (H:Hp) (vs:List V) (Q:VK) (E:XK),Room k (A.deeper (envOfC qual (qa9 st) s.heap.objs.size f cdv))->sp vs H Q E->
   ∃t,PSs (xw (cxOf (CX1 P w) P w K mg base N qual (qa9 st) f cdv A outer s H E) (fun _=>E)) (qby st) t/\t {nx:=fun _ H'=>Q .non H',rt:=Q} (qek N vs) H):FnOk P w K mg base (CX1 P w) (k+1) f fd ps sp:=by
 obtain⟨oc,od,kV,doc,pm,an,cdv,ct,osl,rfl,lk,hcd⟩:=F.ex
 refine fn_of lk hcd S len fun A outer s H vs Q E hr hsp=>?_
 obtain⟨t,ht,q⟩:=hbody cdv A outer s H vs Q E hr hsp
 exact⟨t,PSs.xes xes_fn ht,q⟩
end
section
variable {X: Cx} {k: Nat} {f: Addr} {fd: FuncData} {ps: List Str} {sp: Sp} {dvs: List V} {ds: List Value} {W: L2.St -> XK} {x: Str} {p pos: Pos} {e: Expr} {es: List Expr} {t: TA}
def tCallX (sp:Sp) (dvs:List V) (W:L2.St->XK) (t:TA):TE:=fun σ H Q=>t σ H fun vs H1=>sp (vs++dvs) H1 Q (W σ)
theorem run_fnX {pins:List (Addr × Obj)} {σ:L2.St} {H:Hp} {s:Shared} {Q:VK} {us:List Value} {vs:List V} (F:FnOk X.prog X.w X.K X.mg X.base (CX1 X.prog X.w) k f fd ps sp) (hr:Room k X.A) (hb:qah X.K fd ps ds) (hd:qb7 dvs ds) (hx:Xes X W) (hex:X.ex=[])
  (I:Inv X pins σ H s) (r:qb7 vs us) (h:sp (vs++dvs) H Q (W σ)):wpAny (model X.prog X.w) X.A (call (.ref f) us) (EP X pins σ Q) X.xe s:=by
 have r2:qb7 (vs++dvs) (us++ds):=r.append hd
 have hl:(us++ds).length=ps.length:=by rw [<-r2.length];exact F.len _ _ _ _ h
 refine wpAny_call (codeAny_mono (F.run X.A X.stack s H ⟨us, []⟩ (us++ds) (vs++dvs) Q (W σ) hr I.env0 (hb s us I.kIn hl) r2 h) fun r s' hq=>?_)
 match r,hq with
 | .error e,hq=>exact xes_call hx hex I hq
 | .ok (.ret u),hq=>exact I.after hq
 | .ok .next,hq=>exact False.elim hq
 | .ok .brk,hq=>exact False.elim hq
 | .ok .cont,hq=>exact False.elim hq
theorem qc8 (F:FnOk X.prog X.w X.K X.mg X.base (CX1 X.prog X.w) k f fd ps sp) (hr:Room k X.A) (hg:Gl X x) (hm:X.mg x=some (.ref f)) (hk:keepIn X.K (.ref f)=true) (hb:qah X.K fd ps ds) (hd:qb7 dvs ds) (hx:Xes X W)
  (ha:PA X (e :: es) t) (hex:X.ex=[]:=by rfl) (hdb:(x==("__debug__" :Str))=false:=by decide) (he:starEach (e :: es) X.env=(false,eval e X.env) :: starEach es X.env:=by rfl) (hpl:(backTo pos (starEach es X.env)).any (·.1)=false:=by rfl):
  PE X (.Call (.Name x p) (e :: es) [] pos) (tCallX sp dvs W t):=by
 intro pins s σ H Q I h
 refine wpAny_Call_Name_kw (qdt I hg hm ?_ hdb)
 refine PySem.W.callWith_K (h₀:=X.base) I.ok.mod.kin hk (thn (ha pos pins s σ H _ I h) fun us s1 ⟨vs,H1,I1,r,q⟩=>⟨I1.kIn,?_⟩) he hpl
 exact run_fnX F hr hb hd hx hex I1 r q
end
structure XCls (K:Frag) (C:Addr):Prop where
 ob:∃(nm q:Str) (N:Addr) (bs bm:List Value) (hdct:Bool) (sn:List Str) (sub:List Value) (ab:Bool) (col:Option Bool) (dd:Option Addr) (k0 k1 k2 k3 k5:Option Value) (mN:Str->Option Value),
  K.lookup C=some (excClassObj nm q C N bs bm hdct sn sub ab col dd k0 k1 k2 k3 k5 "ValueError.__new__")/\(∀h:Heap,K.In h->h.Ns N mN)/\mN "__init__" =none/\
  ∀h:Heap,K.In h->OwnTail h [.type "ValueError",.type "Exception",.type "BaseException",.type "object"] bm
section
variable {X: Cx} {x: Str} {C: Addr} {W: L2.St -> XK} {np cpos pos: Pos} {e: Expr} {es: List Expr} {t: TA}
def tRaise (t:TA) (C:Addr) (W:L2.St->XK):TS:=fun _ σ H=>t σ H fun xs H1=>xs.length<=sizeLine/\W σ (.ref C) none H1
theorem qc3 (hc:X.calm=true) (M:XCls X.K C) (hg:Gl X x) (hm:X.mg x=some (.ref C)) (hx:Xes X W) (ha:PA X (e :: es) t) (hex:X.ex=[]:=by rfl) (hdb:(x==("__debug__" :Str))=false:=by decide)
  (he:starEach (e :: es) X.env=(false,eval e X.env) :: starEach es X.env:=by rfl) (hpl:(backTo cpos (starEach es X.env)).any (·.1)=false:=by rfl):
  PS X (.Raise (some (.Call (.Name x np) (e :: es) [] cpos)) none pos) (tRaise t C W):=by
 intro pins s σ H D I h
 obtain⟨nm,q,N,bs,bm,hdct,sn,sub,ab,col,dd,k0,k1,k2,k3,k5,mN,hC,hN,hni,T⟩:=M.ob
 refine wpAny_Raise_call_subU (C:=C) (nm:=nm) (q:=q) (N:=N) (bs:=bs) (bm:=bm) (hdct:=hdct) (sn:=sn) (sub:=sub) (ab:=ab) (col:=col) (dd:=dd) (k0:=k0) (k1:=k1) (k2:=k2) (k3:=k3) (k5:=k5)
  PySem.F.excBase_ValueError (by decide) PySem.F.excBase_ValueError (mN:=mN) ((T _ I.kIn).hasType PySem.F.excBase_ValueError.hasBase) (I.ok.hd hc) ?_ hni ?_
 .rw [he];show (false ||(backTo cpos (starEach es X.env)).any (·.1))=false;rw [hpl];rfl
 .refine qdt I hg hm ⟨rfl,?_⟩ hdb
  have z:=ha cpos pins s σ H _ I h
  rw [he] at z ⊢
  refine Calls.evalArgs_plain (wpAny_mono z (fun us s2 ⟨vs,H2,I2,r,hl,q⟩=>⟨rfl,by rw [<-r.length];exact hl,I2.kIn _ _ hC,hN _ I2.kIn,T _ I2.kIn,fun h' a m=>?_⟩) fun _ _ y=>y)
  obtain⟨tp,ea,_,_⟩:=m.there
  have J:Inv X pins σ H2 {s2 with heap:=h'}:=I2.kept (t':=s2.toks) m.keeps
  refine hx pins σ H2 _ a (.ref C) none J ⟨⟨new_of I2 hex m.new,un_of I2.hok m.new,fun p hp y=>?_,⟨_,_,ea,rfl⟩⟩,.inl ⟨_,_,ea,rfl,rfl,rfl,rfl⟩⟩ q
  have w:=(I2.pin p hp).1
  rw [y,m.new] at w
  cases w
end
section
variable {X: Cx} {pins: List (Addr × Obj)}
abbrev pnd (X:Cx) (pins:List (Addr × Obj)):Cx:={X with pn:=X.pn++pins}
abbrev suite (X:Cx) (a:Addr):Cx:={X with A:=X.A.mark (some (.ref a)),calm:=false,xe:=fun _ _=>False}
def XO (a:Addr) (C:Value) (d:Option Addr):HO:=.ext fun h=>∃(oe:Obj) (vs:Array Value),h.get? a=some oe/\oe.cls=C/\oe.dict=d/\oe.data=.fields vs
end
section
variable {X: Cx}
def tCut (t:TS):TS:=fun D σ H=>∃J:L2.St->Hp->Prop,t {D with nx:=J} σ H/\∀σ' H',J σ' H'->D.nx σ' H'
theorem qc0 {st:Stmt} {t:TS} (h:PS X st t):PS X st (tCut t):=by
 intro pins s σ H D I ⟨J,hw,k⟩
 refine wpAny_mono (h pins s σ H _ I hw) (fun f s' q=>?_) fun _ _ z=>z
 cases f with
 |next=>obtain⟨σ',H',I',z⟩:=q;exact⟨σ',H',I',k _ _ z⟩
 |brk=>exact q
 |cont=>exact q
 |ret u=>exact q
def tCutE (t:TE):TE:=fun σ H Q=>∃J:VK,t σ H J/\∀v H',J v H'->Q v H'
theorem pe_cut {e:Expr} {t:TE} (h:PE X e t):PE X e (tCutE t):=by
 intro pins s σ H Q I ⟨J,hw,k⟩
 exact wpAny_mono (h pins s σ H _ I hw) (fun u s' ⟨v,H',I',r,z⟩=>⟨v,H',I',r,k _ _ z⟩) fun _ _ z=>z
end
theorem qd1 {K:Frag} {C:Addr} (q:excIn K C [.type "ValueError",.type "Exception",.type "BaseException",.type "object"] "ValueError.__new__" =true):XCls K C:=by
 unfold excIn at q
 split at q
 .rename_i dd cd sl ho
  split at q
  .rename_i C' bm k0 k1 k2 k3 n k5 hm hs
   simp only [Bool.and_eq_true,beq_iff_eq,Bool.not_eq_true'] at q
   obtain⟨⟨⟨⟨⟨rfl,rfl⟩,hdel⟩,ht⟩,hok⟩,hni⟩:=q
   obtain⟨nm,bs,mro,ns,qn,hd,sn,sub,ab,col,del⟩:=cd
   dsimp only at hm hdel hok hni
   subst hm hdel
   have hsl:sl= #[k0,k1,k2,k3,some (.builtin "ValueError.__new__"),k5]:=by
    obtain⟨l⟩:=sl
    simp only at hs
    rw [hs]
   subst hsl
   unfold PySem.W.nsOkIn at hok
   split at hok
   .rename_i c1 d1 es ep sl1 hN
    have hSK:StrKeys es:=fun e he=>by
     have z:=Array.all_eq_true_iff_forall_mem.mp hok e he
     split at z
     .rename_i n t q;exact⟨n,t,q⟩
     .cases z
    have hNs:∀h:Heap,K.In h->h.Ns ns (fun x=>nsFind es x):=fun h X=>⟨_,es,ep,X _ _ hN,rfl,hSK,fun _=>rfl⟩
    refine⟨nm,qn,ns,bs,bm,hd,sn,sub,ab,col,dd,k0,k1,k2,k3,k5,fun x=>nsFind es x,ho,hNs,?_,fun h X=>PySem.W.tail_of_in X ht⟩
    unfold nsIn at hni
    rw [hN] at hni
    dsimp only at hni
    split at hni
    .cases hni
    .rename_i hf
     show nsFind es "__init__" =none
     unfold nsFind findBy
     rw [<-Array.find?_toList,hf]
     rfl
   .cases hok
  .cases q
 .cases q
def TyX (K:Frag) (H:Hp) (x:V) (t:Value) (b:Bool):Prop:=TyOf K H x t\/∃(a:Addr) (d:Option Addr),x=.ref a/\H a=some (XO a t d)/\b=true
def rIsi (K:Frag):List V->Hp->VK->Prop:=fun xs H Q=>∃(x c:V) (u t:Value) (b:Bool),xs=[x,c]/\qba c u/\(∀u',qba c u'->u'=u)/\TyX K H x t b/\kitOne K t u=some b/\Q (.bl b) H
theorem isi_yes {prog:Program} {w:World} {A:Around} {E:Value->Shared->Prop} {s:Shared} {Q:Value->Shared->Prop} {K:Frag} {a:Addr} {t c:Value} (KX:K.In s.heap) (hp:∃o,s.heap.get? a=some o/\o.cls=t) (e:kitOne K t c=some true)
  (h:Q (.bool true) s):wpAny (model prog w) A (call (.builtin "isinstance") [.ref a,c]) Q E s:=by
 refine call_isinstance_of ?_ (by intro q;cases q)
 obtain⟨h0,g,d,tt,os⟩:=s
 obtain⟨o,ho,hc⟩:=hp
 have LT:PySem.W.Looks (model prog w) h0 (typeOf (.ref a)) t:=hc ▸ (PySem.W.Looks.ld ho).andThen .now
 unfold kitOne at e
 unfold Builtin.«isinstance.nested»
 refine wpAny_bind (LT.at ?_)
 by_cases q:(t==c)=true
 .rw [if_pos q]
  first
   |exact wpAny_bind (wpAny_rule (wpAny_pure h))
   |exact wpAny_bind (wpAny_rule h)
 .rw [if_neg q] at e
  rw [if_neg q]
  obtain⟨hty,his,hsub⟩:=PySem.W.kit_cls (M:=model prog w) KX e
  have LI:PySem.W.Looks (model prog w) h0 (isInstance (.ref a) c) true:=LT.andThen hsub
  refine wpAny_bind (hty.at ?_)
  rw [if_pos (by decide)]
  k_delta "plainIsInstance"
  refine wpAny_bind (wpAny_bind (his.at ?_))
  simp only [Bool.not_true,Bool.false_eq_true,if_false]
  refine wpAny_bind (LI.at ?_)
  first
   |exact wpAny_pure (wpAny_pure h)
   |(simp only [if_true];first|exact wpAny_pure (wpAny_pure h) |exact wpAny_pure h|exact wpAny_bind (wpAny_pure (wpAny_pure h)))
theorem qdk {X:Cx}:Xes X (fun _ _ _ _=>False):=fun _ _ _ _ _ _ _ _ _ w=>w.elim
section
variable {X: Cx}
theorem qb2:qcp X (.builtin "isinstance") (rIsi X.K):=by
 intro pins s σ H xs us Q I hv h
 obtain⟨x,c,u,t,b,rfl,hu,hu',ty,e,q⟩:=h
 cases hv with
 |cons r1 hv=>
  cases hv with
  |cons r2 hv=>
   cases hv
   rename_i v1 v2
   rw [hu' v2 r2]
   rcases ty with ty|⟨a,d,rfl,ea,rfl⟩
   .exact isinst_ok I r1 ty e fun tk=>⟨.bl b,H,I.tok tk,rfl,q⟩
   .cases r1
    obtain⟨⟨oe,vs,h1,h2,_⟩,_⟩:=(show qbp X.prog X.w H s.heap a (XO a t d) from I.hok a _ ea)
    exact isi_yes I.kIn ⟨oe,h1,h2⟩ e ⟨.bl true,H,I,rfl,q⟩
def rIsN:R2:=fun x y H Q=>y=.non/\Q (.bl (decide (x=.non))) H
def rNotN:R2:=fun x y H Q=>y=.non/\Q (.bl (!decide (x=.non))) H
def rLen (K:Frag):List V->Hp->VK->Prop:=fun xs H Q=>∃p ys,xs=[.ref p]/\(SqL K H p ys\/SqT K H p ys)/\Q (.int ys.length) H
theorem qax:qcp X (.builtin "len") (rLen X.K):=call_len_seq
theorem qgn:OpR X (compareOp .Is) rIsN:=op_isN
theorem qe1:OpR X (compareOp .IsNot) rNotN:=op_notN
end
section
variable {K: Frag} {H: Hp} {Q: VK}
theorem r_isi {x:V} {T:String} {t:Value} {b:Bool} (ty:TyOf K H x t) (e:kitOne K t (.type T)=some b) (h:Q (.bl b) H):rIsi K [x,.ty T] H Q:=⟨x,_,_,t,b,rfl,rfl,fun _ z=>z,.inl ty,e,h⟩
end
section
variable {K: Frag}
theorem kit_int_int:kitOne K (.type "int") (.type "int")=some true:=by rfl
theorem kit_int_bool:kitOne K (.type "int") (.type "bool")=some false:=by rfl
theorem qgs:kitOne K (.type "bool") (.type "bool")=some true:=by rfl
theorem kit_str_str:kitOne K (.type "str") (.type "str")=some true:=by rfl
theorem kit_non_int:kitOne K (.type "NoneType") (.type "int")=some false:=by rfl
theorem kit_lst_lst:kitOne K (.type "list") (.type "list")=some true:=by rfl
theorem kit_tup_tup:kitOne K (.type "tuple") (.type "tuple")=some true:=by rfl
theorem kit_dct_dct:kitOne K (.type "dict") (.type "dict")=some true:=by rfl
end
section
variable {K: Frag} {σ σ': L2.St} {H H1: Hp} {Q: VK} {D: Ends} {ta tb te: TE} {t u: TS} {c c': TT} {ar: TA} {v x y: V} {i j: Nat}
theorem qac {N:List Str} {vs:List V} (e:qek N vs=σ) (h:t D σ H):t D (qek N vs) H:=e ▸ h
theorem r_var (e:σ[i]?=some (some v)) (h:Q v H):tVar i σ H Q:=⟨v,e,h⟩
theorem r_c (h:Q v H):tC v σ H Q:=h
theorem r_op {r:R2} (h:ta σ H fun x H1=>tb σ H1 fun y H2=>r x y H2 Q):tOp r ta tb σ H Q:=h
theorem r_I0 {g:Int->Int->V} {i j:Int} (h:Q (g i j) H):rI0 g (.int i) (.int j) H Q:=⟨i,j,rfl,rfl,h⟩
theorem r_I {C:Int->Int->Prop} {g:Int->Int->V} {i j:Int} (hc:C i j) (h:Q (g i j) H):rI C g (.int i) (.int j) H Q:=⟨i,j,rfl,rfl,hc,h⟩
theorem r_eqI {i j:Int} (h:Q (.bl (decide (i=j))) H):rEq (.int i) (.int j) H Q:=⟨rfl,by
 have e:decide (V.int i=V.int j)=decide (i=j):=by by_cases z:i=j <;> simp [z]
 rw [e];exact h⟩
theorem r_neI {i j:Int} (h:Q (.bl (!decide (i=j))) H):rNe (.int i) (.int j) H Q:=⟨rfl,by
 have e:decide (V.int i=V.int j)=decide (i=j):=by by_cases z:i=j <;> simp [z]
 rw [e];exact h⟩
theorem r_eqS {i j:Str} (h:Q (.bl (decide (i=j))) H):rEq (.str i) (.str j) H Q:=⟨rfl,by
 have e:decide (V.str i=V.str j)=decide (i=j):=by by_cases z:i=j <;> simp [z]
 rw [e];exact h⟩
theorem r_exb {b:Bool} {Q:Bool->Prop} (h:Q b):∃k,V.bl b=.bl k/\Q k:=⟨b,rfl,h⟩
theorem r_test {Q:Bool->Hp->Prop} (h:te σ H fun x H'=>∃k,x=.bl k/\Q k H'):tTest te σ H Q:=h
theorem r_tB {Q:Bool->Hp->Prop} (h:te σ H fun x H'=>∃k,x=.bl k/\Q k H'):tB te σ H Q:=h
theorem r_and {Q:Bool->Hp->Prop} (h:c σ H fun b H1=>if b=true then c' σ H1 Q else Q false H1):tAnd c c' σ H Q:=h
theorem r_or {Q:Bool->Hp->Prop} (h:c σ H fun b H1=>if b=true then Q true H1 else c' σ H1 Q):tOr c c' σ H Q:=h
theorem r_not {Q:Bool->Hp->Prop} (h:c σ H fun b H1=>Q (!b) H1):tNot c σ H Q:=h
theorem r_andV (h:ta σ H fun x H1=>∃k,x=.bl k/\if k=true then tb σ H1 Q else Q (.bl false) H1):tAndV ta tb σ H Q:=h
theorem r_orV (h:ta σ H fun x H1=>∃k,x=.bl k/\if k=true then Q (.bl true) H1 else tb σ H1 Q):tOrV ta tb σ H Q:=h
theorem r_notV (h:ta σ H fun x H1=>∃k,x=.bl k/\Q (.bl (!k)) H1):tNotV ta σ H Q:=h
theorem r_next (h:D.nx σ H):tNext D σ H:=h
theorem r_seq (h:t {nx:=u D,rt:=D.rt,bk:=D.bk,ct:=D.ct} σ H):tSeq t u D σ H:=h
theorem r_drop (h:te σ H fun _ H1=>D.nx σ H1):tDrop te D σ H:=h
theorem r_ret (h:te σ H D.rt):tRet te D σ H:=h
theorem r_if (h:c σ H fun b H1=>if b=true then t D σ H1 else u D σ H1):tIfS c t u D σ H:=h
theorem r_asg {g:TG} (h:te σ H fun x H1=>g x σ H1 D.nx):tAsg te g D σ H:=h
theorem r_name {Q:L2.St->Hp->Prop} (e:σ.set i (some v)=σ') (h:Q σ' H):qfb i v σ H Q:=by subst e;exact h
theorem r_gnil {Q:L2.St->Hp->Prop} (h:Q σ H):gNil [] σ H Q:=⟨rfl,h⟩
theorem r_gcons {g:TG} {gs:TGs} {vs:List V} {Q:L2.St->Hp->Prop} (h:g v σ H fun σ' H'=>gs vs σ' H' Q):gCons g gs (v :: vs) σ H Q:=⟨v,vs,rfl,h⟩
theorem r_gtup {n:Nat} {gs:TGs} {a:Addr} {xs:List V} {Q:L2.St->Hp->Prop} (hS:SqT K H a xs) (hn:xs.length=n) (h:gs xs σ H Q):gTup K n gs (.ref a) σ H Q:=⟨a,xs,rfl,hS,hn,h⟩
theorem r_nx {f b c:L2.St->Hp->Prop} {r:VK} (h:f σ H):Ends.nx {nx:=f,rt:=r,bk:=b,ct:=c} σ H:=h
theorem r_rt {f b c:L2.St->Hp->Prop} {r:VK} (h:r v H):Ends.rt {nx:=f,rt:=r,bk:=b,ct:=c} v H:=h
theorem r_nil {Q:List V->Hp->Prop} (h:Q [] H):tNil σ H Q:=h
theorem r_cons {Q:List V->Hp->Prop} (h:te σ H fun x H1=>ar σ H1 fun xs H2=>Q (x :: xs) H2):tCons te ar σ H Q:=h
theorem r_tup (h:ar σ H fun xs H1=>xs.length<=sizeLine/\∀p,H1 p=none->Q (.ref p) (upd H1 p (.tup xs))):tTup ar σ H Q:=h
theorem r_lst (h:ar σ H fun xs H1=>xs.length<=sizeLine/\∀p,H1 p=none->Q (.ref p) (upd H1 p (.lst xs))):tLst ar σ H Q:=h
theorem r_new {xs:List V} {A:Prop} (hn:xs.length<=sizeLine) (h:A):xs.length<=sizeLine/\A:=⟨hn,h⟩
theorem r_call {sp:Sp} {E:XK} (h:ar σ H fun vs H1=>sp vs H1 Q E):tCall sp [] E ar σ H Q:=by
 have e:(fun vs H1=>sp (vs++ []) H1 Q E)=fun vs H1=>sp vs H1 Q E:=by funext vs H1;rw [yA]
 show ar σ H fun vs H1=>sp (vs++ []) H1 Q E
 rw [e];exact h
theorem r_callX {sp:Sp} {W:L2.St->XK} (h:ar σ H fun vs H1=>sp vs H1 Q (W σ)):tCallX sp [] W ar σ H Q:=by
 have e:(fun vs H1=>sp (vs++ []) H1 Q (W σ))=fun vs H1=>sp vs H1 Q (W σ):=by funext vs H1;rw [yA]
 show ar σ H fun vs H1=>sp (vs++ []) H1 Q (W σ)
 rw [e];exact h
theorem r_cb {r:List V->Hp->VK->Prop} (h:ar σ H fun vs H1=>r vs H1 Q):tCB r ar σ H Q:=h
theorem r_raise {C:Addr} {W:L2.St->XK} (h:ar σ H fun xs H1=>xs.length<=sizeLine/\W σ (.ref C) none H1):tRaise ar C W D σ H:=h
theorem qbk {p:Addr} {xs:List V} {k:Int} (hS:SqL K H p xs) (e:atI xs k=some v) (h:Q v H):rIxL K (.ref p) (.int k) H Q:=⟨p,xs,k,v,rfl,rfl,hS,e,h⟩
theorem r_ixT {p:Addr} {xs:List V} {k:Int} (hS:SqT K H p xs) (e:atI xs k=some v) (h:Q v H):rIxT K (.ref p) (.int k) H Q:=⟨p,xs,k,v,rfl,rfl,hS,e,h⟩
theorem r_fresh {R:Addr->Prop} (h:∀p,H p=none->R p):∀p,H p=none->R p:=h
theorem r_menu {p:Addr} {xs:List Int} {r:Int} (hS:SqL K H p (xs.map V.int)) (h0:0<=r) (h1:r < xs.length) (h:∀m,m∈xs->Q (.int m) H):rIxL K (.ref p) (.int r) H Q:=by
 have hk:r.toNat < xs.length:=by omega
 have ek:r=((r.toNat:Nat):Int):=by omega
 have q:atI (xs.map V.int) ((r.toNat:Nat):Int)=some (.int xs[r.toNat]):=qbn (by rw [zD,zA hk] <;> rfl)
 rw [<-ek] at q
 exact⟨p,_,r,_,rfl,rfl,hS,q,h _ (zQ hk)⟩
theorem qbz (h:t {nx:=D.nx,rt:=D.rt,bk:=D.bk,ct:=D.ct} σ H):tCut t D σ H:=⟨D.nx,h,fun _ _ z=>z⟩
theorem r_cut (J:L2.St->Hp->Prop) (h:t {nx:=J,rt:=D.rt,bk:=D.bk,ct:=D.ct} σ H) (k:∀σ' H',J σ' H'->D.nx σ' H'):tCut t D σ H:=⟨J,h,k⟩
theorem r_cutE (J:VK) (h:te σ H J) (k:∀v H',J v H'->Q v H'):tCutE te σ H Q:=⟨J,h,k⟩
theorem r_lenT {p:Addr} {ys:List V} (hS:SqT K H p ys) (h:Q (.int ys.length) H):rLen K [.ref p] H Q:=⟨p,ys,rfl,.inr hS,h⟩
theorem r_lenL {p:Addr} {ys:List V} (hS:SqL K H p ys) (h:Q (.int ys.length) H):rLen K [.ref p] H Q:=⟨p,ys,rfl,.inl hS,h⟩
theorem r_isNn (h:Q (.bl true) H):rIsN .non .non H Q:=⟨rfl,h⟩
theorem r_isNi {a:Int} (h:Q (.bl false) H):rIsN (.int a) .non H Q:=⟨rfl,h⟩
theorem r_isNs {a:Str} (h:Q (.bl false) H):rIsN (.str a) .non H Q:=⟨rfl,h⟩
theorem r_notNn (h:Q (.bl false) H):rNotN .non .non H Q:=⟨rfl,h⟩
theorem r_notNi {a:Int} (h:Q (.bl true) H):rNotN (.int a) .non H Q:=⟨rfl,h⟩
end
section
variable {K: Frag} {σ: L2.St} {H: Hp} {D: Ends} {wi: TI} {g: TG} {tb: TS} {tl: TE} {ta: TA}
def FOR (J:It) (g:TG) (tb:TS) (D:Ends) (σ:L2.St) (H:Hp):Prop:=∃W:Nat->Nat->L2.St->Hp->Prop,(∃m,W 0 m σ H)/\∀i m σ H,W i m σ H->
 (J.stop i H/\D.nx σ H)\/(J.go i H/\∃N:L2.St->Hp->Prop,(∀σ' H',N σ' H'->∃m',m' < m/\W (i+1) m' σ' H')/\∀x H',J.yld i H x H'->g x σ H' fun σ2 H2=>tb {D with nx:=N,ct:=N,bk:=D.nx} σ2 H2)
def rItL (K:Frag) (x:V) (H:Hp) (R:It->Hp->Prop):Prop:=∃a,x=.ref a/\(∃xs,SqL K H a xs)/\R (Itl K a) H
def rItR (vs:List V) (H:Hp) (R:It->Hp->Prop):Prop:=∃j:Int,vs=[.int j]/\-(2^62)<=j/\j < 2^62/\R (Itr 0 j.toNat) H
theorem r_for (h:wi σ H fun J H1=>FOR J g tb D σ H1):tFor wi g tb D σ H:=h
theorem r_iL {R:It->Hp->Prop} (h:tl σ H fun x H1=>rItL K x H1 R):iList K tl σ H R:=h
theorem r_iR {R:It->Hp->Prop} (h:ta σ H fun vs H1=>rItR vs H1 R):iRng1 ta σ H R:=h
theorem r_itL {a:Addr} {xs:List V} {R:It->Hp->Prop} (hS:SqL K H a xs) (h:R (Itl K a) H):rItL K (.ref a) H R:=⟨a,rfl,⟨xs,hS⟩,h⟩
theorem r_itR {j:Int} {R:It->Hp->Prop} (h0: -(2^62)<=j) (h1:j < 2^62) (h:R (Itr 0 j.toNat) H):rItR [.int j] H R:=⟨j,rfl,h0,h1,h⟩
theorem qdn {a:Addr} {xs:List V} (Pv:Nat->L2.St->Hp->Prop) (h0:Pv 0 σ H) (hl:∀i σ H,i<=xs.length->Pv i σ H->SqL K H a xs)
  (hs:∀i x σ H,xs[i]?=some x->Pv i σ H->g x σ H fun σ2 H2=>tb {nx:=Pv (i+1),rt:=D.rt,bk:=D.nx,ct:=Pv (i+1)} σ2 H2) (hd:∀σ H,Pv xs.length σ H->D.nx σ H):FOR (Itl K a) g tb D σ H:=for_list Pv h0 hl hs hd
theorem qdu {lo:Int} {n:Nat} (Pv:Nat->L2.St->Hp->Prop) (h0:Pv 0 σ H)
  (hs:∀(i:Nat) σ H,i < n->Pv i σ H->g (.int (lo+i)) σ H fun σ2 H2=>tb {nx:=Pv (i+1),rt:=D.rt,bk:=D.nx,ct:=Pv (i+1)} σ2 H2) (hd:∀σ H,Pv n σ H->D.nx σ H):FOR (Itr lo n) g tb D σ H:=for_range Pv h0 hs hd
end
theorem qa8 {H:Hp} {a p:Addr} {o o':HO} (h:H a=some o) (n:H p=none):upd H p o' a=some o:=by rw [qa6 (qa2 h n)];exact h
theorem sqL_new {K:Frag} {H:Hp} {a p:Addr} {o:HO} {xs:List V} (h:SqL K H a xs) (n:H p=none):SqL K (upd H p o) a xs:=(qaa n o).seq h
theorem sqT_new {K:Frag} {H:Hp} {a p:Addr} {o:HO} {xs:List V} (h:SqT K H a xs) (n:H p=none):SqT K (upd H p o) a xs:=same_tup (qaa n o) h
theorem qdc {H0 H:Hp} {p:Addr} {o:HO} (h:qas H0 H) (n:H p=none):qas H0 (upd H p o):=h.trans (qaa n o)
theorem i_t {c A B:Prop} [Decidable c] (h:c) (hA:A):if decide c=true then A else B:=by rw [decide_eq_true h];exact iteT hA
theorem i_f {c A B:Prop} [Decidable c] (h:¬c) (hB:B):if decide c=true then A else B:=by rw [decide_eq_false h];exact iteF hB
theorem i_2 {c A B:Prop} [Decidable c] (h1:c->A) (h2:¬c->B):if decide c=true then A else B:=by
 by_cases h:c
 .exact i_t h (h1 h)
 .exact i_f h (h2 h)
theorem i_nf {c A B:Prop} [Decidable c] (h:c) (hB:B):if (!decide c)=true then A else B:=by rw [decide_eq_true h];exact iteF hB
theorem i_nT {A B:Prop} (h:B):if (!true)=true then A else B:=h
theorem i_nF {A B:Prop} (h:A):if (!false)=true then A else B:=iteT h
theorem i_b2 {b:Bool} {A B:Prop} (h1:b=true->A) (h2:b=false->B):if b=true then A else B:=by
 cases b
 .exact iteF (h2 rfl)
 .exact iteT (h1 rfl)
def AllC {α:Type} (f:α->Prop):List α->Prop
 | []=>True
 |a :: l=>f a/\AllC f l
theorem AllC.mem {α:Type} {f:α->Prop}:∀{l:List α},AllC f l->∀a∈l,f a
 | [],_,_,h=>absurd h (by simp)
 |b :: l,h,a,m=>by
  rcases zV.mp m with rfl|m
  .exact h.1
  .exact AllC.mem h.2 a m
def qbc (caps:List Nat) (σ:L2.St):L2.St:=caps.map fun j=>(σ[j]?).getD none
def rApp (acc:Addr) (N:Hp->Prop) (y:V) (H:Hp):Prop:=∃ys,H acc=some (.lst ys)/\ys.length < sizeLine/\N (upd H acc (.lst (ys++ [y])))
def COMP (J:It) (caps:List Nat) (tt:TT) (te:TE) (acc:Addr) (σ:L2.St) (H:Hp) (Q:VK):Prop:=∃W:Nat->Nat->Hp->Prop,(∃m,W 0 m H)/\∀i m H,W i m H->
 (J.stop i H/\Q (.ref acc) H)\/(J.go i H/\∃N:Hp->Prop,(∀H',N H'->∃m',m' < m/\W (i+1) m' H')/\∀v H',J.yld i H v H'->tt (some v :: qbc caps σ) H' fun b H2=>
  if b=true then te (some v :: qbc caps σ) H2 fun y H3=>rApp acc N y H3 else N H2)
abbrev CT (α:Type):=Addr->Shared->Hp->List Addr->α
def tComp (wi:TI) (caps:List Nat) (tt:CT TT) (te:CT TE):TE:=fun σ H Q=>wi σ H fun J H1=>∀(C:Addr) (s:Shared) (H0:Hp) (fp:List Addr) (acc:Addr),H1 acc=none->COMP J caps (tt C s H0 fp) (te C s H0 fp) acc σ (upd H1 acc (.lst [])) Q
def tTrue:TT:=fun _ H Q=>Q true H
def PIfs (X:Cx) (ifs:List Expr) (t:TT):Prop:=
 ∀(pins:List (Addr × Obj)) (s:Shared) (σ:L2.St) (H:Hp) (Q:Bool->Hp->Prop),Inv X pins σ H s->t σ H Q->
  wpAny (model X.prog X.w) X.A (forIn ifs true fun c r=>if r=true then do let ok<-isTrue c X.env (eval c X.env);pure (ForInStep.yield ok) else pure (ForInStep.yield r)) (TP X pins σ Q) X.xe s
theorem qdy {X:Cx}:PIfs X [] tTrue:=fun pins s σ H Q I h=>wpAny_tests_nil ⟨H,I,h⟩
theorem qej {X:Cx} {c:Expr} {t:TT} (h:PT X c t):PIfs X [c] t:=fun pins s σ H Q I hw=>wpAny_tests_one (h pins s σ H Q I hw)
def cxC (X:Cx) (N:List Str) (scope:Scope) (cl:List (Str × Addr)) (C:Addr) (s:Shared) (H:Hp) (fp:List Addr):Cx where
 prog:=X.prog
 w:=X.w
 K:=X.K
 mg:=X.mg
 base:=X.base
 A:=X.A
 N:=N
 s₀:=s
 H₀:=H
 env:=compEnvC scope cl C X.env
 outer:=X.stack
 stack:=X.stack
 ex:=fp
 fn:=fun _=>false
 calm:=X.calm
 pn:=[]
 xe:=fun _ _=>False
structure Caps (X:Cx) (x:Str) (scope:Scope) (cl:List (Str × Addr)) (caps:List Nat) (cn:List Str):Prop where
 clos:closureFor scope X.env=pure cl
 kind:scope.kind=.function
 cell:∀y∈scope.names,y.2≠ .cell
 names:∀y∈scope.names,y.2=.local->scope.names.lookup y.1=some .local
 tg:scope.names.lookup x=some .local
 sub:∀y c,cl.lookup y=some c->X.env.cells.lookup y=some c
 has:∀y,((relabel scope X.env).names.lookup y=some .cell\/(relabel scope X.env).names.lookup y=some .free)->∃c,cl.lookup y=some c
 len:caps.length=cn.length
 cap:∀(k:Nat) (y:Str) (j:Nat),cn[k]?=some y->caps[k]?=some j->X.N[j]?=some y/\X.env.kindOf y=some .cell/\(relabel scope X.env).names.lookup y=some .cell/\X.env.scope.names.lookup y=some .cell/\∃c,cl.lookup y=some c
 nd:(x :: cn).Nodup
section
variable {X: Cx} {pins: List (Addr × Obj)} {σ: L2.St} {H: Hp} {s: Shared}
theorem Inv.comp {x:Str} {scope:Scope} {cl:List (Str × Addr)} {caps:List Nat} {cn:List Str} (Cp:Caps X x scope cl caps cn) (I:Inv X pins σ H s) {fp:List Addr} (hf:∀b∈fp,FpOk X pins H b) (hlt:∀b∈fp,b < s.heap.objs.size) {h₁:Heap} {t':Nat}
  (hns:h₁.Ns s.heap.objs.size (fun _=>none)) (k:∀b o,s.heap.get? b=some o->h₁.get? b=some o):
  Inv (cxC X (x :: cn) scope cl s.heap.objs.size s H fp) [] (none :: qbc caps σ) H {s with heap:=h₁,toks:=t'}:=by
 have cne:∀y c,cl.lookup y=some c->∃v,s.heap.IsCell c v:=fun y c e=>I.cell y c (Cp.sub y c e)
 have ltC:∀y c,cl.lookup y=some c->c < s.heap.objs.size:=fun y c e=>let ⟨v,q⟩:=cne y c e;q.lt
 have isC:∀c v,s.heap.IsCell c v->h₁.IsCell c v:=fun c v ⟨o,e,d⟩=>⟨o,k c o e,d⟩
 refine⟨⟨I.ok.mod,Cp.kind,I.ok.glob,I.ok.blt,Nat.le_refl _,fun y z c e1 e2=>I.ok.inj y z c (Cp.sub y c e1) (Cp.sub z c e2),fun y hy=>Cp.has y hy,fun y c z=>(Bool.false_ne_true z).elim,I.ok.hd,I.ok.frames,.inl rfl,
  fun b hb=>⟨Nat.ne_of_lt (hlt b hb),fun y c e z=>?_⟩,I.bs,Nat.le_trans I.ok.bsz I.sz,fun b o e hb=>?_,fun b hb z=>?_,I.stack,I.stkFree⟩,
  rfl,I.bare,Un.kept k,⟨_,hns,fun i y v e1 e2 e3=>?_⟩,fun y c e=>?_,I.hok.fresh (Nat.le_refl _),fun y c e=>I.freeC y c (Cp.sub y c e),fun p hp=>absurd (show p∈([]:List (Addr × Obj)) from hp) (by simp),I.hok.kept k,?_⟩
 .exact(hf b hb).2.2.2.2.1 y c (Cp.sub y c e) z
 .rcases(hf b hb).2.2.2.1 with z|z
  .exact I.ok.noex b o e z
  .exact absurd (Nat.lt_of_lt_of_le (Heap.lt_size e) (Nat.le_trans I.ok.bsz z)) (Nat.lt_irrefl _)
 .rcases zV.mp (I.stkSub b z) with z|z
  .exact(hf b hb).2.1 z
  .exact(hf b hb).2.2.1 z
 .cases i with
  |zero=>cases e2
  |succ i=>
   have e1':cn[i]?=some y:=by simpa [cxC] using e1
   have e2':(qbc caps σ)[i]?=some (some v):=by simpa using e2
   unfold qbc at e2'
   rw [zD] at e2'
   obtain⟨j,hj,ej⟩:=Option.map_eq_some_iff.mp e2'
   obtain⟨c1,c2,c3,c5,c,c4⟩:=Cp.cap i y j e1' hj
   cases hs:σ[j]? with
   |none=>rw [hs] at ej;cases ej
   |some w=>
    rw [hs] at ej
    have ej':w=some v:=ej
    subst ej'
    obtain⟨m,hn,hl⟩:=I.loc
    obtain⟨u,r,l⟩:=hl j y v c1 hs (.inr (.inl c5))
    refine⟨u,r,.inr ⟨.inl c3,c,c4,?_⟩⟩
    rcases l with ⟨l,_⟩ |⟨_,c',e',q⟩
    .rw [c2] at l;cases l
    .rw [Cp.sub y c c4] at e'
     cases e'
     exact isC _ _ q
 .obtain⟨v,q⟩:=cne y c e
  exact⟨v,isC c v q⟩
 .show (none :: qbc caps σ).length=(x :: cn).length
  rw [zR,zR]
  unfold qbc
  rw [zB,Cp.len]
theorem Inv.uncomp {N:List Str} {scope:Scope} {cl:List (Str × Addr)} {C:Addr} {σ':L2.St} {H':Hp} {s':Shared} {fp:List Addr} (I:Inv X pins σ H s) (hf:∀b∈fp,FpOk X pins H b) (hC:C=s.heap.objs.size)
  (J:Inv (cxC X N scope cl C s H fp) [] σ' H' s') {h':Heap} (sb:Heap.SameBut C s'.heap h'):Inv X pins σ H' {s' with heap:=h'}:=by
 have ne:∀b o,s.heap.get? b=some o->b≠C:=fun b o e=>by rw [hC];exact Nat.ne_of_lt (Heap.lt_size e)
 have u:Un (frs X.stack) fp H H' s.heap s'.heap:=J.base
 have hok:HOk X.prog X.w H' h':=fun b o e=>by
  refine(J.hok b o e).stay (fun c u' hc q=>(sb.2 c ?_).trans q) (fun _ q=>q) fun _ _ q=>q
  intro z
  have n:H' C=none:=J.free
  rcases hc with hc|hc
  .rw [<-hc,z,n] at e;cases e
  .rw [z,n] at hc;cases hc
 refine I.call' (s':={s' with heap:=h'}) (ch:=fp) J.os ⟨fun b o e n hb hx=>(sb.2 b (ne b o e)).trans (u.keep b o e n hb hx),fun b o e n hb hx=>?_,u.free,fun b o e hx=>?_,u.tups,u.frzs,u.tbls⟩ hok J.bare fun b hb=>?_
 .obtain⟨sl,q⟩:=u.slot b o e n hb hx
  exact⟨sl,(sb.2 b (ne b o e)).trans q⟩
 .obtain⟨o',q⟩:=u.there b o e hx
  exact⟨o',(sb.2 b (ne b o e)).trans q⟩
 .obtain⟨f0,f1,f2,f3,f4,f5⟩:=hf b hb
  exact⟨f3,f1,f4,f5⟩
end
section
variable {X: Cx}
theorem qcd {elt iter:Expr} {x:Str} {px:Pos} {ifs:List Expr} {scope:Scope} {cl:List (Str × Addr)} {pos:Pos} {caps:List Nat} {cn:List Str} {wi:TI} {tt:CT TT} {te:CT TE} (Cp:Caps X x scope cl caps cn) (hc:X.calm=true)
  (hi:PI X (.Name x px) iter wi) (ht:∀C s H fp,PIfs (cxC X (x :: cn) scope cl C s H fp) ifs (tt C s H fp)) (he:∀C s H fp,PE (cxC X (x :: cn) scope cl C s H fp) elt (te C s H fp))
  (hs:∀x,foldedSetIterable iter X.env x=pure x:=by intro _;rfl):
  PE X (.ListComp elt [⟨.Name x px,iter,ifs,0⟩] scope pos) (tComp wi caps tt te):=by
 intro pins s σ H Q I h
 rw [eval_ListComp]
 refine wpAny_comprehension_free (use:=none) rfl hs Cp.clos Cp.kind Cp.names (thn (hi pins s σ H _ I h) fun v s1 h1=>thn h1 fun itv s2 h2=>?_)
 obtain⟨it,fp,tn,J,H2,e,I2,T,st2,f2,R⟩:=h2
 subst e
 have hacc:H2 s2.heap.objs.size=none:=I2.hok.fresh (Nat.le_refl _)
 refine wpAny_newObj_type ?_
 have I3:Inv X pins σ (upd H2 s2.heap.objs.size (.lst [])) {s2 with heap:=s2.heap.push {cls:=.type "list",dict:=none,data:=.seq ([]:List Value).toArray}}:=Inv.lnew (its:=[]) (t':=s2.toks) I2 .nil (Nat.zero_le _)
 have lt2:∀b∈fp,b < s2.heap.objs.size:=fun b hb=>let ⟨o,e,_⟩:=T.obj _ _ st2 b hb;Heap.lt_size e
 have f3:∀b∈fp,FpOk X pins (upd H2 s2.heap.objs.size (.lst [])) b:=fun b hb=>⟨by rw [qa6 (Nat.ne_of_lt (lt2 b hb))];exact(f2 b hb).1,(f2 b hb).2⟩
 have st3:tn 0 (s2.heap.push {cls:=.type "list",dict:=none,data:=.seq ([]:List Value).toArray}):=T.keep _ _ _ st2 fun b _ o e=>Heap.get?_push_of_some _ e
 generalize hs3:({s2 with heap:=s2.heap.push {cls:=.type "list",dict:=none,data:=.seq ([]:List Value).toArray}}:Shared)=s3 at I3 ⊢
 have st3':tn 0 s3.heap:=by rw [<-hs3];exact st3
 generalize s2.heap.objs.size=acc at hacc I3 f3 ⊢
 obtain⟨W,⟨m0,w0⟩,turn⟩:=R s3.heap.objs.size s3 (upd H2 acc (.lst [])) fp acc hacc
 have lt3:∀b∈fp,b < s3.heap.objs.size:=fun b hb=>let ⟨o,e,_⟩:=T.obj _ _ st3' b hb;Heap.lt_size e
 clear st3 hs3
 refine wpAny_newFunctionEnv Cp.cell (by intro y hy;simp at hy) (fun h₁ hns hsb=>?_) Cp.kind
 have k1:∀b o,s3.heap.get? b=some o->h₁.get? b=some o:=fun b o e=>hsb.extBut b o (Nat.ne_of_lt (Heap.lt_size e)) (Heap.get?_push_of_some _ e)
 have I4:Inv (cxC X (x :: cn) scope cl s3.heap.objs.size s3 (upd H2 acc (.lst [])) fp) [] (none :: qbc caps σ) (upd H2 acc (.lst [])) {s3 with heap:=h₁,toks:=s3.toks+([]:List (Str × Value)).length}:=
  Inv.comp Cp I3 f3 lt3 hns k1
 have st4:tn 0 h₁:=T.keep _ _ _ st3' fun b _ o e=>k1 b o e
 generalize hX:cxC X (x :: cn) scope cl s3.heap.objs.size s3 (upd H2 acc (.lst [])) fp=X' at I4
 have stat:∀{H':Hp},(∀b∈fp,H' b=none)->∀b∈fp,FpOk X' [] H' b:=fun hn b hb=>by
  subst hX
  obtain⟨g0,g1,g2,g3,g4,g5⟩:=f3 b hb
  refine⟨hn b hb,Nat.ne_of_lt (lt3 b hb),fun z=>?_,.inl hb,fun y c e=>g4 y c (Cp.sub y c e),fun p hp=>absurd (show p∈([]:List (Addr × Obj)) from hp) (by simp)⟩
  rcases zV.mp (I3.stkSub b z) with z|z
  .exact g1 z
  .exact g2 z
 have core:codeAny (model X.prog X.w) X.A (.compLoop (.ListComp elt [⟨.Name x px,iter,ifs,0⟩] scope pos) 0 (.ref it) (.ref acc) (compEnvC scope cl s3.heap.objs.size X.env))
   (compPost (model X.prog X.w) X.A X.xe none (EP X pins σ Q) (.ref acc) s3.heap.objs.size) {s3 with heap:=h₁,toks:=s3.toks+([]:List (Str × Value)).length}:=by
  refine codeAny_loop rfl (fun n s'=>∃i a H',Inv X' [] (a :: qbc caps σ) H' s'/\tn i s'.heap/\(∀b∈fp,H' b=none)/\W i n H') (fun n s5 hI=>?_) m0 ⟨0,none,_,I4,st4,fun b hb=>(f3 b hb).1,w0⟩
  obtain⟨i,a0,H5,I5,st5,fr5,w5⟩:=hI
  show wpAny _ _ ((compTurn _ 0 _ _ _).onRaise _) _ _ s5
  refine wpAny_noted ?_
  rw [compTurn_list]
  refine wpAny_bind (wpAny_standAt (wpAny_bind ?_))
  have aX:X'.A=X.A:=by subst hX;rfl
  have pX:X'.prog=X.prog:=by subst hX;rfl
  have wX:X'.w=X.w:=by subst hX;rfl
  have kX:X'.K=X.K:=by subst hX;rfl
  have cX:X'.calm=true:=by subst hX;exact hc
  have eX:X'.env=compEnvC scope cl s3.heap.objs.size X.env:=by subst hX;rfl
  rcases turn i n H5 w5 with ⟨stop,qn⟩ |⟨go,N,hN,step⟩
  .have z:=T.done X' pX wX kX cX i [] s5 _ H5 (fun _ _=>False) I5 (stat fr5) st5 stop
   rw [aX] at z
   refine wpAny_mono z (fun r s6 ⟨hr,I6⟩=>?_) fun _ _ q=>q.elim
   subst hr
   subst hX
   obtain⟨m,hm,_⟩:=id I6.loc
   exact wpAny_pure ⟨m,hm,fun h' sb=>⟨.ref acc,H5,Inv.uncomp I3 f3 rfl I6 sb,rfl,qn⟩⟩
  .have z:=T.item X' pX wX kX cX i [] s5 _ H5 (fun _ _=>False) I5 (stat fr5) st5 go
   rw [aX] at z
   refine wpAny_mono z (fun r s6 ⟨u,hr,h6⟩=>?_) fun _ _ q=>q.elim
   subst hr
   refine wpAny_bind (wpAny_mono h6 (fun _ s7 ⟨v,H7,I7,r7,y7,st7,fr7⟩=>?_) fun _ _ q=>q.elim)
   have I7':=I7.pinned (stat fr7) (T.obj _ _ st7)
   have asg:wpAny (model X.prog X.w) X.A (assign (.Name x px) (compEnvC scope cl s3.heap.objs.size X.env) u) (fun _ s8=>Inv X' ([]++qcq fp s7.heap) (some v :: qbc caps σ) H7 s8) (fun _ _=>False) s7:=by
    subst hX
    exact wpAny_assign_Name (qeo (X:=cxC X (x :: cn) scope cl s3.heap.objs.size s3 (upd H2 acc (.lst [])) fp) (i:=0) I7' Cp.nd rfl (.inl (lookup_relabel_local Cp.tg)) r7 (fun s' I'=>I') (.inr (lookup_relabel_local Cp.tg)))
   refine wpAny_bind (wpAny_mono asg (fun _ s8 I8=>?_) fun _ _ q=>q.elim)
   have tst:wpAny (model X.prog X.w) X.A (forIn ifs true fun c r=>if r=true then do let ok<-isTrue c (compEnvC scope cl s3.heap.objs.size X.env) (eval c (compEnvC scope cl s3.heap.objs.size X.env));pure (ForInStep.yield ok) else pure (ForInStep.yield r))
     (TP X' ([]++qcq fp s7.heap) (some v :: qbc caps σ) (fun b H9=>if b=true then te s3.heap.objs.size s3 (upd H2 acc (.lst [])) fp (some v :: qbc caps σ) H9 (fun y H3=>rApp acc N y H3) else N H9)) (fun _ _=>False) s8:=by
    subst hX
    exact ht _ _ _ _ _ s8 _ H7 _ I8 (step v H7 y7)
   refine wpAny_bind (wpAny_mono tst (fun b s9 ⟨H9,I9,q9⟩=>?_) fun _ _ q=>q.elim)
   have fin:∀{a:Option V} {H10:Hp} {s10:Shared},Inv X' ([]++qcq fp s7.heap) (a :: qbc caps σ) H10 s10->N H10->∃m',m' < n/\∃i a H',Inv X' [] (a :: qbc caps σ) H' s10/\tn i s10.heap/\(∀b∈fp,H' b=none)/\W i m' H':=fun {a H10 s10} I10 n10=>
    let ⟨m',hm,w10⟩:=hN _ n10
    ⟨m',hm,i+1,a,H10,I10.unpinned,T.keep _ _ _ st7 fun b hb o e=>(I10.pin (b,o) (zI _ (zI _ (qci hb e)))).1,fun b hb=>by
     obtain⟨o,e,d⟩:=T.obj _ _ st7 b hb
     exact(I10.pin (b,o) (zI _ (zI _ (qci hb e)))).2.1,w10⟩
   cases b with
   |false=>exact wpAny_pure ⟨rfl,fin I9 q9⟩
   |true=>
    have elt':wpAny (model X.prog X.w) X.A (eval elt (compEnvC scope cl s3.heap.objs.size X.env)) (EP X' ([]++qcq fp s7.heap) (some v :: qbc caps σ) (fun y H3=>rApp acc N y H3)) (fun _ _=>False) s9:=by
     subst hX
     exact he _ _ _ _ _ s9 _ H9 _ I9 q9
    refine wpAny_bind (wpAny_bind (wpAny_mono elt' (fun y s10 ⟨w,H10,I10,r10,ys,ha,hz,q10⟩=>?_) fun _ _ q=>q.elim))
    have app:wpAny (model X.prog X.w) X.A (call (.builtin "list.append") [.ref acc,y]) (EP X' ([]++qcq fp s7.heap) (some v :: qbc caps σ) fun _ H11=>H11=upd H10 acc (.lst (ys++ [w]))) (fun _ _=>False) s10:=by
     subst hX
     exact qbt (X:=cxC X (x :: cn) scope cl s3.heap.objs.size s3 (upd H2 acc (.lst [])) fp) _ s10 _ H10 (.ref acc) [w] (.ref acc) [y] _ I10 rfl (.cons r10 .nil) ⟨acc,ys,w,rfl,rfl,ha,hz,rfl⟩
    refine wpAny_bind (wpAny_mono app (fun _ s11 ⟨_,H11,I11,_,e11⟩=>?_) fun _ _ q=>q.elim)
    subst e11
    exact wpAny_pure (wpAny_pure ⟨rfl,fin I11 q10⟩)
 exact codeAny_compStart_list core (T.self _ 0 _ _ _ st4 core)
def Its (x:Str):It:=⟨fun i _=>i < x.cps.size,fun i H v H'=>H'=H/\∃c,x.cps[i]?=some c/\v=.str ⟨#[c]⟩,fun i _=>i=x.cps.size⟩
theorem turn_str {P:Program} {w:World} {K:Frag} {y:Str} {py:Pos} (x:Str) (t:Tok) (it:Addr) (ty:String) (W:∀A:Around,A.handled=none->Walks P w A it [it] [it] x.cps.size (SignAt x) (fun i h=>h.IsStrIter it ty x t i))
  (hself:∀(A:Around) (i:Nat) (s:Shared) (Q:Value->Shared->Prop) (E:Value->Shared->Prop),s.heap.IsStrIter it ty x t i->Q (.ref it) s->wpAny (model P w) A (pyIter (.ref it)) Q E s):
  Turn P w K (.Name y py) (Its x) [it] it (fun i h=>h.IsStrIter it ty x t i) where
 mem:=by simp
 obj:=fun i h st b hb=>by
  have e:b=it:=by simpa using hb
  subst e
  obtain⟨o,e,c,d⟩:=st
  exact⟨o,e,fun v z=>by rw [d] at z;cases z⟩
 keep:=fun i h h' ⟨o,e,r⟩ k=>⟨o,k it (by simp) o e,r⟩
 item:=by
  intro X hP hw hK hc i pins s σ H E I hf st hg
  subst hP hw hK
  obtain⟨f0,f1,f2,f3,f4,f5⟩:=hf it (by simp)
  refine(W X.A (I.ok.hd hc)).item i s _ _ hg st fun v h' tk hv st' k=>?_
  have I1:Inv X pins σ H {s with heap:=h',toks:=tk}:=I.turned (t':=tk) (fun b o hb e=>k b o (fun z=>hb (by simpa using z)) e) f0 f1 f3 f4 f5
  obtain⟨c,u,hx,rfl⟩:=hv
  exact⟨_,rfl,wpAny_pure ⟨.str ⟨#[c]⟩,H,I1,⟨_,rfl⟩,⟨rfl,c,hx,rfl⟩,st',fun b hb=>(hf b hb).1⟩⟩
 done:=by
  intro X hP hw hK hc i pins s σ H E I hf st hg
  subst hP hw hK
  have hg':i=x.cps.size:=hg
  subst hg'
  obtain⟨f0,f1,f2,f3,f4,f5⟩:=hf it (by simp)
  exact(W X.A (I.ok.hd hc)).done s _ _ st fun h' tk k=>⟨rfl,I.turned (t':=tk) (fun b o hb e=>k b o (fun z=>hb (by simpa using z)) e) f0 f1 f3 f4 f5⟩
 self:=hself
def rItS (v:V) (H:Hp) (R:It->Hp->Prop):Prop:=∃x,v=.str x/\R (Its x) H
def iStr (tl:TE):TI:=fun σ H R=>tl σ H fun v H1=>rItS v H1 R
end
end My
namespace L2
open PySem PySem.Spec PyProof.Rows
section
variable {κ: Type} [DecidableEq κ]
def qbq (kvs:List (κ × V)) (k:κ):Option V:=(kvs.find? fun kv=>decide (kv.1=k)).map (·.2)
def qco (kvs:List (κ × V)) (k:κ) (v:V):List (κ × V):=
 if (kvs.any fun kv=>decide (kv.1=k))=true then kvs.map (fun kv=>if kv.1=k then (kv.1,v) else kv) else kvs++ [(k,v)]
def qgy (kvs:List (κ × V)) (k:κ):List (κ × V):=kvs.filter fun kv=>decide (kv.1≠k)
theorem valV_nil {k:κ}:qbq ([]:List (κ × V)) k=none:=rfl
theorem qbu {p:κ × V} {r:List (κ × V)} {k:κ} (e:p.1=k):qbq (p :: r) k=some p.2:=by simp [qbq,yU,e]
theorem qbv {p:κ × V} {r:List (κ × V)} {k:κ} (e:¬p.1=k):qbq (p :: r) k=qbq r k:=by simp [qbq,yU,e]
theorem qc6 (k:κ):∀kvs:List (κ × V),(kvs.any fun kv=>decide (kv.1=k))=(qbq kvs k).isSome
 | []=>rfl
 |p :: r=>by
  rw [xF]
  by_cases e:p.1=k
  .simp only [qbu e,decide_eq_true e,Bool.true_or,Option.isSome_some]
  .rw [qbv e,decide_eq_false e,Bool.false_or];exact qc6 k r
theorem valV_map (k j:κ) (y:V):∀kvs:List (κ × V),qbq (kvs.map fun kv=>if kv.1=k then (kv.1,y) else kv) j=(qbq kvs j).map fun x=>if j=k then y else x
 | []=>rfl
 |p :: r=>by
  have ih:=valV_map k j y r
  rw [zM]
  by_cases h:p.1=k
  .rw [if_pos h]
   by_cases e:p.1=j
   .rw [qbu (p:=(p.1,y)) e,qbu e,Option.map_some,if_pos (e.symm.trans h)]
   .rw [qbv (p:=(p.1,y)) e,qbv e,ih]
  .rw [if_neg h]
   by_cases e:p.1=j
   .rw [qbu (p:=p) e,qbu e,Option.map_some,if_neg (fun z=>h (e.trans z))]
   .rw [qbv (p:=p) e,qbv e,ih]
theorem valV_snoc (k j:κ) (y:V):∀kvs:List (κ × V),qbq kvs k=none->qbq (kvs++ [(k,y)]) j=if j=k then some y else qbq kvs j
 | [],_=>by
  by_cases e:k=j
  .rw [if_pos e.symm];exact qbu (p:=(k,y)) e
  .rw [if_neg (fun z=>e z.symm)];exact qbv (p:=(k,y)) e
 |p :: r,hn=>by
  rw [List.cons_append]
  have hk:¬p.1=k:=fun z=>by rw [qbu z] at hn;cases hn
  rw [qbv hk] at hn
  have ih:=valV_snoc k j y r hn
  by_cases e:p.1=j
  .rw [qbu e,qbu e,if_neg (fun z=>hk (e.trans z))]
  .rw [qbv e,qbv e,ih]
theorem valV_put (kvs:List (κ × V)) (k j:κ) (y:V):qbq (qco kvs k y) j=if j=k then some y else qbq kvs j:=by
 unfold qco
 by_cases a:(kvs.any fun kv=>decide (kv.1=k))=true
 .rw [if_pos a,valV_map]
  rw [qc6] at a
  by_cases e:j=k
  .obtain⟨x,hx⟩:=Option.isSome_iff_exists.mp a
   rw [if_pos e,e,hx,Option.map_some,if_pos rfl]
  .rw [if_neg e]
   cases qbq kvs j with
   |none=>rfl
   |some x=>rw [Option.map_some,if_neg e]
 .rw [if_neg a]
  refine valV_snoc k j y kvs ?_
  rw [qc6] at a
  cases q:qbq kvs k with
  |none=>rfl
  |some x=>rw [q] at a;exact(a rfl).elim
theorem qbx (kvs:List (κ × V)) (k:κ) (v:V):(qco kvs k v).length<=kvs.length+1:=by
 unfold qco
 split
 .rw [zB];omega
 .rw [zL,zR,yW];omega
theorem qdd {kvs:List (κ × V)} {k:κ} (v:V) (h:qbq kvs k=none):qco kvs k v=kvs++ [(k,v)]:=by
 unfold qco
 rw [qc6,h]
 exact if_neg (by decide)
theorem qg7.isSome_eq {o:Option V} {u:Option Value} (r:qg7 o u):o.isSome=u.isSome:=by
 cases o with
 |none=>cases u with
  |none=>rfl
  |some _=>exact(show False from r).elim
 |some _=>cases u with
  |none=>exact(show False from r).elim
  |some _=>rfl
theorem qg7.getD {o:Option V} {u:Option Value} {d:V} {d':Value} (r:qg7 o u) (rd:qba d d'):qba (o.getD d) (u.getD d'):=by
 cases o with
 |none=>cases u with
  |none=>exact rd
  |some _=>exact(show False from r).elim
 |some _=>cases u with
  |none=>exact(show False from r).elim
  |some _=>exact r
theorem KV.val {kvs:List (κ × V)} {vs:List (κ × Value)} (r:KV kvs vs) (k:κ):qg7 (qbq kvs k) (valueAt vs k):=by
 unfold KV at r
 induction r with
 |nil=>exact True.intro
 | @cons p q ps qs h t ih=>
  obtain⟨h1,h2⟩:=h
  by_cases e:p.1=k
  .have e':q.1=k:=h1.symm.trans e
   have b:valueAt (q :: qs) k=some q.2:=by simp [valueAt,yU,e']
   rw [qbu e,b];exact h2
  .have e':¬q.1=k:=fun z=>e (h1.trans z)
   have b:valueAt (q :: qs) k=valueAt qs k:=by simp [valueAt,yU,e']
   rw [qbv e,b];exact ih
theorem KV.any {kvs:List (κ × V)} {vs:List (κ × Value)} (r:KV kvs vs) (k:κ):(kvs.any fun kv=>decide (kv.1=k))=vs.any fun kv=>decide (kv.1=k):=by
 unfold KV at r
 induction r with
 |nil=>rfl
 |cons h t ih=>rw [xF,xF,ih,h.1]
theorem KV.repl {kvs:List (κ × V)} {vs:List (κ × Value)} (r:KV kvs vs) (k:κ) {y:V} {u:Value} (ry:qba y u):
  KV (kvs.map fun kv=>if kv.1=k then (kv.1,y) else kv) (vs.map fun kv=>if kv.1=k then (kv.1,u) else kv):=by
 unfold KV at r ⊢
 induction r with
 |nil=>exact .nil
 | @cons p q ps qs h t ih=>
  rw [zM,zM]
  refine .cons ?_ ih
  obtain⟨h1,h2⟩:=h
  by_cases e:p.1=k
  .rw [if_pos e,if_pos (h1.symm.trans e)];exact⟨h1,ry⟩
  .rw [if_neg e,if_neg (fun z=>e (h1.trans z))];exact⟨h1,h2⟩
theorem KV.put {kvs:List (κ × V)} {vs:List (κ × Value)} (r:KV kvs vs) (k:κ) {y:V} {u:Value} (ry:qba y u):KV (qco kvs k y) (stored vs k u):=by
 unfold qco stored
 rw [r.any k]
 by_cases e:(vs.any fun kv=>decide (kv.1=k))=true
 .rw [if_pos e,if_pos e];exact r.repl k ry
 .rw [if_neg e,if_neg e];exact Paired.snoc r ⟨rfl,ry⟩
theorem KV.drop {kvs:List (κ × V)} {vs:List (κ × Value)} (r:KV kvs vs) (k:κ):KV (qgy kvs k) (without vs k):=by
 unfold KV at r ⊢
 unfold qgy without
 induction r with
 |nil=>exact .nil
 | @cons p q ps qs h t ih=>
  obtain⟨h1,h2⟩:=h
  rw [zU,zU]
  by_cases e:p.1=k
  .have a:¬decide (p.1≠k)=true:=by simp [e]
   have b:¬decide (q.1≠k)=true:=by simp [h1.symm.trans e]
   rw [if_neg a,if_neg b];exact ih
  .have e':¬q.1=k:=fun z=>e (h1.trans z)
   have a:decide (p.1≠k)=true:=by simp [e]
   have b:decide (q.1≠k)=true:=by simp [e']
   rw [if_pos a,if_pos b];exact .cons ⟨h1,h2⟩ ih
theorem KV.keys {kvs:List (κ × V)} {vs:List (κ × Value)} (r:KV kvs vs):kvs.map (·.1)=vs.map (·.1):=by
 unfold KV at r
 induction r with
 |nil=>rfl
 |cons h t ih=>rw [zM,zM,ih,h.1]
theorem KV.length {kvs:List (κ × V)} {vs:List (κ × Value)} (r:KV kvs vs):kvs.length=vs.length:=Paired.length r
theorem dropK_le (kvs:List (κ × V)) (k:κ):(qgy kvs k).length<=kvs.length:=zW _ _
end
theorem kV_is {P:Program} {w:World} {k:Key} {u:Value} (r:qba (kV k) u):(qb4 P w).is k u=true:=by
 cases k with
 |inl i=>obtain⟨t,e⟩:=(show ∃t,u=Value.int i t from r);subst e;exact mixKind_int P w i t
 |inr x=>obtain⟨t,e⟩:=(show ∃t,u=Value.str x t from r);subst e;exact mixKind_str P w x t
theorem items_are {P:Program} {w:World}:∀{ks:List Key} {us:List Value},qb7 (ks.map kV) us->ItemsAre (qb4 P w) ks us
 | [],_,r=>by rw [xD] at r;cases r;exact .nil
 |k :: ks,_,r=>by
  rw [zM] at r
  cases r with
  |cons h t=>exact .cons (kV_is h) (items_are t)
abbrev KT (H:Hp):List (List Key × V)->List (List Key × Addr × Value)->Prop:=Paired fun p q=>p.1=q.1/\H q.2.1=some (.tup (p.1.map kV))/\qba p.2 q.2.2
theorem KT.val {H:Hp} {kvs:List (List Key × V)} {xs:List (List Key × Addr × Value)} (r:KT H kvs xs) (k:List Key):qg7 (qbq kvs k) ((atKey xs k).map (·.2)):=by
 induction r with
 |nil=>exact True.intro
 | @cons p q ps qs h t ih=>
  obtain⟨h1,_,h2⟩:=h
  by_cases e:p.1=k
  .have e':q.1=k:=h1.symm.trans e
   have b:atKey (q :: qs) k=some q.2:=by simp [atKey,yU,e']
   rw [qbu e,b];exact h2
  .have e':¬q.1=k:=fun z=>e (h1.trans z)
   have b:atKey (q :: qs) k=atKey qs k:=by simp [atKey,yU,e']
   rw [qbv e,b];exact ih
theorem KT.repl {H:Hp} {kvs:List (List Key × V)} {xs:List (List Key × Addr × Value)} (r:KT H kvs xs) (k:List Key) {y:V} {u:Value} (ry:qba y u):
  KT H (kvs.map fun kv=>if kv.1=k then (kv.1,y) else kv) (xs.map (putAt k u)):=by
 induction r with
 |nil=>exact .nil
 | @cons p q ps qs h t ih=>
  rw [zM,zM]
  refine .cons ?_ ih
  obtain⟨h1,h2,h3⟩:=h
  unfold putAt
  by_cases e:p.1=k
  .rw [if_pos e,if_pos (h1.symm.trans e)];exact⟨h1,h2,ry⟩
  .rw [if_neg e,if_neg (fun z=>e (h1.trans z))];exact⟨h1,h2,h3⟩
theorem KT.put {H:Hp} {kvs:List (List Key × V)} {xs:List (List Key × Addr × Value)} (r:KT H kvs xs) (k:List Key) {b:Addr} {y:V} {u:Value} (hb:H b=some (.tup (k.map kV))) (ry:qba y u):
  KT H (qco kvs k y) (storedH xs k b u):=by
 have e:(kvs.any fun kv=>decide (kv.1=k))=(atKey xs k).isSome:=by
  rw [qc6,(r.val k).isSome_eq,Option.isSome_map]
 unfold qco storedH
 rw [e]
 by_cases q:(atKey xs k).isSome=true
 .rw [if_pos q,if_pos q];exact r.repl k ry
 .rw [if_neg q,if_neg q];exact Paired.snoc r ⟨rfl,hb,ry⟩
theorem KT.keeps {H H':Hp} {kvs:List (List Key × V)} {xs:List (List Key × Addr × Value)} (r:KT H kvs xs) (ht:∀b ys,H b=some (.tup ys)->H' b=some (.tup ys)):KT H' kvs xs:=
 Paired.mapP r fun _ _ z=>⟨z.1,ht _ _ z.2.1,z.2.2⟩
section
variable {P: Program} {w: World} {H: Hp} {h: Heap} {a: Addr}
theorem rd_of {u:HO} (ok:HOk P w H h) (e:Rd H a u):qbp P w H h a u:=e.ok ok
theorem qfo {kvs:List (Key × V)} (ok:HOk P w H h) (e:Rd H a (.dK kvs)):kvs.length<=sizeLine/\(a==sysModules)=false/\∃vs,KV kvs vs/\h.DictOf (qb4 P w) a vs:=
 show qbp P w H h a (.dK kvs) from rd_of ok e
theorem dk_of {kvs:List (Key × V)} (ok:HOk P w H h) (e:H a=some (.dK kvs)):kvs.length<=sizeLine/\(a==sysModules)=false/\∃vs,KV kvs vs/\h.DictOf (qb4 P w) a vs:=qfo ok (.inl e)
theorem key_of {ks:List Key} (ok:HOk P w H h) (e:H a=some (.tup (ks.map kV))):(tupleKind (qb4 P w)).is h ks a:=by
 obtain⟨_,its,r,o,h1,h2,n,h3⟩:=(show qbp P w H h a (.tup (ks.map kV)) from ok a _ e)
 exact⟨o,its.toArray,n,h1,h2,h3,by simpa using items_are r⟩
theorem dt_rd {kvs:List (List Key × V)} (ok:HOk P w H h) (e:Rd H a (.dT kvs)):kvs.length<=sizeLine/\(a==sysModules)=false/\
  ∃xs,KT H kvs xs/\h.DictOfH (tupleKind (qb4 P w)) a xs:=by
 obtain⟨z,y,xs,r,o,es,ep,h1,h2,h3,h4,h5⟩:=(show qbp P w H h a (.dT kvs) from rd_of ok e)
 refine⟨z,y,xs,r,o,es,ep,h1,h2,h3,h4,fun x hx=>?_,h5⟩
 have all:∀{l:List (List Key × V)} {m:List (List Key × Addr × Value)},KT H l m->∀x∈m,(tupleKind (qb4 P w)).is h x.1 x.2.1:=by
  intro l m q
  induction q with
  |nil=>intro x hx;exact nomatch hx
  | @cons p q ps qs hq t ih=>
   intro x hx
   rcases zV.mp hx with e|hx
   .subst e
    exact key_of ok (by rw [<-hq.1];exact hq.2.1)
   .exact ih x hx
 exact all r x hx
theorem dt_of {kvs:List (List Key × V)} (ok:HOk P w H h) (e:H a=some (.dT kvs)):kvs.length<=sizeLine/\(a==sysModules)=false/\
  ∃xs,KT H kvs xs/\h.DictOfH (tupleKind (qb4 P w)) a xs:=dt_rd ok (.inl e)
end
def DGet (H:Hp) (a:Addr) (y:V) (r:Option V):Prop:=
 (∃kvs k,Rd H a (.dK kvs)/\y=kV k/\r=qbq kvs k)\/∃kvs k b,Rd H a (.dT kvs)/\y=.ref b/\H b=some (.tup (k.map kV))/\r=qbq kvs k
def DPut (H:Hp) (a:Addr) (y v:V) (H':Hp):Prop:=
 (∃kvs k,H a=some (.dK kvs)/\y=kV k/\kvs.length < sizeLine/\H'=upd H a (.dK (qco kvs k v)))\/
 ∃kvs k b,H a=some (.dT kvs)/\y=.ref b/\H b=some (.tup (k.map kV))/\kvs.length < sizeLine/\H'=upd H a (.dT (qco kvs k v))
theorem DPut.k {H:Hp} {a:Addr} {kvs:List (Key × V)} {k:Key} {v:V} (e:H a=some (.dK kvs)) (hl:kvs.length < sizeLine):DPut H a (kV k) v (upd H a (.dK (qco kvs k v))):=.inl ⟨kvs,k,e,rfl,hl,rfl⟩
section
variable {X: Cx} {pins: List (Addr × Obj)} {σ: St} {H: Hp} {s: Shared} {a: Addr} {y v: V} {u r: Value} {o: Option V} {A: Around} {E: Value -> Shared -> Prop}
theorem Inv.big (I:Inv X pins σ H s):sysModules < s.heap.objs.size:=by
 have h:mainGlobals < s.heap.objs.size:=(I.mod.glob.keeps I.bk).lt
 exact Nat.lt_trans (by decide) h
theorem d_getItem {Q:Value->Shared->Prop} (hu:A.units+1 < cLine) (I:Inv X pins σ H s) (g:DGet H a y (some v)) (ry:qba y u) (h:∀w' s',Inv X pins σ H s'->qba v w'->Q w' s'):
  wpAny (model X.prog X.w) A (getItem (.ref a) u) Q E s:=by
 rcases g with ⟨kvs,k,e,ey,l⟩ |⟨kvs,k,b,e,ey,eb,l⟩
 .subst ey
  obtain⟨z,hd,vs,rel,dd⟩:=qfo I.hok e
  obtain⟨w',hw,rw'⟩:=qg7.some_of (v:=v) (o:=valueAt vs k) (by rw [l];exact rel.val k)
  exact wpAny_getItem_of (kV_is ry) dd.mapOf hw (h w' _ (I.tok _) rw')
 .subst ey
  cases (show u=Value.ref b from ry)
  obtain⟨z,hd,xs,rel,dd⟩:=dt_rd I.hok e
  obtain⟨w',hw,rw'⟩:=qg7.some_of (v:=v) (o:=(atKey xs k).map (·.2)) (by rw [l];exact rel.val k)
  obtain⟨p,hp,hp2⟩:=Option.map_eq_some_iff.mp hw
  refine wpAny_getItem_heap (tupleKind_room_in1 hu) (key_of I.hok eb) dd hp ?_
  rw [hp2]
  exact h w' _ (I.tok _) rw'
theorem d_in {Q:Value->Shared->Prop} (hu:A.units+1 < cLine) (I:Inv X pins σ H s) (g:DGet H a y o) (ry:qba y u) (h:∀s',Inv X pins σ H s'->Q (.bool o.isSome) s'):
  wpAny (model X.prog X.w) A (compareOp .In u (.ref a)) Q E s:=by
 rcases g with ⟨kvs,k,e,ey,l⟩ |⟨kvs,k,b,e,ey,eb,l⟩
 .subst ey
  obtain⟨z,hd,vs,rel,dd⟩:=qfo I.hok e
  refine wpAny_in_of (kV_is ry) hd dd.mapOf ?_
  rw [<-(rel.val k).isSome_eq,<-l]
  exact h _ (I.tok _)
 .subst ey
  cases (show u=Value.ref b from ry)
  obtain⟨z,hd,xs,rel,dd⟩:=dt_rd I.hok e
  refine wpAny_in_heap (tupleKind_room_in1 hu) (key_of I.hok eb) hd dd ?_
  have q:=(rel.val k).isSome_eq
  rw [Option.isSome_map] at q
  rw [<-q,<-l]
  exact h _ (I.tok _)
theorem qef {h':Heap} {t':Nat} {ob:HO} (I:Inv X pins σ H s) (mu:Mut (H a)) (hs:Heap.SameBut a s.heap h') (he:∃q,h'.get? a=some q) (new:qbp X.prog X.w (upd H a ob) h' a ob):
  Inv X pins σ (upd H a ob) {s with heap:=h',toks:=t'}:=
 I.write (x:=a) (e:=a) mu (.inl rfl) (fun b q hb z=>(hs.2 b hb).trans z) he new
theorem qg4 {P:Program} {w:World} {H':Hp} {h':Heap} {kvs:List (Key × V)} {vs:List (Key × Value)} (z:kvs.length<=sizeLine) (hd:(a==sysModules)=false) (rel:KV kvs vs) (dd:h'.DictOf (qb4 P w) a vs):
  qbp P w H' h' a (.dK kvs):=⟨z,hd,vs,rel,dd⟩
theorem d_setItem {H':Hp} {Q:Unit->Shared->Prop} (hu:A.units+1 < cLine) (I:Inv X pins σ H s) (g:DPut H a y v H') (ry:qba y u) (rv:qba v r) (h:∀s',Inv X pins σ H' s'->Q () s'):
  wpAny (model X.prog X.w) A (setItem (.ref a) u r) Q E s:=by
 rcases g with ⟨kvs,k,e,ey,l,eH⟩ |⟨kvs,k,b,e,ey,eb,l,eH⟩
 .subst ey eH
  obtain⟨z,hd,vs,rel,dd⟩:=dk_of I.hok e
  have hz:vs.length<=sizeLine:=by rw [<-rel.length];exact z
  have hl:(qco kvs k v).length<=sizeLine:=by have:=qbx kvs k v;omega
  refine wpAny_setItem_pairs (hsz:=hz) (kV_is ry) dd fun h' dd' hs=>h _ ?_
  have he:∃q,h'.get? a=some q:=let ⟨q,_,_,hq,_⟩:=dd';⟨q,hq⟩
  exact qef I (by rw [e];exact True.intro) hs he (qg4 hl hd (rel.put k rv) dd')
 .subst ey eH
  cases (show u=Value.ref b from ry)
  obtain⟨z,hd,xs,rel,dd⟩:=dt_of I.hok e
  have hz:xs.length<=sizeLine:=by rw [<-Paired.length rel];exact z
  have hl:(qco kvs k v).length<=sizeLine:=by have:=qbx kvs k v;omega
  refine wpAny_setItem_heap (hsz:=hz) (tupleKind_room_in1 hu) (key_of I.hok eb) dd fun h' dd' hs=>h _ ?_
  obtain⟨q,es,ep,hq,h2,h3,h4,_,h5⟩:=dd'
  refine qef I (by rw [e];exact True.intro) hs ⟨q,hq⟩ ⟨hl,hd,_,(rel.put k eb rv).keeps fun c ys ec=>?_,q,es,ep,hq,h2,h3,h4,h5⟩
  rw [qa6 (ne_of ec e (fun z=>nomatch z))]
  exact ec
end
section
variable {X: Cx} {pins: List (Addr × Obj)} {σ: St} {H: Hp} {s: Shared} {a: Addr} {kvs: List (Key × V)} {k: Key} {u: Value} {A: Around} {E: Value -> Shared -> Prop}
theorem d_delItem {Q:Unit->Shared->Prop} (I:Inv X pins σ H s) (e:H a=some (.dK kvs)) (ry:qba (kV k) u) (l:(qbq kvs k).isSome=true) (h:∀s',Inv X pins σ (upd H a (.dK (qgy kvs k))) s'->Q () s'):
  wpAny (model X.prog X.w) A (delItem (.ref a) u) Q E s:=by
 obtain⟨z,hd,vs,rel,dd⟩:=dk_of I.hok e
 refine wpAny_delItem_slot dd.typeIs (by decide) PySem.F.slot_dict_delitem
  (call_meetsIn PySem.F.slot_dict_delitem dd.typeIs PySem.F.entry_dict_delitem (PySem.F.args_dict_delitem_2 _ _) (meets_dict_delitem_pairs (qb4 X.prog X.w) a (kV_is ry)) ⟨vs,dd,by rw [<-rel.length];exact z,by rw [<-(rel.val k).isSome_eq];exact l,fun h' dd' hs=>h _ ?_⟩)
 have he:∃q,h'.get? a=some q:=let ⟨q,_,_,hq,_⟩:=dd';⟨q,hq⟩
 exact qef I (by rw [e];exact True.intro) hs he (qg4 (Nat.le_trans (dropK_le kvs k) z) hd (rel.drop k) dd')
theorem d_pop {v:V} {more:List Value} {Q:Value->Shared->Prop} (I:Inv X pins σ H s) (e:H a=some (.dK kvs)) (ry:qba (kV k) u) (l:qbq kvs k=some v) (hm:more=[]\/∃x,more=[x])
  (h:∀w' s',Inv X pins σ (upd H a (.dK (qgy kvs k))) s'->qba v w'->Q w' s'):wpAny (model X.prog X.w) A (call (.builtin "dict.pop") (.ref a :: u :: more)) Q E s:=by
 obtain⟨z,hd,vs,rel,dd⟩:=dk_of I.hok e
 obtain⟨w',hw,rw'⟩:=qg7.some_of (v:=v) (o:=valueAt vs k) (by rw [<-l];exact rel.val k)
 have hp:(keyPart u).isSome=true:=by
  cases k with
  |inl i=>obtain⟨t,q⟩:=(show ∃t,u=Value.int i t from ry);subst q;rfl
  |inr x=>obtain⟨t,q⟩:=(show ∃t,u=Value.str x t from ry);subst q;rfl
 have ha:argsOk "dict.pop" ⟨.ref a :: u :: more, []⟩:=by
  rcases hm with q|⟨x,q⟩
  .subst q;exact PySem.F.args_dict_pop_2 _ _
  .subst q;exact PySem.F.args_dict_pop_3 _ _ _
 refine call_meetsIn PySem.F.slot_dict_pop dd.typeIs PySem.F.entry_dict_pop ha (meets_dict_pop_there (qb4 X.prog X.w) a (kV_is ry) more hm hp)
  ⟨vs,w',dd,by rw [<-rel.length];exact z,hw,fun h' dd' hs=>h w' _ ?_ rw'⟩
 have he:∃q,h'.get? a=some q:=let ⟨q,_,_,hq,_⟩:=dd';⟨q,hq⟩
 exact qef I (by rw [e];exact True.intro) hs he (qg4 (Nat.le_trans (dropK_le kvs k) z) hd (rel.drop k) dd')
theorem d_clear {Q:Value->Shared->Prop} (I:Inv X pins σ H s) (e:H a=some (.dK kvs)) (h:∀s',Inv X pins σ (upd H a (.dK [])) s'->Q .none s'):wpAny (model X.prog X.w) A (call (.builtin "dict.clear") [.ref a]) Q E s:=by
 obtain⟨z,hd,vs,rel,dd⟩:=dk_of I.hok e
 refine call_meetsIn PySem.F.slot_dict_clear dd.typeIs PySem.F.entry_dict_clear (PySem.F.args_dict_clear_1 _) (meets_dict_clear (qb4 X.prog X.w) a) ⟨vs,dd,by rw [<-rel.length];exact z,fun h' dd' hs=>h _ ?_⟩
 have he:∃q,h'.get? a=some q:=let ⟨q,_,_,hq,_⟩:=dd';⟨q,hq⟩
 exact qef (t':=s.toks) I (by rw [e];exact True.intro) hs he (qg4 (Nat.zero_le _) hd .nil dd')
theorem d_len {Q:Value->Shared->Prop} (I:Inv X pins σ H s) (e:Rd H a (.dK kvs)) (h:∀t s',Inv X pins σ H s'->Q (.int kvs.length t) s'):wpAny (model X.prog X.w) A (call (.builtin "len") [.ref a]) Q E s:=by
 obtain⟨z,hd,vs,rel,dd⟩:=qfo I.hok e
 refine call_len_dict hd dd (by rw [<-rel.length];rw [sizeLine_eq] at z;omega) ?_
 rw [<-rel.length]
 exact h _ _ (I.tok _)
end
def NoSl (i:Expr):Prop:=∀ov iv,subscripted i false ov iv=operate [ov,iv] (getItem ov iv)
theorem subD_of {prog:Program} {w:World} {A:Around} {E:Value->Shared->Prop} {s:Shared} {env:Env} {value slice:Expr} {pos:Pos} {T id:String} {Q:Value->Shared->Prop}
  (hl:typeLookup (.type T) "__getitem__" =pure (some (.builtin id))) (hs:NoSl slice)
  (h:wpAny (model prog w) A (eval value env) (fun o s₁=>wpAny (model prog w) A (eval slice env) (fun i s₂=>s₂.TypeIs o T/\wpAny (model prog w) A (getItem o i) Q E s₂) E s₁) E s):
  wpAny (model prog w) A (eval (.Subscript value slice pos) env) Q E s:=by
 refine Subscript_ (wpAny_mono h (fun o s₁ h₁=>wpAny_mono h₁ (fun i s₂ h₂=>?_) fun _ _ x=>x) fun _ _ x=>x)
 obtain⟨hT,h₂⟩:=h₂
 unfold subscriptTail
 refine wpAny_bind ?_
 rw [getitemInPython_of_ne hT.not_modules]
 refine wpAny_bind (wpAny_specialOf hT hl ?_)
 have fin:wpAny (model prog w) A (subscripted slice false o i) (fun r s₃=>wpAny (model prog w) A (letTemporaryGo value o r >>= fun _=>pure r) Q E s₃) E s₂:=by
  rw [hs o i]
  exact wpAny_operating (wpAny_mono h₂ (fun r s₃ h₃=>wpAny_bind (wpAny_letTemporaryGo (wpAny_pure h₃))) fun _ _ x=>x)
 first
  |exact wpAny_pure (wpAny_bind fin)
  |exact wpAny_bind (wpAny_pure (wpAny_bind fin))
  |exact wpAny_bind fin
theorem dict_typeIs {X:Cx} {pins:List (Addr × Obj)} {σ:St} {H:Hp} {s:Shared} {a:Addr} {y:V} {o:Option V} (I:Inv X pins σ H s) (g:DGet H a y o):s.TypeIs (.ref a) "dict":=by
 rcases g with ⟨kvs,k,e,_,_⟩ |⟨kvs,k,b,e,_,_,_⟩
 .obtain⟨_,_,vs,_,dd⟩:=qfo I.hok e
  exact dd.typeIs
 .obtain⟨_,_,xs,_,dd⟩:=dt_rd I.hok e
  exact dd.typeIs
def tDGet (td ty:TE):TE:=fun σ H Q=>td σ H fun x H1=>ty σ H1 fun y H2=>∃a v,x=.ref a/\DGet H2 a y (some v)/\Q v H2
def tDIn (ty td:TE):TE:=fun σ H Q=>ty σ H fun y H1=>td σ H1 fun x H2=>∃a o,x=.ref a/\DGet H2 a y o/\Q (.bl o.isSome) H2
def sDPut (td ty tv:TE):TS:=fun D σ H=>tv σ H fun v H1=>td σ H1 fun x H2=>ty σ H2 fun y H3=>∃a H4,x=.ref a/\DPut H3 a y v H4/\D.nx σ H4
section
variable {X: Cx} {o i value: Expr} {pos pos': Pos} {td ty tv: TE}
theorem qb3 (hu:X.A.units+1 < cLine) (ho:PE X o td) (hi:PE X i ty) (hs:NoSl i):PE X (.Subscript o i pos) (tDGet td ty):=by
 intro pins s σ H Q I h
 refine subD_of PySem.F.slot_dict_getitem.lookup hs (thn (ho pins s σ H _ I h) fun u s1 ⟨x,H1,I1,rx,q1⟩=>thn (hi pins s1 σ H1 _ I1 q1) fun iv s2 ⟨y,H2,I2,ry,a,v,ex,g,q2⟩=>?_)
 subst ex
 obtain rfl:u=Value.ref a:=rx
 exact⟨dict_typeIs I2 g,d_getItem hu I2 g ry fun w' s3 I3 rw'=>⟨v,H2,I3,rw',q2⟩⟩
theorem pc_din (hu:X.A.units+1 < cLine) (hi:PE X i ty) (ho:PE X o td):PC X .In i o (tDIn ty td):=by
 intro pins s σ H Q I h
 refine thn (hi pins s σ H _ I h) fun iv s1 ⟨y,H1,I1,ry,q1⟩=>thn (ho pins s1 σ H1 _ I1 q1) fun u s2 ⟨x,H2,I2,rx,a,ov,ex,g,q2⟩=>?_
 subst ex
 obtain rfl:u=Value.ref a:=rx
 exact d_in hu I2 g ry fun s3 I3=>⟨.bl ov.isSome,H2,I3,rfl,q2⟩
theorem qc4 (hu:X.A.units+1 < cLine) (ho:PE X o td) (hi:PE X i ty) (hv:PE X value tv) (hs:swapsWith value (some (.Subscript o i pos')) pos.line X.env=pure false):
  PS X (.Assign [.Subscript o i pos'] value pos) (sDPut td ty tv):=by
 intro pins s σ H D I h
 refine wpAny_Assign_Subscript (thn (hv pins s σ H _ I h) fun r s1 ⟨v,H1,I1,rv,q1⟩=>thn (ho pins s1 σ H1 _ I1 q1) fun u s2 ⟨x,H2,I2,rx,q2⟩=>thn (hi pins s2 σ H2 _ I2 q2) fun iv s3 ⟨y,H3,I3,ry,a,H4,ex,g,q3⟩=>?_) hs
 subst ex
 obtain rfl:u=Value.ref a:=rx
 exact d_setItem hu I3 g ry rv fun s4 I4=>⟨σ,H4,I4,q3⟩
end
theorem dk_empty {P:Program} {w:World} {H:Hp} (h:Heap) (hb:sysModules < h.objs.size):qbp P w H (h.push {cls:=.type "dict",data:=.dict #[]}) h.objs.size (.dK []):=
 ⟨Nat.zero_le _,beq_eq_false_iff_ne.mpr (Ne.symm (Nat.ne_of_lt hb)), [],.nil,Heap.DictOf.new h⟩
def tDNewK:TE:=fun _ H Q=>∀p,H p=none->Q (.ref p) (upd H p (.dK []))
section
variable {X: Cx} {pos: Pos}
theorem qc7:PE X (.Dict [] [] pos) tDNewK:=fun pins s σ H Q I h=>
 wpAny_Dict_empty ⟨.ref s.heap.objs.size,_,I.laid (a:=s.heap.objs.size) (o:=.dK []) (t':=s.toks) (fun _ _ q=>Heap.get?_push_of_some _ q) (Nat.le_refl _) (dk_empty s.heap I.big),rfl,h _ (I.hok.fresh (Nat.le_refl _))⟩
end
def tPairs:List (TE × TE)->St->Hp->(List (V × V)->Hp->Prop)->Prop
 | [],_,H,Q=>Q [] H
 |(tk,tv) :: r,σ,H,Q=>tk σ H fun x H1=>tv σ H1 fun y H2=>tPairs r σ H2 fun ps H3=>Q ((x,y) :: ps) H3
abbrev VV:List (V × V)->List (Value × Value)->Prop:=Paired fun p q=>qba p.1 q.1/\qba p.2 q.2
def PPs (X:Cx) (pos:Pos) (keys:List (Option Expr)) (values:List Expr) (trs:List (TE × TE)):Prop:=
 ∀(pins:List (Addr × Obj)) (s:Shared) (σ:St) (H:Hp) (Q:List (V × V)->Hp->Prop),Inv X pins σ H s->tPairs trs σ H Q->
  wpAny (model X.prog X.w) X.A (evalPairs (pairTrees keys values X.env pos)) (fun vs s'=>∃ps H',Inv X pins σ H' s'/\VV ps vs/\Q ps H') X.xe s
theorem pps_nil {X:Cx} {pos:Pos}:PPs X pos [] [] []:=fun pins s σ H Q I h=>pairTrees_nil_walk ⟨[],H,I,.nil,h⟩
theorem pps_cons {X:Cx} {pos:Pos} {k v:Expr} {ks:List (Option Expr)} {vs:List Expr} {tk tv:TE} {trs:List (TE × TE)} (hk:PE X k tk) (hv:PE X v tv) (hr:PPs X pos ks vs trs):
  PPs X pos (some k :: ks) (v :: vs) ((tk,tv) :: trs):=fun pins s σ H Q I h=>
 pairTrees_cons_walk (thn (hk pins s σ H _ I h) fun u s1 ⟨x,H1,I1,rx,q1⟩=>thn (hv pins s1 σ H1 _ I1 q1) fun w2 s2 ⟨y,H2,I2,ry,q2⟩=>
  thn (hr pins s2 σ H2 _ I2 q2) fun ws s3 ⟨ps,H3,I3,rel,q3⟩=>⟨(x,y) :: ps,H3,I3,.cons ⟨rx,ry⟩ rel,q3⟩)
def qg1 (kvs more:List (Key × V)):List (Key × V):=more.foldl (fun acc kv=>qco acc kv.1 kv.2) kvs
theorem KV.merge:∀{more:List (Key × V)} {rs:List (Key × Value)} {kvs:List (Key × V)} {vs:List (Key × Value)},KV more rs->KV kvs vs->KV (qg1 kvs more) (merged vs rs):=by
 intro more rs kvs vs r
 unfold KV at r
 induction r generalizing kvs vs with
 |nil=>intro q;exact q
 | @cons p q ps qs h t ih=>
  intro r0
  have e:KV (qco kvs p.1 p.2) (stored vs q.1 q.2):=by
   have:=r0.put p.1 h.2
   rw [<-h.1];exact this
  exact ih e
theorem qe4:∀(more kvs:List (Key × V)),(qg1 kvs more).length<=kvs.length+more.length
 | [],kvs=>by show kvs.length<=kvs.length+0;omega
 |p :: r,kvs=>by
  have h1:=qe4 r (qco kvs p.1 p.2)
  have h2:=qbx kvs p.1 p.2
  show (qg1 (qco kvs p.1 p.2) r).length<=_
  rw [zR];omega
theorem qg5 {P:Program} {w:World}:∀{kvs:List (Key × V)} {ws:List (Value × Value)},VV (kvs.map fun kv=>(kV kv.1,kv.2)) ws->∃rs,Carries (qb4 P w) ws rs/\KV kvs rs
 | [],_,r=>by rw [xD] at r;cases r;exact⟨[],True.intro,.nil⟩
 |p :: kvs,_,r=>by
  rw [zM] at r
  cases r with
  | @cons a b as bs h t=>
   obtain⟨rs,c,q⟩:=qg5 (P:=P) (w:=w) t
   obtain⟨b1,b2⟩:=b
   exact⟨(p.1,b2) :: rs,⟨kV_is h.1,rfl,c⟩,.cons ⟨rfl,h.2⟩ q⟩
def tDisp (trs:List (TE × TE)):TE:=fun σ H Q=>∀p,H p=none->tPairs trs σ (upd H p (.dK [])) fun ps H2=>H2 p=some (.dK [])/\∃kvs:List (Key × V),ps=kvs.map (fun kv=>(kV kv.1,kv.2))/\kvs.length<=15/\Q (.ref p) (upd H2 p (.dK (qg1 [] kvs)))
theorem pe_disp {X:Cx} {pos:Pos} {keys:List (Option Expr)} {values:List Expr} {trs:List (TE × TE)} (h:PPs X pos keys values trs) (hall:keys.all (·.isSome)=true) (hl:keys.length=values.length) (h0:keys≠ [])
  (h15:keys.length<=15):PE X (.Dict keys values pos) (tDisp trs):=by
 intro pins s σ H Q I q
 have hn:=I.hok.fresh (Nat.le_refl s.heap.objs.size)
 have I1:=I.laid (a:=s.heap.objs.size) (o:=.dK []) (h':=s.heap.push {cls:=.type "dict",data:=.dict #[]}) (t':=s.toks) (fun _ _ q=>Heap.get?_push_of_some _ q) (Nat.le_refl _) (dk_empty s.heap I.big)
 refine wpAny_Dict_walk (knd:=qb4 X.prog X.w) hall hl h0 h15 (thn (h pins _ σ _ _ I1 (q _ hn)) fun ws s2 ⟨ps,H2,I2,rel,e,kvs,ep,lk,q2⟩=>?_)
 subst ep
 obtain⟨rs,c,rk⟩:=qg5 (P:=X.prog) (w:=X.w) rel
 obtain⟨z,hd,vs0,r0,dd⟩:=dk_of I2.hok e
 cases r0
 refine⟨rs,c,dd,fun h' dd' hs=>⟨.ref s.heap.objs.size,_,?_,rfl,q2⟩⟩
 have hz:(qg1 [] kvs).length<=sizeLine:=by
  have h1:=qe4 kvs []
  rw [yW] at h1
  rw [sizeLine_eq];omega
 have he:∃q,h'.get? s.heap.objs.size=some q:=let ⟨q,_,_,hq,_⟩:=dd';⟨q,hq⟩
 exact qef I2 (by rw [e];exact True.intro) hs he (qg4 hz hd (rk.merge .nil) dd')
structure M1 (X:Cx) (o:Expr) (m:Str) (apos:Pos) (e:Expr) (cpos:Pos):Prop where
 base:attributeBase o m X.env (eval o X.env)=eval o X.env
 few:((backTo cpos (starEach [e] X.env)).all (fun x=>!x.1) && (backToKw cpos (keywordEach [] X.env)).all (fun x=>x.1.isSome)
  && decide (([e]:List Expr).length+([]:List Keyword).length+(if ([]:List Keyword).isEmpty then 0 else 1) < 30))=true
 line:(apos.endLine==cpos.line)=true
 trees:backTo cpos (starEach [e] X.env)=[(false,eval e X.env)]
structure M2 (X:Cx) (o:Expr) (m:Str) (apos:Pos) (e f:Expr) (cpos:Pos):Prop where
 base:attributeBase o m X.env (eval o X.env)=eval o X.env
 few:((backTo cpos (starEach [e,f] X.env)).all (fun x=>!x.1) && (backToKw cpos (keywordEach [] X.env)).all (fun x=>x.1.isSome)
  && decide (([e,f]:List Expr).length+([]:List Keyword).length+(if ([]:List Keyword).isEmpty then 0 else 1) < 30))=true
 line:(apos.endLine==cpos.line)=true
 trees:backTo cpos (starEach [e,f] X.env)=[(false,eval e X.env),(false,eval f X.env)]
def IsD (H:Hp) (a:Addr):Prop:=(∃kvs,Rd H a (.dK kvs))\/∃kvs,Rd H a (.dT kvs)
theorem isD_at {X:Cx} {pins:List (Addr × Obj)} {σ:St} {H:Hp} {s:Shared} {a:Addr} (I:Inv X pins σ H s) (d:IsD H a):
  s.TypeIs (.ref a) "dict"/\(∀b,Value.ref a=.ref b->∃ob,s.heap.get? b=some ob/\ob.dict=none)/\(a==sysModules)=false:=by
 rcases d with ⟨kvs,e⟩ |⟨kvs,e⟩
 .obtain⟨_,hd,vs,_,dd⟩:=qfo I.hok e
  refine⟨dd.typeIs,fun b q=>?_,hd⟩
  cases q
  obtain⟨ob,_,_,h1,h2,_⟩:=dd
  exact⟨ob,h1,h2.2.1⟩
 .obtain⟨_,hd,xs,_,dd⟩:=dt_rd I.hok e
  refine⟨dd.typeIs,fun b q=>?_,hd⟩
  cases q
  obtain⟨ob,_,_,h1,h2,_⟩:=dd
  exact⟨ob,h1,h2.2.1⟩
section
variable {X: Cx} {pins: List (Addr × Obj)} {σ: St} {H: Hp} {s: Shared} {a: Addr} {y d: V} {u r: Value} {o: Option V} {A: Around} {E: Value -> Shared -> Prop}
theorem d_get2 {Q:Value->Shared->Prop} (hu:A.units+1 < cLine) (I:Inv X pins σ H s) (g:DGet H a y o) (ry:qba y u) (rd:qba d r) (h:∀w' s',Inv X pins σ H s'->qba (o.getD d) w'->Q w' s'):
  wpAny (model X.prog X.w) A (call (.builtin "dict.get") [.ref a,u,r]) Q E s:=by
 rcases g with ⟨kvs,k,e,ey,l⟩ |⟨kvs,k,b,e,ey,eb,l⟩
 .subst ey
  obtain⟨z,hd,vs,rel,dd⟩:=qfo I.hok e
  refine call_meetsIn PySem.F.slot_dict_get dd.typeIs PySem.F.entry_dict_get (PySem.F.args_dict_get_3 _ _ _) (meets_dict_get_default (qb4 X.prog X.w) a (kV_is ry) hd r) ⟨_,dd.mapOf,h _ _ (I.tok _) ?_⟩
  rw [l]
  exact(rel.val k).getD rd
 .subst ey
  cases (show u=Value.ref b from ry)
  obtain⟨z,hd,xs,rel,dd⟩:=dt_rd I.hok e
  refine call_meetsIn PySem.F.slot_dict_get dd.typeIs PySem.F.entry_dict_get (PySem.F.args_dict_get_3 _ _ _) (meetsH_dict_get_default (tupleKind (qb4 X.prog X.w)) a b hd r) ⟨tupleKind_room_in1 hu,k,xs,key_of I.hok eb,dd,h _ _ (I.tok _) ?_⟩
  rw [l]
  exact(rel.val k).getD rd
end
def tDGet2 (td ty tx:TE):TE:=fun σ H Q=>td σ H fun x H1=>∃a,x=.ref a/\IsD H1 a/\ty σ H1 fun y H2=>tx σ H2 fun z H3=>∃o,DGet H3 a y o/\Q (o.getD z) H3
section
variable {X: Cx} {o e f: Expr} {apos cpos: Pos} {td ty tx: TE}
theorem qdz (hu:X.A.units+1 < cLine) (ho:PE X o td) (he:PE X e ty) (hf:PE X f tx) (m:M2 X o "get" apos e f cpos):PE X (.Call (.Attribute o "get" apos) [e,f] [] cpos) (tDGet2 td ty tx):=by
 intro pins s σ H Q I h
 refine wpAny_Call_method m.base m.few m.line PySem.F.plainAttrs_dict PySem.F.slot_dict_get PySem.F.type_dict_get (thn (ho pins s σ H _ I h) fun u s1 ⟨x,H1,I1,rx,a,ex,d,q1⟩=>?_)
 subst ex
 obtain rfl:u=Value.ref a:=rx
 obtain⟨t1,t2,_⟩:=isD_at I1 d
 refine⟨t1,t2,?_⟩
 rw [m.trees]
 refine Calls.callWith_builtin rfl (Calls.evalArgs_plain (Calls.spliced_cons (thn (he pins s1 σ H1 _ I1 q1) fun iv s2 ⟨y,H2,I2,ry,q2⟩=>
  Calls.spliced_cons (thn (hf pins s2 σ H2 _ I2 q2) fun fv s3 ⟨z,H3,I3,rz,ov,g,q3⟩=>Calls.spliced_nil ?_))))
 exact d_get2 hu I3 g ry rz fun w' s4 I4 rw'=>⟨_,H3,I4,rw',q3⟩
end
section
variable {X: Cx} {pins: List (Addr × Obj)} {σ: St} {H: Hp} {s: Shared} {a: Addr} {kvs: List (Key × V)} {A: Around} {E: Value -> Shared -> Prop}
theorem d_copyOf {Q:Value->Shared->Prop} (I:Inv X pins σ H s) (e:Rd H a (.dK kvs)) (h:∀p s',H p=none->Inv X pins σ (upd H p (.dK kvs)) s'->Q (.ref p) s'):wpAny (model X.prog X.w) A (call (.type "dict") [.ref a]) Q E s:=by
 obtain⟨z,hd,vs,rel,dd⟩:=qfo I.hok e
 refine kt_call_dict hd dd (by rw [<-rel.length];exact z) fun h' dd' hs=>?_
 refine h _ _ (I.hok.fresh (Nat.le_refl _)) (I.laid (a:=s.heap.objs.size) (o:=.dK kvs) (t':=s.toks) (fun b q hq=>?_) (Nat.le_refl _) (qg4 z (beq_eq_false_iff_ne.mpr (Ne.symm (Nat.ne_of_lt I.big))) rel dd'))
 exact(hs.2 b (Nat.ne_of_lt (Heap.lt_size hq))).trans (Heap.get?_push_of_some _ hq)
end
section
variable {X: Cx}
theorem call_lenD:qcp X (.builtin "len") (fun xs H Q=>∃a kvs,xs=[V.ref a]/\H a=some (.dK kvs)/\Q (.int kvs.length) H):=by
 intro pins s σ H xs us Q I r h
 obtain⟨a,kvs,rfl,ha,q⟩:=h
 obtain⟨u,rfl,ru⟩:=vals1 r
 cases ru
 exact d_len I (.inl ha) fun t s' I'=>⟨.int kvs.length,H,I',⟨t,rfl⟩,q⟩
end
section
variable {κ: Type} [DecidableEq κ]
theorem valV_not {kvs:List (κ × V)} {k:κ} (h:qbq kvs k=none):¬k∈kvs.map (·.1):=by
 intro m
 obtain⟨p,hp,e⟩:=zJ.mp m
 have q:(kvs.any fun kv=>decide (kv.1=k))=true:=yV.mpr ⟨p,hp,decide_eq_true e⟩
 rw [qc6,h] at q
 exact absurd q (by simp)
theorem valV_in {kvs:List (κ × V)} {k:κ} {v:V} (h:qbq kvs k=some v):k∈kvs.map (·.1):=by
 have q:(kvs.any fun kv=>decide (kv.1=k))=true:=by
  rw [qc6,h]
  all_goals rfl
 obtain⟨p,hp,e⟩:=yV.mp q
 exact zJ.mpr ⟨p,hp,of_decide_eq_true e⟩
theorem nd_snoc:∀{l:List κ} {k:κ},l.Nodup->¬k∈l->(l++ [k]).Nodup
 | [],k,_,_=>by simp
 |a :: r,k,h,hk=>by
  obtain⟨h1,h2⟩:=zX.mp h
  show (a ::(r++ [k])).Nodup
  refine zX.mpr ⟨fun m=>?_,nd_snoc h2 fun m=>hk (zV.mpr (Or.inr m))⟩
  rcases zN.mp m with q|q
  .exact h1 q
  .exact hk (zV.mpr (Or.inl (zH.mp q).symm))
theorem nd_putK {kvs:List (κ × V)} {k:κ} (v:V) (hn:(kvs.map (·.1)).Nodup) (h:qbq kvs k=none):((qco kvs k v).map (·.1)).Nodup:=by
 rw [qdd v h,zG]
 exact nd_snoc hn (valV_not h)
end
end L2
namespace My
open PySem PySem.Spec PyProof.Rows L2
theorem qdf {α:Type} {β:Type} [BEq α] [LawfulBEq α]:∀{l:List (α × β)} {x:α} {v:β},l.lookup x=some v->(x,v)∈l
 |(a,b) :: l,x,v,h=>by
  rw [List.lookup_cons] at h
  cases e:x==a with
  |true=>rw [e] at h;have e':=eq_of_beq e;have h':b=v:=Option.some.inj h;subst e' h';exact zC
  |false=>rw [e] at h;exact zF _ (qdf h)
theorem qbm {X:Cx} {x:Str} {scope:Scope} {cl:List (Str × Addr)} {caps:List Nat} {cn:List Str} (h1:closureFor scope X.env=pure cl) (h2:scope.kind=.function) (h3:scope.names.all (fun p=>p.2 !=.cell)=true)
  (h4:scope.names.all (fun p=>p.2 !=.local || scope.names.lookup p.1==some .local)=true) (h5:scope.names.lookup x=some .local) (h6:AllC (fun p=>X.env.cells.lookup p.1=some p.2) cl)
  (h7:(relabel scope X.env).names.all (fun p=>!(p.2==.cell || p.2==.free) ||(cl.lookup p.1).isSome)=true) (h8:caps.length=cn.length)
  (h9:AllC (fun p=>X.N[p.1]?=some p.2/\X.env.kindOf p.2=some .cell/\(relabel scope X.env).names.lookup p.2=some .cell/\X.env.scope.names.lookup p.2=some .cell/\∃c,cl.lookup p.2=some c) (caps.zip cn)) (h10:(x :: cn).Nodup):Caps X x scope cl caps cn:=by
 refine⟨h1,h2,fun y hy z=>?_,fun y hy z=>?_,h5,fun y c e=>AllC.mem h6 _ (qdf e),fun y hy=>?_,h8,fun k y j e1 e2=>?_,h10⟩
 .have q:=yM.mp h3 y hy
  rw [z] at q
  cases q
 .have q:=yM.mp h4 y hy
  rw [z] at q
  simpa using q
 .have m:∃k,(y,k)∈(relabel scope X.env).names/\(k=.cell\/k=.free):=by
   rcases hy with hy|hy
   .exact⟨_,qdf hy,.inl rfl⟩
   .exact⟨_,qdf hy,.inr rfl⟩
  obtain⟨k,hm,hk⟩:=m
  have q:=yM.mp h7 _ hm
  have hk':(k==NameKind.cell || k==NameKind.free)=true:=by rcases hk with rfl|rfl <;> decide
  rw [hk'] at q
  exact Option.isSome_iff_exists.mp (by simpa using q)
 .refine AllC.mem h9 (j,y) ?_
  have hz:(caps.zip cn)[k]?=some (j,y):=by rw [List.getElem?_zip_eq_some];exact⟨e2,e1⟩
  exact zK hz
section
variable {X: Cx}
theorem pi_str {l:Expr} {tl:TE} {y:Str} {py:Pos} (hl:PE X l tl):PI X (.Name y py) l (iStr tl):=by
 intro pins s σ H R I h
 refine thn (hl pins s σ H _ I h) fun u s1 ⟨v,H1,I1,r,x,ev,q⟩=>?_
 subst ev
 obtain⟨t,rfl⟩:=r
 have hn:H1 s1.heap.objs.size=none:=I1.hok.fresh (Nat.le_refl _)
 have fp:∀b∈ [s1.heap.objs.size],FpOk X pins H1 b:=fun b hb=>by
  have e:b=s1.heap.objs.size:=by simpa using hb
  subst e
  exact I1.fpOk (Nat.le_refl _) hn
 cases ha:x.cps.all (·< 128)
 .exact wpAny_pyIter_wide ha ⟨_, [s1.heap.objs.size],fun i h=>h.IsStrIter s1.heap.objs.size "str_iterator" x t i,Its x,H1,rfl,I1.kept (t':=s1.toks) (fun _ _ e=>Heap.get?_push_of_some _ e),
   turn_str x t _ _ (fun A hA=>Walks.strWide hA _ x t) fun A i s' Q' E' st hq=>wpAny_pyIter_striter_wide st hq,⟨_,Heap.get?_push_size _ rfl,rfl,rfl⟩,fp,q⟩
 .exact wpAny_pyIter_ascii ha ⟨_, [s1.heap.objs.size],fun i h=>h.IsStrIter s1.heap.objs.size "str_ascii_iterator" x t i,Its x,H1,rfl,I1.kept (t':=s1.toks) (fun _ _ e=>Heap.get?_push_of_some _ e),
   turn_str x t _ _ (fun A hA=>Walks.strAscii hA _ x t) fun A i s' Q' E' st hq=>wpAny_pyIter_striter_ascii st hq,⟨_,Heap.get?_push_size _ rfl,rfl,rfl⟩,fp,q⟩
def rAll (K:Frag):List V->Hp->VK->Prop:=fun xs H Q=>∃(p:Addr) (bs:List Bool),xs=[.ref p]/\SqL K H p (bs.map V.bl)/\Q (.bl (bs.all id)) H
theorem all_range (bs:List Bool):((List.range bs.length).all fun i=>(bs[i]?).getD true)=bs.all id:=by
 rw [Bool.eq_iff_iff,yM,yM]
 constructor
 .intro h b hb
  obtain⟨i,hi,e⟩:=yD.mp hb
  have q:=h i (xC.mpr hi)
  rw [zA hi,e] at q
  exact q
 .intro h i hi
  have hi':=xC.mp hi
  rw [zA hi']
  exact h _ (zQ hi')
theorem call_allB (hc:X.calm=true):qcp X (.builtin "all") (rAll X.K):=by
 intro pins s σ H xs us Q I hv h
 obtain⟨p,bs,rfl,hS,q⟩:=h
 obtain⟨u,rfl,ru⟩:=hv.one
 cases ru
 obtain⟨its,rv,pl,hz⟩:=I.list hS
 have hl:=pl.isList
 have hlt:p < s.heap.objs.size:=by obtain⟨_,e,_⟩:=hl;exact Heap.lt_size e
 have hlen:=rv.length
 rw [zB] at hlen
 refine call_all_walk (wpAny_pyIter_list hl ?_)
 refine⟨s.heap.objs.size, [s.heap.objs.size,p], [s.heap.objs.size],its.toArray.size,_,_,fun i=>(bs[i]?).getD true,rfl,Walks.list (A:=X.A.in1) (I.ok.hd hc) _ p (Nat.ne_of_lt hlt) its.toArray,⟨⟨_,Heap.get?_push_size _ rfl,rfl,rfl⟩,hl.push _⟩,fun i v s' Q' E' hP hQ=>?_,fun h' tk hk=>?_⟩
 .have hi:its[i]?=some v:=by simpa using hP
  have hb:i < bs.length:=by rw [hlen];exact(List.getElem?_eq_some_iff.mp hi).1
  have hx:(bs.map V.bl)[i]?=some (.bl bs[i]):=by rw [zD,zA hb];rfl
  obtain⟨u,e,r⟩:=rv.get hx
  rw [hi] at e
  cases e
  cases r
  dsimp only at hQ
  rw [zA hb] at hQ
  exact wpAny_truthy_bool hQ
 .have e:((List.range its.toArray.size).all fun i=>(bs[i]?).getD true)=bs.all id:=by
   rw [zO,<-hlen];exact all_range bs
  rw [e]
  exact⟨.bl _,H,I.kept (t':=tk) (fun b o eb=>hk b o (fun hm=>by have z:=Heap.lt_size eb;rw [zH.mp hm] at z;exact Nat.lt_irrefl _ z) (Heap.get?_push_of_some _ eb)),rfl,q⟩
def rInS:R2:=fun x y H Q=>∃i j,x=.str i/\y=.str j/\Q (.bl (!(Builtin.Str.occurrences j i 0 j.length 1).isEmpty)) H
theorem op_inS:OpR X (compareOp .In) rInS:=op_in_str
def rLenS:List V->Hp->VK->Prop:=fun xs H Q=>∃z,xs=[.str z]/\z.length<=sizeLine/\Q (.int z.length) H
theorem call_lenS:qcp X (.builtin "len") rLenS:=call_len_str
def rSlS:V->Option Int->Option Int->Hp->VK->Prop:=fun x lo hi H Q=>∃z,x=.str z/\z.length<=sizeLine/\Q (.str (Txt.slice z lo hi)) H
theorem sl_str:SlR X rSlS:=by
 intro pins s σ H x v vl vu lo hi sl Q I rx hs pl pu h
 obtain⟨z,rfl,hz,q⟩:=h
 obtain⟨t,rfl⟩:=rx
 refine⟨"str",_,PySem.F.slot_str_getitem.lookup,typeIs_str _ _ _,?_⟩
 have fin:∀t' k,EP X pins σ Q (.str (Txt.slice z lo hi) t') {s with toks:=k}:=fun t' k=>⟨.str (Txt.slice z lo hi),H,I.tok k,⟨t',rfl⟩,q⟩
 have hz':=Nat.le_trans (Txt.slice_le z lo hi) hz
 obtain⟨o,e,c,dd⟩:=hs
 cases pl with
 |none=>
  cases pu with
  |none=>exact wpAny_getItem_str_slice (l:=none) (u:=none) (st:=none) ⟨o,e,c,dd⟩ rfl (post_val_or_str ⟨hz',fin⟩)
  |int j uj=>exact wpAny_getItem_str_slice (l:=none) (u:=some (j,uj)) (st:=none) ⟨o,e,c,dd⟩ rfl (post_val_or_str ⟨hz',fin⟩)
 |int i ui=>
  cases pu with
  |none=>exact wpAny_getItem_str_slice (l:=some (i,ui)) (u:=none) (st:=none) ⟨o,e,c,dd⟩ rfl (post_val_or_str ⟨hz',fin⟩)
  |int j uj=>exact wpAny_getItem_str_slice (l:=some (i,ui)) (u:=some (j,uj)) (st:=none) ⟨o,e,c,dd⟩ rfl (post_val_or_str ⟨hz',fin⟩)
end
section
variable {K: Frag} {H: Hp} {Q: VK} {σ: L2.St}
theorem r_slS {z:Str} {lo hi:Option Int} (hn:z.length<=sizeLine) (h:Q (.str (Txt.slice z lo hi)) H):rSlS (.str z) lo hi H Q:=⟨z,rfl,hn,h⟩
theorem r_sl {r:V->Option Int->Option Int->Hp->VK->Prop} {te:TE} {tl th:TO} (h:te σ H fun x H1=>tl σ H1 fun l H2=>th σ H2 fun u H3=>r x l u H3 Q):tSl r te tl th σ H Q:=h
theorem r_noPart {Q:Option Int->Hp->Prop} (h:Q none H):tNoPart σ H Q:=h
theorem r_part {te:TE} {Q:Option Int->Hp->Prop} (h:te σ H fun x H1=>∃i,x=.int i/\Q (some i) H1):tPart te σ H Q:=h
theorem r_exi {i:Int} {Q:Int->Prop} (h:Q i):∃j,V.int i=.int j/\Q j:=⟨i,rfl,h⟩
theorem r_chain {r r':R2} {ta tb tc:TE} (h:ta σ H fun x H1=>tb σ H1 fun y H2=>r x y H2 fun z H3=>∃k,z=.bl k/\(if k=true then tc σ H3 fun w' H4=>r' y w' H4 Q else Q (.bl false) H3)):tChain r r' ta tb tc σ H Q:=h
theorem r_all {p:Addr} {bs:List Bool} (hS:SqL K H p (bs.map V.bl)) (h:Q (.bl (bs.all id)) H):rAll K [.ref p] H Q:=⟨p,bs,rfl,hS,h⟩
theorem r_inS {i j:Str} (h:Q (.bl (!(Builtin.Str.occurrences j i 0 j.length 1).isEmpty)) H):rInS (.str i) (.str j) H Q:=⟨i,j,rfl,rfl,h⟩
theorem r_lenS {z:Str} (hn:z.length<=sizeLine) (h:Q (.int z.length) H):rLenS [.str z] H Q:=⟨z,rfl,hn,h⟩
theorem r_ixS {z:Str} {i:Int} {c:Nat} (hn:z.length<=sizeLine) (e:atI z.cps.toList i=some c) (h:Q (.str ⟨#[c]⟩) H):rIxS (.str z) (.int i) H Q:=⟨z,i,c,rfl,rfl,hn,e,h⟩
theorem r_iS {tl:TE} {R:It->Hp->Prop} (h:tl σ H fun v H1=>rItS v H1 R):iStr tl σ H R:=h
theorem r_itS {x:Str} {R:It->Hp->Prop} (h:R (Its x) H):rItS (.str x) H R:=⟨x,rfl,h⟩
theorem r_comp {wi:TI} {caps:List Nat} {tt:CT TT} {te:CT TE} (h:wi σ H fun J H1=>∀(C:Addr) (s:Shared) (H0:Hp) (fp:List Addr) (acc:Addr),H1 acc=none->COMP J caps (tt C s H0 fp) (te C s H0 fp) acc σ (upd H1 acc (.lst [])) Q):tComp wi caps tt te σ H Q:=h
theorem r_true {Q:Bool->Hp->Prop} (h:Q true H):tTrue σ H Q:=h
theorem r_app {acc:Addr} {N:Hp->Prop} {y:V} {ys:List V} (ha:H acc=some (.lst ys)) (hz:ys.length < sizeLine) (h:N (upd H acc (.lst (ys++ [y])))):rApp acc N y H:=⟨ys,ha,hz,h⟩
theorem c_by {J:It} {caps:List Nat} {tt:TT} {te:TE} {acc:Addr} (n:Nat) (Pv:Nat->Hp->Prop) (h0:Pv 0 H) (hgo:∀i H,i < n->Pv i H->J.go i H) (hst:∀H,Pv n H->J.stop n H)
  (hs:∀i H v H',i < n->Pv i H->J.yld i H v H'->tt (some v :: qbc caps σ) H' fun b H2=>if b=true then te (some v :: qbc caps σ) H2 fun y H3=>rApp acc (Pv (i+1)) y H3 else Pv (i+1) H2)
  (hd:∀H,Pv n H->Q (.ref acc) H):COMP J caps tt te acc σ H Q:=by
 refine⟨fun i m H=>m=n - i/\i<=n/\Pv i H,⟨n,rfl,Nat.zero_le _,h0⟩,?_⟩
 rintro i m H ⟨rfl,hi,p⟩
 by_cases hlt:i < n
 .exact .inr ⟨hgo i H hlt p,Pv (i+1),fun H' p'=>⟨n - (i+1),by omega,rfl,hlt,p'⟩,fun v H' y=>hs i H v H' hlt p y⟩
 .have e:i=n:=by omega
  subst e
  exact .inl ⟨hst H p,hd H p⟩
end
section
def rRep:R2:=fun x y H Q=>∃z n,x=.str z/\y=.int n/\0<=n/\n<=1/\Q (.str (if n < 1 then Str.empty else z)) H
end
section
variable {prog: Program} {w: World} {A: Around} {E: Value -> Shared -> Prop} {h: Heap} {g: Array GenState} {d: Drawn} {t: Nat} {os: OsState}
variable {nm q: Str} {C N fI: Addr} {bs bm bmB: List Value} {hdct: Bool} {sn: List Str} {sub: List Value} {ab: Bool} {col: Option Bool} {dd: Option Addr} {k0 k1 k2 k3 k5: Option Value} {B Bn newId nid initId inN: String} {bmN: List Value}
def qd5 (h:Heap) (C:Addr) (rest:List Value):Heap:=(h.push {cls:=.type "tuple",data:=.seq rest.toArray}).push {cls:=.ref C,data:=.fields #[.ref h.objs.size,.none,.none,.none,.bool false,.none]}
theorem qfl (Fn:ExcBaseFacts Bn newId inN bmN) (hBn:bmB.contains (.type Bn)=true) (F:ExcBaseFacts B nid initId bmB) (T:OwnTail h bmB bm) {mN:Str->Option Value} {rest:List Value} {Q:Fin->Shared->Prop}
  (hC:h.get? C=some (excClassObj nm q C N bs bm hdct sn sub ab col dd k0 k1 k2 k3 k5 newId)) (hn:h.Ns N mN) (hni:mN "__init__" =some (.ref fI))
  (hb:PySem.W.Looks (model prog w) (qd5 h C rest) (bindSpecial (.ref fI) (.ref (h.objs.size+1))) (.ref fI, [.ref (h.objs.size+1)]))
  (hq:wpAny (model prog w) A (call (.ref fI) (.ref (h.objs.size+1) :: rest)) (fun v s'=>v=.none/\Q (.done (.ret (.ref (h.objs.size+1)))) s') E ⟨qd5 h C rest,g,d,t,os⟩) (hrest:rest.length<=sizeLine:=by size_fits):
  wpAny (model prog w) A (Builtin.«type.__call__» ⟨.ref C :: rest, []⟩) Q E ⟨h,g,d,t,os⟩:=by
 repeat (first|with_reducible refine wpAny_loadPart_at hC ?_|with_reducible refine wpAny_madeBy_exc hC ?_|wp_step)
 refine codeAny_call_builtin_code (Code.quiet_builtin _ Fn.quiet) (wpAny_check_new_subU Fn hBn T hC ?_)
 refine codeAny_exc_new_subU Fn hBn F T hC ?_ hrest
 show wpAny _ _ _ _ _ _
 have hC₁:=Heap.get?_push_of_some {cls:=.ref C,data:=.fields #[.ref h.objs.size,.none,.none,.none,.bool false,.none]}
  (Heap.get?_push_of_some {cls:=.type "tuple",data:=.seq rest.toArray} hC)
 have hn₁:((h.push {cls:=.type "tuple",data:=.seq rest.toArray}).push {cls:=.ref C,data:=.fields #[.ref h.objs.size,.none,.none,.none,.bool false,.none]}).Ns N mN:=
  let ⟨o,es,ep,e,r⟩:=hn;⟨o,es,ep,Heap.get?_push_of_some _ (Heap.get?_push_of_some _ e),r⟩
 have hget:((h.push {cls:=.type "tuple",data:=.seq rest.toArray}).push
   {cls:=.ref C,data:=.fields #[.ref h.objs.size,.none,.none,.none,.bool false,.none]}).get? (h.objs.size+1)=some
   {cls:=.ref C,data:=.fields #[.ref h.objs.size,.none,.none,.none,.bool false,.none]}:=by heap_get
 have hcC:(Value.ref C :: bm).contains (.ref C)=true:=by simp
 have T₁:=T.keeps (h':=(h.push {cls:=.type "tuple",data:=.seq rest.toArray}).push {cls:=.ref C,data:=.fields #[.ref h.objs.size,.none,.none,.none,.bool false,.none]})
  fun b o e=>Heap.get?_push_of_some _ (Heap.get?_push_of_some _ e)
 unfold isInstance
 repeat (first|with_reducible refine wpAny_loadPart_at hget ?_|(with_reducible refine wpAny_isSubtype_exc hC₁ ?_;rw [hcC]) |wp_step)
 show wpAny _ _ (typeLookup (.ref C) _) _ _ _
 refine wpAny_typeLookup_tail hC₁ hn₁ T₁ F.mroIs F.init.lookup ?_
 rw [hni]
 refine wpAny_holding (wpAny_bind (hb.at ?_))
 refine wpAny_bind (wpAny_mono hq (fun v s' ⟨ev,q⟩=>?_) fun _ _ x=>x)
 subst ev
 wp_walk
 exact q
theorem qgz (Fn:ExcBaseFacts Bn newId inN bmN) (hBn:bmB.contains (.type Bn)=true) (F:ExcBaseFacts B nid initId bmB) (T:OwnTail h bmB bm) {mN:Str->Option Value} {rest:List Value} {Q:Value->Shared->Prop}
  (hC:h.get? C=some (excClassObj nm q C N bs bm hdct sn sub ab col dd k0 k1 k2 k3 k5 newId)) (hn:h.Ns N mN) (hni:mN "__init__" =some (.ref fI))
  (hb:PySem.W.Looks (model prog w) (qd5 h C rest) (bindSpecial (.ref fI) (.ref (h.objs.size+1))) (.ref fI, [.ref (h.objs.size+1)]))
  (hq:wpAny (model prog w) (A.under (.builtin "type.__call__" ⟨.ref C :: rest, []⟩)) (call (.ref fI) (.ref (h.objs.size+1) :: rest)) (fun v s'=>v=.none/\Q (.ref (h.objs.size+1)) s') E ⟨qd5 h C rest,g,d,t,os⟩) (hrest:rest.length<=sizeLine:=by size_fits):
  wpAny (model prog w) A (call (.ref C) rest) Q E ⟨h,g,d,t,os⟩:=by
 have f1:=tc_lookup
 have f2:=tc_bind (.ref C)
 have hT:(⟨h,g,d,t,os⟩:Shared).TypeIs (.ref C) "type":=⟨_,hC,rfl⟩
 refine wpAny_call (codeAny_of_tree ?_)
 show wpAny _ _ (callAny (.ref C) _) _ _ _
 repeat (any_goals (first|assumption|with_reducible refine wpAny_loadPart_at hC ?_|wp_step))
 refine⟨rfl,?_⟩
 refine codeAny_call_builtin_at (Code.quiet_builtin _ (by decide+kernel)) entry_typeCall (wpAny_check_type_call_sub hC (qfl (hrest:=hrest) Fn hBn F T hC hn hni hb ?_))
 exact hq
theorem qfz {env:Env} {M:Model} {s:Shared} {x:Sem Value} {Q:Flow->Shared->Prop} (hbase:bm.contains (.type "BaseException")=true) (hh:A.handled=none)
  (h:wpAny M A x (fun v s₁=>∃e oe,v=.ref e/\s₁.heap.get? C=some (excClassObj nm q C N bs bm hdct sn sub ab col dd k0 k1 k2 k3 k5 newId)/\
   s₁.heap.get? e=some oe/\oe.cls=.ref C/\(∃vs,oe.data=.fields vs/\vs[1]?=some .none)/\E (.ref e) s₁) E s):
  wpAny M A (raiseStmt env (some x) none) Q E s:=by
 have hcB:(Value.ref C :: bm).contains (.type "BaseException")=true:=by rw [List.contains_cons,hbase,Bool.or_true]
 unfold raiseStmt
 refine wpAny_bind (wpAny_mono h (fun v s₁ h₁=>?_) fun _ _ x=>x)
 obtain⟨e,oe,rfl,hC,he,hcls,⟨vs,hd,h1⟩,hE⟩:=h₁
 obtain⟨hp,g,d,tk,os⟩:=s₁
 obtain⟨oc,odd,oda,osl⟩:=oe
 obtain rfl:oc=.ref C:=hcls
 obtain rfl:oda=.fields vs:=hd
 repeat (first|with_reducible refine wpAny_loadPart_at he ?_|with_reducible refine wpAny_loadPart_at hC ?_|(with_reducible refine wpAny_isSubtype_exc hC ?_;rw [hcB]) |wp_step)
 rw [h1]
 refine wpAny_pure ?_
 rw [if_neg (by decide)]
 exact wpAny_pure (wpAny_raiseNew_none hh hE)
theorem qfi {env:Env} {s:Shared} (Fn:ExcBaseFacts Bn newId inN bmN) (hBn:bmB.contains (.type Bn)=true) (F:ExcBaseFacts B nid initId bmB) {mN:Str->Option Value} {x:Str} {np cpos pos:Pos} {args:List Expr} {Q:Flow->Shared->Prop}
  (hbase:bm.contains (.type "BaseException")=true) (hh:A.handled=none) (hplain:(backTo cpos (starEach args env)).any (·.1)=false) (hni:mN "__init__" =some (.ref fI))
  (h:wpAny (model prog w) A (eval (.Name x np) env) (fun f s₁=>f=.ref C/\wpAny (model prog w) A (evalArgs (.ref C) true (backTo cpos (starEach args env)) [])
   (fun a s₂=>a.kw=[]/\a.pos.length<=sizeLine/\s₂.heap.get? C=some (excClassObj nm q C N bs bm hdct sn sub ab col dd k0 k1 k2 k3 k5 newId)/\s₂.heap.Ns N mN/\OwnTail s₂.heap bmB bm/\
    PySem.W.Looks (model prog w) (qd5 s₂.heap C a.pos) (bindSpecial (.ref fI) (.ref (s₂.heap.objs.size+1))) (.ref fI, [.ref (s₂.heap.objs.size+1)])/\
    wpAny (model prog w) (A.under (.builtin "type.__call__" ⟨.ref C :: a.pos, []⟩)) (call (.ref fI) (.ref (s₂.heap.objs.size+1) :: a.pos))
     (fun v s'=>v=.none/\s'.heap.get? C=some (excClassObj nm q C N bs bm hdct sn sub ab col dd k0 k1 k2 k3 k5 newId)/\(∃oe,s'.heap.get? (s₂.heap.objs.size+1)=some oe/\oe.cls=.ref C/\∃vs,oe.data=.fields vs/\vs[1]?=some .none)/\E (.ref (s₂.heap.objs.size+1)) s') E {s₂ with heap:=qd5 s₂.heap C a.pos}) E s₁) E s):
  wpAny (model prog w) A (exec (.Raise (some (.Call (.Name x np) args [] cpos)) none pos) env) Q E s:=by
 rw [arm_exec_Raise]
 first
  |refine wpAny_bind (wpAny_standAt (qfz (C:=C) (nm:=nm) (q:=q) (N:=N) (bs:=bs) (bm:=bm) (hdct:=hdct) (sn:=sn) (sub:=sub) (ab:=ab) (col:=col) (dd:=dd) (k0:=k0) (k1:=k1) (k2:=k2) (k3:=k3) (k5:=k5) (newId:=newId) hbase hh (wpAny_bind (wpAny_mono (wpAny_Call_ofName (wpAny_mono h (fun f s₁ h₁=>?_) fun _ _ x=>x)) (fun v s₃ h₃=>wpAny_bind (wpAny_standAt (wpAny_pure h₃))) fun _ _ x=>x))))
  |(simp only [evalOpt,Option.map];refine wpAny_bind (wpAny_standAt (qfz (C:=C) (nm:=nm) (q:=q) (N:=N) (bs:=bs) (bm:=bm) (hdct:=hdct) (sn:=sn) (sub:=sub) (ab:=ab) (col:=col) (dd:=dd) (k0:=k0) (k1:=k1) (k2:=k2) (k3:=k3) (k5:=k5) (newId:=newId) hbase hh (wpAny_bind (wpAny_mono (wpAny_Call_ofName (wpAny_mono h (fun f s₁ h₁=>?_) fun _ _ x=>x)) (fun v s₃ h₃=>wpAny_bind (wpAny_standAt (wpAny_pure h₃))) fun _ _ x=>x)))))
 obtain⟨rfl,h₁⟩:=h₁
 unfold callWith
 refine wpAny_bind (wpAny_holding (wpAny_mono h₁ (fun a s₂ h₂=>wpAny_bind (wpAny_standAt ?_)) fun _ _ x=>x))
 obtain⟨apos,akw⟩:=a
 obtain⟨hkw,hlen,hC,hn,T,hb,h₂⟩:=h₂
 obtain rfl:akw=[]:=hkw
 obtain⟨hp,g,d,tk,os⟩:=s₂
 simp only [hplain]
 refine wpAny_bind (wpAny_keeperOf_exc hC ?_)
 refine wpAny_bind (qgz (hrest:=hlen) Fn hBn F T hC hn hni hb (wpAny_mono h₂ (fun v s' ⟨e1,e2,⟨oe,e3,e4,e6⟩,e5⟩=>⟨e1,wpAny_bind (wpAny_holding (wpAny_point (wpAny_pure ?_)))⟩) fun _ _ x=>x))
 exact⟨_,oe,rfl,e2,e3,e4,e6,e5⟩
end
def onlyVE:List Value->Bool
 | .ref _ :: r=>onlyVE r
 | [.type a,.type b,.type c,.type e]=>a== "ValueError" && b== "Exception" && c== "BaseException" && e== "object"
 |_=>false
def overVE (K:Frag) (C:Addr):Bool:=(PySem.W.clsIn K C).any fun cd=>onlyVE cd.mro
section
variable {K: Frag} {C: Addr}
open PySem.W in
open PySem.W in
open PySem.W in
open PySem.W in
structure XAt (K:Frag) (C:Addr):Prop where
 ga:findIn K (.ref C) "__getattribute__" =some (some (.builtin "BaseException.__getattribute__"))
 gn:findIn K (.ref C) "__getattr__" =some none
 mb:mroIn K C (.type "BaseException")=some true
 mo:mroIn K C (.type "object")=some true
 hd:hasDictIn K C=true
 cl:findIn K (.ref C) "__class__" =some (some (.builtin "object.__class__"))
 sp:specialIn K (.builtin "object.__class__") "__get__" =some (some (.builtin "getset_descriptor.__get__"))
 tk:PySem.W.takesIn K (.builtin "object.__class__")=some true
 sa:findIn K (.ref C) "__setattr__" =some (some (.builtin "object.__setattr__"))
 po:overVE K C=true
open PySem.W in
open PySem.W in
end
def XS (a C:Addr) (d:Option Addr):HO:=.ext fun h=>∃(oe:Obj) (vs:Array Value),h.get? a=some oe/\oe.cls=.ref C/\oe.dict=d/\oe.data=.fields vs/\vs[1]?=some .none/\(∃t0:Addr,vs[0]?=some (.ref t0))/\∀dx,d=some dx->dx≠a
section
variable {H: Hp} {a C dx: Addr}
theorem xs_ok {P:Program} {w:World} {H:Hp} {h:Heap} {d:Option Addr} (x:∃(oe:Obj) (vs:Array Value),h.get? a=some oe/\oe.cls=.ref C/\oe.dict=d/\oe.data=.fields vs/\vs[1]?=some .none/\(∃t0:Addr,vs[0]?=some (.ref t0))/\∀dx,d=some dx->dx≠a):qbp P w H h a (XS a C d):=by
 obtain⟨oe,vs,h1,h2⟩:=id x
 exact⟨x,⟨oe,h1⟩,fun h1 h2 ⟨oe,vs,z,zz⟩ k=>⟨oe,vs,k _ z,zz⟩⟩
theorem xs_get {P:Program} {w:World} {h:Heap} {d:Option Addr} (x:HOk P w H h) (e:H a=some (XS a C d)):∃(oe:Obj) (vs:Array Value),h.get? a=some oe/\oe.cls=.ref C/\oe.dict=d/\oe.data=.fields vs/\vs[1]?=some .none/\(∃t0:Addr,vs[0]?=some (.ref t0))/\∀dx,d=some dx->dx≠a:=
 (show qbp P w H h a (XS a C d) from x a _ e).1
end
def del (H:Hp) (a:Addr):Hp:=fun b=>if b=a then none else H b
theorem qdh {H:Hp} {a:Addr}:del H a a=none:=by unfold del;rw [if_pos rfl]
theorem qdo {H:Hp} {a b:Addr} (h:b≠a):del H a b=H b:=by unfold del;rw [if_neg h]
section
variable {X: Cx} {pins: List (Addr × Obj)} {σ: L2.St} {H: Hp} {s: Shared} {a: Addr} {φ: Heap -> Prop}
theorem Inv.del (I:Inv X pins σ H s) (e:H a=some (.ext φ)):Inv X pins σ (My.del H a) s:=by
 have ne:∀b o,H b=some o->(∀φ,o≠ .ext φ)->b≠a:=fun b o q d z=>by rw [z,e] at q;cases q;exact d _ rfl
 refine⟨I.ok,I.os,I.bare,⟨I.base.keep,I.base.slot,fun b o q n hx=>?_,I.base.there,fun b xs q=>?_,fun b o u q=>?_,fun b ps q=>?_⟩,I.loc,I.cell,?_,fun x c q=>?_,fun p hp=>?_,fun b o q=>?_,I.len⟩
 .have z:=I.base.free b o q n hx
  by_cases hb:b=a
  .rw [hb];exact qdh
  .rw [qdo hb];exact z
 .have z:=I.base.tups b xs q
  rw [qdo (ne _ _ z (by intro φ y;cases y))];exact z
 .have z:=I.base.frzs b o u q
  rw [qdo (ne _ _ z (by intro φ y;cases y))];exact z
 .obtain⟨more,z⟩:=I.base.tbls b ps q
  exact⟨more,by rw [qdo (ne _ _ z (by intro φ y;cases y))];exact z⟩
 .by_cases hb:X.env.locals=a
  .rw [hb];exact qdh
  .rw [qdo hb];exact I.free
 .by_cases hb:c=a
  .rw [hb];exact qdh
  .rw [qdo hb];exact I.freeC x c q
 .obtain⟨z,n,l⟩:=I.pin p hp
  refine⟨z,?_,l⟩
  by_cases hb:p.1=a
  .rw [hb];exact qdh
  .rw [qdo hb];exact n
 .have hb:b≠a:=fun z=>by rw [z,qdh] at q;cases q
  rw [qdo hb] at q
  exact(I.hok b o q).stay (fun _ _ _ q=>q) (fun c q=>by rw [qdo (ne _ _ q (by intro φ y;cases y))];exact q) fun c xs q=>by rw [qdo (ne _ _ q (by intro φ y;cases y))];exact q
end
structure XClI (K:Frag) (C f:Addr):Prop where
 ob:∃(nm q:Str) (N:Addr) (bs bm:List Value) (hdct:Bool) (sn:List Str) (sub:List Value) (ab:Bool) (col:Option Bool) (dd:Option Addr) (k0 k1 k2 k3 k5:Option Value) (mN:Str->Option Value),
  K.lookup C=some (excClassObj nm q C N bs bm hdct sn sub ab col dd k0 k1 k2 k3 k5 "ValueError.__new__")/\(∀h:Heap,K.In h->h.Ns N mN)/\mN "__init__" =some (.ref f)/\
  ∀h:Heap,K.In h->OwnTail h [.type "ValueError",.type "Exception",.type "BaseException",.type "object"] bm
 fn:isFn K (.ref f)=true
section
variable {X: Cx} {k: Nat} {f: Addr} {fd: FuncData} {ps: List Str} {sp: Sp} {x: Str} {C: Addr} {W: L2.St -> XK} {np cpos pos: Pos} {e: Expr} {es: List Expr} {t: TA}
def tRaiseI (t:TA) (C:Addr) (sp:Sp) (W:L2.St->XK):TS:=fun _ σ H=>t σ H fun xs H1=>xs.length<=sizeLine/\∀a,H1 a=none->sp (.ref a :: xs) (upd H1 a (XS a C none)) (fun v H2=>v=.non/\∃d,H2 a=some (XS a C d)/\W σ (.ref C) d (My.del H2 a)) E0
theorem ps_raiseI (hc:X.calm=true) (M:XClI X.K C f) (F:FnOk X.prog X.w X.K X.mg X.base CX0 k f fd ps sp) (hr:Room (k+1) X.A) (hb:qah X.K fd ps []) (hg:Gl X x) (hm:X.mg x=some (.ref C)) (hx:Xes X W) (ha:PA X (e :: es) t) (hex:X.ex=[]:=by rfl) (hdb:(x==("__debug__" :Str))=false:=by decide)
  (he:starEach (e :: es) X.env=(false,eval e X.env) :: starEach es X.env:=by rfl) (hpl:(backTo cpos (starEach es X.env)).any (·.1)=false:=by rfl):
  PS X (.Raise (some (.Call (.Name x np) (e :: es) [] cpos)) none pos) (tRaiseI t C sp W):=by
 intro pins s σ H D I h
 obtain⟨nm,q,N,bs,bm,hdct,sn,sub,ab,col,dd,k0,k1,k2,k3,k5,mN,hC,hN,hni,T⟩:=M.ob
 refine qfi (C:=C) (fI:=f) (nm:=nm) (q:=q) (N:=N) (bs:=bs) (bm:=bm) (hdct:=hdct) (sn:=sn) (sub:=sub) (ab:=ab) (col:=col) (dd:=dd) (k0:=k0) (k1:=k1) (k2:=k2) (k3:=k3) (k5:=k5)
  PySem.F.excBase_ValueError (by decide) PySem.F.excBase_ValueError (mN:=mN) ((T _ I.kIn).hasType PySem.F.excBase_ValueError.hasBase) (I.ok.hd hc) ?_ hni ?_
 .rw [he];show (false ||(backTo cpos (starEach es X.env)).any (·.1))=false;rw [hpl];rfl
 .refine qdt I hg hm ⟨rfl,?_⟩ hdb
  have z:=ha cpos pins s σ H _ I h
  rw [he] at z ⊢
  refine Calls.evalArgs_plain (wpAny_mono z (fun us s2 ⟨vs,H2,I2,r,hl,q⟩=>?_) fun _ _ y=>y)
  have ea:(qd5 s2.heap C us).get? (s2.heap.objs.size+1)=some {cls:=.ref C,data:=.fields #[.ref s2.heap.objs.size,.none,.none,.none,.bool false,.none]}:=by
   have:=Heap.get?_push_size (s2.heap.push {cls:=.type "tuple",data:=.seq us.toArray}) (o:={cls:=.ref C,data:=.fields #[.ref s2.heap.objs.size,.none,.none,.none,.bool false,.none]}) rfl
   rwa [Heap.size_push] at this
  have hn:H2 (s2.heap.objs.size+1)=none:=I2.hok.fresh (Nat.le_succ _)
  have I3:Inv X pins σ (upd H2 (s2.heap.objs.size+1) (XS (s2.heap.objs.size+1) C none)) {s2 with heap:=qd5 s2.heap C us}:=
   I2.laid (t':=s2.toks) (fun b o y=>Heap.get?_push_of_some _ (Heap.get?_push_of_some _ y)) (Nat.le_succ _) (xs_ok ⟨_,_,ea,rfl,rfl,rfl,rfl,⟨_,rfl⟩,fun dx y=>by cases y⟩)
  have q:=q _ hn
  refine⟨rfl,by rw [<-r.length];exact hl,I2.kIn _ _ hC,hN _ I2.kIn,T _ I2.kIn,PySem.W.bind_fn I3.kIn _ (beq_iff_eq.mp M.fn),?_⟩
  have r2:qb7 (V.ref (s2.heap.objs.size+1) :: vs) (Value.ref (s2.heap.objs.size+1) :: us):=.cons rfl r
  have hln:(Value.ref (s2.heap.objs.size+1) :: us++ []).length=ps.length:=by rw [yA,<-r2.length];exact F.len _ _ _ _ q
  have hb':=hb {s2 with heap:=qd5 s2.heap C us} (Value.ref (s2.heap.objs.size+1) :: us) I3.kIn hln
  rw [yA] at hb'
  refine wpAny_call (codeAny_mono (F.run _ X.stack _ _ ⟨Value.ref (s2.heap.objs.size+1) :: us, []⟩ (Value.ref (s2.heap.objs.size+1) :: us) _ _ E0 (hr.make C us []) (I3.env0.make C us []) hb' r2 q) fun r s' hq'=>?_)
  cases r with
  |error e=>exact False.elim hq'
  |ok fl=>
   cases fl with
   |ret u=>
    obtain⟨v,H',I4,rv,ev,d,e4,q4⟩:=I3.after hq'
    subst ev
    obtain⟨oe,ws,g1,g2,g3,g4,g5,g6,g7⟩:=xs_get I4.hok e4
    refine⟨rv,I4.kIn _ _ hC,⟨oe,g1,g2,ws,g4,g5⟩,?_⟩
    have new:s2.heap.get? (s2.heap.objs.size+1)=none:=Heap.get?_none_of_le (Nat.le_succ _)
    refine hx pins σ _ _ _ (.ref C) d (Inv.del I4 e4) ⟨⟨new_of I2 hex new,qdh,fun p hp y=>?_,⟨_,_,g1,g4⟩⟩,.inl ⟨_,_,g1,g2,g3,g4,g5⟩⟩ q4
    have w:=(I2.pin p hp).1
    rw [y,new] at w
    cases w
   |next=>exact False.elim hq'
   |brk=>exact False.elim hq'
   |cont=>exact False.elim hq'
end
section
variable {X: Cx}
inductive PJ (X:Cx):List Expr->List TE->Prop
 |nil:PJ X [] []
 |cons {e:Expr} {es:List Expr} {t:TE} {ts:List TE} (h:PE X e t) (r:PJ X es ts):PJ X (e :: es) (t :: ts)
end
structure XBase (K:Frag) (T:Addr):Prop where
 ga:specialIn K (.ref T) "__getattribute__" =some (some (.builtin "type.__getattribute__"))
 rd:PySem.W.readsIn K T (.type "type")=true
 at_:PySem.W.findCls K (.ref T) (.type "type") "__init__" =some (.val (.builtin "ValueError.__init__"))
open PySem.MeetsSeq PySem.MeetsSeq2 PySem.MeetsSeq3 PySem.SeqRoads2
def EqW (P:Program) (w:World) (A:Around) (s:Shared) (y x:Value) (b:Bool):Prop:=∀(E:Value->Shared->Prop) (Q:Bool->Shared->Prop),Q b s->wpAny (model P w) A (eqBool y x) Q E s
def opN:Bool->CmpOp
 |false=> .Eq
 |true=> .NotEq
def RcW (P:Program) (w:World) (A:Around) (s:Shared) (ne:Bool) (y x:Value) (b:Bool):Prop:=∀(E:Value->Shared->Prop) (Q:Value->Shared->Prop),Q (.bool b) s->wpAny (model P w) A (richCompare (opN ne) y x) Q E s
def codeN:Bool->Int
 |false=>2
 |true=>3
abbrev lo (dd:Option Addr) (xs:Array Value) (n:Nat) (sl:Array (Option Value)):Obj:={cls:=.type "list",dict:=dd,data:=.seq xs n,slots:=sl}
abbrev tob (dd:Option Addr) (xs:Array Value) (n:Nat) (sl:Array (Option Value)):Obj:={cls:=.type "tuple",dict:=dd,data:=.seq xs n,slots:=sl}
section
variable {P: Program} {w: World} {A: Around} {s: Shared} {l b: Addr} {k: Bool}
theorem EqW.of {y x:Value} (h:SeqAt.EqAt A s y x k):EqW P w A s y x k:=fun E Q q=>h P w E Q q
theorem EqW.refs (hn:l≠b) (h:RcW P w A s false (.ref l) (.ref b) k):EqW P w A s (.ref l) (.ref b) k:=fun E Q q=>by
 unfold eqBool
 refine wpAny_holding (wpAny_ite_split (fun z=>?_) fun _=>wpAny_bind (h E _ (wpAny_truthy_bool q)))
 have z':=eq_of_beq z
 injection z' with z'
 exact absurd z' hn
abbrev Fin1 (P:Program) (w:World) (A:Around) (R:Result->Shared->Prop):PySem.Fin->Shared->Prop:=fun f s'=>match f with| .done r=>R (.ok r) s'| .again c=>c.quiet=true/\codeAny (model P w) A c R s'
theorem loopW (ne:Bool) {xs ys:Array Value} {n m:Nat} {d1 d2:Option Addr} {s1 s2:Array (Option Value)} (hz:xs.size=ys.size) (f:Nat->Bool) (r:Nat):∀(i:Nat),xs.size - i=r->∀(A:Around) (R:Result->Shared->Prop) (s:Shared),s.heap.get? l=some (lo d1 xs n s1)->s.heap.get? b=some (lo d2 ys m s2)->
  (∀j (h1:j < xs.size) (h2:j < ys.size),EqW P w A.in1 s xs[j] ys[j] (f j))->R (.ok (.ret (.bool (ne !=((List.range xs.size).drop i).all f)))) s->
  wpAny (model P w) A.in1 (Builtin.«list.__eq__.loop» ⟨[.ref l,.ref b,rawInt i,rawInt (codeN ne)], []⟩) (Fin1 P w A R) (fun e s'=>R (.error e) s') s:=by
 induction r with
 |zero=>
  intro i hr A R s hl hb he q
  obtain⟨hp,g,d,tk,os⟩:=s
  have t1:xs[((i:Nat):Int).toNat]?=none:=by simp;omega
  have t2:ys[((i:Nat):Int).toNat]?=none:=by simp;omega
  have t3:(List.range xs.size).drop i=[]:=by simp;omega
  rw [t3] at q
  cases ne with
  |false=>
   wp_walk using AutoSeq1.wpAny_loadPart' hl,AutoSeq1.wpAny_loadPart' hb
   rw [t1,t2]
   wp_walk using AutoSeq1.wpAny_loadPart' hl,AutoSeq1.wpAny_loadPart' hb
   show R (.ok (.ret (.bool (xs.size==ys.size)))) _
   rw [hz]
   simpa using q
  |true=>
   wp_walk using AutoSeq1.wpAny_loadPart' hl,AutoSeq1.wpAny_loadPart' hb
   rw [t1,t2]
   wp_walk using AutoSeq1.wpAny_loadPart' hl,AutoSeq1.wpAny_loadPart' hb
   show R (.ok (.ret (.bool (xs.size !=ys.size)))) _
   rw [hz]
   simpa using q
 |succ r ih=>
  intro i hr A R s hl hb he q
  obtain⟨hp,g,d,tk,os⟩:=s
  have j1:i < xs.size:=by omega
  have j2:i < ys.size:=by omega
  have t1:xs[((i:Nat):Int).toNat]?=some xs[i]:=by simp [j1]
  have t2:ys[((i:Nat):Int).toNat]?=some ys[i]:=by simp [j2]
  have t3:(List.range xs.size).drop i=i ::(List.range xs.size).drop (i+1):=by simp [yH,j1]
  have t4:((i:Int)+1)=((i+1:Nat):Int):=by push_cast;rfl
  rw [t3,xE] at q
  cases ne with
  |false=>
   wp_walk using AutoSeq1.wpAny_loadPart' hl,AutoSeq1.wpAny_loadPart' hb
   rw [t1,t2]
   refine wpAny_bind (he i j1 j2 _ _ ?_)
   cases hf:f i with
   |true=>
    rw [hf] at q
    wp_walk
    rw [t4]
    refine⟨plainId_quiet plain_eq_loop _,codeAny_builtin entry_eq_loop ?_⟩
    rw [Around.under_plainId plain_eq_loop _]
    exact ih (i+1) (by omega) A R _ hl hb he (by simpa using q)
   |false=>
    rw [hf] at q
    wp_walk using AutoSeq1.wpAny_loadPart' hl,AutoSeq1.wpAny_loadPart' hb
    rw [t1,t2]
    wp_walk
    simpa using q
  |true=>
   wp_walk using AutoSeq1.wpAny_loadPart' hl,AutoSeq1.wpAny_loadPart' hb
   rw [t1,t2]
   refine wpAny_bind (he i j1 j2 _ _ ?_)
   cases hf:f i with
   |true=>
    rw [hf] at q
    wp_walk
    rw [t4]
    refine⟨plainId_quiet plain_eq_loop _,codeAny_builtin entry_eq_loop ?_⟩
    rw [Around.under_plainId plain_eq_loop _]
    exact ih (i+1) (by omega) A R _ hl hb he (by simpa using q)
   |false=>
    rw [hf] at q
    wp_walk using AutoSeq1.wpAny_loadPart' hl,AutoSeq1.wpAny_loadPart' hb
    rw [t1,t2]
    wp_walk
    simpa using q
theorem listW (ne:Bool) {xs ys:Array Value} {n m:Nat} {d1 d2:Option Addr} {s1 s2:Array (Option Value)} (hz:xs.size=ys.size) (f:Nat->Bool) {R:Result->Shared->Prop} (hl:s.heap.get? l=some (lo d1 xs n s1)) (hb:s.heap.get? b=some (lo d2 ys m s2))
  (he:∀j (h1:j < xs.size) (h2:j < ys.size),EqW P w A.in1 s xs[j] ys[j] (f j)) (q:R (.ok (.ret (.bool (ne !=(List.range xs.size).all f)))) s):
  wpAny (model P w) A.in1 ((if ne=true then Builtin.«list.__ne__» else Builtin.«list.__eq__») ⟨[.ref l,.ref b], []⟩) (Fin1 P w A R) (fun e s'=>R (.error e) s') s:=by
 obtain⟨hp,g,d,tk,os⟩:=s
 have f3:=AutoSeq1.sub_list_list
 have z0:¬(xs.size !=ys.size)=true:=by simp [hz]
 cases ne with
 |false=>
  show wpAny _ _ (Builtin.«list.__eq__» _) _ _ _
  wp_walk using AutoSeq1.wpAny_loadPart' hl,AutoSeq1.wpAny_loadPart' hb
  refine⟨plainId_quiet plain_eq_loop _,codeAny_builtin entry_eq_loop ?_⟩
  rw [Around.under_plainId plain_eq_loop _]
  exact loopW false hz f _ 0 rfl A R _ hl hb he (by simpa using q)
 |true=>
  show wpAny _ _ (Builtin.«list.__ne__» _) _ _ _
  wp_walk using AutoSeq1.wpAny_loadPart' hl,AutoSeq1.wpAny_loadPart' hb
  refine⟨plainId_quiet plain_eq_loop _,codeAny_builtin entry_eq_loop ?_⟩
  rw [Around.under_plainId plain_eq_loop _]
  exact loopW true hz f _ 0 rfl A R _ hl hb he (by simpa using q)
theorem callW {T id:String} {name:Str} {B:Builtin} {self:Value} {rest:List Value} {E Q:Value->Shared->Prop} (slot:Slot T name id) (hT:s.TypeIs self T) (entry:entryFor table id=some B) (args:argsOk id ⟨self :: rest, []⟩)
  (h:wpAny (model P w) A.in1 (B ⟨self :: rest, []⟩) (Fin1 P w A (wants Q E)) (fun e s'=>wants Q E (.error e) s') s):wpAny (model P w) A (call (.builtin id) (self :: rest)) Q E s:=
 wpAny_call (codeAny_call_builtin slot.plain entry (slot.check _ _ _ _ _ _ _ _ hT args h))
theorem RcW.lists (ne:Bool) {xs ys:Array Value} {f:Nat->Bool} (hl:s.heap.IsList l xs) (hb:s.heap.IsList b ys) (hz:xs.size=ys.size) (hu:A.units < cLine) (he:∀j (h1:j < xs.size) (h2:j < ys.size),EqW P w A.in1 s xs[j] ys[j] (f j)):
  RcW P w A s ne (.ref l) (.ref b) (ne !=(List.range xs.size).all f):=fun E Q q=>by
 obtain⟨⟨c1,d1,e1,s1⟩,ho,hc,n,hd⟩:=id hl
 obtain⟨⟨c2,d2,e2,s2⟩,ho2,hc2,m,hd2⟩:=id hb
 simp only at hc hd hc2 hd2
 subst hc hd hc2 hd2
 have q':Value.bool (ne !=(List.range xs.size).all f)≠Value.notImplemented/\Q (.bool (ne !=(List.range xs.size).all f)) s:=⟨(fun x=>nomatch x),q⟩
 cases ne with
 |false=>exact wpAny_richCompare_same_room (op:=.Eq) ⟨_,ho,rfl⟩ ⟨_,ho2,rfl⟩ F.slot_list_eq (callW F.slot_list_eq ⟨_,ho,rfl⟩ F.entry_list_eq (F.args_list_eq_2 _ _) (listW (R:=wants (fun v s'=>v≠ .notImplemented/\Q v s') E) false hz f ho ho2 he q')) hu
 |true=>exact wpAny_richCompare_same_room (op:=.NotEq) ⟨_,ho,rfl⟩ ⟨_,ho2,rfl⟩ F.slot_list_ne (callW F.slot_list_ne ⟨_,ho,rfl⟩ F.entry_list_ne (F.args_list_ne_2 _ _) (listW (R:=wants (fun v s'=>v≠ .notImplemented/\Q v s') E) true hz f ho ho2 he q')) hu
theorem RcW.listsN (ne:Bool) {xs ys:Array Value} (hl:s.heap.IsList l xs) (hb:s.heap.IsList b ys) (hz:(xs.size !=ys.size)=true) (hu:A.units < cLine):RcW P w A s ne (.ref l) (.ref b) (ne !=false):=fun E Q q=>by
 cases ne with
 |false=>exact SeqAt.RcAt.lists_lengths hl hb hz hu P w E Q q
 |true=>exact SeqAt.RcNeAt.lists_lengths hl hb hz hu P w E Q q
theorem tupW (ne:Bool) {xs ys:Array Value} {n m:Nat} {d1 d2:Option Addr} {s1 s2:Array (Option Value)} (f:Nat->Bool) {E Q:Value->Shared->Prop} (hl:s.heap.get? l=some (tob d1 xs n s1)) (hb:s.heap.get? b=some (tob d2 ys m s2))
  (he:∀j (h1:j < xs.size) (h2:j < ys.size),EqW P w A.in1 s xs[j] ys[j] (f j)) (q:Q (.bool (ne !=((List.range (min xs.size ys.size)).all f && xs.size==ys.size))) s):
  wpAny (model P w) A.in1 ((if ne=true then Builtin.«tuple.__ne__» else Builtin.«tuple.__eq__») ⟨[.ref l,.ref b], []⟩) (fun fin s'=>∃v,fin=.done (.ret v)/\Q v s') E s:=by
 obtain⟨hp,g,d,tk,os⟩:=s
 have f2:=AutoSeq1.sub_tuple_tuple
 have hZ:(xs.toList.zip ys.toList).length=min xs.size ys.size:=by simp
 have turn:∀(x y:Value) (rest:List (Value × Value)) (i:Nat),(x,y) :: rest=(xs.toList.zip ys.toList).drop i->∃(h1:i < xs.size) (h2:i < ys.size),x=xs[i]/\y=ys[i]/\rest=(xs.toList.zip ys.toList).drop (i+1)/\(List.range (min xs.size ys.size)).drop i=i ::(List.range (min xs.size ys.size)).drop (i+1):=fun x y rest i hz=>by
  have hlt:i <(xs.toList.zip ys.toList).length:=by
   rcases Nat.lt_or_ge i (xs.toList.zip ys.toList).length with z|z
   .exact z
   .rw [List.drop_of_length_le z] at hz;cases hz
  have hm:i < min xs.size ys.size:=hZ ▸ hlt
  have h1:i < xs.size:=Nat.lt_of_lt_of_le hm (Nat.min_le_left _ _)
  have h2:i < ys.size:=Nat.lt_of_lt_of_le hm (Nat.min_le_right _ _)
  rw [yH hlt] at hz
  injection hz with hxy hrest
  exact⟨h1,h2,by have:=congrArg Prod.fst hxy;simpa using this,by have:=congrArg Prod.snd hxy;simpa using this,hrest,by simp [yH,hm]⟩
 have last:∀i:Nat, []=(xs.toList.zip ys.toList).drop i->(List.range (min xs.size ys.size)).drop i=[]:=fun i hz=>by
  have hge:min xs.size ys.size<=i:=by
   rcases Nat.lt_or_ge i (xs.toList.zip ys.toList).length with z|z
   .rw [yH z] at hz;cases hz
   .exact hZ ▸ z
  exact List.drop_of_length_le (by simpa using hge)
 cases ne with
 |false=>
  show wpAny _ _ (Builtin.«tuple.__eq__» _) _ _ _
  wp_walk using AutoSeq1.wpAny_loadPart' hl,AutoSeq1.wpAny_loadPart' hb,wpAny_forIn_list _ (fun rest c s'=>c.1=none/\s'=⟨hp,g,d,tk,os⟩/\∃i,rest=(xs.toList.zip ys.toList).drop i/\Q (.bool (((List.range (min xs.size ys.size)).drop i).all f && xs.size==ys.size)) ⟨hp,g,d,tk,os⟩) _
  case turn=>
   rintro⟨x,y⟩ rest c s' ⟨hc,rfl,i,hz,hR⟩
   obtain⟨h1,h2,rfl,rfl,hrest,hd⟩:=turn x y rest i hz
   rw [hd,xE] at hR
   refine wpAny_bind (he i h1 h2 _ _ ?_)
   cases hf:f i with
   |true=>
    rw [hf] at hR
    wp_walk
    exact⟨rfl,rfl,i+1,hrest,by simpa using hR⟩
   |false=>
    rw [hf] at hR
    wp_walk
    exact⟨_,rfl,by simpa using hR⟩
  case fin=>
   rintro⟨c1,c2⟩ s' ⟨hc,rfl,i,hz,hR⟩
   simp only at hc
   subst hc
   rw [last i hz] at hR
   wp_walk
   exact⟨_,rfl,by simpa [Builtin.Tuple.tupleCompareSizes] using hR⟩
  case h=>exact⟨rfl,rfl,0,rfl,by simpa using q⟩
 |true=>
  show wpAny _ _ (Builtin.«tuple.__ne__» _) _ _ _
  wp_walk using AutoSeq1.wpAny_loadPart' hl,AutoSeq1.wpAny_loadPart' hb,wpAny_forIn_list _ (fun rest c s'=>c.1=none/\s'=⟨hp,g,d,tk,os⟩/\∃i,rest=(xs.toList.zip ys.toList).drop i/\Q (.bool (!(((List.range (min xs.size ys.size)).drop i).all f && xs.size==ys.size))) ⟨hp,g,d,tk,os⟩) _
  case turn=>
   rintro⟨x,y⟩ rest c s' ⟨hc,rfl,i,hz,hR⟩
   obtain⟨h1,h2,rfl,rfl,hrest,hd⟩:=turn x y rest i hz
   rw [hd,xE] at hR
   refine wpAny_bind (he i h1 h2 _ _ ?_)
   cases hf:f i with
   |true=>
    rw [hf] at hR
    wp_walk
    exact⟨rfl,rfl,i+1,hrest,by simpa using hR⟩
   |false=>
    rw [hf] at hR
    wp_walk
    exact⟨_,rfl,by simpa using hR⟩
  case fin=>
   rintro⟨c1,c2⟩ s' ⟨hc,rfl,i,hz,hR⟩
   simp only at hc
   subst hc
   rw [last i hz] at hR
   wp_walk
   exact⟨_,rfl,by simpa [Builtin.Tuple.tupleCompareSizes,bne] using hR⟩
  case h=>exact⟨rfl,rfl,0,rfl,by simpa using q⟩
theorem RcW.tuples (ne:Bool) {xs ys:Array Value} {f:Nat->Bool} (hl:s.heap.IsTuple l xs) (hb:s.heap.IsTuple b ys) (hu:A.units < cLine) (he:∀j (h1:j < xs.size) (h2:j < ys.size),EqW P w A.in1 s xs[j] ys[j] (f j)):
  RcW P w A s ne (.ref l) (.ref b) (ne !=((List.range (min xs.size ys.size)).all f && xs.size==ys.size)):=fun E Q q=>by
 obtain⟨⟨c1,d1,e1,s1⟩,ho,hc,n,hd⟩:=id hl
 obtain⟨⟨c2,d2,e2,s2⟩,ho2,hc2,m,hd2⟩:=id hb
 simp only at hc hd hc2 hd2
 subst hc hd hc2 hd2
 cases ne with
 |false=>exact wpAny_richCompare_same_room (op:=.Eq) ⟨_,ho,rfl⟩ ⟨_,ho2,rfl⟩ F.slot_tuple_eq (wpAny_call_entry F.slot_tuple_eq ⟨_,ho,rfl⟩ F.entry_tuple_eq (tupW (Q:=fun v s'=>v≠ .notImplemented/\Q v s') false f ho ho2 he ⟨(fun x=>nomatch x),q⟩) (F.args_tuple_eq_2 _ _)) hu
 |true=>exact wpAny_richCompare_same_room (op:=.NotEq) ⟨_,ho,rfl⟩ ⟨_,ho2,rfl⟩ F.slot_tuple_ne (wpAny_call_entry F.slot_tuple_ne ⟨_,ho,rfl⟩ F.entry_tuple_ne (tupW (Q:=fun v s'=>v≠ .notImplemented/\Q v s') true f ho ho2 he ⟨(fun x=>nomatch x),q⟩) (F.args_tuple_ne_2 _ _)) hu
end
end My
namespace My
open PySem PySem.Spec PyProof.Rows L2
inductive DEq (K:Frag) (H:Hp):Nat->V->V->Bool->Prop
 |same {n:Nat} {a:Addr}:DEq K H n (.ref a) (.ref a) true
 |flat {n:Nat} {x y:V} (hx:qd6 x=true) (hy:qd6 y=true):DEq K H n x y (eqV x y)
 |ls {n:Nat} {a b:Addr} {xs ys:List V} {e:Nat->Bool} (ha:SqL K H a xs) (hb:SqL K H b ys) (ne:a≠b) (hl:xs.length=ys.length)
   (he:∀j (h1:j < xs.length) (h2:j < ys.length),DEq K H n xs[j] ys[j] (e j)):DEq K H (n+1) (.ref a) (.ref b) ((List.range xs.length).all e)
 |lsN {n:Nat} {a b:Addr} {xs ys:List V} (ha:SqL K H a xs) (hb:SqL K H b ys) (ne:a≠b) (hl:xs.length≠ys.length):DEq K H (n+1) (.ref a) (.ref b) false
 |ts {n:Nat} {a b:Addr} {xs ys:List V} {e:Nat->Bool} (ha:SqT K H a xs) (hb:SqT K H b ys) (ne:a≠b)
   (he:∀j (h1:j < xs.length) (h2:j < ys.length),DEq K H n xs[j] ys[j] (e j)):DEq K H (n+1) (.ref a) (.ref b) ((List.range (min xs.length ys.length)).all e && xs.length==ys.length)
 |dd {n:Nat} {a b:Addr} {ka kb:List (Key × V)} (ha:Rd H a (.dK ka)) (hb:Rd H b (.dK kb)) (ne:a≠b) (fa:∀p∈ka,qd6 p.2=true) (fb:∀p∈kb,qd6 p.2=true):
   DEq K H (n+1) (.ref a) (.ref b) (ka.length==kb.length && ka.all fun p=>(qbq kb p.1).elim false (eqV p.2))
theorem qg8 {xs:List V} {us:List Value} (r:qb7 xs us) {j:Nat} (h1:j < xs.length) (h2:j < us.length):qba xs[j] us[j]:=by
 obtain⟨u,e,ru⟩:=r.get (zA h1)
 rw [zA h2] at e
 cases e
 exact ru
theorem qen {kvs:List (Key × V)} {k:Key} {v:V} (h:qbq kvs k=some v):(k,v)∈kvs:=by
 unfold qbq at h
 obtain⟨p,hp,rfl⟩:=Option.map_eq_some_iff.mp h
 have e:=List.find?_some hp
 have e':p.1=k:=of_decide_eq_true e
 subst e'
 exact List.mem_of_find?_eq_some hp
theorem hits_of {A:Around} {s:Shared} {kb:List (Key × V)} {vb:List (Key × Value)} (rb:KV kb vb) (fb:∀p∈kb,qd6 p.2=true) {ka:List (Key × V)} {va:List (Key × Value)} (ra:KV ka va) (fa:∀p∈ka,qd6 p.2=true):
  PySem.W.KeqHits A s vb va (ka.all fun p=>(qbq kb p.1).elim false (eqV p.2)):=by
 induction ra with
 |nil=>exact .nil
 | @cons p q l1 l2 h t ih=>
  obtain⟨k,v⟩:=p
  obtain⟨k',u⟩:=q
  obtain⟨e,ru⟩:=h
  dsimp only at e ru
  subst e
  have z:=rb.val k
  rw [xE]
  have ih':=ih fun p hp=>fa p (zF _ hp)
  cases hv:qbq kb k with
  |none=>
   rw [hv] at z
   have hn:valueAt vb k=none:=qg7.none_of z
   exact .miss hn
  |some y=>
   rw [hv] at z
   cases hu:valueAt vb k with
   |none=>rw [hu] at z;exact z.elim
   |some yu=>
    rw [hu] at z
    exact .hit hu (eqAt_V ru z (fa _ (zC ..)) (fb _ (qen hv))) ih'
section
variable {X: Cx} {pins: List (Addr × Obj)} {σ: L2.St} {H: Hp} {s: Shared}
theorem PlainL.isList {h:Heap} {a:Addr} {its:Array Value} (p:PlainL h a its):h.IsList a its:=by
 obtain⟨o,n,e,c,d,t⟩:=p
 exact⟨o,e,c,n,t⟩
theorem deq_ok (I:Inv X pins σ H s) {n:Nat} {x y:V} {k:Bool} (q:DEq X.K H n x y k):∀(A:Around) (u v:Value),qba x u->qba y v->A.units+n < cLine->
  EqW X.prog X.w A s u v k/\∀a b,x=.ref a->y=.ref b->a≠b->∀ne:Bool,RcW X.prog X.w A s ne (.ref a) (.ref b) (ne !=k):=by
 have both:∀{A:Around} {a b:Addr} {k:Bool},a≠b->(∀ne:Bool,RcW X.prog X.w A s ne (.ref a) (.ref b) (ne !=k))->
   EqW X.prog X.w A s (.ref a) (.ref b) k/\∀a' b',V.ref a=.ref a'->V.ref b=.ref b'->a'≠b'->∀ne:Bool,RcW X.prog X.w A s ne (.ref a') (.ref b') (ne !=k):=fun {A a b k} ne R=>
  ⟨EqW.refs ne (by have z:=R false;simpa using z),fun a' b' e1 e2 _=>by cases e1;cases e2;exact R⟩
 induction q with
 | @same n a=>
  intro A u v ru rv hu
  obtain rfl:u=Value.ref a:=ru
  obtain rfl:v=Value.ref a:=rv
  exact⟨EqW.of (SeqAt.EqAt.same _),fun a' b' e1 e2 ne=>by cases e1;cases e2;exact absurd rfl ne⟩
 |flat hx hy=>
  intro A u v ru rv hu
  exact⟨EqW.of (eqAt_V ru rv hx hy),fun a b e _ _=>by subst e;cases hx⟩
 | @ls n a b xs ys e ha hb ne hl he ih=>
  intro A u v ru rv hu
  obtain rfl:u=Value.ref a:=ru
  obtain rfl:v=Value.ref b:=rv
  obtain⟨its,r1,p1,_⟩:=I.list ha
  obtain⟨its2,r2,p2,_⟩:=I.list hb
  have l1:=r1.length
  have l2:=r2.length
  refine both ne fun nb=>?_
  have z:=RcW.lists (P:=X.prog) (w:=X.w) (A:=A) (s:=s) nb (f:=e) (PlainL.isList p1) (PlainL.isList p2) (by rw [zO,zO];omega) (by omega) fun j h1 h2=>by
   have k1:j < its.length:=by simpa using h1
   have k2:j < its2.length:=by simpa using h2
   have w:=(ih j (by omega) (by omega) A.in1 its[j] its2[j] (qg8 r1 (by omega) k1) (qg8 r2 (by omega) k2) (by show A.units+1+n < cLine;omega)).1
   simpa using w
  rw [zO,<-l1] at z
  exact z
 | @lsN n a b xs ys ha hb ne hl=>
  intro A u v ru rv hu
  obtain rfl:u=Value.ref a:=ru
  obtain rfl:v=Value.ref b:=rv
  obtain⟨its,r1,p1,_⟩:=I.list ha
  obtain⟨its2,r2,p2,_⟩:=I.list hb
  have l1:=r1.length
  have l2:=r2.length
  exact both ne fun nb=>RcW.listsN nb (PlainL.isList p1) (PlainL.isList p2) (by rw [zO,zO];simp;omega) (by omega)
 | @ts n a b xs ys e ha hb ne he ih=>
  intro A u v ru rv hu
  obtain rfl:u=Value.ref a:=ru
  obtain rfl:v=Value.ref b:=rv
  obtain⟨its,r1,p1,_⟩:=I.tuple ha
  obtain⟨its2,r2,p2,_⟩:=I.tuple hb
  have l1:=r1.length
  have l2:=r2.length
  refine both ne fun nb=>?_
  have z:=RcW.tuples (P:=X.prog) (w:=X.w) (A:=A) (s:=s) nb (f:=e) p1 p2 (by omega) fun j h1 h2=>by
   have k1:j < its.length:=by simpa using h1
   have k2:j < its2.length:=by simpa using h2
   have w:=(ih j (by omega) (by omega) A.in1 its[j] its2[j] (qg8 r1 (by omega) k1) (qg8 r2 (by omega) k2) (by show A.units+1+n < cLine;omega)).1
   simpa using w
  rw [zO,zO,<-l1,<-l2] at z
  exact z
 | @dd n a b ka kb ha hb ne fa fb=>
  intro A u v ru rv hu
  obtain rfl:u=Value.ref a:=ru
  obtain rfl:v=Value.ref b:=rv
  obtain⟨_,ga,va,ra,da⟩:=qfo I.hok ha
  obtain⟨_,gb,vb,rb,db⟩:=qfo I.hok hb
  have l1:=ra.length
  have l2:=rb.length
  refine both ne fun nb E Q q=>?_
  have hits:=hits_of (A:=A.in1) (s:=s) rb fb ra fa
  rw [l1,l2] at q
  cases nb with
  |false=>exact PySem.W.keq_eq ga gb da db (by omega) (fun _=>hits) (by simpa using q)
  |true=>exact PySem.W.keq_ne ga gb da db (by omega) (fun _=>hits) (by simpa using q)
def rEqD (K:Frag):R2:=fun x y H Q=>∃a b n k,x=.ref a/\y=.ref b/\a≠b/\n<=8/\DEq K H n (.ref a) (.ref b) k/\Q (.bl k) H
theorem op_eqD (hu:X.A.units+8 < cLine):OpR X (compareOp .Eq) (rEqD X.K):=by
 intro pins s σ H x y v u Q I rx ry h
 obtain⟨a,b,n,k,rfl,rfl,ne,hn,q,z⟩:=h
 cases rx
 cases ry
 have r:=(deq_ok I q X.A _ _ rfl rfl (by omega)).2 a b rfl rfl ne false X.xe (EP X pins σ Q)
 rw [Bool.false_bne] at r
 exact r ⟨.bl k,H,I,rfl,z⟩
end
section
variable {X: Cx}
def rListOf (K:Frag):List V->Hp->VK->Prop:=fun xs H Q=>∃p ys,xs=[.ref p]/\(SqL K H p ys\/SqT K H p ys)/\∀l,H l=none->Q (.ref l) (upd H l (.lst ys))
theorem qg6:qcp X (.type "list") (rListOf X.K):=call_list_of
end
section
variable {K: Frag} {σ: L2.St} {H: Hp} {Q: VK} {p l: Addr} {ys xs: List V} {to: TE} {t: TA} {T: String} {r: V -> List V -> Hp -> VK -> Prop} {x v: V}
theorem r_listL (h:SqL K H p ys) (q:∀l,H l=none->Q (.ref l) (upd H l (.lst ys))):rListOf K [.ref p] H Q:=⟨p,ys,rfl,.inl h,q⟩
theorem r_bm (h:to σ H fun x H1=>tyV K T x H1/\t σ H1 fun xs H2=>r x xs H2 Q):tBM K T r to t σ H Q:=h
theorem r_bm0 (h:to σ H fun x H1=>tyV K T x H1/\r x [] H1 Q):tBM0 K T r to σ H Q:=h
theorem r_tyL {P:Prop} (h:SqL K H p ys) (q:P):tyV K "list" (.ref p) H/\P:=⟨.inl ⟨rfl,_,h⟩,q⟩
theorem r_append (h:H l=some (.lst xs)) (hz:xs.length < sizeLine) (q:Q .non (upd H l (.lst (xs++ [v])))):rAppend (.ref l) [v] H Q:=⟨l,xs,v,rfl,rfl,h,hz,q⟩
end
def initIn (K:Frag) (C f:Addr):Bool:=match K.lookup C with
 |some ⟨.type "type",_,.cls cd,sl⟩=>(match cd.mro,sl.toList with
  | .ref C' :: bm, [_,_,_,_,some (.builtin n),_]=>C'==C && n== "ValueError.__new__" && !cd.hasDel && PySem.W.tailIn K [.type "ValueError",.type "Exception",.type "BaseException",.type "object"] bm && PySem.W.nsOkIn K cd.ns && nsIn K cd.ns "__init__" ==some (some (.ref f))
  |_,_=>false)
 |_=>false
theorem xcli_of {K:Frag} {C f:Addr} (q:initIn K C f=true) (hf:isFn K (.ref f)=true):XClI K C f:=by
 refine⟨?_,hf⟩
 unfold initIn at q
 split at q
 .rename_i dd cd sl ho
  split at q
  .rename_i C' bm k0 k1 k2 k3 n k5 hm hs
   simp only [Bool.and_eq_true,beq_iff_eq,Bool.not_eq_true'] at q
   obtain⟨⟨⟨⟨⟨rfl,rfl⟩,hdel⟩,ht⟩,hok⟩,hni⟩:=q
   obtain⟨nm,bs,mro,ns,qn,hd,sn,sub,ab,col,del⟩:=cd
   dsimp only at hm hdel hok hni
   subst hm hdel
   have hsl:sl= #[k0,k1,k2,k3,some (.builtin "ValueError.__new__"),k5]:=by
    obtain⟨l⟩:=sl
    simp only at hs
    rw [hs]
   subst hsl
   unfold PySem.W.nsOkIn at hok
   split at hok
   .rename_i c1 d1 es ep sl1 hN
    have hSK:StrKeys es:=fun e he=>by
     have z:=Array.all_eq_true_iff_forall_mem.mp hok e he
     split at z
     .rename_i n t q;exact⟨n,t,q⟩
     .cases z
    have hNs:∀h:Heap,K.In h->h.Ns ns (fun x=>nsFind es x):=fun h X=>⟨_,es,ep,X _ _ hN,rfl,hSK,fun _=>rfl⟩
    refine⟨nm,qn,ns,bs,bm,hd,sn,sub,ab,col,dd,k0,k1,k2,k3,k5,fun x=>nsFind es x,ho,hNs,?_,fun h X=>PySem.W.tail_of_in X ht⟩
    unfold nsIn at hni
    rw [hN] at hni
    dsimp only at hni
    split at hni
    .rename_i hf
     show nsFind es "__init__" =some (.ref f)
     unfold nsFind findBy
     rw [<-Array.find?_toList,hf]
     exact congrArg some (Option.some.inj (Option.some.inj hni))
    .first|(split at hni <;> cases hni) |simp at hni
   .cases hok
  .cases q
 .cases q
structure RoomH (k:Nat) (A:Around):Prop where
 dp:A.depth+3*k+5 < recursionLimit
 un:A.units+16*k+200 < cLine
structure FnOkH (P:Program) (w:World) (K:Frag) (mg:Str->Option Value) (base:Heap) (k:Nat) (f:Addr) (fd:FuncData) (ps:List Str) (sp:Sp):Prop where
 len:∀vs H Q E,sp vs H Q E->vs.length=ps.length
 run:∀(a:Addr) (A:Around) (outer:List Env) (s:Shared) (H:Hp) (args:Args) (us:List Value) (vs:List V) (Q:VK) (E:XK),RoomH k A->A.handled=some (.ref a)->Env0 P w K mg base A outer s H->BindsTo s fd args (ps.zip us)->qb7 vs us->sp vs H Q E->
  codeAny (model P w) A (.call (.ref f) args) (CR CX0 outer P w H s Q E) s
section
variable {X: Cx}
def rNeD (K:Frag):R2:=fun x y H Q=>∃a b n k,x=.ref a/\y=.ref b/\a≠b/\n<=8/\DEq K H n (.ref a) (.ref b) k/\Q (.bl (!k)) H
theorem op_neD (hu:X.A.units+8 < cLine):OpR X (compareOp .NotEq) (rNeD X.K):=by
 intro pins s σ H x y v u Q I rx ry h
 obtain⟨a,b,n,k,rfl,rfl,ne,hn,q,z⟩:=h
 cases rx
 cases ry
 have r:=(deq_ok I q X.A _ _ rfl rfl (by omega)).2 a b rfl rfl ne true X.xe (EP X pins σ Q)
 rw [Bool.true_bne] at r
 exact r ⟨.bl (!k),H,I,rfl,z⟩
end
section
variable {K: Frag} {H: Hp} {Q: VK} {a b: Addr} {n: Nat} {k: Bool}
theorem r_eqD (ne:a≠b) (hn:n<=8) (q:DEq K H n (.ref a) (.ref b) k) (h:Q (.bl k) H):rEqD K (.ref a) (.ref b) H Q:=⟨a,b,n,k,rfl,rfl,ne,hn,q,h⟩
theorem r_neD (ne:a≠b) (hn:n<=8) (q:DEq K H n (.ref a) (.ref b) k) (h:Q (.bl (!k)) H):rNeD K (.ref a) (.ref b) H Q:=⟨a,b,n,k,rfl,rfl,ne,hn,q,h⟩
end
theorem hu8 {k:Nat} {A:Around} (r:Room k A):A.units+8 < cLine:=by have:=r.un;omega
def DEqs (K:Frag) (H:Hp) (n:Nat):List V->List V->Prop
 | [], []=>True
 |x :: xs,y :: ys=>DEq K H n x y true/\DEqs K H n xs ys
 |_,_=>False
theorem DEqs.len {K:Frag} {H:Hp} {n:Nat}:∀{xs ys:List V},DEqs K H n xs ys->xs.length=ys.length
 | [], [],_=>rfl
 |_ :: _,_ :: _,h=>congrArg (·+1) (DEqs.len h.2)
 | [],_ :: _,h=>h.elim
 |_ :: _, [],h=>h.elim
theorem DEqs.get {K:Frag} {H:Hp} {n:Nat}:∀{xs ys:List V},DEqs K H n xs ys->∀j (h1:j < xs.length) (h2:j < ys.length),DEq K H n xs[j] ys[j] true
 | [], [],_,j,h1,_=>absurd h1 (Nat.not_lt_zero j)
 |_ :: _,_ :: _,h,0,_,_=>h.1
 |_ :: _,_ :: _,h,j+1,h1,h2=>DEqs.get h.2 j (Nat.lt_of_succ_lt_succ h1) (Nat.lt_of_succ_lt_succ h2)
 | [],_ :: _,h,_,_,_=>h.elim
 |_ :: _, [],h,_,_,_=>h.elim
theorem deq_list {K:Frag} {H:Hp} {n:Nat} {a b:Addr} {xs ys:List V} (ha:SqL K H a xs) (hb:SqL K H b ys) (ne:a≠b) (h:DEqs K H n xs ys):DEq K H (n+1) (.ref a) (.ref b) true:=by
 have z:=DEq.ls (n:=n) (e:=fun _=>true) ha hb ne h.len h.get
 have e:(List.range xs.length).all (fun _=>true)=true:=by simp
 rw [e] at z
 exact z
theorem DEqs.self {K:Frag} {H:Hp} {n:Nat}:∀{xs:List V},(∀x∈xs,DEq K H n x x true)->DEqs K H n xs xs
 | [],_=>trivial
 |x :: xs,h=>⟨h x (zC ..),DEqs.self fun y hy=>h y (zF _ hy)⟩
theorem deq_str {K:Frag} {H:Hp} {n:Nat} (z:Str):DEq K H n (.str z) (.str z) true:=by
 have w:=DEq.flat (K:=K) (H:=H) (n:=n) (x:=.str z) (y:=.str z) rfl rfl
 have e:eqV (.str z) (.str z)=true:=by simp [eqV]
 rw [e] at w
 exact w
theorem deq_bl {K:Frag} {H:Hp} {n:Nat} (b:Bool):DEq K H n (.bl b) (.bl b) true:=by
 have w:=DEq.flat (K:=K) (H:=H) (n:=n) (x:=.bl b) (y:=.bl b) rfl rfl
 have e:eqV (.bl b) (.bl b)=true:=by cases b <;> rfl
 rw [e] at w
 exact w
def SameBut (L:Addr) (H H':Hp):Prop:=∀b o,b≠L->H b=some o->H' b=some o
theorem SameBut.at {H H':Hp} {L:Addr} {o:HO} (e:SameBut L H H'):SameBut L H (upd H' L o):=fun b u hb q=>by
 rw [qa6 hb];exact e b u hb q
theorem SameBut.same {H H1 H2:Hp} {L:Addr} (e:SameBut L H H1) (s:qas H1 H2):SameBut L H H2:=fun b u hb q=>s b u (e b u hb q)
theorem SameBut.of {H H':Hp} {L:Addr} (s:qas H H'):SameBut L H H':=fun b u _ q=>s b u q
def NoFrz (H:Hp) (a:Addr):Prop:=∀o u,H a≠some (.frz o u)
section
variable {X: Cx} {pins: List (Addr × Obj)} {σ: L2.St} {H H': Hp} {s: Shared} {a: Addr} {kvs: List (Key × V)} {o: Obj}
theorem Inv.freeze (I:Inv X pins σ H s) (e:H a=some (.dK kvs)) (ho:s.heap.get? a=some o):Inv X pins σ (upd H a (.frz o (.dK kvs))) s:=by
 have ok:=I.hok a _ e
 have z:=I.write (x:=a) (e:=a) (o:=.frz o (.dK kvs)) (h':=s.heap) (t':=s.toks) (by rw [e];exact True.intro) (.inl rfl) (fun _ _ _ q=>q) ⟨o,ho⟩ ⟨ho,ok⟩
 exact z
theorem Inv.thaw (I:Inv X pins σ H s) (e:H a=some (.frz o (.dK kvs))) (n0:NoFrz X.H₀ a):Inv X pins σ (upd H a (.dK kvs)) s:=by
 have ne:∀b,H b=none->b≠a:=fun b q z=>by subst z;rw [e] at q;cases q
 have nk:∀b u,H b=some u->(∀o' u',u≠ .frz o' u')->b≠a:=fun b u q z w=>by subst w;rw [e] at q;cases q;exact z _ _ rfl
 refine⟨I.ok,I.os,I.bare,⟨I.base.keep,I.base.slot,fun b ob q n hx=>?_,I.base.there,fun b xs q=>?_,fun b ob u q=>?_,fun b ps q=>?_⟩,I.loc,I.cell,?_,fun x c q=>?_,fun p hp=>?_,fun b u q=>?_,I.len⟩
 .have z:=I.base.free b ob q n hx
  rw [qa6 (ne b z)];exact z
 .have z:=I.base.tups b xs q
  rw [qa6 (nk b _ z (by intro _ _ h;cases h))];exact z
 .have z:=I.base.frzs b ob u q
  rw [qa6 (fun w=>by subst w;exact n0 _ _ q)];exact z
 .obtain⟨m,z⟩:=I.base.tbls b ps q
  exact⟨m,by rw [qa6 (nk b _ z (by intro _ _ h;cases h))];exact z⟩
 .have z:=I.free
  rw [qa6 (ne _ z)];exact z
 .have z:=I.freeC x c q
  rw [qa6 (ne _ z)];exact z
 .obtain⟨p1,p2,p3⟩:=I.pin p hp
  exact⟨p1,by rw [qa6 (ne _ p2)];exact p2,p3⟩
 .by_cases hb:b=a
  .subst hb
   rw [qa1] at q
   cases q
   exact(I.hok b _ e).2
  .rw [qa6 hb] at q
   exact(I.hok b u q).stay (fun _ _ _ r=>r) (fun c r=>by rw [qa6 (nk c _ r (by intro _ _ h;cases h))];exact r) fun c xs r=>by rw [qa6 (nk c _ r (by intro _ _ h;cases h))];exact r
def Thaw (H0 H H':Hp):Prop:=H'=H\/∃a o kvs,H a=some (.frz o (.dK kvs))/\NoFrz H0 a/\H'=upd H a (.dK kvs)
theorem Inv.thawed (I:Inv X pins σ H s) (t:Thaw X.H₀ H H'):Inv X pins σ H' s:=by
 rcases t with rfl|⟨a,o,kvs,e,n,rfl⟩
 .exact I
 .exact Inv.thaw I e n
end
section
variable {X: Cx} {st: Stmt} {e: Expr} {t: TS} {te: TE}
def thE (H0:Hp) (D:Ends):Ends:={nx:=fun σ H=>∃H',Thaw H0 H H'/\D.nx σ H',rt:=fun v H=>∃H',Thaw H0 H H'/\D.rt v H',bk:=fun σ H=>∃H',Thaw H0 H H'/\D.bk σ H',ct:=fun σ H=>∃H',Thaw H0 H H'/\D.ct σ H'}
def tThA (H0:Hp) (t:TS):TS:=fun D σ H=>t (thE H0 D) σ H
theorem qf0 (h:PS X st t):PS X st (tThA X.H₀ t):=fun pins s σ H D I q=>thn (h pins s σ H _ I q) fun f s' hs=>by
 cases f with
 |next=>obtain⟨σ',H1,J,H2,th,q⟩:=hs;exact⟨σ',H2,Inv.thawed J th,q⟩
 |brk=>obtain⟨σ',H1,J,H2,th,q⟩:=hs;exact⟨σ',H2,Inv.thawed J th,q⟩
 |cont=>obtain⟨σ',H1,J,H2,th,q⟩:=hs;exact⟨σ',H2,Inv.thawed J th,q⟩
 |ret u=>obtain⟨v,σ',H1,J,r,H2,th,q⟩:=hs;exact⟨v,σ',H2,Inv.thawed J th,r,q⟩
def tThV (H0:Hp) (t:TE):TE:=fun σ H Q=>t σ H fun v H1=>∃H',Thaw H0 H1 H'/\Q v H'
theorem pe_thV (h:PE X e te):PE X e (tThV X.H₀ te):=fun pins s σ H Q I q=>thn (h pins s σ H _ I q) fun u s' ⟨v,H1,J,r,H2,th,q⟩=>⟨v,H2,Inv.thawed J th,r,q⟩
end
theorem kvget {κ:Type} {kvs:List (κ × V)} {vs:List (κ × Value)} (r:KV kvs vs):∀{i:Nat} {k:κ} {v:V},kvs[i]?=some (k,v)->∃u,vs[i]?=some (k,u)/\qba v u:=by
 induction r with
 |nil=>intro i k v e;simp at e
 |cons h t ih=>
  intro i k v e
  cases i with
  |zero=>
   simp only [List.getElem?_cons_zero,Option.some.injEq] at e ⊢
   subst e
   obtain⟨h1,h2⟩:=h
   exact⟨_,Prod.ext h1.symm rfl,h2⟩
  |succ i=>
   simp only [List.getElem?_cons_succ] at e ⊢
   exact ih e
theorem kV_rel {k:Key} {u:Value} (h:qgt k u=true):qba (kV k) u:=by
 rcases qb0 h with ⟨i,t,rfl,rfl⟩ |⟨x,t,rfl,rfl⟩
 .exact⟨t,rfl⟩
 .exact⟨t,rfl⟩
def ItD (d:Addr) (o:Obj) (kvs:List (Key × V)):It:=
 ⟨fun i H=>H d=some (.frz o (.dK kvs))/\i < kvs.length,fun i H x H'=>H'=H/\∃k v,kvs[i]?=some (k,v)/\x=kV k,fun i H=>H d=some (.frz o (.dK kvs))/\kvs.length<=i⟩
theorem frz_at {P:Program} {w:World} {H:Hp} {h:Heap} {d:Addr} {o:Obj} {kvs:List (Key × V)} {es:Array DictEntry} {ep:Nat} (ok:HOk P w H h) (e:H d=some (.frz o (.dK kvs))) (hd:o.data=.dict es ep):
  ∃vs,KV kvs vs/\h.DictAt (qb4 P w) d vs ep:=by
 obtain⟨ho,_,_,vs,rel,o',es',ep',ho',ex,hd',ks,ps,nd⟩:=ok d _ e
 rw [ho] at ho'
 cases ho'
 rw [hd] at hd'
 cases hd'
 exact⟨vs,rel,o,es,ho,ex,hd,ks,ps,nd⟩
theorem turn_dict {P:Program} {w:World} {K:Frag} {tg:Expr} {o:Obj} {kvs:List (Key × V)} {es:Array DictEntry} {ep:Nat} (d it:Addr) (hd:o.data=.dict es ep):Turn P w K tg (ItD d o kvs) [it] it (fun i h=>h.IsKeyIter it d i kvs.length ep) where
 mem:=by simp
 obj:=fun i h st b hb=>by
  have e:b=it:=by simpa using hb
  subst e
  obtain⟨ob,e,c,dd⟩:=st
  exact⟨ob,e,fun v z=>by rw [dd] at z;cases z⟩
 keep:=fun i h h' st k=>st.at fun ob e=>k it (by simp) ob e
 item:=by
  intro X hP hw hK hc i pins s σ H E I hf st hg
  subst hP hw hK
  obtain⟨hfz,hi⟩:=hg
  obtain⟨vs,rel,dat⟩:=frz_at I.hok hfz hd
  obtain⟨f0,f1,f2,f3,f4,f5⟩:=hf it (by simp)
  have hl:=rel.length
  obtain⟨u,hu,ru⟩:=kvget rel (i:=i) (k:=kvs[i].1) (v:=kvs[i].2) (by rw [zA hi])
  rw [hl] at st
  refine wpAny_pyNext_dict_item st dat hu fun key h' hkey st' hs'=>?_
  have I1:Inv X pins σ H {s with heap:=h'}:=I.turned (t':=s.toks) (fun b ob hb e=>hs'.extBut b ob hb e) f0 f1 f3 f4 f5
  obtain⟨ob,e,c,dd⟩:=id st'
  exact⟨key,rfl,go_of (s:={s with heap:=h'}) e c dd (by decide) ⟨kV kvs[i].1,H,I1,kV_rel hkey,⟨rfl,kvs[i].1,kvs[i].2,zA hi,rfl⟩,by rw [hl];exact st',fun b hb=>(hf b hb).1⟩⟩
 done:=by
  intro X hP hw hK hc i pins s σ H E I hf st hg
  subst hP hw hK
  obtain⟨hfz,hi⟩:=hg
  obtain⟨vs,rel,dat⟩:=frz_at I.hok hfz hd
  obtain⟨f0,f1,f2,f3,f4,f5⟩:=hf it (by simp)
  have hl:=rel.length
  rw [hl] at st hi
  exact wpAny_pyNext_dict_end (I.ok.hd hc) st dat (by simpa using hi) fun h' eb=>⟨rfl,I.turned (t':=s.toks) (fun b ob hb e=>eb b ob hb e) f0 f1 f3 f4 f5⟩
 self:=fun _ _ _ _ _ st h=>wpAny_pyIter_keyiter st h
def rItD (x:V) (H:Hp) (R:It->Hp->Prop):Prop:=∃a kvs,x=.ref a/\((H a=some (.dK kvs)/\∀o,R (ItD a o kvs) (upd H a (.frz o (.dK kvs))))\/∃o,H a=some (.frz o (.dK kvs))/\R (ItD a o kvs) H)
def iDict (td:TE):TI:=fun σ H R=>td σ H fun x H1=>rItD x H1 R
theorem dat_of {P:Program} {w:World} {H:Hp} {h:Heap} {d:Addr} {kvs:List (Key × V)} (ok:qbp P w H h d (.dK kvs)):∃o es ep vs,h.get? d=some o/\o.data=.dict es ep/\KV kvs vs/\h.DictAt (qb4 P w) d vs ep/\(d==sysModules)=false:=by
 obtain⟨_,hs,vs,rel,o,es,ep,ho,ex,hd,ks,ps,nd⟩:=ok
 exact⟨o,es,ep,vs,ho,hd,rel,⟨o,es,ho,ex,hd,ks,ps,nd⟩,hs⟩
theorem qd3 {X:Cx} {tg l:Expr} {tl:TE} (hl:PE X l tl):PI X tg l (iDict tl):=by
 intro pins s σ H R I h
 refine thn (hl pins s σ H _ I h) fun v s1 ⟨x,H1,I1,r1,q1⟩=>?_
 obtain⟨a,kvs,e,q⟩:=q1
 subst e
 cases r1
 have ok:qbp X.prog X.w H1 s1.heap a (.dK kvs):=by
  rcases q with ⟨e,_⟩ |⟨o,e,_⟩
  .exact I1.hok a _ e
  .exact(I1.hok a _ e).2
 obtain⟨o,es,ep,vs,ho,hd,rel,dat,hs⟩:=dat_of ok
 have hlen:=rel.length
 refine wpAny_pyIter_dict hs dat ?_
 have it0:(s1.heap.push {cls:=.type "dict_keyiterator",data:=.fields #[.ref a,.int 0 0,.int vs.length 0,.int ep 0]}).IsKeyIter s1.heap.objs.size a 0 kvs.length ep:=by
  rw [hlen];exact⟨_,Heap.get?_push_size _ rfl,rfl,rfl⟩
 rcases q with ⟨e,q⟩ |⟨o',e,q⟩
 .have I2:=Inv.freeze I1 e ho
  refine⟨s1.heap.objs.size, [s1.heap.objs.size],_,_,_,rfl,I2.kept (t':=s1.toks) fun b ob e=>Heap.get?_push_of_some _ e,turn_dict (kvs:=kvs) a _ hd,it0,fun b hb=>?_,q o⟩
  have e:b=s1.heap.objs.size:=by simpa using hb
  subst e
  exact I2.fpOk (Nat.le_refl _) (I2.hok.fresh (Nat.le_refl _))
 .have eo:o'=o:=by
   have z:=(I1.hok a _ e).1
   rw [ho] at z
   cases z
   rfl
  subst eo
  refine⟨s1.heap.objs.size, [s1.heap.objs.size],_,_,_,rfl,I1.kept (t':=s1.toks) fun b ob e=>Heap.get?_push_of_some _ e,turn_dict (kvs:=kvs) a _ hd,it0,fun b hb=>?_,q⟩
  have e:b=s1.heap.objs.size:=by simpa using hb
  subst e
  exact I1.fpOk (Nat.le_refl _) (I1.hok.fresh (Nat.le_refl _))
section
variable {σ: L2.St} {H H': Hp} {D: Ends} {t: TS} {te tl: TE} {Q: VK} {g: TG} {tb: TS} {a: Addr} {o: Obj} {kvs: List (Key × V)} {H0: Hp} {v: V}
theorem r_thA (h:t (thE H0 D) σ H):tThA H0 t D σ H:=h
theorem qew (th:Thaw H0 H H') (h:D.nx σ H'):(thE H0 D).nx σ H:=⟨H',th,h⟩
theorem r_thV (h:te σ H fun v H1=>∃H',Thaw H0 H1 H'/\Q v H'):tThV H0 te σ H Q:=h
theorem qga (e:H a=some (.frz o (.dK kvs))) (n:NoFrz H0 a):Thaw H0 H (upd H a (.dK kvs)):=.inr ⟨a,o,kvs,e,n,rfl⟩
theorem r_iD {R:It->Hp->Prop} (h:tl σ H fun x H1=>rItD x H1 R):iDict tl σ H R:=h
theorem qgi {R:It->Hp->Prop} (e:H a=some (.dK kvs)) (h:∀o,R (ItD a o kvs) (upd H a (.frz o (.dK kvs)))):rItD (.ref a) H R:=⟨a,kvs,rfl,.inl ⟨e,h⟩⟩
theorem qfd (Pv:Nat->L2.St->Hp->Prop) (h0:Pv 0 σ H) (hl:∀i σ H,i<=kvs.length->Pv i σ H->H a=some (.frz o (.dK kvs)))
  (hs:∀i k v σ H,kvs[i]?=some (k,v)->Pv i σ H->g (kV k) σ H fun σ2 H2=>tb {nx:=Pv (i+1),rt:=D.rt,bk:=D.nx,ct:=Pv (i+1)} σ2 H2) (hd:∀σ H,Pv kvs.length σ H->D.nx σ H):FOR (ItD a o kvs) g tb D σ H:=by
 refine⟨fun i m σ H=>m=kvs.length - i/\i<=kvs.length/\Pv i σ H,⟨kvs.length,rfl,Nat.zero_le _,h0⟩,?_⟩
 rintro i m σ H ⟨rfl,hi,p⟩
 have q:=hl i σ H hi p
 by_cases hlt:i < kvs.length
 .refine .inr ⟨⟨q,hlt⟩,Pv (i+1),fun σ' H' p'=>⟨kvs.length - (i+1),by omega,rfl,hlt,p'⟩,fun x H' y=>?_⟩
  obtain⟨e,k,v,hk,rfl⟩:=y
  subst e
  exact hs i k v σ _ hk p
 .have e:i=kvs.length:=Nat.le_antisymm hi (Nat.le_of_not_lt hlt)
  subst e
  exact .inl ⟨⟨q,Nat.le_refl _⟩,hd σ H p⟩
end
theorem objOk_get {P:Program} {w:World} {H:Hp} {h:Heap} {a:Addr} {o:HO} (x:qbp P w H h a o):∃u,h.get? a=some u:=by
 induction o with
 |lst xs=>obtain⟨_,_,_,_,e⟩:=x;exact⟨_,e⟩
 |tup xs=>obtain⟨_,_,_,ob,e,_⟩:=x;exact⟨_,e⟩
 |dK kvs=>obtain⟨_,_,_,_,o,_,_,e,_⟩:=x;exact⟨_,e⟩
 |dT kvs=>obtain⟨_,_,_,_,o,_,_,e,_⟩:=x;exact⟨_,e⟩
 |set S n=>obtain⟨o,_,_,_,e,_⟩:=x;exact⟨_,e⟩
 |ins C dx fs=>obtain⟨_,_,_,e,_⟩:=x;exact⟨_,e⟩
 |own y=>exact x
 |xd fs=>obtain⟨_,⟨_,_,_,e,_⟩,_⟩:=x;exact⟨_,e⟩
 |rng lo hi=>obtain⟨_,_,_,e⟩:=x;exact⟨_,e⟩
 |frz ob u ih=>exact⟨_,x.1⟩
 |tbl ps=>exact⟨_,x⟩
 |met f y=>exact⟨_,x⟩
 |ext φ=>exact x.2.1
theorem Inv.laidN {X:Cx} {pins:List (Addr × Obj)} {σ:L2.St} {H:Hp} {s:Shared} {h':Heap} {a:Addr} {o:HO} {t':Nat} (I:Inv X pins σ H s) (k:∀b u,s.heap.get? b=some u->h'.get? b=some u) (hg:s.heap.get? a=none) (new:qbp X.prog X.w (upd H a o) h' a o):
  H a=none/\Inv X pins σ (upd H a o) {s with heap:=h',toks:=t'}:=by
 have hn:H a=none:=by
  cases q:H a with
  |none=>rfl
  |some u=>obtain⟨v,e⟩:=objOk_get (I.hok a u q);rw [hg] at e;cases e
 refine⟨hn,I.un ⟨fun b u q _ _ _=>k b u q,fun b u q _ _ _=>⟨u.slots,k b u q⟩,fun b u q n _=>by rw [qa6 (fun z=>by subst z;rw [hg] at q;cases q)];exact n,fun b u q _=>⟨u,k b u q⟩,fun b xs q=>by rw [qa6 (qa2 q hn)];exact q,
  fun b u xs q=>by rw [qa6 (qa2 q hn)];exact q,fun b ps q=>⟨#[],by rw [qa6 (qa2 q hn),q];simp⟩⟩ fun b u e=>?_⟩
 by_cases hb:b=a
 .subst hb;rw [qa1] at e;cases e;exact new
 .rw [qa6 hb] at e
  exact(I.hok b u e).stay (fun c v _ q=>k c v q) (fun c q=>by rw [qa6 (qa2 q hn)];exact q) fun c xs q=>by rw [qa6 (qa2 q hn)];exact q
section
variable {X: Cx}
def rDictCp:List V->Hp->VK->Prop:=fun xs H Q=>∃p kvs,xs=[.ref p]/\Rd H p (.dK kvs)/\∀q,H q=none->Q (.ref q) (upd H q (.dK kvs))
theorem qc5:qcp X (.type "dict") rDictCp:=by
 intro pins s σ H xs us Q I hv h
 obtain⟨p,kvs,rfl,e,q⟩:=h
 obtain⟨u,rfl,ru⟩:=hv.one
 cases ru
 exact d_copyOf I e fun l s' hl I'=>⟨.ref l,_,I',rfl,q l hl⟩
def rDClear:V->List V->Hp->VK->Prop:=fun x xs H Q=>∃p kvs,x=.ref p/\xs=[]/\H p=some (.dK kvs)/\Q .non (upd H p (.dK []))
theorem mt_dclear:MtR X "dict.clear" rDClear:=by
 intro pins s σ H x xs v us Q I rx rv h
 obtain⟨p,kvs,rfl,rfl,e,q⟩:=h
 cases rx
 have hus:=rv.zero
 subst hus
 exact d_clear I e fun s' I'=>⟨.non,_,I',rfl,q⟩
theorem strs_of:∀{ss:List Str} {us:List Value},qb7 (ss.map V.str) us->StrsAre us ss
 | [],_,r=>by cases r;exact .nil
 |x :: ss,_,r=>by
  cases r with
  |cons h t=>obtain⟨k,rfl⟩:=h;exact .cons x k (strs_of t)
theorem qeu:∀{us:List Value} {ss:List Str},StrsAre us ss->qb7 (ss.map V.str) us
 |_,_,.nil=> .nil
 |_,_,.cons x t h=> .cons ⟨t,rfl⟩ (qeu h)
def rSortL (K:Frag):List V->Hp->VK->Prop:=fun xs H Q=>∃p ss,xs=[.ref p]/\SqL K H p (ss.map V.str)/\ss.length < 64/\∀l ss',H l=none->ss'.Perm ss->sortedS ss'=true->Q (.ref l) (upd H l (.lst (ss'.map V.str)))
theorem qeh:qcp X (.builtin "sorted") (rSortL X.K):=by
 intro pins s σ H xs us Q I hv h
 obtain⟨p,ss,rfl,hS,hz,q⟩:=h
 obtain⟨u,rfl,ru⟩:=hv.one
 cases ru
 obtain⟨its,rv,pl,hz'⟩:=I.list hS
 have hlen:=rv.length
 rw [zB] at hlen
 refine sorted_strs (vs:=its) (PlainL.isList pl) (strs_of rv) (by omega) fun out ss' a1 a2 a3=>?_
 obtain⟨e,he⟩:=sortedAll_at s.heap its out
 have hl2:=a2.length_eq
 have I2:=I.laid (a:=s.heap.objs.size+1) (o:=.lst (ss'.map V.str)) (t':=s.toks) (fun b ob hb=>sortedAll_old hb) (Nat.le_succ _) ⟨by rw [zB,sizeLine_eq];omega,out.toList,e,qeu a1,by simpa [seqObj] using he⟩
 exact⟨.ref _,_,I2,rfl,q _ ss' (I.hok.fresh (Nat.le_succ _)) a2 a3⟩
def rSortD:List V->Hp->VK->Prop:=fun xs H Q=>∃p kvs ss,xs=[.ref p]/\Rd H p (.dK kvs)/\kvs.map (·.1)=ss.map Sum.inr/\ss.length < 64/\∀l ss',H l=none->ss'.Perm ss->sortedS ss'=true->Q (.ref l) (upd H l (.lst (ss'.map V.str)))
theorem strs_keys {ss:List Str} {us:List Value} (hl:us.length=ss.length) (h:∀(j:Nat) (u:Value),us[j]?=some u->∃x,ss[j]?=some x/\qgt (.inr x) u=true):StrsAre us ss:=by
 induction us generalizing ss with
 |nil=>cases ss with
  |nil=>exact .nil
  |cons _ _=>simp at hl
 |cons u us ih=>cases ss with
  |nil=>simp at hl
  |cons x ss=>
   obtain⟨y,hy,hk⟩:=h 0 u rfl
   simp only [List.getElem?_cons_zero,Option.some.injEq] at hy
   subst hy
   rcases qb0 hk with ⟨i,t,e,_⟩ |⟨z,t,e,rfl⟩
   .cases e
   .cases e
    exact .cons x t (ih (by simpa using hl) fun j v hv=>by have:=h (j+1) v (by simpa using hv);simpa using this)
theorem call_sortD (hc:X.calm=true):qcp X (.builtin "sorted") rSortD:=by
 intro pins s σ H xs us Q I hv h
 obtain⟨p,kvs,ss,rfl,hR,hk,hz,q⟩:=h
 obtain⟨u,rfl,ru⟩:=hv.one
 cases ru
 obtain⟨o,es,ep,vs,ho,hd,rel,dat,hs⟩:=dat_of (hR.ok I.hok)
 have hlen:=rel.length
 have hks:=rel.keys
 have hl2:kvs.length=ss.length:=by have:=congrArg List.length hk;simpa using this
 refine Calls.call_function_entry kind_sorted plain_sorted entry_sorted (args_sorted1 _) ?_
 unfold Builtin.«sorted»
 refine wpAny_bind (m:=checkCount "sorted" 1 1 _) (wpAny_pure ?_)
 refine wpAny_bind (PySem.W.kdu_collect (A:=X.A.in1) (PySem.W.kdl_dict (knd:=qb4 X.prog X.w) (kvs:=vs) (ep:=ep) hs) (I.ok.hd hc) dat (by rw [sizeLine_eq];omega) fun h' tk acc hkeep hacc=>?_)
 have hal:acc.toList.length=vs.length:=by rw [Array.length_toList];exact hacc.1
 refine wpAny_bind (wpAny_newList ?_ (by rw [hal,sizeLine_eq];omega))
 have hS:StrsAre acc.toList ss:=by
  refine strs_keys (by omega) fun j v hv=>?_
  obtain⟨k,x,hx,hkv⟩:=hacc.2 j v (by rw [<-Array.getElem?_toList];exact hv)
  have e1:(vs.map (·.1))[j]?=some k:=by rw [zD,hx];rfl
  rw [<-hks,hk,zD] at e1
  obtain⟨z,hz1,rfl⟩:=Option.map_eq_some_iff.mp e1
  exact⟨z,hz1,hkv⟩
 have hoL:(h'.push {cls:=.type "list",data:=.seq acc.toList.toArray}).get? h'.objs.size=some (seqObj "list" acc.toList.toArray 0):=Heap.get?_push_size _ rfl
 refine wpAny_bind (wpAny_holding (wpAny_call_entry slot_list_sort ⟨_,hoL,rfl⟩ entry_list_sort (list_sort_treeK strKind_oneLt hoL hS.keysOf (fun v₁ v₂ rest e=>keyKind_strs (by rw [<-e];exact hS)) (by omega) fun st' a1 a2=>⟨_,rfl,?_⟩) (args_list_sort _)))
 obtain⟨ss',b1,b2,b3⟩:=sorted_out_str hS a1 a2
 obtain⟨e,he⟩:=sortedHeap_at (out:=(arrOf st').map (·.2)) hoL
 have hl3:=b2.length_eq
 have hg:s.heap.get? h'.objs.size=none:=by
  cases q:s.heap.get? h'.objs.size with
  |none=>rfl
  |some ob=>exact absurd (Heap.lt_size (hkeep _ _ q)) (Nat.lt_irrefl _)
 obtain⟨hn,I2⟩:=Inv.laidN I (h':=sortedHeap (h'.push {cls:=.type "list",data:=.seq acc.toList.toArray}) h'.objs.size acc.toList ((arrOf st').map (·.2))) (a:=h'.objs.size) (o:=.lst (ss'.map V.str)) (t':=tk) (fun b ob hb=>by
  have hb':=hkeep b ob hb
  rw [sortedHeap_old (Nat.ne_of_lt (Heap.lt_size hb')) (by rw [size_push'];exact Nat.lt_succ_of_lt (Heap.lt_size hb'))]
  exact Heap.get?_push_of_some _ hb') hg ⟨by rw [zB,sizeLine_eq];omega,((arrOf st').map (·.2)).toList,e,qeu b1,by rw [Array.toArray_toList];exact he⟩
 exact wpAny_pure ⟨_,rfl,.ref _,_,I2,rfl,q _ ss' hn b2 b3⟩
end
section
variable {K: Frag} {H: Hp} {Q: VK} {p: Addr} {kvs: List (Key × V)} {ss: List Str}
theorem r_dictCp (e:Rd H p (.dK kvs)) (h:∀q,H q=none->Q (.ref q) (upd H q (.dK kvs))):rDictCp [.ref p] H Q:=⟨p,kvs,rfl,e,h⟩
theorem r_dclear (e:H p=some (.dK kvs)) (h:Q .non (upd H p (.dK []))):rDClear (.ref p) [] H Q:=⟨p,kvs,rfl,rfl,e,h⟩
theorem r_tyD {B:Prop} (h:H p=some (.dK kvs)) (q:B):tyV K "dict" (.ref p) H/\B:=⟨.inr (.inr (.inl ⟨rfl,.inl ⟨_,h⟩⟩)),q⟩
theorem r_sortL (e:SqL K H p (ss.map V.str)) (hz:ss.length < 64) (h:∀l ss',H l=none->ss'.Perm ss->sortedS ss'=true->Q (.ref l) (upd H l (.lst (ss'.map V.str)))):rSortL K [.ref p] H Q:=⟨p,ss,rfl,e,hz,h⟩
theorem r_sortD (e:Rd H p (.dK kvs)) (hk:kvs.map (·.1)=ss.map Sum.inr) (hz:ss.length < 64) (h:∀l ss',H l=none->ss'.Perm ss->sortedS ss'=true->Q (.ref l) (upd H l (.lst (ss'.map V.str)))):rSortD [.ref p] H Q:=⟨p,kvs,ss,rfl,e,hk,hz,h⟩
end
structure AD (kvs:List (Key × V)) (f:Str->Option Int):Prop where
 nd:(kvs.map (·.1)).Nodup
 sh:∀p∈kvs,∃z i,p=(Sum.inr z,V.int i)
 get:∀z,qbq kvs (Sum.inr z)=(f z).map V.int
def noF:Str->Option Int:=fun _=>none
def qfm (f:Str->Option Int) (z:Str) (i:Int):Str->Option Int:=fun y=>if y=z then some i else f y
theorem AD.nil:AD [] noF:=⟨yY,fun p hp=>absurd hp (by simp),fun z=>rfl⟩
theorem AD.cast {kvs:List (Key × V)} {f g:Str->Option Int} (h:AD kvs f) (e:∀z,f z=g z):AD kvs g:=⟨h.nd,h.sh,fun z=>by rw [h.get,e]⟩
theorem putK_keys {kvs:List (Key × V)} {k:Key} {v:V} (h:qbq kvs k≠none):(qco kvs k v).map (·.1)=kvs.map (·.1):=by
 unfold qco
 have e:(kvs.any fun kv=>decide (kv.1=k))=true:=by rw [qc6];cases q:qbq kvs k with
  |none=>exact absurd q h
  |some _=>rfl
 rw [if_pos e,yQ]
 apply yO
 intro p _
 show (if p.1=k then (p.1,v) else p).1=p.1
 split <;> rfl
theorem putK_mem {kvs:List (Key × V)} {k:Key} {v:V} {p:Key × V} (h:p∈qco kvs k v):p=(k,v)\/p∈kvs:=by
 unfold qco at h
 split at h
 .obtain⟨q,hq,e⟩:=zJ.mp h
  split at e
  .rename_i ek;subst ek;exact .inl e.symm
  .subst e;exact .inr hq
 .rcases zN.mp h with h|h
  .exact .inr h
  .exact .inl (by simpa using h)
theorem AD.put {kvs:List (Key × V)} {f:Str->Option Int} (h:AD kvs f) (z:Str) (i:Int):AD (qco kvs (Sum.inr z) (.int i)) (qfm f z i):=by
 refine⟨?_,fun p hp=>?_,fun y=>?_⟩
 .cases q:qbq kvs (Sum.inr z) with
  |none=>exact nd_putK _ h.nd q
  |some v=>rw [putK_keys (by rw [q];simp)];exact h.nd
 .rcases putK_mem hp with rfl|hp
  .exact⟨z,i,rfl⟩
  .exact h.sh p hp
 .rw [valV_put]
  unfold qfm
  by_cases e:y=z
  .subst e;rw [if_pos rfl,if_pos rfl];rfl
  .rw [if_neg (fun q=>e (Sum.inr.inj q)),if_neg e];exact h.get y
theorem AD.flat {kvs:List (Key × V)} {f:Str->Option Int} (h:AD kvs f):∀p∈kvs,qd6 p.2=true:=fun p hp=>by
 obtain⟨z,i,rfl⟩:=h.sh p hp
 rfl
theorem qdp {kvs:List (Key × V)} (nd:(kvs.map (·.1)).Nodup) {k:Key} {v:V} (h:(k,v)∈kvs):qbq kvs k=some v:=by
 induction kvs with
 |nil=>simp at h
 |cons p r ih=>
  rw [zM,zX] at nd
  rcases zV.mp h with rfl|h
  .exact qbu rfl
  .have ne:¬p.1=k:=fun e=>nd.1 (e ▸ zJ.mpr ⟨(k,v),h,rfl⟩)
   rw [qbv ne]
   exact ih nd.2 h
theorem AD.mem {kvs:List (Key × V)} {f:Str->Option Int} (h:AD kvs f) {k:Key} {v:V} (hm:(k,v)∈kvs):∃z n,k=Sum.inr z/\v=.int n/\f z=some n:=by
 obtain⟨z,n,e⟩:=h.sh _ hm
 cases e
 have q:=qdp h.nd hm
 rw [h.get] at q
 cases hf:f z with
 |none=>rw [hf] at q;cases q
 |some m=>rw [hf] at q;cases q;exact⟨z,_,rfl,rfl,hf⟩
def qda (kvs:List (Key × V)):List Str:=kvs.filterMap fun p=>match p.1 with| .inr z=>some z| .inl _=>none
theorem AD.keys {kvs:List (Key × V)} {f:Str->Option Int} (h:AD kvs f):kvs.map (·.1)=(qda kvs).map Sum.inr:=by
 have sh:=h.sh
 clear h
 induction kvs with
 |nil=>rfl
 |cons p r ih=>
  obtain⟨z,i,rfl⟩:=sh p (zC ..)
  show Sum.inr z :: r.map (·.1)=(z :: qda r).map Sum.inr
  rw [zM,ih fun q hq=>sh q (zF _ hq)]
theorem AD.klen {kvs:List (Key × V)} {f:Str->Option Int} (h:AD kvs f):(qda kvs).length=kvs.length:=by
 have:=congrArg List.length h.keys
 simpa using this.symm
theorem AD.knd {kvs:List (Key × V)} {f:Str->Option Int} (h:AD kvs f):(qda kvs).Nodup:=by
 have nd:=h.nd
 rw [h.keys] at nd
 exact List.Pairwise.imp (fun ne e=>ne (congrArg Sum.inr e)) (List.pairwise_map.mp nd)
theorem AD.kin {kvs:List (Key × V)} {f:Str->Option Int} (h:AD kvs f) (z:Str):z∈qda kvs↔f z≠none:=by
 constructor
 .intro hz
  have hm:(Sum.inr z:Key)∈kvs.map (·.1):=by rw [h.keys];exact zJ.mpr ⟨z,hz,rfl⟩
  obtain⟨⟨k,v⟩,hp,e⟩:=zJ.mp hm
  dsimp only at e
  subst e
  obtain⟨z',n,e1,_,hf⟩:=h.mem hp
  cases e1
  rw [hf];simp
 .intro hf
  cases q:f z with
  |none=>exact absurd q hf
  |some n=>
   have hv:=h.get z
   rw [q] at hv
   have hm:=valV_in hv
   rw [h.keys] at hm
   obtain⟨y,hy,e⟩:=zJ.mp hm
   cases e
   exact hy
theorem nd_le:∀{l m:List Str},l.Nodup->(∀a∈l,a∈m)->l.length<=m.length
 | [],_,_,_=>Nat.zero_le _
 |a :: l,m,nd,h=>by
  have ha:=h a (zC ..)
  rw [zX] at nd
  have q:=nd_le (l:=l) (m:=m.erase a) nd.2 fun b hb=>(List.mem_erase_of_ne (fun(e:b=a)=>nd.1 (by rw [<-e];exact hb))).mpr (h b (zF _ hb))
  rw [List.length_erase_of_mem ha] at q
  have:0 < m.length:=List.length_pos_of_mem ha
  simp only [zR]
  omega
theorem AD.le {kvs:List (Key × V)} {f:Str->Option Int} (h:AD kvs f) {ws:List Str} (hs:∀z,f z≠none->z∈ws):kvs.length<=ws.length:=by
 rw [<-h.klen]
 exact nd_le h.knd fun z hz=>hs z ((h.kin z).mp hz)
theorem AD.eq {ka kb:List (Key × V)} {f:Str->Option Int} (h:AD ka f) (h':AD kb f):(ka.length==kb.length && ka.all fun p=>(qbq kb p.1).elim false (eqV p.2))=true:=by
 rw [Bool.and_eq_true,beq_iff_eq,yM]
 constructor
 .have l1:=nd_le h.knd fun z hz=>(h'.kin z).mpr ((h.kin z).mp hz)
  have l2:=nd_le h'.knd fun z hz=>(h.kin z).mpr ((h'.kin z).mp hz)
  rw [h.klen,h'.klen] at l1
  rw [h.klen,h'.klen] at l2
  omega
 .rintro⟨k,v⟩ hp
  obtain⟨z,n,rfl,rfl,hf⟩:=h.mem hp
  show ((qbq kb (Sum.inr z)).elim false (eqV (.int n)))=true
  rw [h'.get,hf]
  show (n==n)=true
  simp
theorem AD.at {kvs:List (Key × V)} {f:Str->Option Int} (h:AD kvs f) {i:Nat} {k:Key} {v:V} (e:kvs[i]?=some (k,v)):∃z n,k=Sum.inr z/\v=.int n/\f z=some n/\(qda kvs)[i]?=some z:=by
 obtain⟨z,n,rfl,rfl,hf⟩:=h.mem (zK e)
 refine⟨z,n,rfl,rfl,hf,?_⟩
 have q:(kvs.map (·.1))[i]?=some (Sum.inr z):=by rw [zD,e];rfl
 rw [h.keys,zD] at q
 obtain⟨y,hy,e⟩:=Option.map_eq_some_iff.mp q
 cases e
 exact hy
def leS (a b:Str):Prop:=ltCps b.cps.toList a.cps.toList=false
theorem qgq {a b:Str}:leS a b↔a.cps.toList<=b.cps.toList:=by
 unfold leS
 rw [ltCps_eq,decide_eq_false_iff_not]
 exact List.not_lt
theorem leS_refl (a:Str):leS a a:=qgq.mpr (List.le_refl _)
theorem leS_trans {a b c:Str} (h:leS a b) (h':leS b c):leS a c:=qgq.mpr (List.le_trans (qgq.mp h) (qgq.mp h'))
theorem rising_pw:∀{p:Str} {l:List Str},risingS p l=true->(p :: l).Pairwise leS
 |p, [],_=>List.pairwise_singleton _ _
 |p,x :: r,h=>by
  have h':(!ltCps x.cps.toList p.cps.toList && risingS x r)=true:=h
  rw [Bool.and_eq_true,Bool.not_eq_true'] at h'
  have q:=rising_pw h'.2
  refine List.pairwise_cons.mpr ⟨fun y hy=>?_,q⟩
  rcases zV.mp hy with rfl|hy
  .exact h'.1
  .exact leS_trans h'.1 (List.rel_of_pairwise_cons q hy)
theorem sorted_pw:∀{l:List Str},sortedS l=true->l.Pairwise leS
 | [],_=>List.Pairwise.nil
 |x :: r,h=>rising_pw h
def gN (f:Str->Option Int) (z:Str):Int:=(f z).getD 0
def qd7 (f g:Str->Option Int):Str->Option Int:=fun y=>match g y with|none=>f y|some b=>some (gN f y+b)
def qcv (f:Str->Option Int):Str->Option Int:=fun y=>match f y with|none=>none|some a=>if 0 < a then some a else none
theorem gN_get {kvs:List (Key × V)} {f:Str->Option Int} (h:AD kvs f) (z:Str):(qbq kvs (Sum.inr z)).getD (.int 0)=.int (gN f z):=by
 rw [h.get]
 unfold gN
 cases f z <;> rfl
theorem qbo {l:List Str} {i:Nat} {z:Str} (h:l[i]?=some z) (y:Str):y∈l.take (i+1)↔y∈l.take i\/y=z:=by
 rw [zT,h,zN]
 simp
section
variable {σ: L2.St} {H H': Hp} {Q: VK} {D: Ends} {td ty tx tv: TE} {a b p: Addr} {kvs kb: List (Key × V)} {f: Str -> Option Int} {z: Str} {n: Int} {v: V} {o: Obj}
def rDG (a:Addr) (y z:V) (H:Hp) (Q:VK):Prop:=∃o,DGet H a y o/\Q (o.getD z) H
def kDG2 (ty tx:TE) (σ:L2.St) (Q:VK) (x:V) (H:Hp):Prop:=∃a,x=.ref a/\IsD H a/\ty σ H fun y H2=>tx σ H2 fun z H3=>rDG a y z H3 Q
theorem r_dg2 (h:td σ H fun x H1=>kDG2 ty tx σ Q x H1):tDGet2 td ty tx σ H Q:=h
theorem r_dg2a (d:Rd H a (.dK kvs)) (h:ty σ H fun y H2=>tx σ H2 fun z H3=>rDG a y z H3 Q):kDG2 ty tx σ Q (.ref a) H:=⟨a,rfl,.inl ⟨kvs,d⟩,h⟩
theorem r_dg2b (d:Rd H a (.dK kvs)) (A:AD kvs f) (h:Q (.int (gN f z)) H):rDG a (.str z) (.int 0) H Q:=by
 refine⟨qbq kvs (Sum.inr z),.inl ⟨kvs,Sum.inr z,d,rfl,rfl⟩,?_⟩
 rw [gN_get A]
 exact h
def rDGk (x y:V) (H:Hp) (Q:VK):Prop:=∃a v,x=.ref a/\DGet H a y (some v)/\Q v H
theorem r_dg (h:td σ H fun x H1=>ty σ H1 fun y H2=>rDGk x y H2 Q):tDGet td ty σ H Q:=h
theorem r_dgk (d:Rd H a (.dK kvs)) (A:AD kvs f) (e:f z=some n) (h:Q (.int n) H):rDGk (.ref a) (.str z) H Q:=
 ⟨a,.int n,rfl,.inl ⟨kvs,Sum.inr z,d,rfl,by rw [A.get,e];rfl⟩,h⟩
def rDP (x y v:V) (H:Hp) (D:Ends) (σ:L2.St):Prop:=∃a H4,x=.ref a/\DPut H a y v H4/\D.nx σ H4
theorem r_dp (h:tv σ H fun v H1=>td σ H1 fun x H2=>ty σ H2 fun y H3=>rDP x y v H3 D σ):sDPut td ty tv D σ H:=h
theorem r_dpk (e:H a=some (.dK kvs)) (hz:kvs.length < sizeLine) (h:D.nx σ (upd H a (.dK (qco kvs (Sum.inr z) v)))):rDP (.ref a) (.str z) v H D σ:=⟨a,_,rfl,DPut.k (k:=Sum.inr z) e hz,h⟩
def rDI (x y:V) (H:Hp) (Q:VK):Prop:=∃a o,x=.ref a/\DGet H a y o/\Q (.bl o.isSome) H
theorem r_di (h:ty σ H fun y H1=>td σ H1 fun x H2=>rDI x y H2 Q):tDIn ty td σ H Q:=h
theorem r_dnew (h:∀p,H p=none->Q (.ref p) (upd H p (.dK []))):tDNewK σ H Q:=h
theorem qch (e:H a=some (.dK kvs)):NoFrz H a:=fun o u z=>by rw [e] at z;cases z
theorem qev (d:Rd H a (.dK kvs)) (n:H p=none) {u:HO}:Rd (upd H p u) a (.dK kvs):=by
 rcases d with d|⟨o,d⟩
 .exact .inl (qa8 d n)
 .exact .inr ⟨o,qa8 d n⟩
theorem rd_in (d:Rd H b (.dK kb)) (ea:H a=some (.dK kvs)) (sb:SameBut a H H') (fz:H' a=some (.frz o (.dK kvs))):Rd H' b (.dK kb):=by
 by_cases e:b=a
 .subst e
  rcases d with d|⟨o',d⟩
  .rw [ea] at d;cases d;exact .inr ⟨o,fz⟩
  .rw [ea] at d;cases d
 .rcases d with d|⟨o',d⟩
  .exact .inl (sb _ _ e d)
  .exact .inr ⟨o',sb _ _ e d⟩
theorem qc2 (e:H a=some (.dK kvs)) (sb:SameBut a H H'):qas H (upd H' a (.dK kvs)):=fun b u q=>by
 by_cases h:b=a
 .subst h;rw [qa1];rw [e] at q;exact q
 .rw [qa6 h];exact sb b u h q
theorem sb_frz (e:H a=some (.dK kvs)):SameBut a H (upd H a (.frz o (.dK kvs))):=fun b u h q=>by rw [qa6 h];exact q
theorem qfy {l:Addr} {u:HO} (sb:SameBut a H H') (n:H l=none):SameBut a H (upd H' l u):=fun b w h q=>by
 rw [qa6 (qa2 q n)];exact sb b w h q
theorem qbf {l:Addr} {u:HO} (s:qas H H') (n:H l=none):qas H (upd H' l u):=fun b w q=>by rw [qa6 (qa2 q n)];exact s b w q
end
def viol (f g:Str->Option Int) (y:Str):Prop:=f y≠none/\gN g y < gN f y
theorem qdj {f g:Str->Option Int} {ws:List Str} (hf:∀z,f z≠none->z∈ws) (hg:∀z,g z≠none->z∈ws) (z:Str) (h:qd7 f g z≠none):z∈ws:=by
 unfold qd7 at h
 cases e:g z with
 |none=>rw [e] at h;exact hf z h
 |some b=>exact hg z (by rw [e];simp)
theorem qge {l:List Str} {i:Nat} {z:Str} (h:l[i]?=some z) (F G:Str->Option Int) {v:Int} (hv:F z=some v) (y:Str):qfm (fun y=>if y∈l.take i then F y else G y) z v y=if y∈l.take (i+1) then F y else G y:=by
 unfold qfm
 by_cases e:y=z
 .subst e
  rw [if_pos rfl,if_pos ((qbo h y).mpr (.inr rfl)),hv]
 .rw [if_neg e]
  by_cases e2:y∈l.take i
  .rw [if_pos ((qbo h y).mpr (.inl e2))];exact if_pos e2
  .rw [if_neg (fun q=>((qbo h y).mp q).elim e2 e)];exact if_neg e2
theorem step_no {l:List Str} {i:Nat} {z:Str} (h:l[i]?=some z) (F G:Str->Option Int) (hv:F z=G z) (y:Str):(if y∈l.take i then F y else G y)=if y∈l.take (i+1) then F y else G y:=by
 by_cases e2:y∈l.take i
 .rw [if_pos e2,if_pos ((qbo h y).mpr (.inl e2))]
 .rw [if_neg e2]
  by_cases e:y=z
  .subst e
   rw [if_pos ((qbo h y).mpr (.inr rfl)),hv]
  .rw [if_neg (fun q=>((qbo h y).mp q).elim e2 e)]
theorem qgf {kvs:List (Key × V)} {g:Str->Option Int} (hB:AD kvs g) (F G:Str->Option Int) (hn:∀y,g y=none->F y=G y) (y:Str):(if y∈(qda kvs).take kvs.length then F y else G y)=F y:=by
 rw [<-hB.klen,zZ]
 by_cases e:y∈qda kvs
 .rw [if_pos e]
 .rw [if_neg e]
  refine(hn y ?_).symm
  cases hf:g y with
  |none=>rfl
  |some n=>exact absurd ((hB.kin y).mpr (by rw [hf];simp)) e
section
variable {X: Cx}
theorem qf2 {elt iter:Expr} {x y:Str} {px py:Pos} {ifs:List Expr} {scope:Scope} {cl:List (Str × Addr)} {pos spos:Pos} {caps:List Nat} {cn:List Str} {wi:TI} {tt:CT TT} {te:CT TE} {j:Nat} (Cp:Caps X x scope cl caps cn) (hc:X.calm=true)
  (hN:X.N.Nodup) (hy:X.N[j]?=some y) (hly:X.env.scope.names.lookup y=some .local)
  (hi:PI X (.Name x px) iter wi) (ht:∀C s H fp,PIfs (cxC X (x :: cn) scope cl C s H fp) ifs (tt C s H fp)) (he:∀C s H fp,PE (cxC X (x :: cn) scope cl C s H fp) elt (te C s H fp))
  (hsw:swapsWith (.ListComp elt [⟨.Name x px,iter,ifs,0⟩] scope pos) (some (.Name y py)) spos.line X.env=pure true:=by rfl) (hs:∀x,foldedSetIterable iter X.env x=pure x:=by intro _;rfl):
  PS X (.Assign [.Name y py] (.ListComp elt [⟨.Name x px,iter,ifs,0⟩] scope pos) spos) (tAsg (tComp wi caps tt te) (qfb j)):=by
 intro pins s σ H D I h
 replace h:tComp wi caps tt te σ H (fun v H1=>D.nx (σ.set j (some v)) H1):=h
 rw [exec_Assign_Name_used _ _ _ _ hsw]
 refine wpAny_bind (wpAny_standAt (wpAny_bind ?_))
 show wpAny _ X.A (do let _<-comprehension (.ListComp elt [⟨.Name x px,iter,ifs,0⟩] scope pos) scope X.env _ (newList []) false (eval iter X.env) (some (assign (.Name y py) X.env))) _ _ s
 refine wpAny_bind (wpAny_mono (wpAny_comprehension_free (use:=some (assign (.Name y py) X.env)) (Q:=fun _ s'=>SP X pins D .next s') rfl hs Cp.clos Cp.kind Cp.names
  (thn (hi pins s σ H _ I h) fun v s1 h1=>thn h1 fun itv s2 h2=>?_)) (fun _ s' hq=>wpAny_pure (wpAny_pure hq)) fun _ _ e=>e)
 obtain⟨it,fp,tn,J,H2,e,I2,T,st2,f2,R⟩:=h2
 subst e
 have hacc:H2 s2.heap.objs.size=none:=I2.hok.fresh (Nat.le_refl _)
 refine wpAny_newObj_type ?_
 have I3:Inv X pins σ (upd H2 s2.heap.objs.size (.lst [])) {s2 with heap:=s2.heap.push {cls:=.type "list",dict:=none,data:=.seq ([]:List Value).toArray}}:=Inv.lnew (its:=[]) (t':=s2.toks) I2 .nil (Nat.zero_le _)
 have lt2:∀b∈fp,b < s2.heap.objs.size:=fun b hb=>let ⟨o,e,_⟩:=T.obj _ _ st2 b hb;Heap.lt_size e
 have f3:∀b∈fp,FpOk X pins (upd H2 s2.heap.objs.size (.lst [])) b:=fun b hb=>⟨by rw [qa6 (Nat.ne_of_lt (lt2 b hb))];exact(f2 b hb).1,(f2 b hb).2⟩
 have st3:tn 0 (s2.heap.push {cls:=.type "list",dict:=none,data:=.seq ([]:List Value).toArray}):=T.keep _ _ _ st2 fun b _ o e=>Heap.get?_push_of_some _ e
 generalize hs3:({s2 with heap:=s2.heap.push {cls:=.type "list",dict:=none,data:=.seq ([]:List Value).toArray}}:Shared)=s3 at I3 ⊢
 have st3':tn 0 s3.heap:=by rw [<-hs3];exact st3
 generalize s2.heap.objs.size=acc at hacc I3 f3 ⊢
 obtain⟨W,⟨m0,w0⟩,turn⟩:=R s3.heap.objs.size s3 (upd H2 acc (.lst [])) fp acc hacc
 have lt3:∀b∈fp,b < s3.heap.objs.size:=fun b hb=>let ⟨o,e,_⟩:=T.obj _ _ st3' b hb;Heap.lt_size e
 clear st3 hs3
 refine wpAny_newFunctionEnv Cp.cell (by intro y hy;simp at hy) (fun h₁ hns hsb=>?_) Cp.kind
 have k1:∀b o,s3.heap.get? b=some o->h₁.get? b=some o:=fun b o e=>hsb.extBut b o (Nat.ne_of_lt (Heap.lt_size e)) (Heap.get?_push_of_some _ e)
 have I4:Inv (cxC X (x :: cn) scope cl s3.heap.objs.size s3 (upd H2 acc (.lst [])) fp) [] (none :: qbc caps σ) (upd H2 acc (.lst [])) {s3 with heap:=h₁,toks:=s3.toks+([]:List (Str × Value)).length}:=
  Inv.comp Cp I3 f3 lt3 hns k1
 have st4:tn 0 h₁:=T.keep _ _ _ st3' fun b _ o e=>k1 b o e
 generalize hX:cxC X (x :: cn) scope cl s3.heap.objs.size s3 (upd H2 acc (.lst [])) fp=X' at I4
 have stat:∀{H':Hp},(∀b∈fp,H' b=none)->∀b∈fp,FpOk X' [] H' b:=fun hn b hb=>by
  subst hX
  obtain⟨g0,g1,g2,g3,g4,g5⟩:=f3 b hb
  refine⟨hn b hb,Nat.ne_of_lt (lt3 b hb),fun z=>?_,.inl hb,fun y c e=>g4 y c (Cp.sub y c e),fun p hp=>absurd (show p∈([]:List (Addr × Obj)) from hp) (by simp)⟩
  rcases zV.mp (I3.stkSub b z) with z|z
  .exact g1 z
  .exact g2 z
 have core:codeAny (model X.prog X.w) X.A (.compLoop (.ListComp elt [⟨.Name x px,iter,ifs,0⟩] scope pos) 0 (.ref it) (.ref acc) (compEnvC scope cl s3.heap.objs.size X.env))
   (compPost (model X.prog X.w) X.A X.xe (some (assign (.Name y py) X.env)) (fun _ s'=>SP X pins D .next s') (.ref acc) s3.heap.objs.size) {s3 with heap:=h₁,toks:=s3.toks+([]:List (Str × Value)).length}:=by
  refine codeAny_loop rfl (fun n s'=>∃i a H',Inv X' [] (a :: qbc caps σ) H' s'/\tn i s'.heap/\(∀b∈fp,H' b=none)/\W i n H') (fun n s5 hI=>?_) m0 ⟨0,none,_,I4,st4,fun b hb=>(f3 b hb).1,w0⟩
  obtain⟨i,a0,H5,I5,st5,fr5,w5⟩:=hI
  show wpAny _ _ ((compTurn _ 0 _ _ _).onRaise _) _ _ s5
  refine wpAny_noted ?_
  rw [compTurn_list]
  refine wpAny_bind (wpAny_standAt (wpAny_bind ?_))
  have aX:X'.A=X.A:=by subst hX;rfl
  have pX:X'.prog=X.prog:=by subst hX;rfl
  have wX:X'.w=X.w:=by subst hX;rfl
  have kX:X'.K=X.K:=by subst hX;rfl
  have cX:X'.calm=true:=by subst hX;exact hc
  have eX:X'.env=compEnvC scope cl s3.heap.objs.size X.env:=by subst hX;rfl
  rcases turn i n H5 w5 with ⟨stop,qn⟩ |⟨go,N,hN,step⟩
  .have z:=T.done X' pX wX kX cX i [] s5 _ H5 (fun _ _=>False) I5 (stat fr5) st5 stop
   rw [aX] at z
   refine wpAny_mono z (fun r s6 ⟨hr,I6⟩=>?_) fun _ _ q=>q.elim
   subst hr
   subst hX
   obtain⟨m,hm,_⟩:=id I6.loc
   have J0:Inv X pins σ H5 s6:=Inv.uncomp I3 f3 rfl I6 (h':=s6.heap) ⟨rfl,fun _ _=>rfl⟩
   have fC:FpOk X pins H5 s3.heap.objs.size:=I3.fpOk (Nat.le_refl _) I6.free
   refine wpAny_pure ?_
   show wpAny _ X.A (assign (.Name y py) X.env (.ref acc)) _ _ s6
   refine wpAny_assign_Name (store_ok2 (X:=X) (v:=.ref acc) J0 hN hy (.inl hly) rfl (fun s7 I7 ⟨a,sb,ha⟩=>?_) (.inr hly))
   have nC:s3.heap.objs.size≠a:=by
    rcases ha with rfl|ha
    .exact fC.2.1
    .exact(fC.2.2.2.2.1 y a ha).symm
   refine⟨m,hm.sameBut sb nC,fun h' sb'=>⟨_,H5,?_,qn⟩⟩
   exact I7.turned (t':=s7.toks) (fun b o hb e=>(sb'.2 b hb).trans e) fC.1 fC.2.1 fC.2.2.2.1 fC.2.2.2.2.1 fC.2.2.2.2.2
  .have z:=T.item X' pX wX kX cX i [] s5 _ H5 (fun _ _=>False) I5 (stat fr5) st5 go
   rw [aX] at z
   refine wpAny_mono z (fun r s6 ⟨u,hr,h6⟩=>?_) fun _ _ q=>q.elim
   subst hr
   refine wpAny_bind (wpAny_mono h6 (fun _ s7 ⟨v,H7,I7,r7,y7,st7,fr7⟩=>?_) fun _ _ q=>q.elim)
   have I7':=I7.pinned (stat fr7) (T.obj _ _ st7)
   have asg:wpAny (model X.prog X.w) X.A (assign (.Name x px) (compEnvC scope cl s3.heap.objs.size X.env) u) (fun _ s8=>Inv X' ([]++qcq fp s7.heap) (some v :: qbc caps σ) H7 s8) (fun _ _=>False) s7:=by
    subst hX
    exact wpAny_assign_Name (qeo (X:=cxC X (x :: cn) scope cl s3.heap.objs.size s3 (upd H2 acc (.lst [])) fp) (i:=0) I7' Cp.nd rfl (.inl (lookup_relabel_local Cp.tg)) r7 (fun s' I'=>I') (.inr (lookup_relabel_local Cp.tg)))
   refine wpAny_bind (wpAny_mono asg (fun _ s8 I8=>?_) fun _ _ q=>q.elim)
   have tst:wpAny (model X.prog X.w) X.A (forIn ifs true fun c r=>if r=true then do let ok<-isTrue c (compEnvC scope cl s3.heap.objs.size X.env) (eval c (compEnvC scope cl s3.heap.objs.size X.env));pure (ForInStep.yield ok) else pure (ForInStep.yield r))
     (TP X' ([]++qcq fp s7.heap) (some v :: qbc caps σ) (fun b H9=>if b=true then te s3.heap.objs.size s3 (upd H2 acc (.lst [])) fp (some v :: qbc caps σ) H9 (fun y H3=>rApp acc N y H3) else N H9)) (fun _ _=>False) s8:=by
    subst hX
    exact ht _ _ _ _ _ s8 _ H7 _ I8 (step v H7 y7)
   refine wpAny_bind (wpAny_mono tst (fun b s9 ⟨H9,I9,q9⟩=>?_) fun _ _ q=>q.elim)
   have fin:∀{a:Option V} {H10:Hp} {s10:Shared},Inv X' ([]++qcq fp s7.heap) (a :: qbc caps σ) H10 s10->N H10->∃m',m' < n/\∃i a H',Inv X' [] (a :: qbc caps σ) H' s10/\tn i s10.heap/\(∀b∈fp,H' b=none)/\W i m' H':=fun {a H10 s10} I10 n10=>
    let ⟨m',hm,w10⟩:=hN _ n10
    ⟨m',hm,i+1,a,H10,I10.unpinned,T.keep _ _ _ st7 fun b hb o e=>(I10.pin (b,o) (zI _ (zI _ (qci hb e)))).1,fun b hb=>by
     obtain⟨o,e,d⟩:=T.obj _ _ st7 b hb
     exact(I10.pin (b,o) (zI _ (zI _ (qci hb e)))).2.1,w10⟩
   cases b with
   |false=>exact wpAny_pure ⟨rfl,fin I9 q9⟩
   |true=>
    have elt':wpAny (model X.prog X.w) X.A (eval elt (compEnvC scope cl s3.heap.objs.size X.env)) (EP X' ([]++qcq fp s7.heap) (some v :: qbc caps σ) (fun y H3=>rApp acc N y H3)) (fun _ _=>False) s9:=by
     subst hX
     exact he _ _ _ _ _ s9 _ H9 _ I9 q9
    refine wpAny_bind (wpAny_bind (wpAny_mono elt' (fun y s10 ⟨w,H10,I10,r10,ys,ha,hz,q10⟩=>?_) fun _ _ q=>q.elim))
    have app:wpAny (model X.prog X.w) X.A (call (.builtin "list.append") [.ref acc,y]) (EP X' ([]++qcq fp s7.heap) (some v :: qbc caps σ) fun _ H11=>H11=upd H10 acc (.lst (ys++ [w]))) (fun _ _=>False) s10:=by
     subst hX
     exact qbt (X:=cxC X (x :: cn) scope cl s3.heap.objs.size s3 (upd H2 acc (.lst [])) fp) _ s10 _ H10 (.ref acc) [w] (.ref acc) [y] _ I10 rfl (.cons r10 .nil) ⟨acc,ys,w,rfl,rfl,ha,hz,rfl⟩
    refine wpAny_bind (wpAny_mono app (fun _ s11 ⟨_,H11,I11,_,e11⟩=>?_) fun _ _ q=>q.elim)
    subst e11
    exact wpAny_pure (wpAny_pure ⟨rfl,fin I11 q10⟩)
 exact codeAny_compStart_list core (T.self _ 0 _ _ _ st4 core)
end
section
variable {prog: Program} {w: World} {A: Around} {E: Value -> Shared -> Prop} {s: Shared}
theorem set_exact {l:Addr} {items:Array Value} {n:Nat} {k:Int} {t:Tok} {v:Value} {Q:Unit->Shared->Prop} (ho:s.heap.get? l=some {cls:=.type "list",data:=.seq items n}) (h0:0<=k) (hk:k < items.size) (hfit:k < 2^63)
  (q:Q () {s with heap:=s.heap.update l (Obj.mapSeq fun a=>a.setIfInBounds k.toNat v)}):wpAny (model prog w) A (setItem (.ref l) (.int k t) v) Q E s:=by
 have hT:s.TypeIs (.ref l) "list":=⟨_,ho,rfl⟩
 unfold setItem
 try with_reducible refine wpAny_holding ?_
 first|refine wpAny_bind (wpAny_pure ?_) |skip
 refine wpAny_bind (wpAny_sequenceKey hT (by decide) ?_)
 refine wpAny_bind (wpAny_callSpecial?_slot (name:=Str.ofString "__setitem__") hT slot_list_setitem (wpAny_call_entry slot_list_setitem hT entry_list_setitem ?_ (args_list_setitem _ _ _)))
 show wpAny _ _ (Builtin.List.listSubscript? (.int k t) >>= _) _ _ s
 refine wpAny_bind (wpAny_listSubscript_int (fitsIndex_of h0 hfit) ?_)
 clear hfit
 obtain⟨j,rfl⟩:=Int.eq_ofNat_of_zero_le h0
 have hj:j < items.size:=by omega
 have hx:items[j]?=some items[j]:=Array.getElem?_eq_getElem hj
 show wpAny _ _ ((seqItemAt l j >>= fun r=>pure (r.map (j,·))) >>= _) _ _ s
 refine wpAny_bind (wpAny_bind (wpAny_seqItemAt ho rfl (wpAny_pure ?_)))
 rw [hx]
 show wpAny _ _ (setSeqItemAt l j v >>= _) _ _ s
 refine wpAny_bind (wpAny_setSeqItemAt ho rfl ?_)
 first
 |exact wpAny_bind (wpAny_pure (wpAny_pure ⟨.none,rfl,wpAny_pure q⟩))
 |exact wpAny_pure ⟨.none,rfl,wpAny_pure q⟩
end
def rLP (x y v:V) (H:Hp) (D:Ends) (σ:L2.St):Prop:=∃l xs k,x=.ref l/\y=.int (k:Nat)/\H l=some (.lst xs)/\k < xs.length/\D.nx σ (upd H l (.lst (xs.set k v)))
def sLPut (td ty tv:TE):TS:=fun D σ H=>tv σ H fun v H1=>td σ H1 fun x H2=>ty σ H2 fun y H3=>rLP x y v H3 D σ
theorem qf1 {X:Cx} {o i value:Expr} {pos pos':Pos} {td ty tv:TE} (ho:PE X o td) (hi:PE X i ty) (hv:PE X value tv) (hs:swapsWith value (some (.Subscript o i pos')) pos.line X.env=pure false):PS X (.Assign [.Subscript o i pos'] value pos) (sLPut td ty tv):=by
 intro pins s σ H D I h
 refine wpAny_Assign_Subscript (thn (hv pins s σ H _ I h) fun r s1 ⟨v,H1,I1,rv,q1⟩=>thn (ho pins s1 σ H1 _ I1 q1) fun u s2 ⟨x,H2,I2,rx,q2⟩=>thn (hi pins s2 σ H2 _ I2 q2) fun iv s3 ⟨y,H3,I3,ry,q3⟩=>?_) hs
 obtain⟨l,xs,k,rfl,rfl,hl,hk,q⟩:=q3
 obtain rfl:u=Value.ref l:=rx
 obtain⟨t,rfl⟩:=ry
 obtain⟨z,its,n,rr,hlen,e⟩:=I3.lstM hl
 have hz:xs.length<=16777216:=z
 refine set_exact e (Int.natCast_nonneg k) (by simp;omega) (by omega) ?_
 rw [Int.toNat_natCast]
 exact⟨σ,_,I3.lset (its':=its.set k r) (ys:=xs.set k v) (t':=s3.toks) hl e (by simp) (rr.set rv k) (by rw [xB];exact z),q⟩
theorem qfs:∀{ss:List Str} {us:List Value},qb7 (ss.map V.str) us->∃l:List (Str × Tok),us=strValues l/\l.map (·.1)=ss
 | [],_,r=>by cases r;exact⟨[],rfl,rfl⟩
 |x :: ss,_,r=>by
  cases r with
  |cons h t=>
   obtain⟨k,rfl⟩:=h
   obtain⟨l,rfl,e⟩:=qfs t
   exact⟨(x,k) :: l,rfl,by rw [zM,e]⟩
theorem foldl_len (k:Nat):∀(ss:List Str) (a:Nat),ss.foldl (fun n x=>n+x.length+k) a=a+(ss.map (·.length)).sum+ss.length*k
 | [],a=>by simp
 |x :: ss,a=>by
  rw [yP,foldl_len k ss]
  simp only [zM,yZ,zR,Nat.add_mul]
  omega
section
variable {X: Cx}
def tAlt (t1 t2:TE):TE:=fun σ H Q=>t1 σ H Q\/t2 σ H Q
theorem pe_alt {e:Expr} {t1 t2:TE} (h1:PE X e t1) (h2:PE X e t2):PE X e (tAlt t1 t2):=fun pins s σ H Q I h=>h.elim (h1 pins s σ H Q I) (h2 pins s σ H Q I)
def rMax:List V->Hp->VK->Prop:=fun xs H Q=>∃i j,xs=[.int i,.int j]/\Q (.int (if j > i then j else i)) H
def rMin:List V->Hp->VK->Prop:=fun xs H Q=>∃i j,xs=[.int i,.int j]/\Q (.int (if j < i then j else i)) H
theorem call_maxR (hc:X.calm=true):qcp X (.builtin "max") rMax:=call_max2 hc
theorem call_minR (hc:X.calm=true):qcp X (.builtin "min") rMin:=call_min2 hc
end
section
variable {K: Frag} {σ: L2.St} {H: Hp} {Q: VK} {D: Ends} {td ty tv t1 t2: TE} {l: Addr} {xs: List V} {k: Nat} {v: V} {z: Str} {i j: Int}
theorem r_lp (h:tv σ H fun v H1=>td σ H1 fun x H2=>ty σ H2 fun y H3=>rLP x y v H3 D σ):sLPut td ty tv D σ H:=h
theorem r_lpk (e:H l=some (.lst xs)) (hk:k < xs.length) (h:D.nx σ (upd H l (.lst (xs.set k v)))) {y:Int} (ey:y=(k:Int)):rLP (.ref l) (.int y) v H D σ:=by subst ey;exact⟨l,xs,k,rfl,rfl,e,hk,h⟩
theorem r_tyS {B:Prop} (q:B):tyV K "str" (.str z) H/\B:=⟨rfl,q⟩
theorem r_alt1 (h:t1 σ H Q):tAlt t1 t2 σ H Q:=.inl h
theorem r_alt2 (h:t2 σ H Q):tAlt t1 t2 σ H Q:=.inr h
theorem r_max (h:Q (.int (if j > i then j else i)) H):rMax [.int i,.int j] H Q:=⟨i,j,rfl,h⟩
theorem r_min (h:Q (.int (if j < i then j else i)) H):rMin [.int i,.int j] H Q:=⟨i,j,rfl,h⟩
end
section
variable {K: Frag} {σ: L2.St} {H: Hp} {Q: VK} {D: Ends} {ta tv: TE} {t: TA} {a C dx: Addr} {fs: List (Str × V)} {f m: Str} {v y: V} {sp: Sp} {dvs: List V} {E: XK}
def kMk (C:Addr) (sp:Sp) (dvs:List V) (E:XK) (Q:VK) (vs:List V) (H:Hp):Prop:=∀x dx,H x=none->H dx=none->dx≠x->sp (.ref x ::(vs++dvs)) (upd (upd H dx (.own x)) x (.ins C dx [])) (fun v H2=>v=.non/\Q (.ref x) H2) E
theorem r_mk (h:t σ H fun vs H1=>kMk C sp dvs E Q vs H1):tMake C sp dvs E t σ H Q:=h
def kMt (C:Addr) (m:Str) (sp:Sp) (dvs:List V) (E:XK) (t:TA) (σ:L2.St) (Q:VK) (x:V) (H:Hp):Prop:=∃a dx fs,x=.ref a/\H a=some (.ins C dx fs)/\fs.lookup m=none/\t σ H fun vs H2=>sp (x ::(vs++dvs)) H2 Q E
theorem r_mt (h:ta σ H fun x H1=>kMt C m sp dvs E t σ Q x H1):tMeth C m sp dvs E ta t σ H Q:=h
theorem r_mtk (e:H a=some (.ins C dx fs)) (l:fs.lookup m=none) (h:t σ H fun vs H2=>sp (.ref a ::(vs++dvs)) H2 Q E):kMt C m sp dvs E t σ Q (.ref a) H:=⟨a,dx,fs,rfl,e,l,h⟩
def kFl (K:Frag) (f:Str) (Q:VK) (x:V) (H:Hp):Prop:=∃a C dx fs v,x=.ref a/\H a=some (.ins C dx fs)/\Cls K C/\qak K C f/\fs.lookup f=some v/\Q v H
theorem r_fl (h:ta σ H fun x H1=>kFl K f Q x H1):tFld K ta f σ H Q:=h
theorem r_flk (e:H a=some (.ins C dx fs)) (c:Cls K C) (n:qak K C f) (l:fs.lookup f=some v) (h:Q v H):kFl K f Q (.ref a) H:=⟨a,C,dx,fs,v,rfl,e,c,n,l,h⟩
def kFs (K:Frag) (f:Str) (y:V) (D:Ends) (σ:L2.St) (x:V) (H:Hp):Prop:=∃a C dx fs,x=.ref a/\H a=some (.ins C dx fs)/\Cls K C/\qak K C f/\fs.length < 1000/\D.nx σ (upd H a (.ins C dx (qdw f y fs)))
theorem r_fs (h:tv σ H fun y H1=>ta σ H1 fun x H2=>kFs K f y D σ x H2):sFld K ta tv f D σ H:=h
theorem qeb (e:H a=some (.ins C dx fs)) (c:Cls K C) (n:qak K C f) (hz:fs.length < 1000) (h:D.nx σ (upd H a (.ins C dx (qdw f y fs)))):kFs K f y D σ (.ref a) H:=⟨a,C,dx,fs,rfl,e,c,n,hz,h⟩
end
structure IsC (K:Frag) (C:Addr):Prop where
 ha:findIn K (.ref C) "__class__" =some (some (.builtin "object.__class__"))
 hn:specialIn K (.builtin "object.__class__") "__get__" =some (some (.builtin "getset_descriptor.__get__"))
 htk:PySem.W.takesIn K (.builtin "object.__class__")=some true
 hm:mroIn K C (.type "object")=some true
section
variable {X: Cx} {k: Nat} {f C: Addr} {fd: FuncData} {ps: List Str} {sp: Sp} {dvs: List V} {ds: List Value} {W: L2.St -> XK} {x m: Str} {p pos apos: Pos} {e o: Expr} {es: List Expr} {ta: TE} {t: TA}
def tMethX (C:Addr) (m:Str) (sp:Sp) (dvs:List V) (W:L2.St->XK) (ta:TE) (t:TA):TE:=fun σ H Q=>ta σ H fun x H1=>∃a dx fs,x=.ref a/\H1 a=some (.ins C dx fs)/\fs.lookup m=none/\t σ H1 fun vs H2=>sp (x ::(vs++dvs)) H2 Q (W σ)
theorem qai {pl:Sem Bool} (he:PE X o ta) (c:Cls X.K C) (hm:Meth X.K C m f) (F:FnOk X.prog X.w X.K X.mg X.base (CX1 X.prog X.w) k f fd ps sp) (hr:Room k X.A) (hb:qah X.K fd ps ds) (hd:qb7 dvs ds) (hx:Xes X W) (ha:PA X (e :: es) t) (hex:X.ex=[]:=by rfl)
  (hst:starEach (e :: es) X.env=(false,eval e X.env) :: starEach es X.env:=by rfl) (hpl:(backTo pos (starEach es X.env)).any (·.1)=false:=by rfl)
  (ht:eval (.Call (.Attribute o m apos) (e :: es) [] pos) X.env=(do
   let ov<-eval o X.env
   standAt apos.atName
   let (f,first)<-holding [ov] (getMethod ov m pl)
   callWith pos f first (backTo pos (starEach (e :: es) X.env)) (backToKw pos (keywordEach [] X.env))):=by rfl):
  PE X (.Call (.Attribute o m apos) (e :: es) [] pos) (tMethX C m sp dvs W ta t):=by
 intro pins s σ H Q I h
 refine PySem.W.methodCall_KW (pl:=pl) (thn (he pins s σ H _ I h) fun u s1 ⟨x,H1,I1,rx,a,dx,fs,ex,ea,l,q⟩=>?_) ht
 subst ex
 obtain rfl:u=Value.ref a:=rx
 refine qcz I1 ea c hm l (PySem.W.callWith_K (first:=[.ref a]) (h₀:=X.base) I.ok.mod.kin hm.kp (thn (ha pos pins s1 σ H1 _ I1 q) fun us s2 ⟨vs,H2,I2,r,q2⟩=>⟨I2.kIn,?_⟩) hst hpl)
 exact run_fnX (us:=.ref a :: us) (vs:=.ref a :: vs) F hr hb hd hx hex I2 (.cons rfl r) q2
theorem pe_methX0 {pl:Sem Bool} (he:PE X o ta) (c:Cls X.K C) (hm:Meth X.K C m f) (F:FnOk X.prog X.w X.K X.mg X.base (CX1 X.prog X.w) k f fd ps sp) (hr:Room k X.A) (hb:qah X.K fd ps ds) (hd:qb7 dvs ds) (hx:Xes X W) (hex:X.ex=[]:=by rfl)
  (ht:eval (.Call (.Attribute o m apos) [] [] pos) X.env=(do
   let ov<-eval o X.env
   standAt apos.atName
   let (f,first)<-holding [ov] (getMethod ov m pl)
   callWith pos f first (backTo pos (starEach [] X.env)) (backToKw pos (keywordEach [] X.env))):=by rfl):
  PE X (.Call (.Attribute o m apos) [] [] pos) (tMethX C m sp dvs W ta tNil):=by
 intro pins s σ H Q I h
 refine PySem.W.methodCall_KW (pl:=pl) (thn (he pins s σ H _ I h) fun u s1 ⟨x,H1,I1,rx,a,dx,fs,ex,ea,l,q⟩=>?_) ht
 subst ex
 obtain rfl:u=Value.ref a:=rx
 exact qcz I1 ea c hm l (PySem.W.callWith_K0 (first:=[.ref a]) I1.kIn hm.kp (run_fnX (us:=[.ref a]) (vs:=[.ref a]) F hr hb hd hx hex I1 (.cons rfl .nil) q))
def tMakeX (C:Addr) (sp:Sp) (dvs:List V) (W:L2.St->XK) (t:TA):TE:=fun σ H Q=>t σ H fun vs H1=>∀x dx,H1 x=none->H1 dx=none->dx≠x->sp (.ref x ::(vs++dvs)) (upd (upd H1 dx (.own x)) x (.ins C dx [])) (fun v H2=>v=.non/\Q (.ref x) H2) (W σ)
theorem run_makeX {pins:List (Addr × Obj)} {σ:L2.St} {H:Hp} {s:Shared} {Q:VK} {us:List Value} {vs:List V} (M:Mk X.K C f) (F:FnOk X.prog X.w X.K X.mg X.base (CX1 X.prog X.w) k f fd ps sp) (hr:Room (k+1) X.A) (hb:qah X.K fd ps ds) (hd:qb7 dvs ds)
  (hx:Xes X W) (hex:X.ex=[]) (I:Inv X pins σ H s) (r:qb7 vs us)
  (h:∀x dx,H x=none->H dx=none->dx≠x->sp (.ref x ::(vs++dvs)) (upd (upd H dx (.own x)) x (.ins C dx [])) (fun v H2=>v=.non/\Q (.ref x) H2) (W σ)):
  wpAny (model X.prog X.w) X.A (call (.ref C) us) (EP X pins σ Q) X.xe s:=by
 have hq:=h (s.heap.objs.size+1) s.heap.objs.size (I.hok.fresh (Nat.le_succ _)) (I.hok.fresh (Nat.le_refl _)) (Nat.ne_of_lt (Nat.lt_succ_self _))
 have I2:=Inv.made (C:=C) I
 have r2:qb7 (V.ref (s.heap.objs.size+1) ::(vs++dvs)) (Value.ref (s.heap.objs.size+1) ::(us++ds)):=.cons rfl (r.append hd)
 have hl:(Value.ref (s.heap.objs.size+1) :: us++ds).length=ps.length:=by
  have e:=r2.length
  rw [F.len _ _ _ _ hq] at e
  exact e.symm
 refine wpAny_call (make_map (f:=f) I.kIn M.makes M.init (beq_iff_eq.mp M.fn) (codeAny_mono (F.run _ X.stack _ _ ⟨Value.ref (s.heap.objs.size+1) :: us, []⟩ (Value.ref (s.heap.objs.size+1) ::(us++ds)) _ _ (W σ) (hr.make C us [])
  (I2.env0.make C us []) (hb _ (Value.ref (s.heap.objs.size+1) :: us) I2.kIn hl) r2 hq) fun r s' hq'=>?_))
 cases r with
 |error e=>exact xes_call hx hex I2 hq'
 |ok fl=>
  cases fl with
  |ret u=>
   obtain⟨v,H',I3,rv,ev,q3⟩:=I2.after hq'
   subst ev
   exact⟨rv,⟨V.ref (s.heap.objs.size+1),H',I3,rfl,q3⟩⟩
  |next=>exact False.elim hq'
  |brk=>exact False.elim hq'
  |cont=>exact False.elim hq'
theorem pe_makeX (M:Mk X.K C f) (F:FnOk X.prog X.w X.K X.mg X.base (CX1 X.prog X.w) k f fd ps sp) (hr:Room (k+1) X.A) (hg:Gl X x) (hm:X.mg x=some (.ref C)) (hb:qah X.K fd ps ds) (hd:qb7 dvs ds) (hx:Xes X W)
  (ha:PA X (e :: es) t) (hex:X.ex=[]:=by rfl) (hdb:(x==("__debug__" :Str))=false:=by decide) (he:starEach (e :: es) X.env=(false,eval e X.env) :: starEach es X.env:=by rfl) (hpl:(backTo pos (starEach es X.env)).any (·.1)=false:=by rfl):
  PE X (.Call (.Name x p) (e :: es) [] pos) (tMakeX C sp dvs W t):=by
 intro pins s σ H Q I h
 refine wpAny_Call_Name_kw (qdt I hg hm ?_ hdb)
 refine PySem.W.callWith_K (h₀:=X.base) I.ok.mod.kin M.kp (thn (ha pos pins s σ H _ I h) fun us s1 ⟨vs,H1,I1,r,q⟩=>⟨I1.kIn,?_⟩) he hpl
 exact run_makeX M F hr hb hd hx hex I1 r q
end
structure FunD (K:Frag) (x qual:Str) (st:Stmt) (f:Addr) (fd:FuncData) (T:Addr) (items:Array Value):Prop where
 ex:∃(oc:Value) (od:Option Addr) (kV doc pm:Value) (an:Option Addr) (cdv ct:Value) (osl:Array (Option Value)),
  fd=fnOf x qual (qcf st) (qby st) (qa9 st) (.ref T) kV doc pm an cdv ct/\K.lookup f=some ⟨oc,od,.func fd,osl⟩/\codeIn K cdv qual=true
 kp:keepIn K (.ref f)=true
 tup:∃(o:Obj) (n:Nat),K.lookup T=some o/\o.data=.seq items n
section
variable {K: Frag} {x qual: Str} {st: Stmt} {f T: Addr} {fd: FuncData} {ps: List Str} {items: Array Value}
theorem FunD.binds (F:FunD K x qual st f fd T items) {ds:List Value} (h:∀(kV doc pm:Value) (an:Option Addr) (cdv ct:Value) (us:List Value),(us++ds).length=ps.length->
   bindArgs (fnOf x qual (qcf st) (qby st) (qa9 st) (.ref T) kV doc pm an cdv ct) ⟨us, []⟩=pure (ps.zip (us++ds))\/
   ∃g:Option (Array Value)->Sem (List (Str × Value)),bindArgs (fnOf x qual (qcf st) (qby st) (qa9 st) (.ref T) kV doc pm an cdv ct) ⟨us, []⟩=seqItems? (.ref T) >>= g/\g (some items)=pure (ps.zip (us++ds))):qah K fd ps ds:=by
 obtain⟨oc,od,kV,doc,pm,an,cdv,ct,osl,rfl,lk,hcd⟩:=F.ex
 obtain⟨o,n,hT,hd⟩:=F.tup
 intro s us KX hl
 rcases h kV doc pm an cdv ct us hl with h|⟨g,h1,h2⟩
 .exact .of_eq h
 .exact BindsTo.of_defaults (T:=T) rfl (KX _ _ hT) hd h1 h2
end
section
variable {σ: L2.St} {H: Hp} {Q: VK} {ta: TE} {t: TA} {a C dx: Addr} {fs: List (Str × V)} {m: Str} {sp: Sp} {dvs: List V} {W: L2.St -> XK}
def kMtX (C:Addr) (m:Str) (sp:Sp) (dvs:List V) (W:L2.St->XK) (t:TA) (σ:L2.St) (Q:VK) (x:V) (H:Hp):Prop:=∃a dx fs,x=.ref a/\H a=some (.ins C dx fs)/\fs.lookup m=none/\t σ H fun vs H2=>sp (x ::(vs++dvs)) H2 Q (W σ)
theorem r_mtX (h:ta σ H fun x H1=>kMtX C m sp dvs W t σ Q x H1):tMethX C m sp dvs W ta t σ H Q:=h
theorem r_mtkX (e:H a=some (.ins C dx fs)) (l:fs.lookup m=none) (h:t σ H fun vs H2=>sp (.ref a ::(vs++dvs)) H2 Q (W σ)):kMtX C m sp dvs W t σ Q (.ref a) H:=⟨a,dx,fs,rfl,e,l,h⟩
def kMkX (C:Addr) (sp:Sp) (dvs:List V) (W:L2.St->XK) (σ:L2.St) (Q:VK) (vs:List V) (H:Hp):Prop:=∀x dx,H x=none->H dx=none->dx≠x->sp (.ref x ::(vs++dvs)) (upd (upd H dx (.own x)) x (.ins C dx [])) (fun v H2=>v=.non/\Q (.ref x) H2) (W σ)
theorem r_mkX (h:t σ H fun vs H1=>kMkX C sp dvs W σ Q vs H1):tMakeX C sp dvs W t σ H Q:=h
end
def kDs (p:Addr) (Q:VK) (x y:V) (H2:Hp):Prop:=H2 p=some (.dK [])/\∃kvs:List (Key × V), [(x,y)]=kvs.map (fun kv=>(kV kv.1,kv.2))/\kvs.length<=15/\Q (.ref p) (upd H2 p (.dK (qg1 [] kvs)))
theorem r_disp1 {σ:L2.St} {H:Hp} {Q:VK} {tk tv:TE} (h:∀p,H p=none->tk σ (upd H p (.dK [])) fun x H1=>tv σ H1 fun y H2=>kDs p Q x y H2):tDisp [(tk,tv)] σ H Q:=fun p hp=>h p hp
theorem r_ds {H:Hp} {Q:VK} {p:Addr} {z:Str} {y:V} (e:H p=some (.dK [])) (h:Q (.ref p) (upd H p (.dK [(Sum.inr z,y)]))):kDs p Q (.str z) y H:=⟨e, [(Sum.inr z,y)],rfl,Nat.le_of_ble_eq_true rfl,h⟩
section
variable {P: Program} {w: World} {K: Frag} {mg: Str -> Option Value} {base: Heap} {x qual: Str} {st: Stmt} {f T: Addr} {fd: FuncData} {N ps: List Str} {k: Nat} {sp: Sp} {items: Array Value}
theorem okDX (F:FunD K x qual st f fd T items) (S:FnScope N ps (qa9 st)) (len:∀vs H Q E,sp vs H Q E->vs.length=ps.length)
  (hbody:∀(cdv:Value) (A:Around) (outer:List Env) (s:Shared) (H:Hp) (vs:List V) (Q:VK) (E:XK),Room k (A.deeper (envOfC qual (qa9 st) s.heap.objs.size f cdv))->sp vs H Q E->
   ∃t,PSs (xw (cxOf (CX1 P w) P w K mg base N qual (qa9 st) f cdv A outer s H E) (fun _=>E)) (qby st) t/\t {nx:=fun _ H'=>Q .non H',rt:=Q} (qek N vs) H):FnOk P w K mg base (CX1 P w) (k+1) f fd ps sp:=by
 obtain⟨oc,od,kV,doc,pm,an,cdv,ct,osl,rfl,lk,hcd⟩:=F.ex
 refine fn_of lk hcd S len fun A outer s H vs Q E hr hsp=>?_
 obtain⟨t,ht,q⟩:=hbody cdv A outer s H vs Q E hr hsp
 exact⟨t,PSs.xes xes_fn ht,q⟩
theorem funD_mk {oc:Value} {od an:Option Addr} {osl:Array (Option Value)} {kV doc pm cdv ct:Value} {o:Obj} {n:Nat} (l:K.lookup f=some ⟨oc,od,.func (fnOf x qual (qcf st) (qby st) (qa9 st) (.ref T) kV doc pm an cdv ct),osl⟩)
  (c:codeIn K cdv qual=true) (kp:keepIn K (.ref f)=true) (t:K.lookup T=some o) (hd:o.data=.seq items n):FunD K x qual st f (fnOf x qual (qcf st) (qby st) (qa9 st) (.ref T) kV doc pm an cdv ct) T items:=
 ⟨⟨oc,od,kV,doc,pm,an,cdv,ct,osl,rfl,l,c⟩,kp,o,n,t,hd⟩
end
def oK (hs:List (Str × Addr)):List (Key × V):=hs.map fun p=>(Sum.inr p.1,.ref p.2)
def qd9:List (Str × Addr)->Str->Option Addr
 | [],_=>none
 |p :: r,z=>if p.1=z then some p.2 else qd9 r z
theorem qg9 (z:Str):∀hs:List (Str × Addr),qbq (oK hs) (Sum.inr z)=(qd9 hs z).map V.ref
 | []=>rfl
 |p :: r=>by
  have ih:=qg9 z r
  unfold qbq oK at ih ⊢
  rw [zM,yU]
  by_cases h:p.1=z
  .have e:decide ((Sum.inr p.1:Key)=Sum.inr z)=true:=by rw [h];exact decide_eq_true rfl
   simp only [e,qd9,if_pos h]
   rfl
  .have e:decide ((Sum.inr p.1:Key)=Sum.inr z)=false:=decide_eq_false fun q=>h (Sum.inr.inj q)
   simp only [e,qd9,if_neg h]
   exact ih
theorem qg2 {z:Str}:∀{hs:List (Str × Addr)},qd9 hs z=none↔z∉hs.map (·.1)
 | []=>by simp [qd9]
 |p :: r=>by
  have ih:=qg2 (z:=z) (hs:=r)
  unfold qd9
  by_cases q:p.1=z
  .rw [if_pos q]
   simp [q]
  .rw [if_neg q,ih]
   simp [Ne.symm q,fun e:z=p.1=>q e.symm]
theorem lookO_of {z:Str} {h:Addr}:∀{hs:List (Str × Addr)},(hs.map (·.1)).Nodup->(z,h)∈hs->qd9 hs z=some h
 |p :: r,nd,m=>by
  rw [zM,zX] at nd
  unfold qd9
  rcases zV.mp m with e|e
  .rw [<-e,if_pos rfl]
  .have q:p.1≠z:=fun q=>nd.1 (by rw [q];exact zJ.mpr ⟨(z,h),e,rfl⟩)
   rw [if_neg q]
   exact lookO_of nd.2 e
theorem putK_oK {hs:List (Str × Addr)} {z:Str} {h:Addr} (n:qd9 hs z=none):qco (oK hs) (Sum.inr z) (.ref h)=oK (hs++ [(z,h)]):=by
 have hn:=qg2.mp n
 have e:((oK hs).any fun kv=>decide (kv.1=Sum.inr z))=false:=by
  rw [List.any_eq_false]
  intro kv hkv
  obtain⟨p,hp,rfl⟩:=zJ.mp hkv
  intro q
  have q':=Sum.inr.inj (of_decide_eq_true q)
  exact hn (zJ.mpr ⟨p,hp,q'⟩)
 unfold qco
 rw [if_neg (by rw [e];decide)]
 unfold oK
 rw [zG];rfl
section
variable {H: Hp} {Q: VK} {a h: Addr} {hs: List (Str × Addr)} {z: Str}
theorem r_diO (d:Rd H a (.dK (oK hs))) (q:Q (.bl (qd9 hs z).isSome) H):rDI (.ref a) (.str z) H Q:=by
 refine⟨a,qbq (oK hs) (Sum.inr z),rfl,.inl ⟨_,Sum.inr z,d,rfl,rfl⟩,?_⟩
 rw [qg9,Option.isSome_map]
 exact q
theorem r_dgO (d:Rd H a (.dK (oK hs))) (e:qd9 hs z=some h) (q:Q (.ref h) H):rDGk (.ref a) (.str z) H Q:=
 ⟨a,.ref h,rfl,.inl ⟨_,Sum.inr z,d,rfl,by rw [qg9,e];rfl⟩,q⟩
end
end My
set_option exponentiation.threshold 2000
namespace My
open PySem PySem.Spec PyProof.Rows L2
end My
set_option maxHeartbeats 3200000
namespace My
open PySem PySem.Spec PyProof.Rows L2
section
variable {P: Program} {w: World} {A: Around}
theorem sk_is (z:Str) (t:Tok):(strKind P w).is z (.str z t)=true:=by
 show Value.isStrOf z (.str z t)=true
 simp [Value.isStrOf]
theorem take_in {zs:List Str} {i:Nat} {z:Str} (nd:zs.Nodup) (h:zs[i]?=some z):(zs.take i).contains z=false:=by
 rw [<-Bool.not_eq_true,List.contains_iff_mem]
 intro m
 obtain⟨j,hj,e⟩:=yD.mp m
 obtain⟨hi,e2⟩:=List.getElem?_eq_some_iff.mp h
 rw [zS] at hj
 rw [List.getElem_take] at e
 exact(yI.mp nd) j i (by omega) hi (by omega) (by rw [e,e2])
theorem take_next {zs:List Str} {i:Nat} {z:Str} (h:zs[i]?=some z) (y:Str):((zs.take i).contains y || decide (y=z))=(zs.take (i+1)).contains y:=by
 rw [zT,h,Bool.eq_iff_iff,Bool.or_eq_true,List.contains_iff_mem,List.contains_iff_mem,zN,decide_eq_true_iff]
 simp
theorem setT_loop {R:Result->Shared->Prop} {it c:Addr} {fp wr:List Addr} {G:Array GenState->Array GenState->Prop} {zs:List Str} {pv:Nat->Value->Prop} {St:Nat->Shared->Prop}
  (W:WalksS P w A.in1 it fp wr G zs.length pv St) (hc:c∉fp) (nd:zs.Nodup) (hv:∀i v,pv i v->∃z t,zs[i]?=some z/\v=.str z t) (hb:zs.length+1 < scanBound):
  ∀(k i:Nat) (s:Shared),zs.length - i=k->i<=zs.length->St i s->s.heap.SetOf (strKind P w) c (fun y=>(zs.take i).contains y) i->
   (∀s',Moved (c :: wr) G s s'->s'.heap.SetOf (strKind P w) c (fun y=>(zs.take zs.length).contains y) zs.length->R (.ok (.ret .none)) s')->
   codeAny (model P w) A (.builtin "set.update.loop" ⟨[.ref c,.ref it], []⟩) R s:=by
 have cw:c∉wr:=fun h=>hc (W.sub _ h)
 have stays:∀{n:Nat} {S:Str->Bool} {s s':Shared},Moved wr G s s'->s.heap.SetOf (strKind P w) c S n->s'.heap.SetOf (strKind P w) c S n:=fun hm hS=>by
  obtain⟨o,es,ep,t,ho,rest⟩:=hS
  exact⟨o,es,ep,t,hm.heap c _ cw ho,rest⟩
 intro k
 induction k with
 |zero=>
  intro i s hk hi st hS hR
  have e:i=zs.length:=by omega
  subst e
  refine codeAny_builtin PyProof.Rows.F.entry_set_update_loop ?_
  rw [Around.under_plainId PyProof.Rows.F.plain_set_update_loop]
  show wpAny _ _ (pyNext (.ref it) >>= _) _ _ _
  refine wpAny_bind (W.done s _ _ st fun s1 hm=>?_)
  exact wpAny_pure (hR s1 (hm.mono fun b h=>zF _ h) (stays hm hS))
 |succ k ih=>
  intro i s hk hi st hS hR
  have lt:i < zs.length:=by omega
  refine codeAny_builtin PyProof.Rows.F.entry_set_update_loop ?_
  rw [Around.under_plainId PyProof.Rows.F.plain_set_update_loop]
  show wpAny _ _ (pyNext (.ref it) >>= _) _ _ _
  refine wpAny_bind (W.item i s _ _ lt st fun v s1 hp st1 hm=>?_)
  obtain⟨z,t,hz,rfl⟩:=hv i v hp
  have S1:=stays hm hS
  show wpAny _ _ (holding [Value.str z t] (setAdd c (.str z t)) >>= _) _ _ _
  refine wpAny_bind (wpAny_holding ?_)
  unfold setAdd
  refine wpAny_holding (wpAny_bind ((strKind P w).pyHash (k:=z) (sk_is z t) ?_))
  refine wpAny_setAddHashed_of (knd:=strKind P w) (s:={s1 with toks:=s1.toks+1}) (sk_is z t) rfl S1 (by omega) fun h2 sb S2=>?_
  have S3:h2.SetOf (strKind P w) c (fun y=>(zs.take (i+1)).contains y) (i+1):=SetOf_congr S2 (take_next hz) (by simp only [take_in nd hz];rfl)
  refine wpAny_pure ⟨plainId_quiet PyProof.Rows.F.plain_set_update_loop _,ih (i+1) _ (by omega) lt (W.frame _ s1 _ _ st1 (Nat.le_succ _) fun b h o e=>?_) S3 fun s4 hm4 S4=>?_⟩
  .rw [sb.2 b fun q=>hc (q ▸ h)];exact e
  .refine hR s4 (Moved.trans W.gtrans ((hm.mono fun b h=>zF _ h).then_heap (Nat.le_succ _) fun b o h e=>?_) hm4) S4
   rw [sb.2 b fun q=>h (q ▸ zC)];exact e
abbrev setO (led:Bool):Obj:={cls:=.type "set",dict:=none,data:=.set #[] 0 (.fresh 0 0 led)}
theorem setT_call {E:Value->Shared->Prop} {s:Shared} {l:Addr} {items:Array Value} {zs:List Str} {Q:Value->Shared->Prop} (hh:A.handled=none) (hl:s.heap.IsList l items) (hi:StrsAre items.toList zs) (nd:zs.Nodup) (hb:zs.length+1 < scanBound)
  (h:∀(h':Heap) (tk:Nat),h'.SetOf (strKind P w) s.heap.objs.size (fun y=>(zs.take zs.length).contains y) zs.length->(∀b o,b < s.heap.objs.size->s.heap.get? b=some o->h'.get? b=some o)->Q (.ref s.heap.objs.size) {s with heap:=h',toks:=tk}):
  wpAny (model P w) A (call (.type "set") [.ref l]) Q E s:=by
 obtain⟨c,tl,hmro⟩:=PySem.F.called_set.mro
 have hmade:=PySem.F.called_set.made
 have hsub:=PySem.F.called_set.sub
 refine wpAny_call (codeAny_of_tree ?_)
 show wpAny _ _ (callAny (.type "set") _) _ _ _
 refine wpAny_pure ⟨Code.quiet_builtin _ (by decide+kernel),codeAny_builtin PySem.F.entry_type_call ?_⟩
 rw [Around.under_plain (weight_type_call_type "set" [.ref l] []) rfl]
 have h1:=PySem.F.called_set.notType
 have h2:=PySem.F.called_set.canCreate
 have hct:=PySem.F.typeCall_set_1 (.ref l)
 repeat any_goals first|assumption|wp_step
 refine codeAny_mono (code_set_new_1 (.ref l) (E:=E) (Q₁:=fun x s1=>∃led:Bool,x=.ref s.heap.objs.size/\s1={s with heap:=s.heap.push (setO led)}) fun led=>⟨led,rfl,rfl⟩) fun r s1 hr=>?_
 cases r with
 |error e=>exact hr
 |ok fl=>
  cases fl with
  |ret obj=>
   obtain⟨led,rfl,rfl⟩:=hr
   have hS:(s.heap.push (setO led)).get? s.heap.objs.size=some (setO led):=Heap.get?_push_size _ rfl
   have hT:Shared.TypeIs {s with heap:=s.heap.push (setO led)} (.ref s.heap.objs.size) "set":=⟨_,hS,rfl⟩
   have hli:=PySem.F.called_set.init.lookup
   have hbi:=PySem.F.called_set.init.bind (.ref s.heap.objs.size)
   repeat any_goals first|assumption|wp_step
   refine codeAny_mono (codeAny_call_builtin (R:=wants (fun x s2=>x=.none/\∃h' tk,s2={s with heap:=h',toks:=tk}/\h'.SetOf (strKind P w) s.heap.objs.size (fun y=>(zs.take zs.length).contains y) zs.length/\(∀b o,b < s.heap.objs.size->s.heap.get? b=some o->h'.get? b=some o)) E) PySem.F.called_set.init.plain PySem.F.entry_set_init (check_set_init_1 hT ?_)) fun r2 s2 hr2=>?_
   .obtain⟨ol,hol,hcl,nl,hdl⟩:=hl
    obtain⟨ocls,odict,odata,oslots⟩:=ol
    dsimp only at hcl hdl
    subst hcl hdl
    have hol':=Heap.get?_push_of_some (setO led) hol
    have q1:=PySem.F.sub_list_set
    have q2:=PySem.F.sub_list_frozenset
    have q3:(Value.type "list" ==Value.type "dict")=false:=by decide
    have hl1:(s.heap.push (setO led)).IsList l items:=⟨_,hol',rfl,nl,rfl⟩
    unfold Builtin.«set.__init__» noKeywords Builtin.Frozenset.updateFrom
    generalize hPI:pyIter=PI
    wp_walk
    subst hPI
    refine wpAny_pyIter_list hl1 (wpAny_bind (wpAny_runValue ?_))
    have lS:l < s.heap.objs.size:=Heap.lt_size hol
    have h3:A.in1.in1.in1.handled=none:=by simp [hh]
    have nI:l≠(s.heap.push (setO led)).objs.size:=by
     rw [Heap.size_push];exact Nat.ne_of_lt (Nat.lt_succ_of_lt lS)
    have nS:s.heap.objs.size∉ [(s.heap.push (setO led)).objs.size,l]:=by
     rw [Heap.size_push]
     intro z
     simp only [zV,List.not_mem_nil,or_false] at z
     rcases z with z|z
     .exact absurd z (Nat.ne_of_lt (Nat.lt_succ_self _))
     .rw [z] at lS;exact Nat.lt_irrefl _ lS
    have ez:items.size=zs.length:=by
     have:=hi.length
     simpa using this
    have W:WalksS P w A.in1.in1.in1 _ _ _ _ items.size _ _:=(Walks.list h3 _ l nI items).toS
    rw [ez] at W
    refine setT_loop (zs:=zs) W nS nd (fun i v hv=>?_) hb (zs.length - 0) 0 _ (by omega) (Nat.zero_le _) ⟨⟨_,Heap.get?_push_size _ rfl,rfl,rfl⟩,hl1.push _⟩ ?_ ?_
    .obtain⟨y,t,e1,e2⟩:=hi.item i v (by rw [Array.getElem?_toList];exact hv)
     exact⟨y,t,e2,e1⟩
    .have hget:=Heap.get?_push_of_some {cls:=.type "list_iterator",data:=.fields #[.ref l,.int 0 0]} hS
     exact SetOf_congr ((setObjOf_fresh (knd:=strKind P w) led).setOf hget (by unfold scanBound;omega)) (fun _=>rfl) rfl
    .intro s4 hm hS4
     obtain⟨h4,g4,d4,tk4,os4⟩:=s4
     have eg:g4=s.gens:=hm.gens
     have ed:d4=s.drawn:=hm.drawn
     have eo:os4=s.os:=hm.os
     subst eg ed eo
     refine wpAny_pure ?_
     refine wpAny_pure ⟨rfl,h4,tk4,rfl,hS4,fun b o hb' e=>?_⟩
     refine hm.heap b o (fun z=>?_) (Heap.get?_push_of_some _ (Heap.get?_push_of_some _ e))
     rw [Heap.size_push] at z
     simp only [zV,List.not_mem_nil,or_false] at z
     rcases z with z|z
     .rw [z] at hb';exact Nat.lt_irrefl _ hb'
     .rw [z] at hb';exact Nat.lt_irrefl _ (Nat.lt_trans (Nat.lt_succ_self _) hb')
   .cases r2 with
    |error e=>exact hr2
    |ok fl2=>
     cases fl2 with
     |ret r=>
      obtain⟨rfl,h',tk,rfl,hS',hk'⟩:=hr2
      repeat any_goals first|assumption|wp_step
      exact h _ _ hS' hk'
     |next=>exact hr2.elim
     |brk=>exact hr2.elim
     |cont=>exact hr2.elim
  |next=>exact hr.elim
  |brk=>exact hr.elim
  |cont=>exact hr.elim
end
def SetT (P:Program) (w:World) (c:Addr) (n:Nat):HO:=.ext fun h=>∃S,h.SetOf (strKind P w) c S n
def rSetT (P:Program) (w:World) (K:Frag):List V->Hp->VK->Prop:=fun xs H Q=>∃(p:Addr) (zs:List Str),xs=[.ref p]/\SqL K H p (zs.map V.str)/\zs.Nodup/\zs.length<=60/\∀c,H c=none->Q (.ref c) (upd H c (SetT P w c zs.length))
def rLenT (P:Program) (w:World):List V->Hp->VK->Prop:=fun xs H Q=>∃c n,xs=[.ref c]/\H c=some (SetT P w c n)/\Q (.int n) H
section
variable {X: Cx}
theorem call_setT (hc:X.calm=true:=by rfl):qcp X (.type "set") (rSetT X.prog X.w X.K):=by
 intro pins s σ H xs us Q I hv h
 obtain⟨p,zs,rfl,hS,nd,hz,q⟩:=h
 obtain⟨u,rfl,ru⟩:=hv.one
 cases ru
 obtain⟨its,rv,pl,hz'⟩:=I.list hS
 refine setT_call (I.ok.hd hc) (PlainL.isList pl) (zs:=zs) (by simpa using strs_of rv) nd (by unfold scanBound;omega) fun h' tk hT hk=>?_
 have hg:=hT
 obtain⟨o,es,ep,t,ho,_⟩:=hg
 exact⟨.ref _,_,I.laid (a:=s.heap.objs.size) (o:=SetT X.prog X.w s.heap.objs.size zs.length) (t':=tk) (fun b ob e=>hk b ob (Heap.lt_size e) e) (Nat.le_refl _) ⟨⟨_,hT⟩,⟨o,ho⟩,fun h1 h2 ⟨S,o1,r1,r2,r3,e1,rest⟩ k=>⟨S,o1,r1,r2,r3,k _ e1,rest⟩⟩,rfl,q _ (I.hok.fresh (Nat.le_refl _))⟩
theorem call_lenT:qcp X (.builtin "len") (rLenT X.prog X.w):=by
 intro pins s σ H xs us Q I hv h
 obtain⟨c,n,rfl,e,q⟩:=h
 obtain⟨u,rfl,ru⟩:=hv.one
 cases ru
 obtain⟨⟨S,o,es,ep,t,ho,hx,hd,_,_,hb,hf,rfl⟩,_⟩:=I.hok c _ e
 refine call_len_set ho hx hd hf (by unfold scanBound at hb;omega) ⟨.int es.size,H,I.tok _,⟨_,rfl⟩,q⟩
end
section
variable {P: Program} {w: World} {K: Frag} {H: Hp} {Q: VK}
theorem r_setT {p:Addr} {zs:List Str} (hS:SqL K H p (zs.map V.str)) (nd:zs.Nodup) (hz:zs.length<=60) (h:∀c,H c=none->Q (.ref c) (upd H c (SetT P w c zs.length))):rSetT P w K [.ref p] H Q:=⟨p,zs,rfl,hS,nd,hz,h⟩
theorem r_lenT2 {c:Addr} {n:Nat} (e:H c=some (SetT P w c n)) (h:Q (.int n) H):rLenT P w [.ref c] H Q:=⟨c,n,rfl,e,h⟩
end
def rLenD:List V->Hp->VK->Prop:=fun xs H Q=>∃a kvs,xs=[V.ref a]/\H a=some (.dK kvs)/\Q (.int kvs.length) H
theorem qdi {X:Cx}:qcp X (.builtin "len") rLenD:=L2.call_lenD
theorem r_lenD {H:Hp} {Q:VK} {a:Addr} {kvs:List (Key × V)} (e:H a=some (.dK kvs)) (h:Q (.int kvs.length) H):rLenD [.ref a] H Q:=⟨a,kvs,rfl,e,h⟩
end My
set_option maxHeartbeats 1000000
namespace My
open PySem PySem.Spec PyProof.Rows L2
end My
namespace My
open PySem PySem.Spec PyProof.Rows L2 PyProof
end My
namespace My
open PySem PySem.Spec PyProof.Rows L2
section
inductive OddV (K:Frag) (H:Hp):V->Prop
 |non:OddV K H .non
 |bl (b:Bool):OddV K H (.bl b)
 |int (i:Int):OddV K H (.int i)
 |lst {a:Addr} {xs:List V} (h:SqL K H a xs):OddV K H (.ref a)
 |tup {a:Addr} {xs:List V} (h:SqT K H a xs):OddV K H (.ref a)
 |dct {a:Addr} {kvs:List (Key × V)} (h:H a=some (.dK kvs)):OddV K H (.ref a)
end
section
variable {K: Frag} {H: Hp} {Q: VK}
theorem qgv {y:Str}:∀nm:List Str,inV (.str y) (nm.map V.str)=decide (y∈nm)
 | []=>rfl
 |z :: r=>by
  have ih:=qgv (y:=y) r
  unfold inV at ih ⊢
  rw [zM,xF,ih]
  by_cases c:z=y
  .subst c
   rw [show eqV (V.str z) (V.str z)=true from beq_self_eq_true z,decide_eq_true (zC ..)]
   rfl
  .rw [show eqV (V.str z) (V.str y)=false from beq_false_of_ne c,Bool.false_or]
   by_cases m:y∈r
   .rw [decide_eq_true m,decide_eq_true (zF _ m)]
   .rw [decide_eq_false m,decide_eq_false fun h=>(zV.mp h).elim (fun e=>c e.symm) m]
theorem flat_strs (nm:List Str):(nm.map V.str).all qd6=true:=by
 rw [List.all_map]
 exact yM.mpr fun _ _=>rfl
theorem r_inSs {p:Addr} {y:Str} {nm:List Str} (h:SqL K H p (nm.map V.str)) (q:Q (.bl (decide (y∈nm))) H):rIn K false (.str y) (.ref p) H Q:=⟨p,_,rfl,.inl h,rfl,flat_strs nm,by rw [qgv];exact q⟩
end
section
variable {K: Frag} {H: Hp} {Q: VK}
theorem r_slT {a:Addr} {xs:List V} {lo hi:Option Int} (e:SqT K H a xs) (ne:¬(HT.sIx xs.length 0 lo=0/\HT.sIx xs.length xs.length hi=xs.length)) (h:∀p,H p=none->Q (.ref p) (upd H p (.tup (cutV xs lo hi)))):rSlT K (.ref a) lo hi H Q:=⟨a,xs,rfl,e,ne,h⟩
end
def XB (X:Cx) (E:XK) (e:Value) (s':Shared):Prop:=∃(a:Addr) (C:Value) (d:Option Addr) (σ':L2.St) (H':Hp),e=.ref a/\Inv X [] σ' H' s'/\E C d H'/\
 ∃(T:Addr) (fl:Value) (σ1:L2.St) (H1:Hp) (s1:Shared),Inv X [] σ1 H1 s1/\s1.heap.get? a=none/\s1.heap.get? T=none/\H' a=none/\H' T=none/\XTr s'.heap a C d fl T
abbrev xb (X:Cx) (E:XK):Cx:=X.wish (XB X E)
end My
namespace My
open PySem PySem.Spec PyProof.Rows L2 PyProof PySem.Builtin.Str
end My
namespace My
open PySem PySem.Spec PyProof.Rows L2 PyProof PySem.Builtin.Str PySem.StrLaws
def hits (l:List Nat) (c:Nat) (is:List Nat):List Nat:=is.filter fun i=>decide (l[i]?=some c)
end My
namespace My
open PySem PySem.Spec PyProof.Rows L2 PyProof PySem.Builtin.Str PySem.NumText
end My
namespace My
open PySem PySem.Spec PyProof.Rows L2 PyProof PySem.Builtin.Str
section
variable {X: Cx}
def rJoinG (K:Frag):V->List V->Hp->VK->Prop:=fun x xs H Q=>∃(z:Str) (l:Addr) (ss:List Str),x=.str z/\xs=[.ref l]/\SqL K H l (ss.map V.str)/\z.length<=1/\(ss.map (·.length)).sum<=1000000/\ss.length<=1000/\Q (.str (glued z ss)) H
theorem mt_joinG:MtR X "str.join" (rJoinG X.K):=by
 intro pins s σ H x xs v us Q I rx rv h
 obtain⟨z,l,ss,rfl,rfl,hS,hz,hsum,hn,q⟩:=h
 obtain⟨t,rfl⟩:=rx
 obtain⟨u,rfl,ru⟩:=rv.one
 cases ru
 obtain⟨its,r1,pl,_⟩:=I.list hS
 obtain⟨ps,rfl,e⟩:=qfs r1
 have hm:ss.length*z.length<=1000:=Nat.le_trans (Nat.mul_le_mul hn hz) (by decide)
 have hg:(Builtin.Str.glued z ss).length<=1001000:=by
  rw [size_glued]
  have:(ss.length - 1)*z.length<=ss.length*z.length:=Nat.mul_le_mul_right _ (by omega)
  omega
 refine call_meets PySem.F.slot_str_join (typeIs_str _ _ _) PySem.F.entry_str_join (PySem.F.args_str_join_2 _ _) (meets_str_join_list z t l ps ?_) ⟨PlainL.isList pl,?_⟩
 .rw [e]
  unfold Builtin.Str.tooLong
  rw [List.foldl_toArray,foldl_len]
  exact decide_eq_false (by rw [sizeLine_eq];omega)
 .match ps,e with
  | [p],e=>
   have e': [p.1]=ss:=e
   subst e'
   exact⟨.str p.1,H,I,⟨_,rfl⟩,q⟩
  | [],e=>
   refine⟨by rw [e,sizeLine_eq];omega,.str _,H,I.tok _,⟨_,rfl⟩,?_⟩
   rw [e];exact q
  |a :: b :: r,e=>
   refine⟨by rw [e,sizeLine_eq];omega,.str _,H,I.tok _,⟨_,rfl⟩,?_⟩
   rw [e];exact q
end
section
variable {K: Frag} {H: Hp} {Q: VK}
theorem r_joinG {z:Str} {l:Addr} {ss:List Str} (e:SqL K H l (ss.map V.str)) (hz:z.length<=1) (h1:(ss.map (·.length)).sum<=1000000) (hn:ss.length<=1000) (h:Q (.str (glued z ss)) H):rJoinG K (.str z) [.ref l] H Q:=⟨z,l,ss,rfl,rfl,e,hz,h1,hn,h⟩
end
end My
namespace My
open PySem PySem.Spec PyProof.Rows L2 PySem.Builtin
end My
namespace My
open PySem PySem.Spec PyProof.Rows L2
end My
namespace My
open PySem PySem.Spec PyProof.Rows L2 PyProof PySem.SeqAt
end My
namespace My
open PySem PySem.Spec PyProof.Rows L2
end My
namespace My
open PySem PySem.Spec PyProof.Rows L2 PyProof PySem.SeqAt
end My
namespace My
open PySem PySem.Spec PyProof.Rows L2
theorem ints_keys {ns:List Int} {us:List Value} (hl:us.length=ns.length) (h:∀(j:Nat) (u:Value),us[j]?=some u->∃x,ns[j]?=some x/\qgt (.inl x) u=true):IntsAre us ns:=by
 induction us generalizing ns with
 |nil=>cases ns with
  |nil=>exact .nil
  |cons _ _=>simp at hl
 |cons u us ih=>cases ns with
  |nil=>simp at hl
  |cons x ns=>
   obtain⟨y,hy,hk⟩:=h 0 u rfl
   simp only [List.getElem?_cons_zero,Option.some.injEq] at hy
   subst hy
   rcases qb0 hk with ⟨i,t,e,rfl⟩ |⟨z,t,e,_⟩
   .cases e
    exact .cons x t (ih (by simpa using hl) fun j v hv=>by have:=h (j+1) v (by simpa using hv);simpa using this)
   .cases e
theorem qft:∀{vs:List Value} {ns:List Int},IntsAre vs ns->qb7 (ns.map V.int) vs
 |_,_,.nil=> .nil
 |_,_,.cons x t h=> .cons ⟨t,rfl⟩ (qft h)
section
variable {X: Cx}
def rSortI:List V->Hp->VK->Prop:=fun xs H Q=>∃(p:Addr) (kvs:List (Key × V)) (ns:List Int),xs=[.ref p]/\Rd H p (.dK kvs)/\kvs.map (·.1)=ns.map Sum.inl/\ns.length < 64/\∀(l:Addr) (ns':List Int),H l=none->ns'.Perm ns->ns'.Pairwise (·<=·)->Q (.ref l) (upd H l (.lst (ns'.map V.int)))
theorem call_sortI (hc:X.calm=true):qcp X (.builtin "sorted") rSortI:=by
 intro pins s σ H xs us Q I hv h
 obtain⟨p,kvs,ns,rfl,hR,hk,hz,q⟩:=h
 obtain⟨u,rfl,ru⟩:=hv.one
 cases ru
 obtain⟨o,es,ep,vs,ho,hd,rel,dat,hs⟩:=dat_of (hR.ok I.hok)
 have hlen:=rel.length
 have hks:=rel.keys
 have hl2:kvs.length=ns.length:=by have:=congrArg List.length hk;simpa using this
 refine Calls.call_function_entry kind_sorted plain_sorted entry_sorted (args_sorted1 _) ?_
 unfold Builtin.«sorted»
 refine wpAny_bind (m:=checkCount "sorted" 1 1 _) (wpAny_pure ?_)
 refine wpAny_bind (PySem.W.kdu_collect (A:=X.A.in1) (PySem.W.kdl_dict (knd:=qb4 X.prog X.w) (kvs:=vs) (ep:=ep) hs) (I.ok.hd hc) dat (by rw [sizeLine_eq];omega) fun h' tk acc hkeep hacc=>?_)
 have hal:acc.toList.length=vs.length:=by rw [Array.length_toList];exact hacc.1
 refine wpAny_bind (wpAny_newList ?_ (by rw [hal,sizeLine_eq];omega))
 have hS:IntsAre acc.toList ns:=by
  refine ints_keys (by omega) fun j v hv=>?_
  obtain⟨k,x,hx,hkv⟩:=hacc.2 j v (by rw [<-Array.getElem?_toList];exact hv)
  have e1:(vs.map (·.1))[j]?=some k:=by rw [zD,hx];rfl
  rw [<-hks,hk,zD] at e1
  obtain⟨z,hz1,rfl⟩:=Option.map_eq_some_iff.mp e1
  exact⟨z,hz1,hkv⟩
 have hoL:(h'.push {cls:=.type "list",data:=.seq acc.toList.toArray}).get? h'.objs.size=some (seqObj "list" acc.toList.toArray 0):=Heap.get?_push_size _ rfl
 refine wpAny_bind (wpAny_holding (wpAny_call_entry slot_list_sort ⟨_,hoL,rfl⟩ entry_list_sort (list_sort_tree hoL hS (by omega) fun out ns' b1 b2 b3=>⟨_,rfl,?_⟩) (args_list_sort _)))
 obtain⟨e,he⟩:=sortedHeap_at (out:=out) hoL
 have hl3:=b2.length_eq
 have hg:s.heap.get? h'.objs.size=none:=by
  cases q:s.heap.get? h'.objs.size with
  |none=>rfl
  |some ob=>exact absurd (Heap.lt_size (hkeep _ _ q)) (Nat.lt_irrefl _)
 obtain⟨hn,I2⟩:=Inv.laidN I (h':=sortedHeap (h'.push {cls:=.type "list",data:=.seq acc.toList.toArray}) h'.objs.size acc.toList out) (a:=h'.objs.size) (o:=.lst (ns'.map V.int)) (t':=tk) (fun b ob hb=>by
  have hb':=hkeep b ob hb
  rw [sortedHeap_old (Nat.ne_of_lt (Heap.lt_size hb')) (by rw [size_push'];exact Nat.lt_succ_of_lt (Heap.lt_size hb'))]
  exact Heap.get?_push_of_some _ hb') hg ⟨by rw [zB,sizeLine_eq];omega,out.toList,e,qft b1,by rw [Array.toArray_toList];exact he⟩
 exact wpAny_pure ⟨_,rfl,.ref _,_,I2,rfl,q _ ns' hn b2 b3⟩
end
section
variable {K: Frag} {H: Hp} {Q: VK} {D: Ends} {σ: L2.St} {p a dx C: Addr} {kvs: List (Key × V)} {ns: List Int} {n: Int} {v y: V} {f: Str} {fs: List (Str × V)} {ta tv: TE}
theorem r_sortI (e:Rd H p (.dK kvs)) (hk:kvs.map (·.1)=ns.map Sum.inl) (hz:ns.length < 64) (h:∀(l:Addr) (ns':List Int),H l=none->ns'.Perm ns->ns'.Pairwise (·<=·)->Q (.ref l) (upd H l (.lst (ns'.map V.int)))):rSortI [.ref p] H Q:=⟨p,kvs,ns,rfl,e,hk,hz,h⟩
theorem r_dpI (e:H a=some (.dK kvs)) (hz:kvs.length < sizeLine) (h:D.nx σ (upd H a (.dK (qco kvs (Sum.inl n) v)))):rDP (.ref a) (.int n) v H D σ:=⟨a,_,rfl,DPut.k (k:=Sum.inl n) e hz,h⟩
theorem r_dgI (d:Rd H a (.dK kvs)) (e:qbq kvs (Sum.inl n)=some v) (h:Q v H):rDGk (.ref a) (.int n) H Q:=⟨a,v,rfl,.inl ⟨kvs,Sum.inl n,d,rfl,e.symm⟩,h⟩
theorem r_fa (h:ta σ H fun x H1=>∃a C dx fs v,x=.ref a/\H1 a=some (.ins C dx fs)/\Cls K C/\qak K C f/\fs.lookup f=some v/\
 tv σ H1 fun y H2=>rAdd v y H2 fun z H3=>∃dx' fs',H3 a=some (.ins C dx' fs')/\fs'.length < 1000/\D.nx σ (upd H3 a (.ins C dx' (qdw f z fs')))):sFldAug K ta tv rAdd f D σ H:=h
theorem r_addI {i j:Int} (h:Q (.int (i+j)) H):rAdd (.int i) (.int j) H Q:=⟨i,j,rfl,rfl,h⟩
end
section
variable {X: Cx}
def rDPopI:V->List V->Hp->VK->Prop:=fun x xs H Q=>∃p kvs n y,x=.ref p/\xs=[.int n]/\H p=some (.dK kvs)/\qbq kvs (Sum.inl n:Key)=some y/\Q y (upd H p (.dK (qgy kvs (Sum.inl n:Key))))
theorem mt_dpopI:MtR X "dict.pop" rDPopI:=by
 intro pins s σ H x xs v us Q I rx rv h
 obtain⟨p,kvs,n,y,rfl,rfl,e,l,q⟩:=h
 cases rx
 obtain⟨u,rfl,ru⟩:=rv.one
 exact d_pop (k:=Sum.inl n) I e ru l (.inl rfl) fun w' s' I' rw'=>⟨y,_,I',rw',q⟩
end
section
variable {K: Frag} {H: Hp} {Q: VK} {p l: Addr} {kvs: List (Key × V)} {n: Int} {y: V} {xs: List V}
theorem r_dpopI (e:H p=some (.dK kvs)) (l:qbq kvs (Sum.inl n:Key)=some y) (h:Q y (upd H p (.dK (qgy kvs (Sum.inl n:Key))))):rDPopI (.ref p) [.int n] H Q:=⟨p,kvs,n,y,rfl,rfl,e,l,h⟩
theorem r_popAt {k:Nat} (e:H l=some (.lst xs)) (hk:xs[k]?=some y) (hz:xs.length < 2^62) (h:Q y (upd H l (.lst (xs.eraseIdx k)))):rPopAt (.ref l) [.int (k:Int)] H Q:=by
 have hl:=(List.getElem?_eq_some_iff.mp hk).1
 refine⟨l,xs,(k:Int),k,y,rfl,rfl,e,by omega,by omega,?_,hk,h⟩
 unfold seqIndex?
 simp only []
 split <;> simp_all <;> omega
theorem qe7 {n:Nat} {a b:Addr} (ha:SqL K H a xs) (hb:SqL K H b []) (ne:a≠b):DEq K H (n+1) (.ref a) (.ref b) (decide (xs=[])):=by
 cases xs with
 |nil=>
  have z:=DEq.ls (n:=n) (e:=fun _=>true) ha hb ne rfl (fun j h1 h2=>absurd h1 (Nat.not_lt_zero j))
  exact z
 |cons p r=>exact DEq.lsN ha hb ne (by simp)
end
end My
set_option maxHeartbeats 4000000
set_option exponentiation.threshold 1000
namespace Our
open PySem L2 My
def top (i:Nat):PySem.Stmt:=PySem.Challenge.pw_quotatree_k28_twins.main.body.getD i (.Pass ⟨0,0,0,0⟩)
def qbg:PySem.Stmt->Nat->PySem.Stmt
 | .ClassDef _ _ _ body _ _ _ _ _ _ _,j=>body.getD j (.Pass ⟨0,0,0,0⟩)
 |s,_=>s
abbrev s_is_whole:PySem.Stmt:=top 16
abbrev s_is_name:PySem.Stmt:=top 17
abbrev s_is_whole_from:PySem.Stmt:=top 18
abbrev s_is_amount:PySem.Stmt:=top 20
abbrev s_amounts_of:PySem.Stmt:=top 21
abbrev s_above_nought:PySem.Stmt:=top 22
abbrev s_amount_of:PySem.Stmt:=top 23
abbrev s_added:PySem.Stmt:=top 24
abbrev s_within:PySem.Stmt:=top 25
abbrev s_beyond:PySem.Stmt:=top 26
abbrev s_total_of:PySem.Stmt:=top 27
abbrev s_made:PySem.Stmt:=top 31
abbrev s_changed:PySem.Stmt:=top 32
abbrev s_holds_beneath:PySem.Stmt:=top 33
abbrev s_held_by:PySem.Stmt:=top 34
abbrev s_are_wares:PySem.Stmt:=top 43
abbrev s_check_name:PySem.Stmt:=top 44
abbrev s_read_house:PySem.Stmt:=top 45
abbrev s_check_promises:PySem.Stmt:=top 46
abbrev s_cell:PySem.Stmt:=top 49
abbrev s_pick:PySem.Stmt:=top 50
abbrev s_whole:PySem.Stmt:=top 51
abbrev s_names:PySem.Stmt:=top 52
abbrev s_parts:PySem.Stmt:=top 53
abbrev s_hold_parts:PySem.Stmt:=top 54
abbrev s_grove:PySem.Stmt:=top 55
abbrev s_both:PySem.Stmt:=top 56
abbrev s_tree:PySem.Stmt:=top 57
abbrev s_amounts:PySem.Stmt:=top 58
abbrev s_alike:PySem.Stmt:=top 59
abbrev s_turns:PySem.Stmt:=top 60
abbrev s_sum:PySem.Stmt:=top 61
abbrev s_short:PySem.Stmt:=top 62
abbrev s_same:PySem.Stmt:=top 63
abbrev s_put:PySem.Stmt:=top 64
abbrev s_lift:PySem.Stmt:=top 65
abbrev s_turned:PySem.Stmt:=top 66
abbrev s_deed:PySem.Stmt:=top 67
abbrev s_use:PySem.Stmt:=top 68
abbrev s_law:PySem.Stmt:=top 69
abbrev s_House_init:PySem.Stmt:=qbg (top 42) 0
abbrev s_Tree_init:PySem.Stmt:=qbg (top 47) 0
abbrev s_Tree_found:PySem.Stmt:=qbg (top 47) 1
abbrev s_Tree_wares:PySem.Stmt:=qbg (top 47) 2
abbrev s_Tree_names:PySem.Stmt:=qbg (top 47) 3
abbrev s_Tree_has:PySem.Stmt:=qbg (top 47) 4
abbrev s_Tree_check_house:PySem.Stmt:=qbg (top 47) 5
abbrev s_Tree_house_of:PySem.Stmt:=qbg (top 47) 6
abbrev s_Tree_elder_of:PySem.Stmt:=qbg (top 47) 7
abbrev s_Tree_promise_of:PySem.Stmt:=qbg (top 47) 8
abbrev s_Tree_kids:PySem.Stmt:=qbg (top 47) 11
abbrev s_Tree_line:PySem.Stmt:=qbg (top 47) 12
abbrev s_Tree_beneath:PySem.Stmt:=qbg (top 47) 13
abbrev s_Tree_promised_beneath:PySem.Stmt:=qbg (top 47) 14
abbrev s_Tree_check_more:PySem.Stmt:=qbg (top 47) 16
abbrev s_Hold_init:PySem.Stmt:=qbg (top 29) 0
abbrev s_Hold_is_sure:PySem.Stmt:=qbg (top 29) 1
abbrev s_Hold_told:PySem.Stmt:=qbg (top 29) 3
abbrev s_Loan_is_sure:PySem.Stmt:=qbg (top 30) 0
abbrev s_Store_init:PySem.Stmt:=qbg (top 36) 0
abbrev s_Store_put:PySem.Stmt:=qbg (top 36) 1
abbrev s_Store_keeps:PySem.Stmt:=qbg (top 36) 2
abbrev s_Store_hold_at:PySem.Stmt:=qbg (top 36) 3
abbrev s_Store_tell:PySem.Stmt:=qbg (top 36) 4
abbrev s_Store_numbers:PySem.Stmt:=qbg (top 36) 5
abbrev s_Store_under:PySem.Stmt:=qbg (top 36) 6
abbrev s_Store_at_house:PySem.Stmt:=qbg (top 36) 7
abbrev s_Store_promised:PySem.Stmt:=qbg (top 36) 9
abbrev s_Store_promised_but:PySem.Stmt:=qbg (top 36) 10
abbrev s_Store_use:PySem.Stmt:=qbg (top 36) 11
abbrev s_Store_too_much:PySem.Stmt:=qbg (top 36) 12
abbrev s_Store_check_fits:PySem.Stmt:=qbg (top 36) 14
abbrev s_Store_drop:PySem.Stmt:=qbg (top 36) 15
abbrev s_Store_change:PySem.Stmt:=qbg (top 36) 16
abbrev s_Store_lift:PySem.Stmt:=qbg (top 36) 17
abbrev s_Store_turn:PySem.Stmt:=qbg (top 36) 18
abbrev s_Store_twin:PySem.Stmt:=qbg (top 36) 19
abbrev s_i_NoPromise:PySem.Stmt:=qbg (top 12) 0
set_option genSizeOf false in
set_option genInjectivity false in
structure Ad where
 w8p:Addr
 w7i:FuncData
 wal:Addr
 w8w:FuncData
 w47:Addr
 w3i:FuncData
 w75:Addr
 w66:FuncData
 w64:Addr
 w5j:FuncData
 w4l:Addr
 w43:FuncData
 w7c:Addr
 w6k:FuncData
 wfn:Addr
 wbz:FuncData
 wc4:Addr
 waa:FuncData
 wcp:Addr
 wan:FuncData
 w8m:Addr
 w7j:FuncData
 wgx:Addr
 wf2:FuncData
 wai:Addr
 w8n:FuncData
 w46:Addr
 w36:FuncData
 wac:Addr
 w8u:FuncData
 w7f:Addr
 w5z:FuncData
 w67:Addr
 w5k:FuncData
 w6s:Addr
 w55:FuncData
 w37:Addr
 w2l:FuncData
 whn:Addr
 wf9:FuncData
 whl:Addr
 weq:FuncData
 wej:Addr
 wc1:FuncData
 wfq:Addr
 wd0:FuncData
 wez:Addr
 wc6:FuncData
 w62:Addr
 w5e:FuncData
 wf8:Addr
 wcx:FuncData
 wgj:Addr
 wf4:FuncData
 wh7:Addr
 wfg:FuncData
 was:Addr
 w8q:FuncData
 wfh:Addr
 wcy:FuncData
 wf1:Addr
 wci:FuncData
 wjm:Addr
 whg:FuncData
 weo:Addr
 wc9:FuncData
 whd:Addr
 wfm:FuncData
 wjc:Addr
 wh5:FuncData
 wgp:Addr
 wer:FuncData
 wcv:Addr
 wak:FuncData
 wgy:Addr
 wfp:FuncData
 wja:Addr
 whm:FuncData
 wes:Addr
 wee:FuncData
 w65:Addr
 w59:FuncData
 w78:Addr
 w4a:FuncData
 wf5:Addr
 w1a:Value
 w69:Addr
 w3m:FuncData
 we2:Addr
 w0x:Value
 w92:Addr
 w7m:FuncData
 w96:Addr
 w7l:FuncData
 w8y:Addr
 w7b:FuncData
 w2h:Addr
 w21:FuncData
 w3u:Addr
 w38:FuncData
 w3y:Addr
 w3a:FuncData
 w2p:Addr
 w29:FuncData
 w76:Addr
 w6m:FuncData
 w7e:Addr
 w6t:FuncData
 w1g:Addr
 w16:FuncData
 w1c:Addr
 w15:FuncData
 w2j:Addr
 w28:FuncData
 w51:Addr
 w60:FuncData
 w4f:Addr
 w3s:FuncData
 w56:Addr
 w6q:FuncData
 w4j:Addr
 w3v:FuncData
 w6h:Addr
 w5f:FuncData
 w7d:Addr
 w68:FuncData
 w4z:Addr
 w4g:FuncData
 w3x:Addr
 w3b:FuncData
 w6j:Addr
 w5c:FuncData
 w45:Addr
 w3e:FuncData
 w5h:Addr
 w2t:FuncData
 wd4:Addr
 w0o:Value
 w3c:Addr
 w2r:FuncData
 w3f:Addr
 w2o:FuncData
 w1u:Addr
 w1m:FuncData
 w79:Addr
 w6f:FuncData
 w39:Addr
 w2n:FuncData
 w2d:Addr
 w22:FuncData
 w6c:Addr
 w58:FuncData
 w4k:Addr
 w44:FuncData
 w6r:Addr
 w5m:FuncData
 w6i:Addr
 w5d:FuncData
 w5x:Addr
 w5g:FuncData
 w5l:Addr
 w4m:FuncData
 w09:Addr
 w02:Addr
 w0n:Addr
 w0t:Addr
 w00:Addr
 w2m:Addr
 w6u:Addr
 w8v:Addr
 w0s:Addr
 w05:Addr
 w6v:Addr
 w3o:Addr
 w3p:Addr
 w4w:Addr
 w4u:Addr
 w1k:Addr
 w4v:Value
 w1j:Value
 w23:Value
 w1s:Value
 w1h:Value
 w0p:Value
structure Tx (K:Frag) (mg:Str->Option Value) (d:Ad):Prop where
 w8c:Fun K "is_whole" "is_whole" s_is_whole d.w8p d.w7i
 wbu:mg "is_whole" =some (.ref d.w8p)
 wbx:qah K d.w7i ["thing"] []
 wb1:Fun K "is_name" "is_name" s_is_name d.wal d.w8w
 wdw:mg "is_name" =some (.ref d.wal)
 we9:qah K d.w8w ["thing"] []
 w41:Fun K "is_whole_from" "is_whole_from" s_is_whole_from d.w47 d.w3i
 w6l:mg "is_whole_from" =some (.ref d.w47)
 w6a:qah K d.w3i ["thing","least","most"] []
 waw:Fun K "is_amount" "is_amount" s_is_amount d.w75 d.w66
 wfe:mg "is_amount" =some (.ref d.w75)
 wev:qah K d.w66 ["thing"] []
 w5v:Fun K "amounts_of" "amounts_of" s_amounts_of d.w64 d.w5j
 w9a:mg "amounts_of" =some (.ref d.w64)
 w9h:qah K d.w5j ["handed","wares"] []
 w6z:Fun K "above_nought" "above_nought" s_above_nought d.w4l d.w43
 wbh:mg "above_nought" =some (.ref d.w4l)
 wbf:qah K d.w43 ["amounts"] []
 w77:Fun K "amount_of" "amount_of" s_amount_of d.w7c d.w6k
 wb3:mg "amount_of" =some (.ref d.w7c)
 wam:qah K d.w6k ["amounts","ware"] []
 wa5:Fun K "added" "added" s_added d.wfn d.wbz
 wc8:mg "added" =some (.ref d.wfn)
 wcd:qah K d.wbz ["one","other"] []
 wg0:Fun K "within" "within" s_within d.wc4 d.waa
 wia:mg "within" =some (.ref d.wc4)
 wi7:qah K d.waa ["one","other"] []
 wa2:Fun K "beyond" "beyond" s_beyond d.wcp d.wan
 wck:mg "beyond" =some (.ref d.wcp)
 wco:qah K d.wan ["one","other"] []
 w8f:Fun K "total_of" "total_of" s_total_of d.w8m d.w7j
 wbp:mg "total_of" =some (.ref d.w8m)
 wbv:qah K d.w7j ["many"] []
 wgz:Fun K "made" "made" s_made d.wgx d.wf2
 wim:mg "made" =some (.ref d.wgx)
 wig:qah K d.wf2 ["number","house","amounts","rank","turns","sure"] []
 w7s:Fun K "changed" "changed" s_changed d.wai d.w8n
 wa9:mg "changed" =some (.ref d.wai)
 wao:qah K d.w8n ["hold","amounts","turns","sure"] []
 w61:Fun K "holds_beneath" "holds_beneath" s_holds_beneath d.w46 d.w36
 wb0:mg "holds_beneath" =some (.ref d.w46)
 waz:qah K d.w36 ["tree","holds","house"] []
 wa8:Fun K "held_by" "held_by" s_held_by d.wac d.w8u
 wdo:mg "held_by" =some (.ref d.wac)
 we3:qah K d.w8u ["holds"] []
 wap:Fun K "are_wares" "are_wares" s_are_wares d.w7f d.w5z
 wf3:mg "are_wares" =some (.ref d.w7f)
 wel:qah K d.w5z ["thing"] []
 w5u:Fun K "check_name" "check_name" s_check_name d.w67 d.w5k
 w93:mg "check_name" =some (.ref d.w67)
 w9f:qah K d.w5k ["thing"] []
 w6o:Fun K "read_house" "read_house" s_read_house d.w6s d.w55
 w9b:mg "read_house" =some (.ref d.w6s)
 w94:qah K d.w55 ["wares","elder","promise","cap","weight"] []
 w20:Fun K "check_promises" "check_promises" s_check_promises d.w37 d.w2l
 w3g:mg "check_promises" =some (.ref d.w37)
 w3h:qah K d.w2l ["name","promises","cap"] []
 w74:Fun K "_law_cell" "_law_cell" s_cell d.whn d.wf9
 w83:mg "_law_cell" =some (.ref d.whn)
 w7u:qah K d.wf9 ["_law_script","_law_k"] []
 w18:Fun K "_law_pick" "_law_pick" s_pick d.whl d.weq
 w1f:mg "_law_pick" =some (.ref d.whl)
 w1e:qah K d.weq ["_law_cell_here","_law_k","_law_many"] []
 wat:Fun K "_law_whole" "_law_whole" s_whole d.wej d.wc1
 wc3:mg "_law_whole" =some (.ref d.wej)
 wch:qah K d.wc1 ["_law_found"] []
 wew:Fun K "_law_names" "_law_names" s_names d.wfq d.wd0
 whj:mg "_law_names" =some (.ref d.wfq)
 wh9:qah K d.wd0 ["_law_cell_here","_law_many"] []
 wf7:Fun K "_law_parts" "_law_parts" s_parts d.wez d.wc6
 whp:mg "_law_parts" =some (.ref d.wez)
 whi:qah K d.wc6 ["_law_cell_here","_law_key","_law_wares","_law_scale","_law_many"] []
 w63:Fun K "_law_hold_parts" "_law_hold_parts" s_hold_parts d.w62 d.w5e
 w9i:mg "_law_hold_parts" =some (.ref d.w62)
 w9c:qah K d.w5e ["_law_cell_here","_law_wares","_law_scale"] []
 wgq:Fun K "_law_grove" "_law_grove" s_grove d.wf8 d.wcx
 wje:mg "_law_grove" =some (.ref d.wf8)
 wix:qah K d.wcx ["_law_script"] []
 wgt:Fun K "_law_both" "_law_both" s_both d.wgj d.wf4
 wif:mg "_law_both" =some (.ref d.wgj)
 wic:qah K d.wf4 ["_law_one","_law_other"] []
 wis:Fun K "_law_tree" "_law_tree" s_tree d.wh7 d.wfg
 wjq:mg "_law_tree" =some (.ref d.wh7)
 wk2:qah K d.wfg ["_law_names_here","_law_wares","_law_elders","_law_promises"] []
 wdq:Fun K "_law_amounts" "_law_amounts" s_amounts d.was d.w8q
 whb:mg "_law_amounts" =some (.ref d.was)
 wgv:qah K d.w8q ["_law_found"] []
 wgo:Fun K "_law_alike" "_law_alike" s_alike d.wfh d.wcy
 wj1:mg "_law_alike" =some (.ref d.wfh)
 wj5:qah K d.wcy ["_law_told","_law_row"] []
 wgk:Fun K "_law_turns" "_law_turns" s_turns d.wf1 d.wci
 wjf:mg "_law_turns" =some (.ref d.wf1)
 wj6:qah K d.wci ["_law_cell_here"] []
 wji:Fun K "_law_sum" "_law_sum" s_sum d.wjm d.whg
 wk6:mg "_law_sum" =some (.ref d.wjm)
 wjp:qah K d.whg ["_law_rows"] []
 wfj:Fun K "_law_short" "_law_short" s_short d.weo d.wc9
 wgg:mg "_law_short" =some (.ref d.weo)
 wh2:qah K d.wc9 ["_law_rows","_law_name","_law_parts_here","_law_promise","_law_but"] []
 wid:Fun K "_law_same" "_law_same" s_same d.whd d.wfm
 wjo:mg "_law_same" =some (.ref d.whd)
 wjt:qah K d.wfm ["_law_store","_law_rows"] []
 wjd:Fun K "_law_put" "_law_put" s_put d.wjc d.wh5
 wjz:mg "_law_put" =some (.ref d.wjc)
 wk4:qah K d.wh5 ["_law_store","_law_rows","_law_cell_here","_law_grove_here","_law_last"] []
 wil:Fun K "_law_lift" "_law_lift" s_lift d.wgp d.wer
 wjw:mg "_law_lift" =some (.ref d.wgp)
 wjv:qah K d.wer ["_law_store","_law_rows","_law_name","_law_promise"] []
 wg1:Fun K "_law_turned" "_law_turned" s_turned d.wcv d.wak
 whq:mg "_law_turned" =some (.ref d.wcv)
 why:qah K d.wak ["_law_rows"] []
 wij:Fun K "_law_deed" "_law_deed" s_deed d.wgy d.wfp
 wjn:mg "_law_deed" =some (.ref d.wgy)
 wk1:qah K d.wfp ["_law_store","_law_rows","_law_cell_here","_law_grove_here"] []
 wju:Fun K "_law_use" "_law_use" s_use d.wja d.whm
 wke:mg "_law_use" =some (.ref d.wja)
 wkb:qah K d.whm ["_law_store","_law_rows","_law_grove_here"] []
 wkc:Fun K "law" "law" s_law d.wes d.wee
 wkg:mg "law" =some (.ref d.wes)
 wda:Fun K "__init__" "House.__init__" s_House_init d.w65 d.w59
 wdu:qah K d.w59 ["self","elder","promise","cap","weight"] []
 wet:My.FunD K "__init__" "Tree.__init__" s_Tree_init d.w78 d.w4a d.wf5 #[d.w1a]
 wiy:qah K d.w4a ["self","wares","name","promise","cap","weight"] []
 wei:qah K d.w4a ["self","wares","name","promise","cap","weight"] [d.w1a]
 wdv:qb7 [.int 1] [d.w1a]
 wec:My.FunD K "found" "Tree.found" s_Tree_found d.w69 d.w3m d.we2 #[d.w0x]
 wio:qah K d.w3m ["self","name","elder","promise","cap","weight"] []
 wce:qah K d.w3m ["self","name","elder","promise","cap","weight"] [d.w0x]
 wcm:qb7 [.int 1] [d.w0x]
 wiq:Fun K "wares" "Tree.wares" s_Tree_wares d.w92 d.w7m
 wie:qah K d.w7m ["self"] []
 wii:Fun K "names" "Tree.names" s_Tree_names d.w96 d.w7l
 wih:qah K d.w7l ["self"] []
 wgd:Fun K "has" "Tree.has" s_Tree_has d.w8y d.w7b
 wbt:qah K d.w7b ["self","thing"] []
 w7x:Fun K "check_house" "Tree.check_house" s_Tree_check_house d.w2h d.w21
 w0k:qah K d.w21 ["self","thing"] []
 war:Fun K "house_of" "Tree.house_of" s_Tree_house_of d.w3u d.w38
 w5y:qah K d.w38 ["self","name"] []
 waf:Fun K "elder_of" "Tree.elder_of" s_Tree_elder_of d.w3y d.w3a
 w6b:qah K d.w3a ["self","name"] []
 w8z:Fun K "promise_of" "Tree.promise_of" s_Tree_promise_of d.w2p d.w29
 w4p:qah K d.w29 ["self","name"] []
 wek:Fun K "kids" "Tree.kids" s_Tree_kids d.w76 d.w6m
 wff:qah K d.w6m ["self","name"] []
 wf0:Fun K "line" "Tree.line" s_Tree_line d.w7e d.w6t
 wey:qah K d.w6t ["self","name"] []
 wbn:Fun K "beneath" "Tree.beneath" s_Tree_beneath d.w1g d.w16
 w4h:qah K d.w16 ["self","name"] []
 w5a:Fun K "promised_beneath" "Tree.promised_beneath" s_Tree_promised_beneath d.w1c d.w15
 w50:qah K d.w15 ["self","name"] []
 w8r:Fun K "check_more" "Tree.check_more" s_Tree_check_more d.w2j d.w28
 w8t:qah K d.w28 ["self","names","more"] []
 wfd:Fun K "__init__" "Hold.__init__" s_Hold_init d.w51 d.w60
 way:qah K d.w60 ["self","number","house","amounts","rank","turns"] []
 wbl:Fun K "is_sure" "Hold.is_sure" s_Hold_is_sure d.w4f d.w3s
 w2s:qah K d.w3s ["self"] []
 wfi:Fun K "told" "Hold.told" s_Hold_told d.w56 d.w6q
 wax:qah K d.w6q ["self"] []
 wbi:Fun K "is_sure" "Loan.is_sure" s_Loan_is_sure d.w4j d.w3v
 w2u:qah K d.w3v ["self"] []
 wde:Fun K "__init__" "Store.__init__" s_Store_init d.w6h d.w5f
 w9e:qah K d.w5f ["self","tree"] []
 wem:Fun K "put" "Store.put" s_Store_put d.w7d d.w68
 wf6:qah K d.w68 ["self","house","amounts","rank","turns","sure"] []
 wcj:Fun K "keeps" "Store.keeps" s_Store_keeps d.w4z d.w4g
 w84:qah K d.w4g ["self","thing"] []
 wa7:Fun K "hold_at" "Store.hold_at" s_Store_hold_at d.w3x d.w3b
 w3t:qah K d.w3b ["self","number"] []
 wd8:Fun K "tell" "Store.tell" s_Store_tell d.w6j d.w5c
 w95:qah K d.w5c ["self","number"] []
 wb8:Fun K "numbers" "Store.numbers" s_Store_numbers d.w45 d.w3e
 w5w:qah K d.w3e ["self"] []
 wcz:My.FunD K "under" "Store.under" s_Store_under d.w5h d.w2t d.wd4 #[d.w0o]
 wc5:qah K d.w2t ["self","house"] []
 w6y:qah K d.w2t ["self","house"] [d.w0o]
 w72:qb7 [.non] [d.w0o]
 w9q:Fun K "at_house" "Store.at_house" s_Store_at_house d.w3c d.w2r
 w5o:qah K d.w2r ["self","house"] []
 w9p:Fun K "promised" "Store.promised" s_Store_promised d.w3f d.w2o
 w9s:qah K d.w2o ["self","house"] []
 w6x:Fun K "promised_but" "Store.promised_but" s_Store_promised_but d.w1u d.w1m
 w3j:qah K d.w1m ["self","house","but"] []
 wep:Fun K "use" "Store.use" s_Store_use d.w79 d.w6f
 weu:qah K d.w6f ["self","house"] []
 w9m:Fun K "too_much" "Store.too_much" s_Store_too_much d.w39 d.w2n
 w9x:qah K d.w2n ["self","house","amounts","but"] []
 w7p:Fun K "check_fits" "Store.check_fits" s_Store_check_fits d.w2d d.w22
 w4c:qah K d.w22 ["self","house","amounts","but"] []
 we0:Fun K "drop" "Store.drop" s_Store_drop d.w6c d.w58
 w97:qah K d.w58 ["self","number"] []
 wbk:Fun K "change" "Store.change" s_Store_change d.w4k d.w44
 wbg:qah K d.w44 ["self","number","amounts","sure"] []
 wdi:Fun K "lift" "Store.lift" s_Store_lift d.w6r d.w5m
 wed:qah K d.w5m ["self","house"] []
 weg:Fun K "turn" "Store.turn" s_Store_turn d.w6i d.w5d
 wdg:qah K d.w5d ["self"] []
 wdp:Fun K "twin" "Store.twin" s_Store_twin d.w5x d.w5g
 wdh:qah K d.w5g ["self"] []
 whx:Fun K "__init__" "NoPromise.__init__" s_i_NoPromise d.w5l d.w4m
 w91:My.XClI K d.w05 d.w5l
 w7r:qah K d.w4m ["self","house","ware"] []
 wiz:mg "House" =some (.ref d.w09)
 wjx:mg "Tree" =some (.ref d.w02)
 wk0:mg "Hold" =some (.ref d.w0n)
 wk8:mg "Loan" =some (.ref d.w0t)
 whh:mg "Store" =some (.ref d.w00)
 wj2:mg "TreeError" =some (.ref d.w2m)
 whs:mg "NoName" =some (.ref d.w6u)
 wiv:mg "Taken" =some (.ref d.w8v)
 wgh:mg "NoHouse" =some (.ref d.w0s)
 wb7:mg "NoPromise" =some (.ref d.w05)
 wfy:mg "NoWare" =some (.ref d.w6v)
 wbq:mg "NoAmount" =some (.ref d.w3o)
 wg8:mg "NoNumber" =some (.ref d.w3p)
 whk:mg "TooMany" =some (.ref d.w4w)
 wgu:mg "TooDeep" =some (.ref d.w4u)
 whr:mg "NoHold" =some (.ref d.w1k)
 wgi:mg "LETTERS" =some d.w4v
 w6n:qba (.str "abcdefghijklmnopqrstuvwxyz") d.w4v
 wbm:mg "LONGEST_NAME" =some d.w1j
 w1v:qba (.int 8) d.w1j
 wdn:mg "MOST_WARES" =some d.w23
 w30:qba (.int 6) d.w23
 wcs:mg "MOST_HOUSES" =some d.w1s
 w25:qba (.int 40) d.w1s
 wbe:mg "LONGEST_LINE" =some d.w1h
 w1x:qba (.int 12) d.w1h
 w8i:mg "GREATEST_WEIGHT" =some d.w0p
 w13:qba (.int 1000) d.w0p
 wk7:mg "all" =none
 wft:mg "bool" =none
 w7q:mg "dict" =none
 wj8:mg "int" =none
 w08:mg "isinstance" =none
 w34:mg "len" =none
 whf:mg "list" =none
 wkd:mg "max" =none
 wjr:mg "min" =none
 w6d:mg "range" =none
 wkf:mg "set" =none
 w87:mg "sorted" =none
 wgs:mg "str" =none
 wjg:mg "tuple" =none
 w0i:Meth K d.w0n "is_sure" d.w4f
 w0h:Meth K d.w0t "is_sure" d.w4j
 w01:Cls K d.w00
 w6w:Mk K d.w00 d.w6h
 w2z:Meth K d.w0n "told" d.w56
 w32:Meth K d.w0t "told" d.w56
 kcN:kitCls K (.ref d.w05) (.ref d.w05)=some true
 kcH:kitCls K (.ref d.w1k) (.ref d.w1k)=some true
 kcP:kitCls K (.ref d.w05) (.ref d.w1k)=some false
 w4x:My.XBase K d.w2m
 w4b:My.XAt K d.w05
 wk9:findIn K (.ref d.w05) "house" =some none
 wka:findIn K (.ref d.w05) "ware" =some none
 w1z:Cls K d.w09
 w03:Cls K d.w02
 w8a:Mk K d.w09 d.w65
 wah:Mk K d.w02 d.w78
 w42:Cls K d.w0n
 w3z:Cls K d.w0t
 wa6:Mk K d.w0n d.w51
 wav:Mk K d.w0t d.w51
 w2b:Meth K d.w02 "found" d.w69
 w3k:Meth K d.w02 "wares" d.w92
 w3l:Meth K d.w02 "names" d.w96
 w2k:Meth K d.w02 "has" d.w8y
 w04:Meth K d.w02 "check_house" d.w2h
 w0u:Meth K d.w02 "house_of" d.w3u
 w0w:Meth K d.w02 "elder_of" d.w3y
 w0j:Meth K d.w02 "promise_of" d.w2p
 w31:Meth K d.w02 "kids" d.w76
 w2y:Meth K d.w02 "line" d.w7e
 w0r:Meth K d.w02 "beneath" d.w1g
 w0c:Meth K d.w02 "promised_beneath" d.w1c
 w0y:Meth K d.w02 "check_more" d.w2j
 w35:Meth K d.w00 "put" d.w7d
 w1i:Meth K d.w00 "keeps" d.w4z
 w0v:Meth K d.w00 "numbers" d.w45
 w12:Meth K d.w00 "under" d.w5h
 w0q:Meth K d.w00 "at_house" d.w3c
 w0d:Meth K d.w00 "promised_but" d.w1u
 w14:Meth K d.w00 "too_much" d.w39
 w0g:Meth K d.w00 "check_fits" d.w2d
 w0m:Meth K d.w00 "hold_at" d.w3x
 w1r:Meth K d.w00 "tell" d.w6j
 w17:Meth K d.w00 "promised" d.w3f
 w33:Meth K d.w00 "use" d.w79
 w1t:Meth K d.w00 "drop" d.w6c
 w1o:Meth K d.w00 "change" d.w4k
 w24:Meth K d.w00 "lift" d.w6r
 w2g:Meth K d.w00 "turn" d.w6i
 w2e:Meth K d.w00 "twin" d.w5x
 w0a:findIn K (.ref d.w00) "tree" =some none
 w06:findIn K (.ref d.w00) "holds" =some none
 w1d:findIn K (.ref d.w00) "last" =some none
 w0z:findIn K (.ref d.w09) "elder" =some none
 w0b:findIn K (.ref d.w09) "promise" =some none
 w19:findIn K (.ref d.w09) "cap" =some none
 w1n:findIn K (.ref d.w09) "weight" =some none
 w0e:findIn K (.ref d.w02) "sorted_wares" =some none
 w07:findIn K (.ref d.w02) "houses" =some none
 w1y:findIn K (.ref d.w0n) "number" =some none
 w2a:findIn K (.ref d.w0n) "house" =some none
 w1l:findIn K (.ref d.w0n) "amounts" =some none
 w2v:findIn K (.ref d.w0n) "rank" =some none
 w2f:findIn K (.ref d.w0n) "turns" =some none
 w1w:findIn K (.ref d.w0t) "number" =some none
 w26:findIn K (.ref d.w0t) "house" =some none
 w1q:findIn K (.ref d.w0t) "amounts" =some none
 w2x:findIn K (.ref d.w0t) "rank" =some none
 w2c:findIn K (.ref d.w0t) "turns" =some none
 whe:My.XCls K d.w0s
 wbw:My.XCls K d.w3o
 wfv:My.XCls K d.w6v
 wi6:My.XCls K d.w6u
 wge:My.XCls K d.w3p
 wjh:My.XCls K d.w8v
 wh8:My.XCls K d.w4w
 whc:My.XCls K d.w4u
 wi1:My.XCls K d.w1k
 w4y:kitCls K (.ref d.w05) (.type "BaseException")=some true
 wa4:kitCls K (.ref d.w1k) (.type "BaseException")=some true
def eV:Option Str->V
 |none=> .non
 |some z=> .str z
structure Ho where
 el:Option Str
 pa:Addr
 kp:List (Key × V)
 fp:Str->Option Int
 ca:Addr
 kc:List (Key × V)
 fc:Str->Option Int
 w:Int
structure He where
 n:Str
 a:Addr
 x:Ho
structure Ts where
 sw:Addr
 ws:List Str
 hs:Addr
 hl:List He
def fsH (x:Ho):List (Str × V):=[("elder",eV x.el),("promise",.ref x.pa),("cap",.ref x.ca),("weight",.int x.w)]
def HoAt (d:Ad) (H:Hp) (a:Addr) (x:Ho):Prop:=(∃dx,H a=some (.ins d.w09 dx (fsH x)))/\H x.pa=some (.dK x.kp)/\AD x.kp x.fp/\H x.ca=some (.dK x.kc)/\AD x.kc x.fc
theorem HoAt.same {d:Ad} {H H':Hp} {a:Addr} {x:Ho} (h:HoAt d H a x) (s:qas H H'):HoAt d H' a x:=⟨let ⟨dx,e⟩:=h.1;⟨dx,s _ _ e⟩,s _ _ h.2.1,h.2.2.1,s _ _ h.2.2.2.1,h.2.2.2.2⟩
def Ts.keys (S:Ts):List (Str × Addr):=S.hl.map fun e=>(e.n,e.a)
def Ts.at (S:Ts) (z:Str):Option He:=S.hl.find? fun e=>decide (e.n=z)
def fsT (S:Ts):List (Str × V):=[("sorted_wares",.ref S.sw),("houses",.ref S.hs)]
def qfq (d:Ad) (H:Hp) (t:Addr) (S:Ts):Prop:=(∃dx,H t=some (.ins d.w02 dx (fsT S)))/\H S.sw=some (.lst (S.ws.map V.str))/\H S.hs=some (.dK (oK S.keys))/\(S.hl.map (·.n)).Nodup/\S.hl.length<=60/\∀e∈S.hl,HoAt d H e.a e.x
theorem qfq.same {d:Ad} {H H':Hp} {t:Addr} {S:Ts} (h:qfq d H t S) (s:qas H H'):qfq d H' t S:=
 ⟨let ⟨dx,e⟩:=h.1;⟨dx,s _ _ e⟩,s _ _ h.2.1,s _ _ h.2.2.1,h.2.2.2.1,h.2.2.2.2.1,fun e he=>(h.2.2.2.2.2 e he).same s⟩
theorem qds (S:Ts) (z:Str):qd9 S.keys z=(S.at z).map (·.a):=by
 obtain⟨sw,ws,hs,hl⟩:=S
 unfold Ts.keys Ts.at
 dsimp only
 induction hl with
 |nil=>rfl
 |cons e r ih=>
  rw [zM,yU]
  unfold qd9
  by_cases q:e.n=z
  .rw [if_pos q,decide_eq_true q];rfl
  .rw [if_neg q,decide_eq_false q];exact ih
theorem qcn {S:Ts} {z:Str} {e:He} (h:S.at z=some e):e∈S.hl/\e.n=z:=⟨List.mem_of_find?_eq_some h,by have:=List.find?_some h;simpa using this⟩
def NotS (K:Frag) (H:Hp) (x:V):Prop:=∃t,TyOf K H x t/\kitOne K t (.type "str")=some false
def qei (K:Frag) (H:Hp) (x:V):Prop:=(∃z,x=.str z)\/(NotS K H x/\∀z,x≠ .str z)
def who (S:Ts):V->Option He
 | .str z=>S.at z
 |_=>none
theorem qd8 {S:Ts} {x:V} (h:∀z,x≠ .str z):who S x=none:=by
 cases x <;> first|rfl|(rename_i z;exact absurd rfl (h z))
def wfb (K:Frag) (d:Ad):Sp:=fun vs H Q _=>∃(t:Addr) (S:Ts) (x:V),vs=[.ref t,x]/\qfq d H t S/\qei K H x/\Q (.bl (who S x).isSome) H
def w7h (K:Frag) (d:Ad):Sp:=fun vs H Q E=>∃(t:Addr) (S:Ts) (x:V),vs=[.ref t,x]/\qfq d H t S/\qei K H x/\(∀e,who S x=some e->Q .non H)/\(who S x=none->E (.ref d.w0s) none H)
def w9l (K:Frag) (d:Ad):Sp:=fun vs H Q E=>∃(t:Addr) (S:Ts) (x:V),vs=[.ref t,x]/\qfq d H t S/\qei K H x/\(∀e,who S x=some e->Q (.ref e.a) H)/\(who S x=none->E (.ref d.w0s) none H)
def w9r (K:Frag) (d:Ad):Sp:=fun vs H Q E=>∃(t:Addr) (S:Ts) (x:V),vs=[.ref t,x]/\qfq d H t S/\qei K H x/\(∀e,who S x=some e->Q (eV e.x.el) H)/\(who S x=none->E (.ref d.w0s) none H)
def w80 (K:Frag) (d:Ad):Sp:=fun vs H Q E=>∃(t:Addr) (S:Ts) (x:V),vs=[.ref t,x]/\qfq d H t S/\qei K H x/\(∀e,who S x=some e->∀p,H p=none->Q (.ref p) (upd H p (.dK e.x.kp)))/\(who S x=none->E (.ref d.w0s) none H)
theorem r_notNs {H:Hp} {Q:VK} {a:Str} (h:Q (.bl true) H):rNotN (.str a) .non H Q:=⟨rfl,h⟩
theorem TyOf.same {K:Frag} {H H':Hp} {x:V} {t:Value} (h:TyOf K H x t) (s:qas H H'):TyOf K H' x t:=by
 cases h with
 |non=>exact .non
 |bl b=>exact .bl b
 |int i=>exact .int i
 |str z=>exact .str z
 |flt z=>exact .flt z
 |lst e=>exact .lst (s _ _ e)
 |frz e=>exact .frz (s _ _ e)
 |tup e=>exact .tup (s _ _ e)
 |dK e=>exact .dK (s _ _ e)
 |dT e=>exact .dT (s _ _ e)
 |ins e c a n k m=>exact .ins (s _ _ e) c a n k m
theorem qei.same {K:Frag} {H H':Hp} {x:V} (h:qei K H x) (s:qas H H'):qei K H' x:=by
 rcases h with h|⟨⟨t,a,b⟩,n⟩
 .exact .inl h
 .exact .inr ⟨⟨t,TyOf.same a s,b⟩,n⟩
inductive LineOf (S:Ts):Str->List Str->Prop
 |top {z:Str} {e:He} (h:S.at z=some e) (n:e.x.el=none):LineOf S z [z]
 |up {z y:Str} {e:He} {zs:List Str} (h:S.at z=some e) (n:e.x.el=some y) (r:LineOf S y zs):LineOf S z (z :: zs)
def RestOf (S:Ts):Option Str->List Str->Prop
 |none,zs=>zs=[]
 |some y,zs=>LineOf S y zs
theorem LineOf.open {S:Ts} {z:Str} {zs:List Str} (h:LineOf S z zs):∃e r,S.at z=some e/\zs=z :: r/\RestOf S e.x.el r:=by
 cases h with
 |top h n=>exact⟨_, [],h,rfl,by rw [n];rfl⟩
 |up h n r=>exact⟨_,_,h,rfl,by rw [n];exact r⟩
def lenAt (l:Addr) (H:Hp):Nat:=match H l with
 |some (.lst xs)=>xs.length
 |_=>0
theorem lenAt_eq {l:Addr} {H:Hp} {xs:List V} (e:H l=some (.lst xs)):lenAt l H=xs.length:=by unfold lenAt;rw [e]
def wef (K:Frag) (d:Ad):Sp:=fun vs H Q E=>∃(t:Addr) (S:Ts) (x:V),vs=[.ref t,x]/\qfq d H t S/\
 ((∃z zs,x=.str z/\LineOf S z zs/\zs.length<=1000/\∀l,H l=none->Q (.ref l) (upd H l (.lst (zs.map V.str))))\/(qei K H x/\who S x=none/\∀l,H l=none->E (.ref d.w0s) none (upd H l (.lst [x]))))
def qbb (S:Ts) (z:Str):List Str:=(S.hl.filter fun e=>decide (e.x.el=some z)).map (·.n)
def wdm (K:Frag) (d:Ad):Sp:=fun vs H Q E=>∃(t:Addr) (S:Ts) (x:V),vs=[.ref t,x]/\qfq d H t S/\qei K H x/\(∀e,who S x=some e->∀l ss H',qas H H'->H l=none->H' l=some (.lst (ss.map V.str))->ss.Perm (qbb S e.n)->PyProof.Rows.sortedS ss=true->Q (.ref l) H')/\(who S x=none->E (.ref d.w0s) none H)
def w90 (K:Frag) (d:Ad):Sp:=fun vs H Q _=>∃(a:Addr) (kvs:List (Key × V)) (f:Str->Option Int) (z:Str),vs=[.ref a,.str z]/\Rd H a (.dK kvs)/\AD kvs f/\Q (.int (gN f z)) H
def wb4 (K:Frag) (d:Ad):Sp:=fun vs H Q _=>∃(a:Addr) (kvs:List (Key × V)) (f:Str->Option Int),vs=[.ref a]/\H a=some (.dK kvs)/\AD kvs f/\kvs.length<=1000/\
 ∀l k' H',qas H H'->H l=none->H' l=some (.dK k')->AD k' (qcv f)->Q (.ref l) H'
def whz (K:Frag) (d:Ad):Sp:=fun vs H Q _=>∃(a b:Addr) (ka kb:List (Key × V)) (f g:Str->Option Int),vs=[.ref a,.ref b]/\Rd H a (.dK ka)/\H b=some (.dK kb)/\AD ka f/\AD kb g/\ka.length<=1000/\kb.length<=1000/\
 ∀l k' H',qas H H'->H l=none->H' l=some (.dK k')->AD k' (qd7 f g)->Q (.ref l) H'
def wh0 (K:Frag) (d:Ad):Sp:=fun vs H Q _=>∃(a b:Addr) (ka kb:List (Key × V)) (f g:Str->Option Int),vs=[.ref a,.ref b]/\Rd H a (.dK ka)/\Rd H b (.dK kb)/\AD ka f/\AD kb g/\ka.length < 64/\
 (∀H',qas H H'->(∀y,¬viol f g y)->Q .non H')/\∀z H',qas H H'->viol f g z->(∀y,viol f g y->leS z y)->Q (.str z) H'
structure Pt where
 a:Addr
 k:List (Key × V)
 f:Str->Option Int
def qc1 (ts:List Pt):Str->Option Int:=ts.foldl (fun f t=>qd7 f t.f) noF
def PtOk (H:Hp) (ws:List Str) (t:Pt):Prop:=H t.a=some (.dK t.k)/\AD t.k t.f/\∀z,t.f z≠none->z∈ws
def wfl (K:Frag) (d:Ad):Sp:=fun vs H Q _=>∃(L:Addr) (ts:List Pt) (ws:List Str),vs=[.ref L]/\SqL K H L (ts.map fun t=> .ref t.a)/\ws.length<=100/\(∀t∈ts,PtOk H ws t)/\
 ∀l k' H',qas H H'->H l=none->H' l=some (.dK k')->AD k' (qc1 ts)->Q (.ref l) H'
section
variable {K: Frag} {d: Ad} {H: Hp} {Q: VK} {E: XK}
theorem u_amount {a:Addr} {kvs:List (Key × V)} {f:Str->Option Int} {z:Str} (hR:Rd H a (.dK kvs)) (hA:AD kvs f) (q:Q (.int (gN f z)) H):w90 K d [.ref a,.str z] H Q E:=⟨a,kvs,f,z,rfl,hR,hA,q⟩
end
local macro_rules | `(tactic| walk_at "kit") => `(tactic| (with_reducible (first
 |assumption|exact kit_int_int|exact kit_int_bool|exact qgs
 |exact kit_str_str|exact kit_non_int|exact kit_lst_lst|exact kit_tup_tup
 |exact kit_dct_dct)))
local macro_rules | `(tactic| walk_at "ty") => `(tactic| (first
 |(with_reducible assumption) |(with_reducible exact TyOf.int _) |(with_reducible exact TyOf.bl _) |(with_reducible exact TyOf.str _)
 |(with_reducible exact TyOf.non) |((with_reducible refine' TyOf.tup ?h);(case h=>walk_at "heap")) |((with_reducible refine' TyOf.lst ?h);(case h=>walk_at "heap")) |((with_reducible refine' TyOf.dK ?h);(case h=>walk_at "heap"))))
local macro_rules | `(tactic| walk_at "heap") => `(tactic| first
 |with_reducible assumption|with_reducible exact qa1|((with_reducible refine' qa8 ?h ?n);(case n=>with_reducible assumption);(case h=>walk_at "heap")))
local macro_rules | `(tactic| walk_at "sqL") => `(tactic| first
 |with_reducible assumption|((with_reducible refine' sqL_new ?h ?n);(case n=>with_reducible assumption);(case h=>walk_at "sqL")) |((with_reducible refine' SqL.of ?h);(case h=>walk_at "heap")))
local macro_rules | `(tactic| walk_at "sqT") => `(tactic| first
 |with_reducible assumption|((with_reducible refine' sqT_new ?h ?n);(case n=>with_reducible assumption);(case h=>walk_at "sqT")) |((with_reducible refine' SqT.of ?h);(case h=>walk_at "heap")))
local macro_rules | `(tactic| walk_at "side") => `(tactic| first
 |assumption|exact rfl|omega|decide
 |(simp only [zR,yW,zB];omega) |exact⟨by omega,by omega⟩ |exact⟨by decide,by decide⟩ |exact⟨by omega,by assumption⟩
 |exact⟨by assumption,by assumption⟩ |exact⟨by decide,by assumption⟩ |exact⟨by decide,by decide,by decide⟩)
local macro_rules | `(tactic| walk_at "size") => `(tactic| (first
 |assumption|(simp only [zR,yW,zB,zS];first|decide|(show _<=16777216;omega) |(show _ < 16777216;omega)) |(show _<=16777216;omega) |(show _ < 16777216;omega)))
local macro_rules | `(tactic| walk_at "sp") => `(tactic| fail)
local macro_rules | `(tactic| walk_at "r1") => `(tactic| first
 |(with_reducible refine r_var (by with_unfolding_all exact rfl) ?_) |(with_reducible first|refine r_c ?_|refine r_op ?_|refine r_I0 ?_) |((with_reducible refine r_I ?hc ?_);(case hc=>walk_at "side")) |(with_reducible first|refine r_eqI ?_|refine r_neI ?_|refine r_eqS ?_|refine r_exb ?_|refine r_test ?_|refine r_tB ?_|refine r_and ?_|refine r_or ?_|refine r_not ?_|refine r_andV ?_|refine r_orV ?_|refine r_notV ?_|refine r_next ?_|refine r_seq ?_|refine r_drop ?_|refine r_ret ?_|refine r_if ?_|refine r_asg ?_)
 |(with_reducible refine r_name (by with_unfolding_all (simp only [List.set];exact rfl)) ?_) |(with_reducible first|refine r_gnil ?_|refine r_gcons ?_) |((with_reducible refine' r_gtup ?s ?n ?_);(case s=>walk_at "sqT");(case n=>exact rfl)) |(with_reducible first|refine r_for ?_|refine r_iL ?_|refine r_iR ?_)
 |((with_reducible refine' r_itL ?s ?_);(case s=>walk_at "sqL")) |((with_reducible refine' r_itR ?s ?t ?_);(case s=>walk_at "side");(case t=>walk_at "side")) |(with_reducible first|refine r_nx ?_|refine r_rt ?_|refine r_nil ?_|refine r_cons ?_|refine r_tup ?_|refine r_lst ?_) |((with_reducible refine r_new ?n ?_);(case n=>(simp only [zR,yW];decide)))
 |((with_reducible refine r_fresh ?_);intro p hp) |(with_reducible first|refine r_call ?_|refine r_callX ?_|refine r_cb ?_|refine r_raise ?_) |((with_reducible refine' r_ixT ?s ?e ?_);(case s=>walk_at "sqT");(case e=>exact rfl)) |(with_reducible first|refine r_comp ?_|refine r_true ?_|refine r_iS ?_|refine r_itS ?_|refine r_inS ?_)
 |((with_reducible refine' r_app ?a ?z ?_);(case a=>walk_at "heap");(case z=>walk_at "size")) |((with_reducible refine' r_lenS ?z ?_);(case z=>walk_at "size")) |((with_reducible refine' r_slS ?z ?_);(case z=>walk_at "size")) |(with_reducible first|refine r_sl ?_|refine r_noPart ?_|refine r_part ?_|refine r_exi ?_|refine r_chain ?_)
 |((with_reducible refine' r_lenT ?s ?_);(case s=>walk_at "sqT")) |((with_reducible refine' r_lenL ?s ?_);(case s=>walk_at "sqL")) |(with_reducible first|refine r_isNn ?_|refine r_isNi ?_|refine r_isNs ?_|refine r_notNn ?_|refine r_notNi ?_) |((with_reducible refine' r_isi ?t ?k ?_);(case t=>walk_at "ty");(case k=>walk_at "kit"))
 |(with_reducible first|refine i_nT ?_|refine i_nF ?_|refine iteT ?_|refine iteF ?_) |((with_reducible refine i_t ?c ?_);(case c=>walk_at "side")) |((with_reducible refine i_f ?c ?_);(case c=>walk_at "side")) |((with_reducible refine i_nf ?c ?_);(case c=>walk_at "side"))
 |walk_at "sp")
local macro_rules | `(tactic| walk_at "g") => `(tactic| repeat walk_at "r1")
local macro_rules|`(tactic|left)=>`(tactic|walk_at "g")
local macro_rules | `(tactic| walk_at "d") => `(tactic| try dsimp only [L2.cxOf, L2.Cx.nox, L2.Cx.wish, My.xw, pnd, suite])
local macro_rules | `(tactic| walk_at "rd") => `(tactic| first
 |with_reducible assumption|((with_reducible refine' qev ?h ?n);(case n=>with_reducible assumption);(case h=>walk_at "rd")) |((with_reducible refine' Rd.of ?h);(case h=>walk_at "heap")))
local macro_rules | `(tactic| walk_at "same") => `(tactic| first
 |with_reducible assumption|exact qas.refl _|((with_reducible refine' qdc ?h ?n);(case n=>with_reducible assumption);(case h=>walk_at "same")))
local macro_rules | `(tactic| walk_at "sp") => `(tactic| first
 |((with_reducible refine r_disp1 ?_);intro p hp) |((with_reducible refine' r_ds ?e ?_);(case e=>walk_at "heap")) |((with_reducible refine' u_amount ?r ?a ?_);(case r=>walk_at "rd");(case a=>with_reducible assumption)) |((with_reducible refine' qbk ?s ?e ?_);(case s=>walk_at "sqL");(case e=>exact rfl))
 |(with_reducible refine r_dg2 ?_) |((with_reducible refine' r_dg2a ?r ?_);(case r=>walk_at "rd")) |((with_reducible refine' r_dg2b ?r ?a ?_);(case r=>walk_at "rd");(case a=>with_reducible assumption)) |(with_reducible refine r_dg ?_)
 |((with_reducible refine' r_dgk ?r ?a ?e ?_);(case r=>walk_at "rd");(case a=>with_reducible assumption);(case e=>with_reducible assumption)) |(with_reducible refine r_dp ?_) |((with_reducible refine' r_dpk ?e ?z ?_);(case e=>walk_at "heap");(case z=>walk_at "size")) |((with_reducible refine r_dnew ?_);intro p hp)
 |(with_reducible first|refine r_thA ?_|refine r_iD ?_) |((with_reducible refine' r_dictCp ?e ?_);(case e=>walk_at "rd");intro p hp) |(with_reducible first|refine r_lp ?_|refine r_max ?_|refine r_min ?_|refine r_tyS ?_|refine r_mtX ?_) |((with_reducible refine' r_mtkX ?e ?l ?_);(case e=>walk_at "heap");(case l=>exact rfl))
 |(with_reducible refine r_mkX ?_) |((with_reducible refine' r_mtk ?e ?l ?_);(case e=>walk_at "heap");(case l=>exact rfl)) |(with_reducible first|refine r_notNs ?_|refine r_di ?_) |((with_reducible refine' r_diO ?r ?_);(case r=>walk_at "rd"))
 |(with_reducible first|refine r_mk ?_|refine r_mt ?_|refine r_fl ?_|refine r_fs ?_) |((with_reducible refine' r_flk ?e ?c ?n ?l ?_);(case e=>walk_at "heap");(case c=>with_reducible assumption);(case n=>with_reducible assumption);(case l=>exact rfl)) |((with_reducible refine' qeb ?e ?c ?n ?z ?_);(case e=>walk_at "heap");(case c=>with_reducible assumption);(case n=>with_reducible assumption);(case z=>(show _ < 1000;decide))) |(with_reducible first|refine r_bm ?_|refine r_bm0 ?_)
 |((with_reducible refine' r_tyL ?s ?_);(case s=>walk_at "sqL")) |((with_reducible refine' r_tyD ?s ?_);(case s=>walk_at "heap")) |((with_reducible refine' r_append ?h ?z ?_);(case h=>walk_at "heap");(case z=>walk_at "size")) |((with_reducible refine' r_dclear ?h ?_);(case h=>walk_at "heap")))
theorem wfk:FnScope ["thing"] ["thing"] (qa9 s_is_whole):=⟨rfl,rfl,rfl,by decide+kernel,rfl,by decide+kernel,by decide+kernel⟩
theorem wgb:FnScope ["thing"] ["thing"] (qa9 s_is_name):=⟨rfl,rfl,rfl,by decide+kernel,rfl,by decide+kernel,by decide+kernel⟩
theorem w9n:FnScope ["thing","least","most"] ["thing","least","most"] (qa9 s_is_whole_from):=⟨rfl,rfl,rfl,by decide+kernel,rfl,by decide+kernel,by decide+kernel⟩
theorem wdl:FnScope ["thing"] ["thing"] (qa9 s_is_amount):=⟨rfl,rfl,rfl,by decide+kernel,rfl,by decide+kernel,by decide+kernel⟩
theorem w5b:FnScope ["handed","wares","key","ware"] ["handed","wares"] (qa9 s_amounts_of):=⟨rfl,rfl,rfl,by decide+kernel,rfl,by decide+kernel,by decide+kernel⟩
theorem w3r:FnScope ["amounts","told","ware"] ["amounts"] (qa9 s_above_nought):=⟨rfl,rfl,rfl,by decide+kernel,rfl,by decide+kernel,by decide+kernel⟩
theorem wdc:FnScope ["amounts","ware"] ["amounts","ware"] (qa9 s_amount_of):=⟨rfl,rfl,rfl,by decide+kernel,rfl,by decide+kernel,by decide+kernel⟩
theorem wcb:FnScope ["one","other","told","ware"] ["one","other"] (qa9 s_added):=⟨rfl,rfl,rfl,by decide+kernel,rfl,by decide+kernel,by decide+kernel⟩
theorem wgr:FnScope ["one","other"] ["one","other"] (qa9 s_within):=⟨rfl,rfl,rfl,by decide+kernel,rfl,by decide+kernel,by decide+kernel⟩
theorem wdj:FnScope ["one","other","ware"] ["one","other"] (qa9 s_beyond):=⟨rfl,rfl,rfl,by decide+kernel,rfl,by decide+kernel,by decide+kernel⟩
theorem w54:FnScope ["many","total","amounts"] ["many"] (qa9 s_total_of):=⟨rfl,rfl,rfl,by decide+kernel,rfl,by decide+kernel,by decide+kernel⟩
theorem wj3:FnScope ["number","house","amounts","rank","turns","sure"] ["number","house","amounts","rank","turns","sure"] (qa9 s_made):=⟨rfl,rfl,rfl,by decide+kernel,rfl,by decide+kernel,by decide+kernel⟩
theorem wgf:FnScope ["hold","amounts","turns","sure"] ["hold","amounts","turns","sure"] (qa9 s_changed):=⟨rfl,rfl,rfl,by decide+kernel,rfl,by decide+kernel,by decide+kernel⟩
theorem w5r:FnScope ["tree","holds","house","names"] ["tree","holds","house"] (qa9 s_holds_beneath):=⟨rfl,rfl,rfl,by decide+kernel,rfl,by decide+kernel,by decide+kernel⟩
theorem wg5:FnScope ["holds"] ["holds"] (qa9 s_held_by):=⟨rfl,rfl,rfl,by decide+kernel,rfl,by decide+kernel,by decide+kernel⟩
theorem wdx:FnScope ["thing"] ["thing"] (qa9 s_are_wares):=⟨rfl,rfl,rfl,by decide+kernel,rfl,by decide+kernel,by decide+kernel⟩
theorem wcr:FnScope ["thing"] ["thing"] (qa9 s_check_name):=⟨rfl,rfl,rfl,by decide+kernel,rfl,by decide+kernel,by decide+kernel⟩
theorem w52:FnScope ["wares","elder","promise","cap","weight","own_promise","own_cap"] ["wares","elder","promise","cap","weight"] (qa9 s_read_house):=⟨rfl,rfl,rfl,by decide+kernel,rfl,by decide+kernel,by decide+kernel⟩
theorem w4s:FnScope ["name","promises","cap","ware"] ["name","promises","cap"] (qa9 s_check_promises):=⟨rfl,rfl,rfl,by decide+kernel,rfl,by decide+kernel,by decide+kernel⟩
theorem wfa:FnScope ["_law_script","_law_k","_law_rest"] ["_law_script","_law_k"] (qa9 s_cell):=⟨rfl,rfl,rfl,by decide+kernel,rfl,by decide+kernel,by decide+kernel⟩
theorem wgm:FnScope ["_law_cell_here","_law_k","_law_many","_law_number"] ["_law_cell_here","_law_k","_law_many"] (qa9 s_pick):=⟨rfl,rfl,rfl,by decide+kernel,rfl,by decide+kernel,by decide+kernel⟩
theorem whv:FnScope ["_law_found"] ["_law_found"] (qa9 s_whole):=⟨rfl,rfl,rfl,by decide+kernel,rfl,by decide+kernel,by decide+kernel⟩
theorem w4e:FnScope ["_law_cell_here","_law_many","_law_letters","_law_long","_law_at","_law_word","_law_names_here","_law_k","_law_name"] ["_law_cell_here","_law_many"] (qa9 s_names):=⟨rfl,rfl,rfl,by decide+kernel,rfl,by decide+kernel,by decide+kernel⟩
theorem wa3:FnScope ["_law_cell_here","_law_key","_law_wares","_law_scale","_law_many","_law_parts_here","_law_j","_law_part"] ["_law_cell_here","_law_key","_law_wares","_law_scale","_law_many"] (qa9 s_parts):=⟨rfl,rfl,rfl,by decide+kernel,rfl,by decide+kernel,by decide+kernel⟩
theorem w88:FnScope ["_law_cell_here","_law_wares","_law_scale","_law_parts_here"] ["_law_cell_here","_law_wares","_law_scale"] (qa9 s_hold_parts):=⟨rfl,rfl,rfl,by decide+kernel,rfl,by decide+kernel,by decide+kernel⟩
theorem w3n:FnScope ["_law_script","_law_first","_law_houses","_law_names_here","_law_wares","_law_scale","_law_elders","_law_promises","_law_k"] ["_law_script"] (qa9 s_grove):=⟨rfl,rfl,rfl,by decide+kernel,rfl,by decide+kernel,by decide+kernel⟩
theorem wen:FnScope ["_law_one","_law_other","_law_sums","_law_ware"] ["_law_one","_law_other"] (qa9 s_both):=⟨rfl,rfl,rfl,by decide+kernel,rfl,by decide+kernel,by decide+kernel⟩
theorem w7g:FnScope ["_law_names_here","_law_wares","_law_elders","_law_promises","_law_caps","_law_name","_law_at","_law_tree_here"] ["_law_names_here","_law_wares","_law_elders","_law_promises"] (qa9 s_tree):=⟨rfl,rfl,rfl,by decide+kernel,rfl,by decide+kernel,by decide+kernel⟩
theorem wbo:FnScope ["_law_found","_law_ware"] ["_law_found"] (qa9 s_amounts):=⟨rfl,rfl,rfl,by decide+kernel,rfl,by decide+kernel,by decide+kernel⟩
theorem wht:FnScope ["_law_told","_law_row"] ["_law_told","_law_row"] (qa9 s_alike):=⟨rfl,rfl,rfl,by decide+kernel,rfl,by decide+kernel,by decide+kernel⟩
theorem wg3:FnScope ["_law_cell_here","_law_way"] ["_law_cell_here"] (qa9 s_turns):=⟨rfl,rfl,rfl,by decide+kernel,rfl,by decide+kernel,by decide+kernel⟩
theorem wfz:FnScope ["_law_rows","_law_sums","_law_row"] ["_law_rows"] (qa9 s_sum):=⟨rfl,rfl,rfl,by decide+kernel,rfl,by decide+kernel,by decide+kernel⟩
theorem wfu:FnScope ["_law_rows","_law_name","_law_parts_here","_law_promise","_law_but","_law_have"] ["_law_rows","_law_name","_law_parts_here","_law_promise","_law_but"] (qa9 s_short):=⟨rfl,rfl,rfl,by decide+kernel,rfl,by decide+kernel,by decide+kernel⟩
theorem wgn:FnScope ["_law_store","_law_rows","_law_row"] ["_law_store","_law_rows"] (qa9 s_same):=⟨rfl,rfl,rfl,by decide+kernel,rfl,by decide+kernel,by decide+kernel⟩
theorem w5n:FnScope ["_law_store","_law_rows","_law_cell_here","_law_grove_here","_law_last","_law_names_here","_law_wares","_law_scale","_law_elders","_law_promises","_law_name","_law_parts_here","_law_sure","_law_row","_law_handed","_law_found"] ["_law_store","_law_rows","_law_cell_here","_law_grove_here","_law_last"] (qa9 s_put):=⟨rfl,rfl,rfl,by decide+kernel,rfl,by decide+kernel,by decide+kernel⟩
theorem wfo:FnScope ["_law_store","_law_rows","_law_name","_law_promise","_law_k","_law_row"] ["_law_store","_law_rows","_law_name","_law_promise"] (qa9 s_lift):=⟨rfl,rfl,rfl,by decide+kernel,rfl,by decide+kernel,by decide+kernel⟩
theorem wb5:FnScope ["_law_rows","_law_left","_law_row"] ["_law_rows"] (qa9 s_turned):=⟨rfl,rfl,rfl,by decide+kernel,rfl,by decide+kernel,by decide+kernel⟩
theorem w8k:FnScope ["_law_store","_law_rows","_law_cell_here","_law_grove_here","_law_way","_law_at","_law_row","_law_parts_here","_law_name"] ["_law_store","_law_rows","_law_cell_here","_law_grove_here"] (qa9 s_deed):=⟨rfl,rfl,rfl,by decide+kernel,rfl,by decide+kernel,by decide+kernel⟩
theorem wip:FnScope ["_law_store","_law_rows","_law_grove_here","_law_first"] ["_law_store","_law_rows","_law_grove_here"] (qa9 s_use):=⟨rfl,rfl,rfl,by decide+kernel,rfl,by decide+kernel,by decide+kernel⟩
theorem w4r:FnScope ["_law_script","_law_grove_here","_law_store","_law_rows","_law_many","_law_k","_law_last","_law_both_here","_law_kept","_law_cell_here","_law_who","_law_j"] ["_law_script"] (qa9 s_law):=⟨rfl,rfl,rfl,by decide+kernel,rfl,by decide+kernel,by decide+kernel⟩
theorem wcu:FnScope ["self","elder","promise","cap","weight"] ["self","elder","promise","cap","weight"] (qa9 s_House_init):=⟨rfl,rfl,rfl,by decide+kernel,rfl,by decide+kernel,by decide+kernel⟩
theorem w9g:FnScope ["self","wares","name","promise","cap","weight","house"] ["self","wares","name","promise","cap","weight"] (qa9 s_Tree_init):=⟨rfl,rfl,rfl,by decide+kernel,rfl,by decide+kernel,by decide+kernel⟩
theorem w5i:FnScope ["self","name","elder","promise","cap","weight","house","elders"] ["self","name","elder","promise","cap","weight"] (qa9 s_Tree_found):=⟨rfl,rfl,rfl,by decide+kernel,rfl,by decide+kernel,by decide+kernel⟩
theorem wfc:FnScope ["self","thing"] ["self","thing"] (qa9 s_Tree_has):=⟨rfl,rfl,rfl,by decide+kernel,rfl,by decide+kernel,by decide+kernel⟩
theorem w7a:FnScope ["self","thing"] ["self","thing"] (qa9 s_Tree_check_house):=⟨rfl,rfl,rfl,by decide+kernel,rfl,by decide+kernel,by decide+kernel⟩
theorem w9v:FnScope ["self","name"] ["self","name"] (qa9 s_Tree_house_of):=⟨rfl,rfl,rfl,by decide+kernel,rfl,by decide+kernel,by decide+kernel⟩
theorem w9k:FnScope ["self","name"] ["self","name"] (qa9 s_Tree_elder_of):=⟨rfl,rfl,rfl,by decide+kernel,rfl,by decide+kernel,by decide+kernel⟩
theorem w81:FnScope ["self","name"] ["self","name"] (qa9 s_Tree_promise_of):=⟨rfl,rfl,rfl,by decide+kernel,rfl,by decide+kernel,by decide+kernel⟩
theorem wdr:FnScope ["self","name"] ["self","name"] (qa9 s_Tree_kids):=⟨rfl,rfl,rfl,by decide+kernel,rfl,by decide+kernel,by decide+kernel⟩
theorem w48:FnScope ["self","name","told","elder"] ["self","name"] (qa9 s_Tree_line):=⟨rfl,rfl,rfl,by decide+kernel,rfl,by decide+kernel,by decide+kernel⟩
theorem w40:FnScope ["self","name","told","kid"] ["self","name"] (qa9 s_Tree_beneath):=⟨rfl,rfl,rfl,by decide+kernel,rfl,by decide+kernel,by decide+kernel⟩
theorem w4t:FnScope ["self","name"] ["self","name"] (qa9 s_Tree_promised_beneath):=⟨rfl,rfl,rfl,by decide+kernel,rfl,by decide+kernel,by decide+kernel⟩
theorem w49:FnScope ["self","names","more","name"] ["self","names","more"] (qa9 s_Tree_check_more):=⟨rfl,rfl,rfl,by decide+kernel,rfl,by decide+kernel,by decide+kernel⟩
theorem wdy:FnScope ["self","number","house","amounts","rank","turns"] ["self","number","house","amounts","rank","turns"] (qa9 s_Hold_init):=⟨rfl,rfl,rfl,by decide+kernel,rfl,by decide+kernel,by decide+kernel⟩
theorem waj:FnScope ["self"] ["self"] (qa9 s_Hold_is_sure):=⟨rfl,rfl,rfl,by decide+kernel,rfl,by decide+kernel,by decide+kernel⟩
theorem wds:FnScope ["self"] ["self"] (qa9 s_Hold_told):=⟨rfl,rfl,rfl,by decide+kernel,rfl,by decide+kernel,by decide+kernel⟩
theorem wb6:FnScope ["self"] ["self"] (qa9 s_Loan_is_sure):=⟨rfl,rfl,rfl,by decide+kernel,rfl,by decide+kernel,by decide+kernel⟩
theorem wd2:FnScope ["self","tree"] ["self","tree"] (qa9 s_Store_init):=⟨rfl,rfl,rfl,by decide+kernel,rfl,by decide+kernel,by decide+kernel⟩
theorem wdd:FnScope ["self","house","amounts","rank","turns","sure"] ["self","house","amounts","rank","turns","sure"] (qa9 s_Store_put):=⟨rfl,rfl,rfl,by decide+kernel,rfl,by decide+kernel,by decide+kernel⟩
theorem wbd:FnScope ["self","thing"] ["self","thing"] (qa9 s_Store_keeps):=⟨rfl,rfl,rfl,by decide+kernel,rfl,by decide+kernel,by decide+kernel⟩
theorem w9w:FnScope ["self","number"] ["self","number"] (qa9 s_Store_hold_at):=⟨rfl,rfl,rfl,by decide+kernel,rfl,by decide+kernel,by decide+kernel⟩
theorem wc0:FnScope ["self","number"] ["self","number"] (qa9 s_Store_tell):=⟨rfl,rfl,rfl,by decide+kernel,rfl,by decide+kernel,by decide+kernel⟩
theorem w9t:FnScope ["self"] ["self"] (qa9 s_Store_numbers):=⟨rfl,rfl,rfl,by decide+kernel,rfl,by decide+kernel,by decide+kernel⟩
theorem w73:FnScope ["self","house","holds"] ["self","house"] (qa9 s_Store_under):=⟨rfl,rfl,rfl,by decide+kernel,rfl,by decide+kernel,by decide+kernel⟩
theorem w8h:FnScope ["self","house"] ["self","house"] (qa9 s_Store_at_house):=⟨rfl,rfl,rfl,by decide+kernel,rfl,by decide+kernel,by decide+kernel⟩
theorem w8l:FnScope ["self","house"] ["self","house"] (qa9 s_Store_promised):=⟨rfl,rfl,rfl,by decide+kernel,rfl,by decide+kernel,by decide+kernel⟩
theorem w1p:FnScope ["self","house","but","holds"] ["self","house","but"] (qa9 s_Store_promised_but):=⟨rfl,rfl,rfl,by decide+kernel,rfl,by decide+kernel,by decide+kernel⟩
theorem we6:FnScope ["self","house"] ["self","house"] (qa9 s_Store_use):=⟨rfl,rfl,rfl,by decide+kernel,rfl,by decide+kernel,by decide+kernel⟩
theorem w8b:FnScope ["self","house","amounts","but"] ["self","house","amounts","but"] (qa9 s_Store_too_much):=⟨rfl,rfl,rfl,by decide+kernel,rfl,by decide+kernel,by decide+kernel⟩
theorem w3q:FnScope ["self","house","amounts","but","ware"] ["self","house","amounts","but"] (qa9 s_Store_check_fits):=⟨rfl,rfl,rfl,by decide+kernel,rfl,by decide+kernel,by decide+kernel⟩
theorem w7n:FnScope ["self","number","told"] ["self","number"] (qa9 s_Store_drop):=⟨rfl,rfl,rfl,by decide+kernel,rfl,by decide+kernel,by decide+kernel⟩
theorem w6p:FnScope ["self","number","amounts","sure","hold"] ["self","number","amounts","sure"] (qa9 s_Store_change):=⟨rfl,rfl,rfl,by decide+kernel,rfl,by decide+kernel,by decide+kernel⟩
theorem w1b:FnScope ["self","house","lifted","promised","promise","loan","together"] ["self","house"] (qa9 s_Store_lift):=⟨rfl,rfl,rfl,by decide+kernel,rfl,by decide+kernel,by decide+kernel⟩
theorem w53:FnScope ["self","ended","hold"] ["self"] (qa9 s_Store_turn):=⟨rfl,rfl,rfl,by decide+kernel,rfl,by decide+kernel,by decide+kernel⟩
theorem w7t:FnScope ["self","other"] ["self"] (qa9 s_Store_twin):=⟨rfl,rfl,rfl,by decide+kernel,rfl,by decide+kernel,by decide+kernel⟩
variable {P: Program} {w: World} {K: Frag} {mg: Str -> Option Value} {base: Heap} {d: Ad} (T: Tx K mg d)
include T in
theorem wb2:FnOk P w K mg base CX0 1 d.w8y d.w7b ["self","thing"] (wfb K d):=by
 refine T.wgd.ok wfc (fun vs H Q E h=>?_) (fun cdv A outer s H vs Q E hr h=>?_)
 .obtain⟨t,S,x,rfl,_⟩:=h;rfl
 obtain⟨t,S,x,rfl,hT,hx,q⟩:=h
 refine⟨_,(qa5 (qae (qe0 (qad qb2 rfl T.w08 PyProof.Rows.boot_isinstance (qa0 (pv 1) (qa0 (qbr (v:=.ty "str") rfl T.wgs PyProof.Rows.boot_str rfl) qa3))) (qdl (pe_cmp (pc_din (qb9 hr) (pv 1) (qaj (pv 0) rfl))))))),?_⟩
 walk_at "d"
 refine qac (σ:=[some (.ref t),some (x)]) rfl ?_
 obtain⟨⟨dx,ht⟩,hw,hh,nd,hz,hE⟩:=hT
 have ct:=T.w03
 have nh:qak K d.w02 "houses":=T.w07
 rcases hx with ⟨z,rfl⟩ |⟨⟨ty,ht1,ht2⟩,nz⟩
 .left
  rw [qds,Option.isSome_map]
  exact q
 .left
  rw [qd8 nz] at q
  exact q
include T in
theorem w0f:FnOk P w K mg base (My.CX1 P w) 2 d.w2h d.w21 ["self","thing"] (w7h K d):=by
 refine okX T.w7x w7a (fun vs H Q E h=>?_) (fun cdv A outer s H vs Q E hr h=>?_)
 .obtain⟨t,S,x,rfl,_⟩:=h;rfl
 obtain⟨t,S,x,rfl,hT,hx,q1,q2⟩:=h
 refine⟨_,(qa5 (qay (qbd (qaz (qgm (pv 0) T.w03 T.w2k ((wb2 T).mono (by decide)) hr T.wbt .nil qaf (qa0 (pv 1) qa3)))) (qa5 (qc3 rfl T.whe rfl T.wgh qao (qa0 qcr qa3))) qam)),?_⟩
 walk_at "d"
 refine qac (σ:=[some (.ref t),some (x)]) rfl ?_
 have hT0:=hT
 obtain⟨⟨dx,ht⟩,hw,hh,nd,hz,hE⟩:=hT
 have ct:=T.w03
 have nh:qak K d.w02 "houses":=T.w07
 left
 refine⟨t,S,x,rfl,hT0,hx,?_⟩
 cases hw':who S x with
 |none=>
  left
  show if (!false)=true then _ else _
  left
  exact q2 hw'
 |some e=>
  left
  exact q1 e hw'
include T in
theorem w5q:FnOk P w K mg base (My.CX1 P w) 3 d.w3u d.w38 ["self","name"] (w9l K d):=by
 refine okX T.war w9v (fun vs H Q E h=>?_) (fun cdv A outer s H vs Q E hr h=>?_)
 .obtain⟨t,S,x,rfl,_⟩:=h;rfl
 obtain⟨t,S,x,rfl,hT,hx,q1,q2⟩:=h
 refine⟨_,(qa4 (qat (qai (pv 0) T.w03 T.w04 ((w0f T).mono (by decide)) hr T.w0k .nil qao (qa0 (pv 1) qa3)))
  (qa5 (qae (qb3 (qb9 hr) (qaj (pv 0) rfl) (pv 1) (fun _ _=>rfl))))),?_⟩
 walk_at "d"
 refine qac (σ:=[some (.ref t),some (x)]) rfl ?_
 have hT0:=hT
 obtain⟨⟨dx,ht⟩,hw,hh,nd,hz,hE⟩:=hT
 have ct:=T.w03
 have nh:qak K d.w02 "houses":=T.w07
 left
 refine⟨t,S,x,rfl,hT0,hx,fun e he=>?_,q2⟩
 have hz':∃z,x=.str z:=by
  rcases hx with h|⟨_,nz⟩
  .exact h
  .rw [qd8 nz] at he;cases he
 obtain⟨z,rfl⟩:=hz'
 left
 refine r_dgO (.inl hh) (h:=e.a) (by rw [qds];show (S.at z).map _=_;rw [show S.at z=some e from he];rfl) ?_
 left
 exact q1 e he
include T in
theorem w5s:FnOk P w K mg base (My.CX1 P w) 4 d.w3y d.w3a ["self","name"] (w9r K d):=by
 refine okX T.waf w9k (fun vs H Q E h=>?_) (fun cdv A outer s H vs Q E hr h=>?_)
 .obtain⟨t,S,x,rfl,_⟩:=h;rfl
 obtain⟨t,S,x,rfl,hT,hx,q1,q2⟩:=h
 refine⟨_,(qa5 (qae (qaj (qai (pv 0) T.w03 T.w0u ((w5q T).mono (by decide)) hr T.w5y .nil qao (qa0 (pv 1) qa3)) rfl))),?_⟩
 walk_at "d"
 refine qac (σ:=[some (.ref t),some (x)]) rfl ?_
 have hT0:=hT
 obtain⟨⟨dx,ht⟩,hw,hh,nd,hz,hE⟩:=hT
 have ct:=T.w03
 have nh:qak K d.w02 "houses":=T.w07
 left
 refine⟨t,S,x,rfl,hT0,hx,fun e he=>?_,q2⟩
 obtain⟨z,rfl⟩:∃z,x=.str z:=by
  rcases hx with h|⟨_,nz⟩
  .exact h
  .rw [qd8 nz] at he;cases he
 obtain⟨⟨dh,ho⟩,hp,hpA,hc,hcA⟩:=hE e (qcn he).1
 have ch:=T.w1z
 have nf:qak K d.w09 "elder":=T.w0z
 have hRp:Rd H e.x.pa (.dK e.x.kp):=.inl hp
 have hRc:Rd H e.x.ca (.dK e.x.kc):=.inl hc
 left
 exact q1 e he
include T in
theorem w4d:FnOk P w K mg base (My.CX1 P w) 4 d.w2p d.w29 ["self","name"] (w80 K d):=by
 refine okX T.w8z w81 (fun vs H Q E h=>?_) (fun cdv A outer s H vs Q E hr h=>?_)
 .obtain⟨t,S,x,rfl,_⟩:=h;rfl
 obtain⟨t,S,x,rfl,hT,hx,q1,q2⟩:=h
 refine⟨_,(qa5 (qae (qbs qc5 rfl T.w7q PyProof.Rows.boot_dict (qa0 (qaj (qai (pv 0) T.w03 T.w0u ((w5q T).mono (by decide)) hr T.w5y .nil qao (qa0 (pv 1) qa3)) rfl) qa3)))),?_⟩
 walk_at "d"
 refine qac (σ:=[some (.ref t),some (x)]) rfl ?_
 have hT0:=hT
 obtain⟨⟨dx,ht⟩,hw,hh,nd,hz,hE⟩:=hT
 have ct:=T.w03
 have nh:qak K d.w02 "houses":=T.w07
 left
 refine⟨t,S,x,rfl,hT0,hx,fun e he=>?_,q2⟩
 obtain⟨z,rfl⟩:∃z,x=.str z:=by
  rcases hx with h|⟨_,nz⟩
  .exact h
  .rw [qd8 nz] at he;cases he
 obtain⟨⟨dh,ho⟩,hp,hpA,hc,hcA⟩:=hE e (qcn he).1
 have ch:=T.w1z
 have nf:qak K d.w09 "promise":=T.w0b
 have hRp:Rd H e.x.pa (.dK e.x.kp):=.inl hp
 have hRc:Rd H e.x.ca (.dK e.x.kc):=.inl hc
 left
 rename_i p hp
 exact q1 e he p hp
include T in
theorem w99:FnOk P w K mg base CX0 1 d.w7c d.w6k ["amounts","ware"] (w90 K d):=by
 refine T.w77.ok wdc (fun vs H Q E h=>?_) (fun cdv A outer s H vs Q E hr h=>?_)
 .obtain⟨a,kvs,f,z,rfl,_⟩:=h;rfl
 obtain⟨a,kvs,f,z,rfl,hR,hA,q⟩:=h
 refine⟨_,(qa5 (qae (qdz (qb9 hr) (pv 0) (pv 1) qa7 ⟨rfl,rfl,rfl,rfl⟩))),?_⟩
 walk_at "d"
 refine qac (σ:=[some (.ref a),some (.str z)]) rfl ?_
 left
 exact q
include T in
theorem wag:FnOk P w K mg base CX0 1 d.w4l d.w43 ["amounts"] (wb4 K d):=by
 refine T.w6z.ok w3r (fun vs H Q E h=>?_) (fun cdv A outer s H vs Q E hr h=>?_)
 .obtain⟨a,kvs,f,rfl,_⟩:=h;rfl
 obtain⟨a,kvs,f,rfl,hH,hA,hz,q⟩:=h
 refine⟨_,(qa4 (qag (i:=1) w3r.nd rfl (Or.inl rfl) qc7)
  (qa4 (qf0 (qbh PassesOwn.never rfl (qd3 (pv 0)) (qau (i:=2) w3r.nd rfl (Or.inl rfl)) (qa5 (qc0 (qay (qal qf6 (qb3 (qb9 hr) (pv 0) (pv 2) (fun _ _=>rfl)) qa7 (qap _)) (qa5 (qc4 (qb9 hr) (pv 1) (pv 2) (qb3 (qb9 hr) (pv 0) (pv 2) (fun _ _=>rfl)) rfl)) qam)))))
  (qa5 (qae (pv 1))))),?_⟩
 walk_at "d"
 refine qac (σ:=[some (.ref a),none,none]) rfl ?_
 left
 rename_i l hl
 have ea:=qa8 (o':=.dK []) hH hl
 have nla:l≠a:=(qa2 hH hl).symm
 refine qgi ea fun o=>?_
 refine qfd (fun i σ H'=>∃(k':List (Key × V)) (w:Option V),σ=[some (.ref a),some (.ref l),w]/\SameBut a H H'/\H' a=some (.frz o (.dK kvs))/\H' l=some (.dK k')/\k'.length<=i/\AD k' (fun y=>if y∈(qda kvs).take i then qcv f y else none))
  ⟨[],none,rfl,SameBut.at (SameBut.of (qaa hl _)),qa1,by rw [qa6 nla];exact qa1,Nat.le_refl _,AD.nil.cast fun z=>by simp [noF]⟩ ?_ ?_ ?_
 .rintro i σ H' _ ⟨k',w,rfl,sb,fz,hl',_⟩;exact fz
 .rintro i k v σ H' hk ⟨k',w,rfl,sb,fz,hl',hlen,hA'⟩
  obtain⟨z,n,rfl,rfl,hf,hzi⟩:=hA.at hk
  have hi:i < kvs.length:=(List.getElem?_eq_some_iff.mp hk).1
  have hRd:Rd H' a (.dK kvs):=.inr ⟨o,fz⟩
  show qfb _ (.str z) _ _ _
  left
  refine qbz ?_
  left
  refine i_2 (fun c=>?_) (fun c=>?_)
  .left
   refine⟨_,_,rfl,?_,by rw [qa6 nla.symm];exact fz,qa1,?_,(hA'.put z n).cast fun y=>?_⟩
   .exact qfy sb hl
   .have:=qbx k' (Sum.inr z) (.int n);omega
   .exact qge hzi (qcv f) (fun _=>none) (by unfold qcv;rw [hf];exact if_pos c) y
  .left
   refine⟨_,_,rfl,sb,fz,hl',by omega,hA'.cast fun y=>?_⟩
   exact step_no hzi (qcv f) (fun _=>none) (by unfold qcv;rw [hf];exact if_neg c) y
 .rintro σ H' ⟨k',w,rfl,sb,fz,hl',_,hA'⟩
  refine qew (qga fz (qch hH)) ?_
  left
  refine q l k' _ (qc2 hH sb) hl (by rw [qa6 nla];exact hl') (hA'.cast fun y=>?_)
  exact qgf hA (qcv f) (fun _=>none) (fun y e=>by unfold qcv;rw [e]) y
include T in
theorem wa0:FnOk P w K mg base CX0 2 d.wfn d.wbz ["one","other"] (whz K d):=by
 refine T.wa5.ok wcb (fun vs H Q E h=>?_) (fun cdv A outer s H vs Q E hr h=>?_)
 .obtain⟨a,b,ka,kb,f,g,rfl,_⟩:=h;rfl
 obtain⟨a,b,ka,kb,f,g,rfl,hRa,hb,hA,hB,za,zb,q⟩:=h
 refine⟨_,(qa4 (qag (i:=2) wcb.nd rfl (Or.inl rfl) (qbs qc5 rfl T.w7q PyProof.Rows.boot_dict (qa0 (pv 0) qa3)))
  (qa4 (qf0 (qbh PassesOwn.never rfl (qd3 (pv 1)) (qau (i:=3) wcb.nd rfl (Or.inl rfl)) (qa5 (qc4 (qb9 hr) (pv 2) (pv 3) (qar qb8 (qab ((w99 T).mono (by decide)) hr rfl T.wb3 T.w77.kp T.wam .nil qaf (qa0 (pv 0) (qa0 (pv 3) qa3))) (qb3 (qb9 hr) (pv 1) (pv 3) (fun _ _=>rfl))) rfl))))
  (qa5 (qae (pv 2))))),?_⟩
 walk_at "d"
 refine qac (σ:=[some (.ref a),some (.ref b),none,none]) rfl ?_
 left
 rename_i l hl
 have eb:=qa8 (o':=.dK ka) hb hl
 have nlb:l≠b:=(qa2 hb hl).symm
 refine qgi eb fun o=>?_
 refine qfd (fun i σ H'=>∃(k':List (Key × V)) (w:Option V),σ=[some (.ref a),some (.ref b),some (.ref l),w]/\SameBut b H H'/\H' b=some (.frz o (.dK kb))/\H' l=some (.dK k')/\k'.length<=1000+i/\AD k' (fun y=>if y∈(qda kb).take i then qd7 f g y else f y))
  ⟨ka,none,rfl,SameBut.at (SameBut.of (qaa hl _)),qa1,by rw [qa6 nlb];exact qa1,by omega,hA.cast fun z=>by simp⟩ ?_ ?_ ?_
 .rintro i σ H' _ ⟨k',w,rfl,sb,fz,hl',_⟩;exact fz
 .rintro i k v σ H' hk ⟨k',w,rfl,sb,fz,hl',hlen,hA'⟩
  obtain⟨z,n,rfl,rfl,hf,hzi⟩:=hB.at hk
  have hi:i < kb.length:=(List.getElem?_eq_some_iff.mp hk).1
  have hRb:Rd H' b (.dK kb):=.inr ⟨o,fz⟩
  have hRa':Rd H' a (.dK ka):=rd_in hRa hb sb fz
  show qfb _ (.str z) _ _ _
  left
  refine⟨_,_,rfl,qfy sb hl,by rw [qa6 nlb.symm];exact fz,qa1,?_,(hA'.put z _).cast fun y=>?_⟩
  .have:=qbx k' (Sum.inr z) (.int (gN f z+n));omega
  .exact qge hzi (qd7 f g) f (by unfold qd7;rw [hf]) y
 .rintro σ H' ⟨k',w,rfl,sb,fz,hl',_,hA'⟩
  refine qew (qga fz (qch hb)) ?_
  left
  refine q l k' _ (qc2 hb sb) hl (by rw [qa6 nlb];exact hl') (hA'.cast fun y=>?_)
  exact qgf hB (qd7 f g) f (fun y e=>by unfold qd7;rw [e]) y
include T in
theorem wae:FnOk P w K mg base CX0 2 d.wcp d.wan ["one","other"] (wh0 K d):=by
 refine T.wa2.ok wdj (fun vs H Q E h=>?_) (fun cdv A outer s H vs Q E hr h=>?_)
 .obtain⟨a,b,ka,kb,f,g,rfl,_⟩:=h;rfl
 obtain⟨a,b,ka,kb,f,g,rfl,hRa,hRb,hA,hB,za,qn,qs⟩:=h
 refine⟨_,(qa4 (qbh PassesOwn.never rfl (qb6 (qad (call_sortD rfl) rfl T.w87 PyProof.Rows.boot_sorted (qa0 (pv 0) qa3))) (qau (i:=2) wdj.nd rfl (Or.inl rfl)) (qa5 (qay (qal qf6 (qb3 (qb9 hr) (pv 0) (pv 2) (fun _ _=>rfl)) (qab ((w99 T).mono (by decide)) hr rfl T.wb3 T.w77.kp T.wam .nil qaf (qa0 (pv 1) (qa0 (pv 2) qa3))) (qap _)) (qa5 (qae (pv 2))) qam)))
  (qa5 (qae qck))),?_⟩
 walk_at "d"
 refine qac (σ:=[some (.ref a),some (.ref b),none]) rfl ?_
 left
 refine r_sortD hRa hA.keys (by rw [hA.klen];exact za) fun l ss hl hp hs=>?_
 have pw:=sorted_pw hs
 have hin:∀y,y∈ss↔f y≠none:=fun y=>(hp.mem_iff).trans (hA.kin y)
 left
 have sm:=qaa hl (.lst (ss.map V.str))
 have hRa':=qev hRa hl (u:=.lst (ss.map V.str))
 have hRb':=qev hRb hl (u:=.lst (ss.map V.str))
 refine qdn (xs:=ss.map V.str) (fun i σ H'=>H'=upd H l (.lst (ss.map V.str))/\(∃w,σ=[some (.ref a),some (.ref b),w])/\∀j y,j < i->ss[j]?=some y->¬viol f g y) ⟨rfl,⟨_,rfl⟩,fun j y hj=>absurd hj (Nat.not_lt_zero j)⟩ ?_ ?_ ?_
 .rintro i σ H' _ ⟨rfl,_⟩;exact SqL.of qa1
 .rintro i v σ H' hv ⟨rfl,⟨w,rfl⟩,hno⟩
  rw [zD] at hv
  obtain⟨z,hz,rfl⟩:=Option.map_eq_some_iff.mp hv
  have hfz:=(hin z).mp (zK hz)
  obtain⟨n,hn⟩:∃n,f z=some n:=by
   cases e:f z with
   |none=>exact absurd e hfz
   |some n=>exact⟨n,rfl⟩
  have gz:gN f z=n:=by unfold gN;rw [hn];rfl
  left
  refine i_2 (fun c=>?_) (fun c=>?_)
  .left
   refine qs z _ sm ⟨hfz,by rw [gz];exact c⟩ fun y hy=>?_
   obtain⟨j,hj,e⟩:=yD.mp ((hin y).mpr hy.1)
   have hji:i<=j:=by
    rcases Nat.lt_or_ge j i with h|h
    .exact absurd hy (hno j y h (by rw [zA hj,e]))
    .exact h
   obtain⟨hi,ez⟩:=List.getElem?_eq_some_iff.mp hz
   rcases Nat.eq_or_lt_of_le hji with h|h
   .subst h;rw [ez] at e;subst e;exact leS_refl _
   .have:=yI.mp pw i j hi hj h
    rw [ez,e] at this;exact this
  .left
   refine⟨rfl,⟨_,rfl⟩,fun j y hj hy=>?_⟩
   rcases Nat.lt_or_ge j i with h|h
   .exact hno j y h hy
   .have e:j=i:=by omega
    subst e
    rw [hz] at hy
    cases hy
    exact fun hv=>c (by have:=hv.2;rw [gz] at this;exact this)
 .rintro σ H' ⟨rfl,⟨w,rfl⟩,hno⟩
  left
  refine qn _ sm fun y hy=>?_
  obtain⟨j,hj,e⟩:=yD.mp ((hin y).mpr hy.1)
  exact hno j y (by rw [zB];exact hj) (by rw [zA hj,e]) hy
theorem sum_sup {ts:List Pt} {ws:List Str} (h:∀t∈ts,∀z,t.f z≠none->z∈ws):∀f0:Str->Option Int,(∀z,f0 z≠none->z∈ws)->∀z,ts.foldl (fun f t=>qd7 f t.f) f0 z≠none->z∈ws:=by
 induction ts with
 |nil=>intro f0 h0 z hz;exact h0 z hz
 |cons t ts ih=>intro f0 h0 z hz;exact ih (fun t' ht=>h t' (zF _ ht)) (qd7 f0 t.f) (qdj h0 (h t (zC ..))) z hz
include T in
theorem wad:FnOk P w K mg base CX0 3 d.w8m d.w7j ["many"] (wfl K d):=by
 refine T.w8f.ok w54 (fun vs H Q E h=>?_) (fun cdv A outer s H vs Q E hr h=>?_)
 .obtain⟨L,ts,ws,rfl,_⟩:=h;rfl
 obtain⟨L,ts,ws,rfl,hS,hw,hts,q⟩:=h
 refine⟨_,(qa4 (qag (i:=1) w54.nd rfl (Or.inl rfl) qc7)
  (qa4 (qbh PassesOwn.never rfl (qb6 (pv 0)) (qau (i:=2) w54.nd rfl (Or.inl rfl)) (qa5 (qag (i:=1) w54.nd rfl (Or.inl rfl) (qab ((wa0 T).mono (by decide)) hr rfl T.wc8 T.wa5.kp T.wcd .nil qaf (qa0 (pv 1) (qa0 (pv 2) qa3))))))
  (qa5 (qae (pv 1))))),?_⟩
 walk_at "d"
 refine qac (σ:=[some (.ref L),none,none]) rfl ?_
 left
 rename_i l0 hl0
 refine qdn (xs:=ts.map fun t=> .ref t.a) (fun i σ H'=>∃(l:Addr) (k':List (Key × V)) (w:Option V),σ=[some (.ref L),some (.ref l),w]/\qas H H'/\H l=none/\H' l=some (.dK k')/\AD k' (qc1 (ts.take i))) ⟨l0, [],none,rfl,qaa hl0 _,hl0,qa1,AD.nil⟩ ?_ ?_ ?_
 .rintro i σ H' _ ⟨l,k',w,rfl,sm,_⟩;exact sm.seq hS
 .rintro i v σ H' hv ⟨l,k',w,rfl,sm,hl,hl',hA'⟩
  rw [zD] at hv
  obtain⟨t,ht,rfl⟩:=Option.map_eq_some_iff.mp hv
  have hm:=zK ht
  obtain⟨h1,h2,h3⟩:=hts t hm
  have sup:∀z,qc1 (ts.take i) z≠none->z∈ws:=sum_sup (fun t' ht'=>(hts t' (List.mem_of_mem_take ht')).2.2) noF (fun z h=>absurd rfl h)
  have c1:=hA'.le sup
  have c2:=h2.le h3
  left
  refine⟨l,t.a,k',t.k,qc1 (ts.take i),t.f,rfl,.inl hl',sm _ _ h1,hA',h2,by omega,by omega,fun l2 k2 H2 sm2 hl2 e2 hA2=>?_⟩
  left
  refine⟨l2,k2,_,rfl,sm.trans sm2,sm.free hl2,e2,?_⟩
  have e:ts.take (i+1)=ts.take i++ [t]:=by rw [zT,ht];rfl
  rw [e]
  unfold qc1
  rw [List.foldl_append]
  exact hA2
 .rintro σ H' ⟨l,k',w,rfl,sm,hl,hl',hA'⟩
  rw [zB,zZ] at hA'
  left
  exact q l k' H' sm hl hl' hA'
include T in
theorem we1:FnOk P w K mg base (My.CX1 P w) 5 d.w7e d.w6t ["self","name"] (wef K d):=by
 refine okX T.wf0 w48 (fun vs H Q E h=>?_) (fun cdv A outer s H vs Q E hr h=>?_)
 .obtain⟨t,S,x,rfl,_⟩:=h;rfl
 obtain⟨t,S,x,rfl,hT,q⟩:=h
 refine⟨_,(qa4 (qag (i:=2) w48.nd rfl (Or.inl rfl) (qcb (qa0 (pv 1) qa3)))
  (qa4 (qag (i:=3) w48.nd rfl (Or.inl rfl) (qai (pv 0) T.w03 T.w0w ((w5s T).mono (by decide)) hr T.w6b .nil qao (qa0 (pv 1) qa3)))
  (qa4 (ps_while (qed rfl rfl) (qal qe1 (pv 3) qck (qap _)) (qa4 (qat (qdr PySem.F.plainAttrs_list PySem.F.slot_list_append PySem.F.type_list_append qbt (pv 2) (qa0 (pv 3) qa3)))
  (qa5 (qag (i:=3) w48.nd rfl (Or.inl rfl) (qai (pv 0) T.w03 T.w0w ((w5s T).mono (by decide)) hr T.w6b .nil qao (qa0 (pv 3) qa3))))))
  (qa5 (qae (pv 2)))))),?_⟩
 walk_at "d"
 refine qac (σ:=[some (.ref t),some (x),none,none]) rfl ?_
 have ct:=T.w03
 obtain⟨dx,ht⟩:=hT.1
 left
 rename_i l hl
 have sl:=qaa hl (.lst [x])
 rcases q with ⟨z,zs,rfl,hL,hz,q⟩ |⟨hx,hn,q⟩
 .obtain⟨e0,r0,h0,rfl,hr0⟩:=hL.open
  refine⟨t,S,.str z,rfl,hT.same sl,.inl ⟨z,rfl⟩,fun e he=>?_,fun he=>?_⟩
  .have ee:e0=e:=Option.some.inj (h0.symm.trans he)
   subst ee
   left
   refine while_by (fun σ H'=>∃(ys rs:List Str) (o:Option Str),σ=[some (.ref t),some (.str z),some (.ref l),some (eV o)]/\H'=upd H l (.lst (ys.map V.str))/\ys++rs=z :: r0/\RestOf S o rs) (fun _ H'=>(r0.length+1) - lenAt l H') ⟨[z],r0,_,rfl,rfl,rfl,hr0⟩ ?_ ?_
   .rintro σ H' ⟨ys,rs,o,rfl,rfl,hyr,hR⟩
    have hlen:=congrArg List.length hyr
    rw [zL,zR] at hlen
    have hz2:(z :: r0).length<=1000:=hz
    rw [zR] at hz2
    cases o with
    |none=>
     have:rs=[]:=hR
     subst this
     rw [yA] at hyr
     subst hyr
     rw [show eV none=V.non from rfl]
     left
     exact q l hl
    |some y=>
     obtain⟨e1,r1,h1,rfl,hr1⟩:=LineOf.open hR
     have sy:=qaa hl (.lst (ys.map V.str))
     have eL:upd H l (.lst (ys.map V.str)) l=some (.lst (ys.map V.str)):=qa1
     have hzz:(ys.map V.str).length < sizeLine:=by rw [zB];show _ < 16777216;omega
     rw [show eV (some y)=V.str y from rfl]
     left
     rw [qbe]
     have s2:=qaa hl (.lst (ys.map V.str++ [.str y]))
     have ht2:=s2 _ _ ht
     left
     refine⟨t,S,.str y,rfl,hT.same s2,.inl ⟨y,rfl⟩,fun e he=>?_,fun he=>?_⟩
     .have ee:e1=e:=Option.some.inj (h1.symm.trans he)
      subst ee
      left
      rw [zR] at hlen
      refine⟨⟨ys++ [y],r1,_,rfl,by rw [zG];rfl,by rw [yC];exact hyr,hr1⟩,?_⟩
      have g1:=lenAt_eq eL
      have g2:lenAt l (upd H l (.lst (ys.map V.str++ [V.str y])))=(ys.map V.str++ [V.str y]).length:=lenAt_eq qa1
      rw [zL,zB] at g2
      rw [zB] at g1
      rw [g1,g2]
      simp only [zR,yW]
      omega
     .rw [show who S (.str y)=some e1 from h1] at he;cases he
   .rintro σ H' Q1 Q2 hm ⟨v,hv,w,k,hk,hq⟩
    exact⟨v,hv,w,k,hk,hm _ _ hq⟩
  .rw [show who S (.str z)=some e0 from h0] at he;cases he
 .refine⟨t,S,x,rfl,hT.same sl,hx.same sl,fun e he=>?_,fun _=>q l hl⟩
  rw [hn] at he;cases he
theorem at_of {S:Ts} {e:He} (nd:(S.hl.map (·.n)).Nodup) (h:e∈S.hl):S.at e.n=some e:=by
 have q:qd9 S.keys e.n=some e.a:=lookO_of (by unfold Ts.keys;rw [yQ];exact nd) (zJ.mpr ⟨e,h,rfl⟩)
 unfold Ts.at
 revert nd h
 obtain⟨sw,ws,hs,hl⟩:=S
 dsimp only
 clear q
 intro nd h
 induction hl with
 |nil=>simp at h
 |cons y r ih=>
  rw [zM,zX] at nd
  rw [yU]
  rcases zV.mp h with h|h
  .subst h;rw [decide_eq_true rfl]
  .have ne:y.n≠e.n:=fun z=>nd.1 (by rw [z];exact zJ.mpr ⟨e,h,rfl⟩)
   rw [decide_eq_false ne]
   exact ih nd.2 h
theorem keys_at {S:Ts} {i:Nat} {k:Key} {v:V} (h:(oK S.keys)[i]?=some (k,v)):∃e,S.hl[i]?=some e/\k=Sum.inr e.n/\v=.ref e.a:=by
 unfold oK Ts.keys at h
 rw [zD,zD] at h
 cases q:S.hl[i]? with
 |none=>rw [q] at h;cases h
 |some e=>rw [q] at h;cases h;exact⟨e,rfl,rfl,rfl⟩
theorem qet (S:Ts):(oK S.keys).length=S.hl.length:=by unfold oK Ts.keys;rw [zB,zB]
theorem dec_el {o:Option Str} {z:Str}:decide (eV o=V.str z)=decide (o=some z):=by
 cases o with
 |none=>rfl
 |some y=>
  by_cases h:y=z
  .subst h;show decide (V.str y=V.str y)=_;rw [decide_eq_true rfl,decide_eq_true rfl]
  .rw [decide_eq_false (fun q=>h (by cases q;rfl)),decide_eq_false (fun q=>h (Option.some.inj q))]
theorem scal_el {o:Option Str} {z:Str}:scal (eV o) (V.str z)=true:=by cases o <;> rfl
include T in
theorem wdz:FnOk P w K mg base (My.CX1 P w) 3 d.w76 d.w6m ["self","name"] (wdm K d):=by
 refine okX T.wek wdr (fun vs H Q E h=>?_) (fun cdv A outer s H vs Q E hr h=>?_)
 .obtain⟨t,S,x,rfl,_⟩:=h;rfl
 obtain⟨t,S,x,rfl,hT,hx,q1,q2⟩:=h
 refine⟨_,(qa4 (qat (qai (pv 0) T.w03 T.w04 ((w0f T).mono (by decide)) hr T.w0k .nil qao (qa0 (pv 1) qa3)))
  (qa5 (qae (qad qeh rfl T.w87 PyProof.Rows.boot_sorted (qa0 (pe_thV (qcd (caps:=[0,1]) (cn:=["self","name"]) (qbm rfl rfl (by rfl) (by rfl) rfl ⟨rfl,⟨rfl,trivial⟩⟩ (by rfl) rfl ⟨⟨rfl,rfl,rfl,rfl,_,rfl⟩,⟨⟨rfl,rfl,rfl,rfl,_,rfl⟩,trivial⟩⟩ (by decide)) rfl (qd3 (qaj (pv 0) rfl)) (fun _ _ _ _=>(qej (qal qee (qaj (qb3 (qb9 hr) (qaj (pv 1) rfl) (pv 0) (fun _ _=>rfl)) rfl) (pv 2) (qap _)))) (fun _ _ _ _=>(pv 0)))) qa3))))),?_⟩
 walk_at "d"
 dsimp only [cxC]
 refine qac (σ:=[some (.ref t),some (x)]) rfl ?_
 have hT0:=hT
 obtain⟨⟨dx,ht⟩,hw,hh,nd,hz,hE⟩:=hT
 have ct:=T.w03
 have ch:=T.w1z
 have nh:qak K d.w02 "houses":=T.w07
 have nf:qak K d.w09 "elder":=T.w0z
 left
 refine⟨t,S,x,rfl,hT0,hx,fun e he=>?_,q2⟩
 obtain⟨z,rfl⟩:∃z,x=.str z:=by
  rcases hx with h|⟨_,nz⟩
  .exact h
  .rw [qd8 nz] at he;cases he
 obtain⟨hme,rfl⟩:=qcn he
 left
 refine r_thV ?_
 left
 refine qgi hh fun o=>?_
 intro C s0 H0 fp na hna
 have hF:upd H S.hs (.frz o (.dK (oK S.keys))) S.hs=some (.frz o (.dK (oK S.keys))):=qa1
 have sb:SameBut S.hs H (upd H S.hs (.frz o (.dK (oK S.keys)))):=sb_frz hh
 have ht2:=sb _ _ (ne_of ht hh (by intro z;cases z)) ht
 have hna0:H na=none:=by
  by_cases z:na=S.hs
  .subst z;rw [hF] at hna;cases hna
  .rw [qa6 z] at hna;exact hna
 have hE2:∀e∈S.hl,∃dx,upd H S.hs (.frz o (.dK (oK S.keys))) e.a=some (.ins d.w09 dx (fsH e.x)):=fun e he=>by
  obtain⟨⟨dx,q⟩,_⟩:=hE e he
  exact⟨dx,sb _ _ (ne_of q hh (by intro z;cases z)) q⟩
 generalize upd H S.hs (.frz o (.dK (oK S.keys)))=HF at*
 refine c_by S.hl.length (fun i H'=>H'=upd HF na (.lst ((((S.hl.take i).filter fun y=>decide (y.x.el=some e.n)).map (·.n)).map V.str))) rfl ?_ ?_ ?_ ?_
 .rintro i H' hi rfl
  exact⟨qa8 hF hna,by rw [qet];exact hi⟩
 .rintro H' rfl
  exact⟨qa8 hF hna,by rw [qet];exact Nat.le_refl _⟩
 .rintro i H' v H'' hi rfl ⟨rfl,k,v',hk,rfl⟩
  obtain⟨y,hy,rfl,rfl⟩:=keys_at hk
  have hym:=zK hy
  obtain⟨dy,hya⟩:=hE2 y hym
  have nx:(S.hl.take (i+1)).filter (fun y=>decide (y.x.el=some e.n))=(S.hl.take i).filter (fun y=>decide (y.x.el=some e.n))++(if decide (y.x.el=some e.n)=true then [y] else []):=by
   rw [zT,hy,yB]
   congr 1
   simp only [Option.toList_some,zU,yT]
  have hlen:((S.hl.take i).filter (fun y=>decide (y.x.el=some e.n))).length<=S.hl.length:=Nat.le_trans (zW ..) (by rw [zS];omega)
  left
  refine r_dgO (h:=y.a) (qev (.inr ⟨o,hF⟩) hna) (by rw [qds,at_of nd hym];rfl) ?_
  left
  refine⟨scal_el,?_⟩
  rw [dec_el]
  refine⟨_,rfl,?_⟩
  refine i_2 (fun c=>?_) (fun c=>?_)
  .left
   rw [qbe,nx,if_pos (decide_eq_true c),zG,zG];rfl
  .rw [nx,if_neg (by rw [decide_eq_false c];decide),yA]
 rintro H' rfl
 rw [zZ]
 have nns:na≠S.hs:=fun z=>by subst z;rw [hF] at hna;cases hna
 have eN:upd (upd HF na (.lst ((qbb S e.n).map V.str))) S.hs (.dK (oK S.keys)) na=some (.lst ((qbb S e.n).map V.str)):=by rw [qa6 nns];exact qa1
 have sm:qas H (upd (upd HF na (.lst ((qbb S e.n).map V.str))) S.hs (.dK (oK S.keys))):=qc2 hh (qfy sb hna0)
 have hkl:(qbb S e.n).length<=60:=by unfold qbb;rw [zB];exact Nat.le_trans (zW ..) hz
 refine⟨_,qga (qa8 hF hna) (qch hh),?_⟩
 show tNil _ (upd (upd HF na (.lst ((qbb S e.n).map V.str))) S.hs (.dK (oK S.keys))) _
 generalize upd (upd HF na (.lst ((qbb S e.n).map V.str))) S.hs (.dK (oK S.keys))=H3 at*
 left
 refine r_sortL (SqL.of eN) (by omega) fun l ss hl hp hs=>?_
 left
 exact q1 e he l ss _ (qdc sm hl) (sm.free hl) qa1 hp hs
theorem r_extend {H:Hp} {Q:VK} {l b:Addr} {xs zs:List V} (h:H l=some (.lst xs)) (hb:H b=some (.lst zs)) (hz:xs.length+zs.length<=sizeLine) (q:Q .non (upd H l (.lst (xs++zs)))):rExtend (.ref l) [.ref b] H Q:=⟨l,b,xs,zs,rfl,rfl,h,hb,hz,q⟩
def flat (parts:List (Str × List Str)):List Str:=(parts.map (·.2)).flatten
def Ben (S:Ts):Nat->Str->List Str->Prop
 |0,z,zs=>∃parts:List (Str × List Str),(parts.map (·.1)).Perm (qbb S z)/\zs=z :: flat parts/\∀p∈parts,False
 |n+1,z,zs=>∃parts:List (Str × List Str),(parts.map (·.1)).Perm (qbb S z)/\zs=z :: flat parts/\∀p∈parts,Ben S n p.1 p.2
def BenP (S:Ts):Nat->Str->List Str->Prop
 |0,z,zs=>∃(parts:List (Str × List Str)) (rest:List Str),(parts.map (·.1)++rest).Perm (qbb S z)/\zs=z :: flat parts/\∀p∈parts,False
 |n+1,z,zs=>∃(parts:List (Str × List Str)) (rest:List Str),(parts.map (·.1)++rest).Perm (qbb S z)/\zs=z :: flat parts/\∀p∈parts,BenP S n p.1 p.2
theorem Ben.part {S:Ts}:∀{n:Nat} {z:Str} {zs:List Str},Ben S n z zs->BenP S n z zs
 |0,_,_,⟨parts,a,b,c⟩=>⟨parts, [],by rw [yA];exact a,b,c⟩
 |n+1,_,_,⟨parts,a,b,c⟩=>⟨parts, [],by rw [yA];exact a,b,fun p hp=>Ben.part (c p hp)⟩
def BenK (S:Ts):Nat->Str->List Str->Prop
 |0,_,_=>False
 |n+1,z,zs=>Ben S n z zs
theorem ben_of {S:Ts} {n:Nat} {z:Str} {parts:List (Str × List Str)} (h:(parts.map (·.1)).Perm (qbb S z)) (hp:∀p∈parts,BenK S n p.1 p.2):Ben S n z (z :: flat parts):=by
 cases n with
 |zero=>exact⟨parts,h,rfl,hp⟩
 |succ n=>exact⟨parts,h,rfl,hp⟩
theorem benP_of {S:Ts} {n:Nat} {z:Str} {parts:List (Str × List Str)} {rest:List Str} (h:(parts.map (·.1)++rest).Perm (qbb S z)) (hp:∀p∈parts,BenK S n p.1 p.2):BenP S n z (z :: flat parts):=by
 cases n with
 |zero=>exact⟨parts,rest,h,rfl,hp⟩
 |succ n=>exact⟨parts,rest,h,rfl,fun p q=>Ben.part (hp p q)⟩
def Slim (S:Ts):Prop:=∀n z zs,BenP S n z zs->zs.length<=1000
def Dep (S:Ts):Nat->Str->Prop
 |0,z=>qbb S z=[]
 |n+1,z=>∀y∈qbb S z,Dep S n y
def wg2 (n:Nat) (K:Frag) (d:Ad):Sp:=fun vs H Q E=>∃(t:Addr) (S:Ts) (x:V),vs=[.ref t,x]/\qfq d H t S/\Slim S/\qei K H x/\(∀e,who S x=some e->Dep S n e.n/\∀l zs H',qas H H'->H l=none->H' l=some (.lst (zs.map V.str))->Ben S n e.n zs->Q (.ref l) H')/\(who S x=none->∀l,H l=none->E (.ref d.w0s) none (upd H l (.lst [x])))
theorem kid_at {S:Ts} {y z:Str} (nd:(S.hl.map (·.n)).Nodup) (h:y∈qbb S z):∃e,S.at y=some e/\e.n=y:=by
 obtain⟨e,he,rfl⟩:=zJ.mp h
 exact⟨e,at_of nd (zY.mp he).1,rfl⟩
theorem flat_app (a b:List (Str × List Str)):flat (a++b)=flat a++flat b:=by unfold flat;rw [zG,List.flatten_append]
theorem ben_step {P:Program} {w:World} {K:Frag} {mg:Str->Option Value} {base:Heap} {d:Ad} (T:Tx K mg d) (n:Nat) (spi:Sp) (IH:FnOk P w K mg base (My.CX1 P w) (3+n) d.w1g d.w16 ["self","name"] spi)
  (use:∀(t:Addr) (S:Ts) (z y:Str) (e:He) (H:Hp) (Q:VK) (E:XK),qfq d H t S->Slim S->Dep S n z->y∈qbb S z->S.at y=some e->e.n=y->(∀l zs H',qas H H'->H l=none->H' l=some (.lst (zs.map V.str))->BenK S n y zs->Q (.ref l) H')->spi [.ref t,.str y] H Q E):
  FnOk P w K mg base (My.CX1 P w) (3+n+1) d.w1g d.w16 ["self","name"] (wg2 n K d):=by
 refine okX T.wbn w40 (fun vs H Q E h=>?_) (fun cdv A outer s H vs Q E hr h=>?_)
 .obtain⟨t,S,x,rfl,_⟩:=h;rfl
 obtain⟨t,S,x,rfl,hT,hS,hx,q1,q2⟩:=h
 refine⟨_,(qa4 (qag (i:=2) w40.nd rfl (Or.inl rfl) (qcb (qa0 (pv 1) qa3)))
  (qa4 (qbh (qed rfl rfl) rfl (qb6 (qai (pv 0) T.w03 T.w31 ((wdz T).mono (by omega)) hr T.wff .nil qao (qa0 (pv 1) qa3))) (qau (i:=3) w40.nd rfl (Or.inl rfl)) (qa5 (qat (qdr PySem.F.plainAttrs_list PySem.F.slot_list_extend PySem.F.type_list_extend mt_extend (pv 2) (qa0 (qai (pv 0) T.w03 T.w0r IH hr T.w4h .nil qao (qa0 (pv 3) qa3)) qa3)))))
  (qa5 (qae (pv 2))))),?_⟩
 walk_at "d"
 refine qac (σ:=[some (.ref t),some (x),none,none]) rfl ?_
 have ct:=T.w03
 obtain⟨dx,ht⟩:=hT.1
 have nd:=hT.2.2.2.1
 left
 rename_i lt hlt
 have sl:=qaa hlt (.lst [x])
 refine⟨t,S,x,rfl,hT.same sl,hx.same sl,fun e he=>?_,fun he=>q2 he lt hlt⟩
 obtain⟨hD,q⟩:=q1 e he
 obtain⟨z,rfl⟩:∃z,x=.str z:=by
  rcases hx with h|⟨_,nz⟩
  .exact h
  .rw [qd8 nz] at he;cases he
 obtain⟨hme,rfl⟩:=qcn he
 intro lk ss H1 s1 hlk ek hp hs
 have eT:=s1 _ _ (qa1 (H:=H) (a:=lt) (o:=.lst [V.str e.n]))
 left
 have ntk:lk≠lt:=fun z=>by subst z;rw [qa1] at hlk;cases hlk
 refine qdn (xs:=ss.map V.str) (fun i σ H'=>∃(parts:List (Str × List Str)) (w:Option V),σ=[some (.ref t),some (.str e.n),some (.ref lt),w]/\parts.map (·.1)=ss.take i/\(∀p∈parts,BenK S n p.1 p.2)/\qas H H'/\H' lk=some (.lst (ss.map V.str))/\H' lt=some (.lst ((e.n :: flat parts).map V.str)))
  ⟨[],_,rfl,rfl,fun p hp=>absurd hp (by simp),sl.trans s1,ek,eT⟩ ?_ ?_ ?_
 .rintro i σ H' _ ⟨parts,w,_,_,_,_,ek',_⟩;exact SqL.of ek'
 .rintro i v σ H' hv ⟨parts,w,rfl,hps,hB,sm,ek',eT'⟩
  rw [zD] at hv
  obtain⟨y,hy,rfl⟩:=Option.map_eq_some_iff.mp hv
  have hyk:y∈qbb S e.n:=hp.mem_iff.mp (zK hy)
  obtain⟨ey,h1,h2⟩:=kid_at nd hyk
  have ht':=sm _ _ ht
  left
  refine use t S e.n y ey H' _ _ (hT.same sm) hS hD hyk h1 h2 fun l zs H2 s2 hl el hBy=>?_
  have eT2:=s2 _ _ eT'
  have hps2:(parts++ [(y,zs)]).map (·.1)=ss.take (i+1):=by rw [zG,hps,zT,hy];rfl
  have hB2:∀p∈parts++ [(y,zs)],BenK S n p.1 p.2:=fun p hp=>by
   rcases zN.mp hp with h|h
   .exact hB p h
   .have:=zH.mp h
    subst this;exact hBy
  have ef:flat (parts++ [(y,zs)])=flat parts++zs:=by rw [flat_app];congr 1;simp [flat]
  have hlen:=hS _ _ _ (benP_of (n:=n) (z:=e.n) (parts:=parts++ [(y,zs)]) (rest:=ss.drop (i+1)) (by rw [hps2,List.take_append_drop];exact hp) hB2)
  rw [ef,zR,zL] at hlen
  left
  refine r_extend eT2 el (by rw [zB,zB,zR];show _<=16777216;omega) ?_
  left
  refine⟨parts++ [(y,zs)],_,rfl,hps2,hB2,qbf (sm.trans s2) hlt,by rw [qa6 ntk];exact s2 _ _ ek',?_⟩
  rw [ef,<-zG];exact qa1
 .rintro σ H' ⟨parts,w,rfl,hps,hB,sm,ek',eT'⟩
  rw [zB,zZ] at hps
  left
  exact q lt _ H' sm hlt eT' (ben_of (by rw [hps];exact hp) hB)
theorem wh3 {P:Program} {w:World} {K:Frag} {mg:Str->Option Value} {base:Heap} {CX:CXT} {k:Nat} {f:Addr} {fd:FuncData} {ps:List Str}:FnOk P w K mg base CX k f fd ps (fun _ _ _ _=>False):=
 ⟨fun _ _ _ _ h=>h.elim,fun _ _ _ _ _ _ _ _ _ _ _ _ _ h=>h.elim⟩
theorem win {P:Program} {w:World} {K:Frag} {mg:Str->Option Value} {base:Heap} {d:Ad} (T:Tx K mg d):∀n:Nat,FnOk P w K mg base (My.CX1 P w) (3+n+1) d.w1g d.w16 ["self","name"] (wg2 n K d)
 |0=>ben_step T 0 (fun _ _ _ _=>False) wh3 fun t S z y e H Q E _ _ hD hy _ _ _=>by
  have:qbb S z=[]:=hD
  rw [this] at hy;simp at hy
 |n+1=>ben_step T (n+1) (wg2 n K d) (win T n) fun t S z y e H Q E hT hS hD hy h1 h2 q=>by
  refine⟨t,S,.str y,rfl,hT,hS,.inl ⟨y,rfl⟩,fun e' he'=>?_,fun he'=>?_⟩
  .have ee:e=e':=Option.some.inj (h1.symm.trans he')
   subst ee
   rw [h2]
   exact⟨hD y hy,fun l zs H' sm hl el hB=>q l zs H' sm hl el hB⟩
  .rw [show who S (.str y)=some e from h1] at he';cases he'
def wbb (K:Frag) (d:Ad):Sp:=wg2 12 K d
include T in
theorem w6e:FnOk P w K mg base (My.CX1 P w) 16 d.w1g d.w16 ["self","name"] (wbb K d):=win T 12
def upS (S:Ts) (y:Str):Option Str:=(S.at y).bind fun e=>e.x.el
def anc (S:Ts):Nat->Str->Option Str
 |0,y=>some y
 |k+1,y=>(upS S y).bind (anc S k)
theorem qdv {S:Ts}:∀(i j:Nat) (y:Str),anc S (i+j) y=(anc S i y).bind (anc S j)
 |0,j,y=>by rw [Nat.zero_add];rfl
 |i+1,j,y=>by
  rw [show i+1+j=(i+j)+1 by omega]
  show (upS S y).bind (anc S (i+j))=((upS S y).bind (anc S i)).bind (anc S j)
  cases upS S y with
  |none=>rfl
  |some u=>exact qdv i j u
def WF (S:Ts):Prop:=(S.hl.map (·.n)).Nodup/\∀e∈S.hl,∃zs,LineOf S e.n zs
theorem up_of {S:Ts} {z:Str} {e:He} (h:S.at z=some e):upS S z=e.x.el:=by unfold upS;rw [h];rfl
theorem line_end {S:Ts} {z:Str} {zs:List Str} (h:LineOf S z zs):anc S zs.length z=none:=by
 induction h with
 |top h n=>show (upS S _).bind _=none;rw [up_of h,n];rfl
 |up h n r ih=>show (upS S _).bind _=none;rw [up_of h,n];exact ih
theorem no_cycle {S:Ts} (w:WF S) {k:Nat} {z:Str}:anc S (k+1) z≠some z:=by
 intro c
 cases hz:S.at z with
 |none=>
  have:anc S (k+1) z=none:=by show (upS S z).bind _=none;unfold upS;rw [hz];rfl
  rw [this] at c;cases c
 |some e=>
  obtain⟨zs,hl⟩:=w.2 e (qcn hz).1
  rw [(qcn hz).2] at hl
  have he:=line_end hl
  have rep:∀m,anc S (m*(k+1)) z=some z:=by
   intro m
   induction m with
   |zero=>rw [Nat.zero_mul];rfl
   |succ m ih=>rw [Nat.succ_mul,qdv,ih];exact c
  have h1:=rep zs.length
  have h2:zs.length*(k+1)=zs.length+zs.length*k:=by rw [Nat.mul_add,Nat.mul_one];omega
  rw [h2,qdv,he] at h1
  cases h1
theorem kid_up {S:Ts} (w:WF S) {y z:Str} (h:y∈qbb S z):upS S y=some z:=by
 obtain⟨e,he,rfl⟩:=zJ.mp h
 obtain⟨hm,hd⟩:=zY.mp he
 unfold upS
 rw [at_of w.1 hm]
 exact of_decide_eq_true hd
theorem kids_nodup {S:Ts} (w:WF S) (z:Str):(qbb S z).Nodup:=by
 unfold qbb
 exact List.Nodup.sublist (List.Sublist.map _ List.filter_sublist) w.1
theorem ben_anc {S:Ts} (w:WF S):∀{n:Nat} {z:Str} {zs:List Str},BenP S n z zs->∀y∈zs,∃k,anc S k y=some z
 |0,z,_,⟨parts,rest,hp,rfl,hb⟩,y,hy=>by
  rcases zV.mp hy with rfl|hy
  .exact⟨0,rfl⟩
  .obtain⟨l,hl,_⟩:=yR.mp hy
   obtain⟨p,hpp,_⟩:=zJ.mp hl
   exact(hb p hpp).elim
 |n+1,z,_,⟨parts,rest,hp,rfl,hb⟩,y,hy=>by
  rcases zV.mp hy with rfl|hy
  .exact⟨0,rfl⟩
  .obtain⟨l,hl,hyl⟩:=yR.mp hy
   obtain⟨p,hpp,rfl⟩:=zJ.mp hl
   obtain⟨k,hk⟩:=ben_anc w (hb p hpp) y hyl
   have hu:=kid_up w (hp.mem_iff.mp (yF _ (zJ.mpr ⟨p,hpp,rfl⟩)))
   exact⟨k+1,by rw [qdv,hk];show (upS S p.1).bind _=_;rw [hu];rfl⟩
theorem apart {S:Ts} (w:WF S) {p q z y:Str} {i j:Nat} (hp:upS S p=some z) (hq:upS S q=some z) (ne:p≠q) (hi:anc S i y=some p) (hj:anc S j y=some q) (le:i<=j):False:=by
 obtain⟨c,rfl⟩:=Nat.exists_eq_add_of_le le
 rw [qdv,hi] at hj
 have hj':anc S c p=some q:=hj
 cases c with
 |zero=>exact ne (Option.some.inj hj')
 |succ c=>
  have h1:(upS S p).bind (anc S c)=some q:=hj'
  rw [hp] at h1
  have h2:anc S c z=some q:=h1
  refine no_cycle w (k:=c) (z:=z) ?_
  rw [qdv,h2]
  show (upS S q).bind _=_
  rw [hq];rfl
theorem qf5 {S:Ts} (w:WF S) {z:Str}:∀{parts:List (Str × List Str)},(parts.map (·.1)).Nodup->(∀p∈parts,upS S p.1=some z)->(∀p∈parts,p.2.Nodup/\∀y∈p.2,∃k,anc S k y=some p.1)->(flat parts).Nodup
 | [],_,_,_=>yY
 |p :: r,nd,hu,hb=>by
  rw [zM,zX] at nd
  have ih:=qf5 w (z:=z) nd.2 (fun q hq=>hu q (zF _ hq)) fun q hq=>hb q (zF _ hq)
  show (p.2++flat r).Nodup
  rw [List.nodup_append]
  refine⟨(hb p (zC ..)).1,ih,fun a ha b hbm e=>?_⟩
  subst e
  obtain⟨l,hl,hal⟩:=yR.mp hbm
  obtain⟨q,hq,rfl⟩:=zJ.mp hl
  obtain⟨i,hi⟩:=(hb p (zC ..)).2 a ha
  obtain⟨j,hj⟩:=(hb q (zF _ hq)).2 a hal
  have ne:p.1≠q.1:=fun z=>nd.1 (by rw [z];exact zJ.mpr ⟨q,hq,rfl⟩)
  have up:=hu p (zC ..)
  have uq:=hu q (zF _ hq)
  rcases Nat.le_total i j with h|h
  .exact apart w up uq ne hi hj h
  .exact apart w uq up ne.symm hj hi h
theorem qd0 {S:Ts} (w:WF S):∀{n:Nat} {z:Str} {zs:List Str},BenP S n z zs->zs.Nodup/\∀y∈zs,y=z\/y∈S.hl.map (·.n)
 |0,z,_,⟨parts,rest,hp,rfl,hb⟩=>by
  have:parts=[]:=by
   cases parts with
   |nil=>rfl
   |cons p r=>exact(hb p (zC ..)).elim
  subst this
  exact⟨by simp [flat],fun y hy=> .inl (by simpa [flat] using hy)⟩
 |n+1,z,_,⟨parts,rest,hp,rfl,hb⟩=>by
  have kd:=kids_nodup w z
  have hk:∀p∈parts,p.1∈qbb S z:=fun p h=>hp.mem_iff.mp (yF _ (zJ.mpr ⟨p,h,rfl⟩))
  have hu:∀p∈parts,upS S p.1=some z:=fun p h=>kid_up w (hk p h)
  have hn:(parts.map (·.1)).Nodup:=(List.nodup_append.mp (hp.nodup_iff.mpr kd)).1
  have fl:=qf5 w (z:=z) hn hu fun p h=>⟨(qd0 w (hb p h)).1,ben_anc w (hb p h)⟩
  refine⟨zX.mpr ⟨fun hm=>?_,fl⟩,fun y hy=>?_⟩
  .obtain⟨l,hl,hal⟩:=yR.mp hm
   obtain⟨q,hq,rfl⟩:=zJ.mp hl
   obtain⟨k,hk'⟩:=ben_anc w (hb q hq) z hal
   refine no_cycle w (k:=k) (z:=z) ?_
   rw [qdv,hk']
   show (upS S q.1).bind _=_
   rw [hu q hq];rfl
  .rcases zV.mp hy with rfl|hy
   .exact .inl rfl
   .obtain⟨l,hl,hal⟩:=yR.mp hy
    obtain⟨q,hq,rfl⟩:=zJ.mp hl
    have hq1:q.1∈S.hl.map (·.n):=by
     obtain⟨e,he,e1⟩:=zJ.mp (hk q hq)
     rw [<-e1];exact zJ.mpr ⟨e,(zY.mp he).1,rfl⟩
    rcases(qd0 w (hb q hq)).2 y hal with rfl|h
    .exact .inr hq1
    .exact .inr h
theorem slim_of {S:Ts} (w:WF S) (hz:S.hl.length<=60):Slim S:=fun n z zs h=>by
 obtain⟨nd,hm⟩:=qd0 w h
 have:=nd_le (m:=z :: S.hl.map (·.n)) nd fun y hy=>by
  rcases hm y hy with rfl|h
  .exact zC ..
  .exact zF _ h
 rw [zR,zB] at this
 omega
def ptOf (S:Ts) (y:Str):Pt:=match S.at y with
 |some e=>⟨e.x.pa,e.x.kp,e.x.fp⟩
 |none=>⟨0, [],noF⟩
theorem qgk {S:Ts} {y:Str} {e:He} (h:S.at y=some e):ptOf S y=⟨e.x.pa,e.x.kp,e.x.fp⟩:=by unfold ptOf;rw [h]
def qh0 (S:Ts):Prop:=S.ws.length<=100/\∀e∈S.hl,∀z,e.x.fp z≠none->z∈S.ws
def w4o (K:Frag) (d:Ad):Sp:=fun vs H Q E=>∃(t:Addr) (S:Ts) (x:V),vs=[.ref t,x]/\qfq d H t S/\WF S/\qh0 S/\qei K H x/\
 (∀e,who S x=some e->Dep S 12 e.n/\∀l zs k' H',qas H H'->H l=none->H' l=some (.dK k')->Ben S 12 e.n zs->AD k' (qc1 (zs.map (ptOf S)))->Q (.ref l) H')/\(who S x=none->∀l,H l=none->E (.ref d.w0s) none (upd H l (.lst [x])))
include T in
theorem w4q:FnOk P w K mg base (My.CX1 P w) 17 d.w1c d.w15 ["self","name"] (w4o K d):=by
 refine okX T.w5a w4t (fun vs H Q E h=>?_) (fun cdv A outer s H vs Q E hr h=>?_)
 .obtain⟨t,S,x,rfl,_⟩:=h;rfl
 obtain⟨t,S,x,rfl,hT,hW,hO,hx,q1,q2⟩:=h
 refine⟨_,(qa5 (qae (qab ((wad T).mono (by decide)) hr rfl T.wbp T.w8f.kp T.wbv .nil qaf (qa0 (qcd (caps:=[0]) (cn:=["self"]) (qbm rfl rfl (by rfl) (by rfl) rfl ⟨rfl,trivial⟩ (by rfl) rfl ⟨⟨rfl,rfl,rfl,rfl,_,rfl⟩,trivial⟩ (by decide)) rfl (qb6 (qai (pv 0) T.w03 T.w0r ((w6e T).mono (by decide)) hr T.w4h .nil qao (qa0 (pv 1) qa3))) (fun _ _ _ _=>qdy) (fun _ _ _ _=>(qaj (qb3 (qb9 hr) (qaj (pv 1) rfl) (pv 0) (fun _ _=>rfl)) rfl))) qa3)))),?_⟩
 walk_at "d"
 dsimp only [cxC]
 refine qac (σ:=[some (.ref t),some (x)]) rfl ?_
 have ct:=T.w03
 have ch:=T.w1z
 have nh:qak K d.w02 "houses":=T.w07
 have nf:qak K d.w09 "promise":=T.w0b
 obtain⟨dx,ht⟩:=hT.1
 have nd:=hT.2.2.2.1
 left
 refine⟨t,S,x,rfl,hT,slim_of hW hT.2.2.2.2.1,hx,fun e he=>⟨(q1 e he).1,?_⟩,q2⟩
 obtain⟨hD,q⟩:=q1 e he
 intro lb zs H1 s1 hlb eb hB
 left
 have hT1:=hT.same s1
 obtain⟨⟨_,ht1⟩,hw,hh,_,hz,hE⟩:=hT1
 have hbn:=qd0 hW (Ben.part hB)
 have hzs:=slim_of hW hz 12 _ _ (Ben.part hB)
 have hin:∀y∈zs,∃ey,S.at y=some ey/\ey∈S.hl:=fun y hy=>by
  have hy':y∈S.hl.map (·.n):=by
   rcases hbn.2 y hy with rfl|h
   .obtain⟨z,rfl⟩:∃z,x=.str z:=by
     rcases hx with h|⟨_,nz⟩
     .exact h
     .rw [qd8 nz] at he;cases he
    exact zJ.mpr ⟨e,(qcn he).1,rfl⟩
   .exact h
  obtain⟨ey,hm,rfl⟩:=zJ.mp hy'
  exact⟨ey,at_of nd hm,hm⟩
 intro C s0 H0 fp na hna
 refine c_by zs.length (fun i H'=>H'=upd H1 na (.lst (((zs.take i).map (ptOf S)).map fun u=> .ref u.a))) rfl ?_ ?_ ?_ ?_
 .rintro i H' hi rfl
  exact⟨_,.str zs[i],SqL.of (qa8 eb hna),by rw [zD,zA hi];rfl⟩
 .rintro H' rfl
  exact⟨_,SqL.of (qa8 eb hna),by rw [zB];exact Nat.le_refl _⟩
 .rintro i H' v H'' hi rfl ⟨rfl,hy⟩
  have hv:=hy _ (SqL.of (qa8 eb hna))
  rw [zD,zA hi] at hv
  cases hv
  obtain⟨ey,h1,hm⟩:=hin _ (zQ hi)
  obtain⟨⟨dy,hya⟩,_⟩:=hE ey hm
  left
  refine r_dgO (h:=ey.a) (qev (.inl hh) hna) (by rw [qds,h1];rfl) ?_
  left
  rw [qbe,zT,zA hi]
  congr 2
  simp only [Option.toList_some,zG,zM,xD,qgk h1]
 rintro H' rfl
 rw [zZ]
 have s2:=qaa hna (.lst ((zs.map (ptOf S)).map fun u=>V.ref u.a))
 have eN:upd H1 na (.lst ((zs.map (ptOf S)).map fun u=>V.ref u.a)) na=some (.lst ((zs.map (ptOf S)).map fun u=>V.ref u.a)):=qa1
 left
 refine⟨na,zs.map (ptOf S),S.ws,rfl,SqL.of eN,hO.1,fun u hu=>?_,fun l k' H2 s3 hl el hA=>q l zs k' H2 ((s1.trans s2).trans s3) ((s1.trans s2).free hl) el hB hA⟩
 obtain⟨y,hy,rfl⟩:=zJ.mp hu
 obtain⟨ey,h1,hm⟩:=hin y hy
 obtain⟨_,hp,hA,_⟩:=hE ey hm
 rw [qgk h1]
 exact⟨s2 _ _ hp,hA,hO.2 ey hm⟩
include T in
theorem w70:FnOk P w K mg base CX0 1 d.w5l d.w4m ["self","house","ware"] (fun _ _ _ _=>False):=wh3
def w8d (K:Frag) (d:Ad):Sp:=fun vs H Q _=>∃(x:V) (a b:Addr) (ka kb:List (Key × V)) (f g:Str->Option Int),vs=[x,.ref a,.ref b]/\Rd H a (.dK ka)/\Rd H b (.dK kb)/\AD ka f/\AD kb g/\ka.length < 64/\(∀z n,f z=some n->n<=gN g z)/\∀H',qas H H'->Q .non H'
include T in
theorem w2q:FnOk P w K mg base (My.CX1 P w) 3 d.w37 d.w2l ["name","promises","cap"] (w8d K d):=by
 refine okX T.w20 w4s (fun vs H Q E h=>?_) (fun cdv A outer s H vs Q E hr h=>?_)
 .obtain⟨x,a,b,ka,kb,f,g,rfl,_⟩:=h;rfl
 obtain⟨x,a,b,ka,kb,f,g,rfl,ha,hb,hf,hg,hz,hw,q⟩:=h
 refine⟨_,(qa4 (qag (i:=3) w4s.nd rfl (Or.inl rfl) (qab ((wae T).mono (by decide)) hr rfl T.wck T.wa2.kp T.wco .nil qaf (qa0 (pv 1) (qa0 (pv 2) qa3))))
  (qa5 (qay (qal qe1 (pv 3) qck (qap _)) (qa5 (ps_raiseI rfl T.w91 ((w70 T).mono (by decide)) hr T.w7r rfl T.wb7 qao (qa0 (pv 0) (qa0 (pv 3) qa3)))) qam))),?_⟩
 walk_at "d"
 refine qac (σ:=[some (x),some (.ref a),some (.ref b),none]) rfl ?_
 left
 refine⟨a,b,ka,kb,f,g,rfl,ha,hb,hf,hg,hz,fun H' sm _=>?_,fun z H' sm hv _=>?_⟩
 .left
  exact q _ sm
 .obtain⟨h1,h2⟩:=hv
  cases e:f z with
  |none=>exact absurd e h1
  |some n=>
   have h3:=hw z n e
   have h4:gN f z=n:=by unfold gN;rw [e];rfl
   omega
def w7o (K:Frag) (d:Ad):Sp:=fun vs H Q _=>∃(t lb m:Addr) (S:Ts) (zs:List Str) (km:List (Key × V)) (fm:Str->Option Int),vs=[.ref t,.ref lb,.ref m]/\qfq d H t S/\WF S/\qh0 S/\SqL K H lb (zs.map V.str)/\H m=some (.dK km)/\AD km fm/\S.ws.length<=50/\(∀z,fm z≠none->z∈S.ws)/\
 (∀y∈zs,∃e,S.at y=some e/\Dep S 12 y/\∀bs,Ben S 12 y bs->∀z n,qd7 (qc1 (bs.map (ptOf S))) fm z=some n->n<=gN e.x.fc z)/\∀H',qas H H'->Q .non H'
include T in
theorem w89:FnOk P w K mg base (My.CX1 P w) 18 d.w2j d.w28 ["self","names","more"] (w7o K d):=by
 refine okX T.w8r w49 (fun vs H Q E h=>?_) (fun cdv A outer s H vs Q E hr h=>?_)
 .obtain⟨t,lb,m,S,zs,km,fm,rfl,_⟩:=h;rfl
 obtain⟨t,lb,m,S,zs,km,fm,rfl,hT,hW,hO,hL,hm,hA,hws,hfm,hy,q⟩:=h
 refine⟨_,(qa5 (qbh (qed rfl rfl) rfl (qb6 (pv 1)) (qau (i:=3) w49.nd rfl (Or.inl rfl)) (qa5 (qat (qc8 ((w2q T).mono (by decide)) hr rfl T.w3g T.w20.kp T.w3h .nil qao (qa0 (pv 3) (qa0 (qab ((wa0 T).mono (by decide)) hr rfl T.wc8 T.wa5.kp T.wcd .nil qaf (qa0 (qai (pv 0) T.w03 T.w0c ((w4q T).mono (by decide)) hr T.w50 .nil qao (qa0 (pv 3) qa3)) (qa0 (pv 2) qa3))) (qa0 (qaj (qb3 (qb9 hr) (qaj (pv 0) rfl) (pv 3) (fun _ _=>rfl)) rfl) qa3)))))))),?_⟩
 walk_at "d"
 refine qac (σ:=[some (.ref t),some (.ref lb),some (.ref m),none]) rfl ?_
 have ct:=T.w03
 have ch:=T.w1z
 have nh:qak K d.w02 "houses":=T.w07
 have nf:qak K d.w09 "cap":=T.w19
 left
 refine qdn (xs:=zs.map V.str) (fun i σ H'=>qas H H'/\∃w,σ=[some (.ref t),some (.ref lb),some (.ref m),w]) ⟨qas.refl _,_,rfl⟩ ?_ ?_ ?_
 .rintro i σ H' _ ⟨sm,_⟩;exact sm.seq hL
 .rintro i v σ H' hv ⟨sm,w,rfl⟩
  rw [zD] at hv
  obtain⟨y,hyi,rfl⟩:=Option.map_eq_some_iff.mp hv
  obtain⟨e,h1,hD,hb⟩:=hy y (zK hyi)
  obtain⟨dx,ht⟩:=(hT.same sm).1
  left
  have sup:∀bs:List Str,(∀b∈bs,∃eb,S.at b=some eb/\eb∈S.hl)->∀z,qc1 (bs.map (ptOf S)) z≠none->z∈S.ws:=fun bs hbs=>by
   refine sum_sup (fun u hu z hz=>?_) noF (fun z hz=>absurd rfl hz)
   obtain⟨b,hb1,rfl⟩:=zJ.mp hu
   obtain⟨eb,h3,h4⟩:=hbs b hb1
   rw [qgk h3] at hz
   exact hO.2 eb h4 z hz
  refine⟨t,S,.str y,rfl,hT.same sm,hW,hO,.inl ⟨y,rfl⟩,fun e' he'=>?_,fun hn=>?_⟩
  .have ee:e=e':=Option.some.inj (h1.symm.trans he')
   subst ee
   have hme:=qcn h1
   rw [hme.2]
   refine⟨hD,fun l bs k' H2 s2 hl el hB hA2=>?_⟩
   have hbs:∀b∈bs,∃eb,S.at b=some eb/\eb∈S.hl:=fun b hb1=>by
    have hb2:b∈S.hl.map (·.n):=by
     rcases(qd0 hW (Ben.part hB)).2 b hb1 with rfl|h
     .exact zJ.mpr ⟨e,hme.1,hme.2⟩
     .exact h
    obtain⟨eb,h3,rfl⟩:=zJ.mp hb2
    exact⟨eb,at_of hW.1 h3,h3⟩
   have l1:=hA2.le (sup bs hbs)
   have l2:=hA.le hfm
   left
   refine⟨l,m,k',km,_,fm,rfl,.inl el,(sm.trans s2) _ _ hm,hA2,hA,by omega,by omega,fun lx kx H3 s3 hlx elx hA3=>?_⟩
   have sx:=(sm.trans s2).trans s3
   obtain⟨⟨dx3,ht3⟩,_,hh3,_,_,hE3⟩:=hT.same sx
   obtain⟨⟨dh,ho⟩,_,_,hc,hcA⟩:=hE3 e hme.1
   left
   refine r_dgO (h:=e.a) (.inl hh3) (by rw [qds,h1];rfl) ?_
   left
   refine⟨.str y,lx,e.x.ca,kx,e.x.kc,_,e.x.fc,rfl,.inl elx,.inl hc,hA3,hcA,?_,hb bs hB,fun H4 s4=>⟨sx.trans s4,_,rfl⟩⟩
   have l3:=hA3.le (ws:=S.ws) (qdj (sup bs hbs) hfm)
   omega
  .rw [show who S (.str y)=some e from h1] at hn;cases hn
 .rintro σ H' ⟨sm,w,rfl⟩
  left
  exact q _ sm
def NoW (_:Hp) (x:V):Prop:=x=.non
def wex (K:Frag) (d:Ad):Sp:=fun vs H Q _=>∃x:V,vs=[x]/\((∃i:Int,x=.int i/\Q (.bl true) H)\/(NoW H x/\Q (.bl false) H))
def w9u (K:Frag) (d:Ad):Sp:=fun vs H Q _=>∃i a b:Int,vs=[.int i,.int a,.int b]/\a<=i/\i<=b/\Q (.bl true) H
def we4 (K:Frag) (d:Ad):Sp:=fun vs H Q _=>∃i:Int,vs=[.int i]/\0<=i/\i<=10^30/\Q (.bl true) H
include T in
theorem wb9:FnOk P w K mg base CX0 1 d.w8p d.w7i ["thing"] (wex K d):=by
 refine T.w8c.ok wfk (fun vs H Q E h=>?_) (fun cdv A outer s H vs Q E hr h=>?_)
 .obtain⟨x,rfl,_⟩:=h;rfl
 obtain⟨x,rfl,h⟩:=h
 rcases h with ⟨i,rfl,q⟩ |⟨rfl,q⟩
 .refine⟨_,(qa5 (qae (qe0 (qad qb2 rfl T.w08 PyProof.Rows.boot_isinstance (qa0 (pv 0) (qa0 (qbr (v:=.ty "int") rfl T.wj8 PyProof.Rows.boot_int rfl) qa3))) (qdl (pe_not (qad qb2 rfl T.w08 PyProof.Rows.boot_isinstance (qa0 (pv 0) (qa0 (qbr (v:=.ty "bool") rfl T.wft PyProof.Rows.boot_bool rfl) qa3)))))))),?_⟩
  walk_at "d"
  refine qac (σ:=[some (.int i)]) rfl ?_
  left
  exact q
 .refine⟨_,(qa5 (qae (qe0 (qad qb2 rfl T.w08 PyProof.Rows.boot_isinstance (qa0 (pv 0) (qa0 (qbr (v:=.ty "int") rfl T.wj8 PyProof.Rows.boot_int rfl) qa3))) (qdl (pe_not (qad qb2 rfl T.w08 PyProof.Rows.boot_isinstance (qa0 (pv 0) (qa0 (qbr (v:=.ty "bool") rfl T.wft PyProof.Rows.boot_bool rfl) qa3)))))))),?_⟩
  walk_at "d"
  refine qac (σ:=[some (.non)]) rfl ?_
  left
  exact q
include T in
theorem w5p:FnOk P w K mg base CX0 2 d.w47 d.w3i ["thing","least","most"] (w9u K d):=by
 refine T.w41.ok w9n (fun vs H Q E h=>?_) (fun cdv A outer s H vs Q E hr h=>?_)
 .obtain⟨i,a,b,rfl,_⟩:=h;rfl
 obtain⟨i,a,b,rfl,h1,h2,q⟩:=h
 refine⟨_,(qa5 (qae (qe0 (qab ((wb9 T).mono (by decide)) hr rfl T.wbu T.w8c.kp T.wbx .nil qaf (qa0 (pv 0) qa3)) (qdl (pe_chain op_le op_le (pv 1) (pv 0) (pv 2)))))),?_⟩
 walk_at "d"
 refine qac (σ:=[some (.int i),some (.int a),some (.int b)]) rfl ?_
 left
 refine⟨_,rfl,.inl ⟨i,rfl,?_⟩⟩
 left
 rw [decide_eq_true h2]
 exact q
include T in
theorem web:FnOk P w K mg base CX0 3 d.w75 d.w66 ["thing"] (we4 K d):=by
 refine T.waw.ok wdl (fun vs H Q E h=>?_) (fun cdv A outer s H vs Q E hr h=>?_)
 .obtain⟨i,rfl,_⟩:=h;rfl
 obtain⟨i,rfl,h1,h2,q⟩:=h
 refine⟨_,(qa5 (qae (qab ((w5p T).mono (by decide)) hr rfl T.w6l T.w41.kp T.w6a .nil qaf (qa0 (pv 0) (qa0 qa7 (qa0 (qar op_pow qa7 qa7) qa3)))))),?_⟩
 walk_at "d"
 refine qac (σ:=[some (.int i)]) rfl ?_
 left
 refine⟨i,0,_,rfl,h1,?_,?_⟩
 .exact h2
 left
 exact q
theorem qgv {z:Str} {ws:List Str} (h:z∈ws):inV (.str z) (ws.map V.str)=true:=by
 unfold inV
 rw [yV]
 exact⟨.str z,zJ.mpr ⟨z,h,rfl⟩,by simp [eqV]⟩
theorem r_notInT {K:Frag} {H:Hp} {Q:VK} {p:Addr} {z:Str} {ws:List Str} (hS:SqL K H p (ws.map V.str)) (h:z∈ws) (q:Q (.bl false) H):rIn K true (.str z) (.ref p) H Q:=by
 refine⟨p,_,rfl,.inl hS,rfl,?_,?_⟩
 .rw [yM]
  intro x hx
  obtain⟨y,_,rfl⟩:=zJ.mp hx
  rfl
 .rw [qgv h];exact q
def wct (K:Frag) (d:Ad):Sp:=fun vs H Q _=>∃(a w:Addr) (k:List (Key × V)) (f:Str->Option Int) (ws:List Str),vs=[.ref a,.ref w]/\H a=some (.dK k)/\AD k f/\k.length<=1000/\H w=some (.lst (ws.map V.str))/\(∀z n,f z=some n->z∈ws/\0<=n/\n<=10^30)/\
 ∀l k' H',qas H H'->H l=none->H' l=some (.dK k')->AD k' (qcv f)->Q (.ref l) H'
include T in
theorem w7v:FnOk P w K mg base (My.CX1 P w) 4 d.w64 d.w5j ["handed","wares"] (wct K d):=by
 refine okX T.w5v w5b (fun vs H Q E h=>?_) (fun cdv A outer s H vs Q E hr h=>?_)
 .obtain⟨a,w,k,f,ws,rfl,_⟩:=h;rfl
 obtain⟨a,w,kvs,f,ws,rfl,ha,hA,hz,hw,hf,q⟩:=h
 refine⟨_,(qa4 (qay (qbd (qaz (qad qb2 rfl T.w08 PyProof.Rows.boot_isinstance (qa0 (pv 0) (qa0 (qbr (v:=.ty "dict") rfl T.w7q PyProof.Rows.boot_dict rfl) qa3))))) (qa5 (qc3 rfl T.wbw rfl T.wbq qao (qa0 qcr qa3))) qam)
  (qa4 (qf0 (qbh (qed rfl rfl) rfl (qd3 (pv 0)) (qau (i:=2) w5b.nd rfl (Or.inl rfl)) (qa5 (qay (PW.pt (qem (qbd (qaz (qad qb2 rfl T.w08 PyProof.Rows.boot_isinstance (qa0 (pv 2) (qa0 (qbr (v:=.ty "str") rfl T.wgs PyProof.Rows.boot_str rfl) qa3))))) (qex (qal op_notIn_seq (pv 2) (pv 1) (by rfl))))) (qa5 (qc3 rfl T.wfv rfl T.wfy qao (qa0 qcr qa3))) qam))))
  (qa4 (qf0 (qbh (qed rfl rfl) rfl (qd3 (pv 0)) (qau (i:=3) w5b.nd rfl (Or.inl rfl)) (qa5 (qay (qbd (qaz (qab ((web T).mono (by decide)) hr rfl T.wfe T.waw.kp T.wev .nil qaf (qa0 (qb3 (qb9 hr) (pv 0) (pv 3) (fun _ _=>rfl)) qa3)))) (qa5 (qc3 rfl T.wbw rfl T.wbq qao (qa0 qcr qa3))) qam))))
  (qa5 (qae (qab ((wag T).mono (by decide)) hr rfl T.wbh T.w6z.kp T.wbf .nil qaf (qa0 (pv 0) qa3))))))),?_⟩
 walk_at "d"
 refine qac (σ:=[some (.ref a),some (.ref w),none,none]) rfl ?_
 left
 refine qgi ha fun o=>?_
 have hwa:w≠a:=ne_of hw ha (by intro z;cases z)
 refine qfd (fun i σ H'=>H'=upd H a (.frz o (.dK kvs))/\∃w2 w3,σ=[some (.ref a),some (.ref w),w2,w3]) ⟨rfl,_,_,rfl⟩ ?_ ?_ ?_
 .rintro i σ H' _ ⟨rfl,_⟩;exact qa1
 .rintro i k v σ H' hk ⟨rfl,w2,w3,rfl⟩
  obtain⟨z,n,rfl,rfl,hfz,hzi⟩:=hA.at hk
  have hw':upd H a (.frz o (.dK kvs)) w=some (.lst (ws.map V.str)):=by rw [qa6 hwa];exact hw
  show qfb _ (.str z) _ _ _
  left
  refine r_notInT (SqL.of hw') (hf z n hfz).1 ?_
  left
  exact⟨rfl,_,_,rfl⟩
 .rintro σ H' ⟨rfl,w2,w3,rfl⟩
  refine qew (qga qa1 (qch ha)) ?_
  have s2:=qc2 ha (sb_frz (o:=o) ha)
  have ha2:upd (upd H a (.frz o (.dK kvs))) a (.dK kvs) a=some (.dK kvs):=qa1
  generalize upd (upd H a (.frz o (.dK kvs))) a (.dK kvs)=H2 at*
  left
  refine qgi ha2 fun o2=>?_
  refine qfd (fun i σ H'=>H'=upd H2 a (.frz o2 (.dK kvs))/\∃w3,σ=[some (.ref a),some (.ref w),w2,w3]) ⟨rfl,_,rfl⟩ ?_ ?_ ?_
  .rintro i σ H' _ ⟨rfl,_⟩;exact qa1
  .rintro i k v σ H' hk ⟨rfl,w3,rfl⟩
   obtain⟨z,n,rfl,rfl,hfz,hzi⟩:=hA.at hk
   have hRd:Rd (upd H2 a (.frz o2 (.dK kvs))) a (.dK kvs):=.inr ⟨o2,qa1⟩
   show qfb _ (.str z) _ _ _
   left
   refine⟨n,rfl,(hf z n hfz).2.1,(hf z n hfz).2.2,?_⟩
   left
   exact⟨rfl,_,rfl⟩
  .rintro σ H' ⟨rfl,w3,rfl⟩
   refine qew (qga qa1 ?_) ?_
   .exact qch ha
   have s3:=qc2 ha2 (sb_frz (o:=o2) ha2)
   have ha3:upd (upd H2 a (.frz o2 (.dK kvs))) a (.dK kvs) a=some (.dK kvs):=qa1
   generalize upd (upd H2 a (.frz o2 (.dK kvs))) a (.dK kvs)=H3 at*
   left
   refine⟨a,kvs,f,rfl,ha3,hA,hz,fun l k' H4 s4 hl el hA4=>?_⟩
   left
   exact q l k' H4 ((s2.trans s3).trans s4) ((s2.trans s3).free hl) el hA4
def wcf (K:Frag) (d:Ad):Sp:=fun vs H Q _=>∃(x dx:Addr) (o:Ho),vs=[.ref x,eV o.el,.ref o.pa,.ref o.ca,.int o.w]/\H x=some (.ins d.w09 dx [])/\∀H',H' x=some (.ins d.w09 dx (fsH o))->SameBut x H H'->Q .non H'
include T in
theorem wcw:FnOk P w K mg base CX0 1 d.w65 d.w59 ["self","elder","promise","cap","weight"] (wcf K d):=by
 refine T.wda.ok wcu (fun vs H Q E h=>?_) (fun cdv A outer s H vs Q E hr h=>?_)
 .obtain⟨x,dx,o,rfl,_⟩:=h;rfl
 obtain⟨x,dx,o,rfl,hx,q⟩:=h
 refine⟨_,(qa4 (qcg (pv 0) (pv 1) rfl)
  (qa4 (qcg (pv 0) (pv 2) rfl)
  (qa4 (qcg (pv 0) (pv 3) rfl)
  (qa5 (qcg (pv 0) (pv 4) rfl))))),?_⟩
 walk_at "d"
 refine qac (σ:=[some (.ref x),some (eV o.el),some (.ref o.pa),some (.ref o.ca),some (.int o.w)]) rfl ?_
 have cl:=T.w1z
 have n1:qak K d.w09 "elder":=T.w0z
 have n2:qak K d.w09 "promise":=T.w0b
 have n3:qak K d.w09 "cap":=T.w19
 have n4:qak K d.w09 "weight":=T.w1n
 left
 refine qeb qa1 cl n2 (by show 1 < 1000;decide) ?_
 left
 refine qeb qa1 cl n3 (by show 2 < 1000;decide) ?_
 left
 refine qeb qa1 cl n4 (by show 3 < 1000;decide) ?_
 left
 refine q _ (by rw [qa1];rfl) fun b u hb e=>?_
 rw [qa6 hb,qa6 hb,qa6 hb,qa6 hb]
 exact e
def wcc (K:Frag) (d:Ad):Sp:=fun vs H Q _=>∃(w a b:Addr) (el:Option Str) (ws:List Str) (ka kb:List (Key × V)) (f g:Str->Option Int) (wt:Int),vs=[.ref w,eV el,.ref a,.ref b,.int wt]/\H w=some (.lst (ws.map V.str))/\
 H a=some (.dK ka)/\AD ka f/\ka.length<=1000/\H b=some (.dK kb)/\AD kb g/\kb.length<=1000/\(∀z n,f z=some n->z∈ws/\0<=n/\n<=10^30)/\(∀z n,g z=some n->z∈ws/\0<=n/\n<=10^30)/\1<=wt/\wt<=1000/\
 ∀h o H',qas H H'->H h=none->H o.pa=none->H o.ca=none->HoAt d H' h o->o.el=el->o.w=wt->(∀z,o.fp z=qcv f z)->(∀z,o.fc z=qcv g z)->Q (.ref h) H'
include T in
theorem w82:FnOk P w K mg base (My.CX1 P w) 5 d.w6s d.w55 ["wares","elder","promise","cap","weight"] (wcc K d):=by
 refine okX T.w6o w52 (fun vs H Q E h=>?_) (fun cdv A outer s H vs Q E hr h=>?_)
 .obtain⟨w,a,b,el,ws,ka,kb,f,g,wt,rfl,_⟩:=h;rfl
 obtain⟨w,a,b,el,ws,ka,kb,f,g,wt,rfl,hw,ha,hA,hz,hb,hB,hz2,hf,hg,w0,w1,q⟩:=h
 refine⟨_,(qa4 (qag (i:=5) w52.nd rfl (Or.inl rfl) (qc8 ((w7v T).mono (by decide)) hr rfl T.w9a T.w5v.kp T.w9h .nil qao (qa0 (pv 2) (qa0 (pv 0) qa3))))
  (qa4 (qag (i:=6) w52.nd rfl (Or.inl rfl) (qc8 ((w7v T).mono (by decide)) hr rfl T.w9a T.w5v.kp T.w9h .nil qao (qa0 (pv 3) (qa0 (pv 0) qa3))))
  (qa4 (qay (qbd (qaz (qab ((w5p T).mono (by decide)) hr rfl T.w6l T.w41.kp T.w6a .nil qaf (qa0 (pv 4) (qa0 qa7 (qa0 (qec rfl T.w8i T.w13) qa3)))))) (qa5 (qc3 rfl T.wge rfl T.wg8 qao (qa0 qcr qa3))) qam)
  (qa5 (qae (qf4 T.w8a ((wcw T).mono (by decide)) hr rfl T.wiz T.wdu .nil qaf (qa0 (pv 1) (qa0 (pv 5) (qa0 (pv 6) (qa0 (pv 4) qa3)))))))))),?_⟩
 walk_at "d"
 refine qac (σ:=[some (.ref w),some (eV el),some (.ref a),some (.ref b),some (.int wt),none,none]) rfl ?_
 left
 refine⟨a,w,ka,f,ws,rfl,ha,hA,hz,hw,hf,fun lp kp H1 s1 hlp ep hAp=>?_⟩
 left
 refine⟨b,w,kb,g,ws,rfl,s1 _ _ hb,hB,hz2,s1 _ _ hw,hg,fun lc kc H2 s2 hlc ec hAc=>?_⟩
 left
 refine⟨wt,1,1000,rfl,w0,w1,?_⟩
 left
 intro x dx hx hdx ne
 have ep2:=s2 _ _ ep
 refine⟨x,dx,⟨el,lp,kp,qcv f,lc,kc,qcv g,wt⟩,rfl,qa1,fun H3 ex sb=>⟨rfl,?_⟩⟩
 have s3:qas H2 H3:=fun c o hc=>sb c o (qa2 hc hx) (by rw [qa6 (qa2 hc hx),qa6 (qa2 hc hdx)];exact hc)
 left
 exact q x ⟨el,lp,kp,qcv f,lc,kc,qcv g,wt⟩ H3 ((s1.trans s2).trans s3) ((s1.trans s2).free hx) hlp (s1.free hlc) ⟨⟨dx,ex⟩,s3 _ _ ep2,hAp,s3 _ _ ec,hAc⟩ rfl rfl (fun _=>rfl) fun _=>rfl
theorem qbf {H H':Hp} {a:Addr} {o:HO} (s:qas H H') (n:H a=none):qas H (upd H' a o):=fun b u e=>by rw [qa6 (qa2 e n)];exact s b u e
def isL (c:Nat):Bool:=decide (97<=c) && decide (c<=122)
theorem inL:∀c:Nat,c < 128->(!(Builtin.Str.occurrences (Str.ofString "abcdefghijklmnopqrstuvwxyz") ⟨#[c]⟩ 0 (Str.ofString "abcdefghijklmnopqrstuvwxyz").length 1).isEmpty)=isL c:=by decide+kernel
def qeg (x:Str):List Nat:=x.cps.toList
def qe5 (x:Str):Bool:=decide (1<=x.length) && decide (x.length<=8) && (qeg x).all isL
theorem len_codes (x:Str):(qeg x).length=x.length:=by simp [qeg,Str.length]
theorem goodS_of {z:Str} (h:qe5 z=true):1<=z.length/\z.length<=8/\∀c∈qeg z,isL c=true:=by
 unfold qe5 at h
 rw [Bool.and_eq_true,Bool.and_eq_true,yM] at h
 exact⟨of_decide_eq_true h.1.1,of_decide_eq_true h.1.2,h.2⟩
theorem isL_lt {c:Nat} (h:isL c=true):c < 128:=by
 unfold isL at h
 rw [Bool.and_eq_true] at h
 have:=of_decide_eq_true h.2
 omega
def wg7 (K:Frag) (d:Ad):Sp:=fun vs H Q _=>∃z,vs=[.str z]/\qe5 z=true/\∀H',qas H H'->Q (.bl true) H'
include T in
theorem wbr:FnOk P w K mg base CX0 1 d.wal d.w8w ["thing"] (wg7 K d):=by
 refine T.wb1.ok wgb (fun vs H Q E h=>?_) (fun cdv A outer s H vs Q E hr h=>?_)
 .obtain⟨z,rfl,_⟩:=h;rfl
 obtain⟨z,rfl,hg,q⟩:=h
 obtain⟨h1,h8,hL⟩:=goodS_of hg
 have lz:=len_codes z
 refine⟨_,(qa4 (qay (qbd (qaz (qad qb2 rfl T.w08 PyProof.Rows.boot_isinstance (qa0 (pv 0) (qa0 (qbr (v:=.ty "str") rfl T.wgs PyProof.Rows.boot_str rfl) qa3))))) (qa5 (qae qcs)) qam)
  (qa4 (qay (PW.pt (qem (qal op_lt (qad call_lenS rfl T.w34 PySem.boot_len (qa0 (pv 0) qa3)) qa7 (qap _)) (qex (qal qf6 (qad call_lenS rfl T.w34 PySem.boot_len (qa0 (pv 0) qa3)) (qec rfl T.wbm T.w1v) (qap _))))) (qa5 (qae qcs)) qam)
  (qa5 (qae (qad (call_allB rfl) rfl T.wk7 PyProof.Rows.boot_all (qa0 (qcd (caps:=[]) (cn:=[]) (qbm rfl rfl (by rfl) (by rfl) rfl trivial (by rfl) rfl trivial (by decide)) rfl (pi_str (pv 0)) (fun _ _ _ _=>qdy) (fun _ _ _ _=>(qd4 op_inS (pv 0) (qec rfl T.wgi T.w6n) (by rfl)))) qa3)))))),?_⟩
 walk_at "d"
 try dsimp only [cxC]
 refine qac (σ:=[some (.str z)]) rfl ?_
 left
 intro C s0 H0 fp acc hacc
 refine c_by z.length (fun i H'=>H'=upd H acc (.lst (((qeg z).take i).map fun c=>V.bl (isL c)))) (by simp) (fun i H' hi _=>hi) (fun H' _=>rfl) ?_ ?_
 .rintro i H' v H'' hi rfl ⟨rfl,c,hc,rfl⟩
  have hc':(qeg z)[i]?=some c:=by unfold qeg;rw [Array.getElem?_toList];exact hc
  have c128:=isL_lt (hL c (zK hc'))
  left
  rw [inL c c128,qbe]
  congr 2
  rw [zT,hc',zG]
  rfl
 .rintro H' rfl
  left
  have e1:((qeg z).take z.length).map (fun c=>V.bl (isL c))=((qeg z).map isL).map V.bl:=by
   rw [<-lz,zZ,yQ];rfl
  rw [e1]
  refine r_all (bs:=(qeg z).map isL) (SqL.of qa1) ?_
  have e2:((qeg z).map isL).all id=true:=by
   rw [List.all_map,yM]
   exact hL
  rw [e2]
  left
  exact q _ (qaa hacc _)
def wc2 (K:Frag) (d:Ad):Sp:=fun vs H Q _=>∃z,vs=[.str z]/\qe5 z=true/\∀H',qas H H'->Q .non H'
include T in
theorem w7z:FnOk P w K mg base (My.CX1 P w) 2 d.w67 d.w5k ["thing"] (wc2 K d):=by
 refine okX T.w5u wcr (fun vs H Q E h=>?_) (fun cdv A outer s H vs Q E hr h=>?_)
 .obtain⟨z,rfl,_⟩:=h;rfl
 obtain⟨z,rfl,hg,q⟩:=h
 refine⟨_,(qa5 (qay (qbd (qaz (qab ((wbr T).mono (by decide)) hr rfl T.wdw T.wb1.kp T.we9 .nil qaf (qa0 (pv 0) qa3)))) (qa5 (qc3 rfl T.wi6 rfl T.whs qao (qa0 qcr qa3))) qam)),?_⟩
 walk_at "d"
 refine qac (σ:=[some (.str z)]) rfl ?_
 left
 refine⟨z,rfl,hg,fun H' sm=>?_⟩
 left
 exact q _ sm
structure GoodT (ws:List Str):Prop where
 lo:1<=ws.length
 hi:ws.length<=6
 ok:∀z∈ws,qe5 z=true
 nd:ws.Nodup
def weh (K:Frag) (d:Ad):Sp:=fun vs H Q _=>∃(a:Addr) (ws:List Str),vs=[.ref a]/\H a=some (.lst (ws.map V.str))/\GoodT ws/\∀H',qas H H'->Q (.bl true) H'
include T in
theorem wdt:FnOk P w K mg base CX0 2 d.w7f d.w5z ["thing"] (weh K d):=by
 refine T.wap.ok wdx (fun vs H Q E h=>?_) (fun cdv A outer s H vs Q E hr h=>?_)
 .obtain⟨a,ws,rfl,_⟩:=h;rfl
 obtain⟨a,ws,rfl,ha,g,q⟩:=h
 have g1:=g.lo
 have g2:=g.hi
 have hl:(ws.map V.str).length=ws.length:=zB _
 refine⟨_,(qa4 (qay (PW.pt (qem (qbd (qaz (qad qb2 rfl T.w08 PyProof.Rows.boot_isinstance (qa0 (pv 0) (qa0 (qbr (v:=.ty "list") rfl T.whf PyProof.Rows.boot_list rfl) qa3))))) (qem (qal op_lt (qad qax rfl T.w34 PySem.boot_len (qa0 (pv 0) qa3)) qa7 (qap _)) (qex (qal qf6 (qad qax rfl T.w34 PySem.boot_len (qa0 (pv 0) qa3)) (qec rfl T.wdn T.w30) (qap _)))))) (qa5 (qae qcs)) qam)
  (qa5 (qae (qe0 (qad (call_allB rfl) rfl T.wk7 PyProof.Rows.boot_all (qa0 (qcd (caps:=[]) (cn:=[]) (qbm rfl rfl (by rfl) (by rfl) rfl trivial (by rfl) rfl trivial (by decide)) rfl (qb6 (pv 0)) (fun _ _ _ _=>qdy) (fun _ _ _ _=>(qab ((wbr T).mono (by decide)) hr rfl T.wdw T.wb1.kp T.we9 .nil qaf (qa0 (pv 0) qa3)))) qa3)) (qdl (qd4 qee (qad call_lenT rfl T.w34 PySem.boot_len (qa0 (qbs call_setT rfl T.wkf PyProof.Rows.boot_set (qa0 (pv 0) qa3)) qa3)) (qad qax rfl T.w34 PySem.boot_len (qa0 (pv 0) qa3)) (qap _))))))),?_⟩
 walk_at "d"
 try dsimp only [cxC]
 refine qac (σ:=[some (.ref a)]) rfl ?_
 left
 intro C s0 H0 fp acc hacc
 refine c_by ws.length (fun i H'=>qas H H'/\H' acc=some (.lst ((List.replicate i true).map V.bl))) ⟨qaa hacc _,qa1⟩ ?_ ?_ ?_ ?_
 .rintro i H' hi ⟨sm,_⟩
  exact⟨_,.str ws[i],SqL.of (sm _ _ ha),by rw [zD,zA hi];rfl⟩
 .rintro H' ⟨sm,_⟩
  exact⟨_,SqL.of (sm _ _ ha),by rw [hl];exact Nat.le_refl _⟩
 .rintro i H' v H'' hi ⟨sm,ea⟩ ⟨rfl,hy⟩
  have hv:=hy _ (SqL.of (sm _ _ ha))
  rw [zD,zA hi] at hv
  cases hv
  left
  refine⟨ws[i],rfl,g.ok _ (zQ hi),fun H2 s2=>?_⟩
  refine⟨_,s2 _ _ ea,by rw [zB,List.length_replicate];show _ < 16777216;omega,qbf (sm.trans s2) hacc,?_⟩
  rw [qa1,List.replicate_succ',zG];rfl
 rintro H' ⟨sm,ea⟩
 left
 refine r_all (bs:=List.replicate ws.length true) (SqL.of ea) ?_
 have e2:(List.replicate ws.length true).all id=true:=by simp
 rw [e2]
 left
 refine r_setT (zs:=ws) (SqL.of (sm _ _ ha)) g.nd (by omega) fun c hc=>?_
 left
 refine r_lenT2 qa1 ?_
 left
 refine r_lenL (SqL.of (qa8 (sm _ _ ha) hc)) ?_
 left
 rw [hl,decide_eq_true rfl]
 exact q _ (sm.trans (qaa hc _))
def Fin (ws:List Str) (f:Str->Option Int):Prop:=∀z n,f z=some n->z∈ws/\0<=n/\n<=10^30
theorem posF_some {f:Str->Option Int} {y:Str} {n:Int} (h:qcv f y=some n):f y=some n/\0 < n:=by
 unfold qcv at h
 cases e:f y with
 |none=>rw [e] at h;cases h
 |some m=>
  rw [e] at h
  by_cases c:0 < m
  .have h':some m=some n:=by simpa [c] using h
   cases h'
   exact⟨rfl,c⟩
  .exact absurd h (by simp [c])
theorem qfc {ws:List Str} {f:Str->Option Int} (hf:Fin ws f) (y:Str):gN (qcv f) y=gN f y:=by
 unfold gN qcv
 cases e:f y with
 |none=>rfl
 |some m=>
  have:=(hf y m e).2.1
  by_cases c:0 < m
  .simp [c]
  .have z:m=0:=by omega
   subst z
   rfl
theorem pos_le {ws:List Str} {f g:Str->Option Int} (hg:Fin ws g) (h:∀y,gN f y<=gN g y):∀z n,qcv f z=some n->n<=gN (qcv g) z:=fun z n e=>by
 have e1:=(posF_some e).1
 have:=h z
 rw [qfc hg]
 unfold gN at this ⊢
 rw [e1] at this
 exact this
theorem pos_in {ws:List Str} {f:Str->Option Int} (hf:Fin ws f):∀z,qcv f z≠none->z∈ws:=fun z h=>by
 cases e:qcv f z with
 |none=>exact absurd e h
 |some n=>exact(hf z n (posF_some e).1).1
def we8 (K:Frag) (d:Ad):Sp:=fun vs H Q _=>∃(x dx w a b:Addr) (z:Str) (ws:List Str) (ka kb:List (Key × V)) (f g:Str->Option Int) (wt:Int),vs=[.ref x,.ref w,.str z,.ref a,.ref b,.int wt]/\H x=some (.ins d.w02 dx [])/\
 H w=some (.lst (ws.map V.str))/\GoodT ws/\qe5 z=true/\H a=some (.dK ka)/\AD ka f/\ka.length<=1000/\H b=some (.dK kb)/\AD kb g/\kb.length<=1000/\Fin ws f/\Fin ws g/\1<=wt/\wt<=1000/\(∀y,gN f y<=gN g y)/\
 ∀(S:Ts) (e:He) H',SameBut x H H'->qfq d H' x S->H S.hs=none->H S.sw=none->H e.a=none->H e.x.pa=none->H e.x.ca=none->S.hl=[e]->e.n=z->e.x.el=none->e.x.w=wt->(∀y,e.x.fp y=qcv f y)->(∀y,e.x.fc y=qcv g y)->S.ws.Perm ws->PyProof.Rows.sortedS S.ws=true->Q .non H'
include T in
theorem wdf:FnOk P w K mg base (My.CX1 P w) 6 d.w78 d.w4a ["self","wares","name","promise","cap","weight"] (we8 K d):=by
 refine okDX T.wet w9g (fun vs H Q E h=>?_) (fun cdv A outer s H vs Q E hr h=>?_)
 .obtain⟨x,dx,w,a,b,z,ws,ka,kb,f,g,wt,rfl,_⟩:=h;rfl
 obtain⟨x,dx,w,a,b,z,ws,ka,kb,f,g,wt,rfl,hx,hw,gt,gz,ha,hA,za,hb,hB,zb,ff,fg,w0,w1,le,q⟩:=h
 have g2:=gt.hi
 refine⟨_,(qa4 (qay (qbd (qaz (qab ((wdt T).mono (by decide)) hr rfl T.wf3 T.wap.kp T.wel .nil qaf (qa0 (pv 1) qa3)))) (qa5 (qc3 rfl T.wfv rfl T.wfy qao (qa0 qcr qa3))) qam)
  (qa4 (qat (qc8 ((w7z T).mono (by decide)) hr rfl T.w93 T.w5u.kp T.w9f .nil qao (qa0 (pv 2) qa3)))
  (qa4 (qag (i:=6) w9g.nd rfl (Or.inl rfl) (qc8 ((w82 T).mono (by decide)) hr rfl T.w9b T.w6o.kp T.w94 .nil qao (qa0 (pv 1) (qa0 qck (qa0 (pv 3) (qa0 (pv 4) (qa0 (pv 5) qa3)))))))
  (qa4 (qat (qc8 ((w2q T).mono (by decide)) hr rfl T.w3g T.w20.kp T.w3h .nil qao (qa0 (pv 2) (qa0 (qaj (pv 6) rfl) (qa0 (qaj (pv 6) rfl) qa3)))))
  (qa4 (qcg (pv 0) (qad qeh rfl T.w87 PyProof.Rows.boot_sorted (qa0 (pv 1) qa3)) rfl)
  (qa5 (qcg (pv 0) (pe_disp (pps_cons (pv 2) (pv 6) pps_nil) rfl rfl (by simp) (by decide)) rfl))))))),?_⟩
 walk_at "d"
 refine qac (σ:=[some (.ref x),some (.ref w),some (.str z),some (.ref a),some (.ref b),some (.int wt),none]) rfl ?_
 have ct:=T.w03
 have ch:=T.w1z
 have n1:qak K d.w02 "sorted_wares":=T.w0e
 have n2:qak K d.w02 "houses":=T.w07
 have n3:qak K d.w09 "promise":=T.w0b
 have n4:qak K d.w09 "cap":=T.w19
 left
 refine⟨w,ws,rfl,hw,gt,fun H1 s1=>?_⟩
 left
 refine⟨z,rfl,gz,fun H2 s2=>?_⟩
 have t2:=s1.trans s2
 left
 refine⟨w,a,b,none,ws,ka,kb,f,g,wt,rfl,t2 _ _ hw,t2 _ _ ha,hA,za,t2 _ _ hb,hB,zb,ff,fg,w0,w1,fun h o H3 s3 nh np nc hO eel ew efp efc=>?_⟩
 obtain⟨⟨dh,ho⟩,hp,hpA,hc,hcA⟩:=id hO
 have efp':o.fp=qcv f:=funext efp
 have efc':o.fc=qcv g:=funext efc
 have lk:o.kp.length<=ws.length:=hpA.le (by rw [efp'];exact pos_in ff)
 left
 refine⟨.str z,o.pa,o.ca,o.kp,o.kc,o.fp,o.fc,rfl,.inl hp,.inl hc,hpA,hcA,by omega,by rw [efp',efc'];exact pos_le fg le,fun H4 s4=>?_⟩
 have t4:=(t2.trans s3).trans s4
 have hx4:=t4 _ _ hx
 have hO4:=hO.same s4
 left
 refine r_sortL (SqL.of (t4 _ _ hw)) (by omega) fun l ss hl hpm hs=>?_
 left
 rename_i p hpp
 rw [qbe]
 refine qeb (qa8 qa1 hpp) ct n2 (by show 1 < 1000;decide) ?_
 left
 have npx:p≠x:=fun e=>by subst e;rw [qa1] at hpp;cases hpp
 have np4':upd H4 l (.lst (ss.map V.str)) p=none:=by rw [qa6 npx] at hpp;exact hpp
 have nlx:x≠l:=qa2 hx4 hl
 have npl:p≠l:=fun e=>by subst e;rw [qa1] at np4';cases np4'
 have np4:H4 p=none:=by rw [qa6 npl] at np4';exact np4'
 have sF:∀b u,b≠x->H4 b=some u->upd (upd (upd (upd H4 l (.lst (ss.map V.str))) x (.ins d.w02 dx (qdw "sorted_wares" (V.ref l) []))) p (.dK [(Sum.inr z,V.ref h)])) x (.ins d.w02 dx (qdw "houses" (V.ref p) (qdw "sorted_wares" (V.ref l) []))) b=some u:=fun b u hb e=>by
  rw [qa6 hb,qa6 (qa2 e np4),qa6 hb,qa6 (qa2 e hl)];exact e
 obtain⟨⟨dh4,ho4⟩,hp4,hpA4,hc4,hcA4⟩:=hO4
 refine q ⟨l,ss,p, [⟨z,h,o⟩]⟩ ⟨z,h,o⟩ _ (fun b u hb e=>sF b u hb (t4 _ _ e)) ⟨⟨dx,by rw [qa1];rfl⟩,?_,?_,zX.mpr ⟨by simp,yY⟩,by show 1<=60;decide,fun e he=>?_⟩ (t4.free np4) (t4.free hl) (t2.free nh) (t2.free np) (t2.free nc) rfl rfl eel ew efp efc hpm hs
 .show upd _ _ _ l=_
  rw [qa6 nlx.symm,qa6 npl.symm,qa6 nlx.symm,qa1]
 .show upd _ _ _ p=_
  rw [qa6 npx,qa1]
  rfl
 .have e':e=⟨z,h,o⟩:=by simpa using he
  subst e'
  have n1:∀{b:Addr} {u:HO},H4 b=some u->u≠ .ins d.w02 dx []->b≠x:=fun e1 e2 e3=>by
   subst e3;rw [hx4] at e1;exact e2 (Option.some.inj e1).symm
  refine⟨⟨dh4,sF _ _ (n1 ho4 fun e=>?_) ho4⟩,sF _ _ (n1 hp4 fun e=>by cases e) hp4,hpA4,sF _ _ (n1 hc4 fun e=>by cases e) hc4,hcA4⟩
  have:=congrArg (fun u:HO=>match u with| .ins _ _ fs=>fs.length|_=>0) e
  simp [fsH] at this
def upL (el:Nat->Nat):Nat->Nat->List Nat
 |0,k=> [k]
 |f+1,k=>k ::(if k=0 then [] else upL el f (el k))
def qb5 (el:Nat->Nat) (k:Nat):List Nat:=upL el k k
def Low (el:Nat->Nat) (n:Nat):Prop:=∀k,0 < k->k < n->el k < k
theorem upL_eq {el:Nat->Nat} {n:Nat} (lo:Low el n):∀(f k:Nat),k < n->k<=f->upL el f k=qb5 el k:=by
 intro f
 induction f using Nat.strongRecOn with
 |ind f ih=>
  intro k kn kf
  cases f with
  |zero=>have:k=0:=(by omega);subst this;rfl
  |succ f=>
   cases k with
   |zero=>rfl
   |succ k=>
    have l:=lo (k+1) (by omega) kn
    show (k+1) ::(if k+1=0 then [] else upL el f (el (k+1)))=(k+1) ::(if k+1=0 then [] else upL el k (el (k+1)))
    rw [if_neg (by omega),if_neg (by omega),ih f (by omega) (el (k+1)) (by omega) (by omega)]
    rcases Nat.lt_or_ge k f with h|h
    .rw [ih k (by omega) (el (k+1)) (by omega) (by omega)]
    .have:f=k:=by omega
     subst this
     rw [ih f (by omega) (el (f+1)) (by omega) (by omega)]
theorem qcx (el:Nat->Nat):qb5 el 0=[0]:=rfl
theorem qc9 {el:Nat->Nat} {n k:Nat} (lo:Low el n) (k0:0 < k) (kn:k < n):qb5 el k=k :: qb5 el (el k):=by
 cases k with
 |zero=>omega
 |succ k=>
  have l:=lo (k+1) k0 kn
  show (k+1) ::(if k+1=0 then [] else upL el k (el (k+1)))=_
  rw [if_neg (by omega),upL_eq lo k _ (by omega) (by omega)]
theorem lineN_len {el:Nat->Nat} {n:Nat} (lo:Low el n):∀k,k < n->(qb5 el k).length<=k+1:=by
 intro k
 induction k using Nat.strongRecOn with
 |ind k ih=>
  intro kn
  cases k with
  |zero=>exact Nat.le_refl _
  |succ k=>
   have l:=lo (k+1) (by omega) kn
   rw [qc9 lo (by omega) kn,zR]
   have:=ih (el (k+1)) l (by omega)
   omega
theorem qcy {el:Nat->Nat} {n k:Nat} (lo:Low el n) (kn:k < n):k∈qb5 el k:=by
 cases k with
 |zero=>exact zC ..
 |succ k=>rw [qc9 lo (by omega) kn];exact zC ..
theorem qeq {el:Nat->Nat} {n:Nat} (lo:Low el n):∀k,k < n->∀j∈qb5 el k,j<=k:=by
 intro k
 induction k using Nat.strongRecOn with
 |ind k ih=>
  intro kn j hj
  cases k with
  |zero=>rw [qcx] at hj;simp at hj;omega
  |succ k=>
   have l:=lo (k+1) (by omega) kn
   rw [qc9 lo (by omega) kn] at hj
   rcases zV.mp hj with h|h
   .omega
   .have:=ih (el (k+1)) l (by omega) j h
    omega
theorem lineN_in {el:Nat->Nat} {n:Nat} (lo:Low el n) {j:Nat} (j0:0 < j):∀k,k < n->j∈qb5 el k->el j∈qb5 el k:=by
 intro k
 induction k using Nat.strongRecOn with
 |ind k ih=>
  intro kn hj
  cases k with
  |zero=>rw [qcx] at hj;simp at hj;omega
  |succ k=>
   have l:=lo (k+1) (by omega) kn
   rw [qc9 lo (by omega) kn] at hj ⊢
   rcases zV.mp hj with h|h
   .subst h;exact zF _ (qcy lo (by omega))
   .exact zF _ (ih (el (k+1)) l (by omega) h)
structure Pl (S:Ts) (nm:Nat->Str) (el:Nat->Nat) (n:Nat):Prop where
 len:S.hl.length=n
 nam:∀k e,S.hl[k]?=some e->e.n=nm k/\e.x.el=if k=0 then none else some (nm (el k))
 inj:∀i j,i < n->j < n->nm i=nm j->i=j
 low:Low el n
section
variable {S: Ts} {nm: Nat -> Str} {el: Nat -> Nat} {n: Nat}
theorem Pl.get (p:Pl S nm el n) {k:Nat} (kn:k < n):∃e,S.hl[k]?=some e/\e.n=nm k/\e.x.el=if k=0 then none else some (nm (el k)):=by
 have h:k < S.hl.length:=by rw [p.len];exact kn
 have e:=zA h
 exact⟨_,e,p.nam k _ e⟩
theorem Pl.ix (p:Pl S nm el n) {e:He} (h:e∈S.hl):∃k,k < n/\S.hl[k]?=some e/\e.n=nm k/\e.x.el=if k=0 then none else some (nm (el k)):=by
 obtain⟨k,hk,q⟩:=yD.mp h
 have e1:S.hl[k]?=some e:=by rw [zA hk,q]
 exact⟨k,by rw [<-p.len];exact hk,e1,p.nam k e e1⟩
theorem Pl.nodup (p:Pl S nm el n):(S.hl.map (·.n)).Nodup:=by
 show List.Pairwise _ _
 rw [List.pairwise_map,yI]
 intro i j hi hj lt q
 have h1:=(p.nam i _ (zA hi)).1
 have h2:=(p.nam j _ (zA hj)).1
 have:=p.inj i j (by rw [<-p.len];exact hi) (by rw [<-p.len];exact hj) (by rw [<-h1,<-h2];exact q)
 omega
theorem Pl.at (p:Pl S nm el n) {k:Nat} (kn:k < n):∃e,S.at (nm k)=some e/\S.hl[k]?=some e/\e.x.el=if k=0 then none else some (nm (el k)):=by
 obtain⟨e,h1,h2,h3⟩:=p.get kn
 have:=at_of p.nodup (zK h1)
 rw [h2] at this
 exact⟨e,this,h1,h3⟩
theorem Pl.line (p:Pl S nm el n):∀k,k < n->LineOf S (nm k) ((qb5 el k).map nm):=by
 intro k
 induction k using Nat.strongRecOn with
 |ind k ih=>
  intro kn
  obtain⟨e,h1,_,h3⟩:=p.at kn
  cases k with
  |zero=>exact .top h1 h3
  |succ k=>
   have l:=p.low (k+1) (by omega) kn
   rw [if_neg (by omega)] at h3
   rw [qc9 p.low (by omega) kn,zM]
   exact .up h1 h3 (ih _ l (by omega))
theorem Pl.wf (p:Pl S nm el n):WF S:=⟨p.nodup,fun e he=>by
 obtain⟨k,kn,_,h,_⟩:=p.ix he
 rw [h]
 exact⟨_,p.line k kn⟩⟩
theorem Pl.kid (p:Pl S nm el n) {j:Nat} {y:Str} (jn:j < n) (h:y∈qbb S (nm j)):∃k,0 < k/\k < n/\el k=j/\y=nm k:=by
 obtain⟨e,he,rfl⟩:=zJ.mp h
 obtain⟨hm,hd⟩:=zY.mp he
 obtain⟨k,kn,_,h1,h2⟩:=p.ix hm
 have hd':e.x.el=some (nm j):=of_decide_eq_true hd
 rw [h2] at hd'
 by_cases z:k=0
 .rw [if_pos z] at hd';cases hd'
 .rw [if_neg z] at hd'
  have l:=p.low k (by omega) kn
  exact⟨k,by omega,kn,p.inj _ _ (by omega) jn (Option.some.inj hd'),h1⟩
theorem Pl.dep (p:Pl S nm el n):∀m j,j < n->n<=j+m+1->Dep S m (nm j):=by
 intro m
 induction m with
 |zero=>
  intro j jn hn
  show qbb S (nm j)=[]
  cases e:qbb S (nm j) with
  |nil=>rfl
  |cons y r=>
   obtain⟨k,k0,kn,ke,_⟩:=p.kid jn (y:=y) (by rw [e];exact zC ..)
   have:=p.low k k0 kn
   omega
 |succ m ih=>
  intro j jn hn y hy
  obtain⟨k,k0,kn,ke,rfl⟩:=p.kid jn hy
  have:=p.low k k0 kn
  exact ih k kn (by omega)
theorem Pl.ben (p:Pl S nm el n):∀(m j:Nat) (zs:List Str),j < n->BenP S m (nm j) zs->∀y∈zs,∃k,k < n/\y=nm k/\j∈qb5 el k:=by
 intro m
 induction m with
 |zero=>
  rintro j _ jn ⟨parts,rest,hp,rfl,hb⟩ y hy
  rcases zV.mp hy with h|h
  .exact⟨j,jn,h,qcy p.low jn⟩
  .obtain⟨l,hl,_⟩:=yR.mp h
   obtain⟨q,hq,_⟩:=zJ.mp hl
   exact(hb q hq).elim
 |succ m ih=>
  rintro j _ jn ⟨parts,rest,hp,rfl,hb⟩ y hy
  rcases zV.mp hy with h|h
  .exact⟨j,jn,h,qcy p.low jn⟩
  .obtain⟨l,hl,hyl⟩:=yR.mp h
   obtain⟨q,hq,rfl⟩:=zJ.mp hl
   obtain⟨k,k0,kn,ke,e⟩:=p.kid jn (hp.mem_iff.mp (yF _ (zJ.mpr ⟨q,hq,rfl⟩)))
   have hB:=hb q hq
   rw [e] at hB
   obtain⟨i,i1,i2,i3⟩:=ih k q.2 kn hB y hyl
   refine⟨i,i1,i2,?_⟩
   have:=lineN_in p.low k0 i i1 i3
   rw [ke] at this
   exact this
end
def qdb:Nat->(Nat->Int)->Int
 |0,_=>0
 |n+1,f=>qdb n f+f n
theorem sumR_le {f g:Nat->Int}:∀{n:Nat},(∀k,k < n->f k<=g k)->qdb n f<=qdb n g
 |0,_=>Int.le_refl _
 |n+1,h=>by
  have h1:=sumR_le (n:=n) fun k hk=>h k (by omega)
  have h2:=h n (by omega)
  show qdb n f+f n<=qdb n g+g n
  omega
theorem sumR_mono {f:Nat->Int} {n m:Nat} (hm:n<=m) (h:∀k,k < m->0<=f k):qdb n f<=qdb m f:=by
 induction m with
 |zero=>have:n=0:=(by omega);subst this;exact Int.le_refl _
 |succ m ih=>
  rcases Nat.lt_or_ge n (m+1) with c|c
  .have h1:=ih (by omega) fun k hk=>h k (by omega)
   have h2:=h m (by omega)
   show _<=qdb m f+f m
   omega
  .have:n=m+1:=by omega
   subst this;exact Int.le_refl _
def sumL (f:Nat->Int):List Nat->Int
 | []=>0
 |k :: r=>f k+sumL f r
theorem sumL_perm {f:Nat->Int} {a b:List Nat} (h:a.Perm b):sumL f a=sumL f b:=by
 induction h with
 |nil=>rfl
 |cons x _ ih=>show _+_=_+_;rw [ih]
 |swap x y l=>show f y+(f x+sumL f l)=f x+(f y+sumL f l);omega
 |trans _ _ h1 h2=>rw [h1,h2]
theorem qgc {f:Nat->Int}:∀{n:Nat} {ks:List Nat},ks.Nodup->(∀k∈ks,k < n)->(∀k,k < n->0<=f k)->sumL f ks<=qdb n f
 |0,ks,_,h,_=>by
  cases ks with
  |nil=>exact Int.le_refl _
  |cons k r=>exact absurd (h k (zC ..)) (by omega)
 |n+1,ks,nd,h,p=>by
  show _<=qdb n f+f n
  by_cases m:n∈ks
  .rw [sumL_perm (List.perm_cons_erase m)]
   have nd2:=nd.erase n
   have:=qgc (n:=n) nd2 (fun k hk=>by
    have h1:=h k (List.mem_of_mem_erase hk)
    have:k≠n:=fun z=>by subst z;exact(List.Nodup.not_mem_erase nd) hk
    omega) fun k hk=>p k (by omega)
   show f n+_<=_
   omega
  .have:=qgc (n:=n) nd (fun k hk=>by
    have h1:=h k hk
    have:k≠n:=fun z=>m (z ▸ hk)
    omega) fun k hk=>p k (by omega)
   have:=p n (by omega)
   omega
theorem qdm (f g:Str->Option Int) (z:Str):gN (qd7 f g) z=gN f z+gN g z:=by
 unfold gN qd7
 cases e:g z with
 |none=>simp
 |some b=>rfl
theorem qe6 (z:Str):∀(ts:List Pt) (f0:Str->Option Int),gN (ts.foldl (fun f t=>qd7 f t.f) f0) z=gN f0 z+(ts.map fun t=>gN t.f z).sum
 | [],f0=>by simp
 |t :: ts,f0=>by
  rw [yP,qe6 z ts,qdm,zM,yZ]
  omega
section
variable {S: Ts} {nm: Nat -> Str} {el: Nat -> Nat} {n: Nat}
theorem Pl.sums (p:Pl S nm el n) {v:Str} {pr:Nat->Int} (hp:∀k e,S.hl[k]?=some e->gN e.x.fp v=pr k) (h0:∀k,k < n->0<=pr k) {m j:Nat} {bs:List Str} (jn:j < n) (hb:Ben S m (nm j) bs):
  gN (qc1 (bs.map (ptOf S))) v<=qdb n fun k=>if j∈qb5 el k then pr k else 0:=by
 have nd:=(qd0 p.wf hb.part).1
 have hk:=p.ben m j bs jn hb.part
 have key:∀bs:List Str,bs.Nodup->(∀y∈bs,∃k,k < n/\y=nm k/\j∈qb5 el k)->∃ks:List Nat,ks.Nodup/\(∀k∈ks,k < n/\nm k∈bs)/\((bs.map (ptOf S)).map fun t=>gN t.f v).sum=sumL (fun k=>if j∈qb5 el k then pr k else 0) ks:=by
  intro bs
  induction bs with
  |nil=>intro _ _;exact⟨[],yY,fun k hk=>absurd hk (by simp),rfl⟩
  |cons y r ih=>
   intro nd h
   rw [zX] at nd
   obtain⟨ks,k1,k2,k3⟩:=ih nd.2 fun y' hy=>h y' (zF _ hy)
   obtain⟨k,kn,rfl,kj⟩:=h y (zC ..)
   obtain⟨e,e1,e2,_⟩:=p.at kn
   refine⟨k :: ks,zX.mpr ⟨fun m=>nd.1 (k2 k m).2,k1⟩,fun k' hk'=>?_,?_⟩
   .rcases zV.mp hk' with rfl|hk'
    .exact⟨kn,zC ..⟩
    .exact⟨(k2 k' hk').1,zF _ (k2 k' hk').2⟩
   .rw [zM,zM,yZ,k3,qgk e1]
    show gN e.x.fp v+_=(if j∈qb5 el k then pr k else 0)+_
    rw [hp k e e2,if_pos kj]
 obtain⟨ks,k1,k2,k3⟩:=key bs nd hk
 unfold qc1
 rw [qe6,k3]
 have z:gN noF v=0:=rfl
 rw [z,Int.zero_add]
 exact qgc k1 (fun k hk=>(k2 k hk).1) fun k hk=>by
  split
  .exact h0 k hk
  .exact Int.le_refl _
end
theorem ad_oK {k:List (Key × V)} {f:Str->Option Int} (hk:AD k f) {ks:List (Str × Addr)} {z:Str} {h:Addr} (hl:qd9 ks z=some h):HO.dK k≠ .dK (oK ks):=fun e=>by
 have e2:k=oK ks:=by injection e
 subst e2
 have g1:=hk.get z
 rw [qg9,hl] at g1
 cases hf:f z with
 |none=>rw [hf] at g1;cases g1
 |some n=>rw [hf] at g1;cases g1
def wd5 (K:Frag) (d:Ad):Sp:=fun vs H Q E=>∃(t a b:Addr) (S:Ts) (z:Str) (xe:V) (ka kb:List (Key × V)) (f g:Str->Option Int) (wt:Int),vs=[.ref t,.str z,xe,.ref a,.ref b,.int wt]/\qfq d H t S/\qe5 z=true/\S.at z=none/\qei K H xe/\
 (who S xe=none->∀H',qas H H'->E (.ref d.w0s) none H')/\
 ∀e,who S xe=some e->WF S/\qh0 S/\S.ws.length<=50/\H a=some (.dK ka)/\AD ka f/\ka.length<=1000/\H b=some (.dK kb)/\AD kb g/\kb.length<=1000/\Fin S.ws f/\Fin S.ws g/\1<=wt/\wt<=1000/\S.hl.length < 40/\
  (∃zs,LineOf S e.n zs/\zs.length < 12/\∀y∈zs,∃e',S.at y=some e'/\Dep S 12 y/\∀bs,Ben S 12 y bs->∀v n,qd7 (qc1 (bs.map (ptOf S))) (qcv f) v=some n->n<=gN e'.x.fc v)/\(∀y,gN f y<=gN g y)/\
  ∀(e2:He) H',SameBut S.hs H H'->H e2.a=none->H e2.x.pa=none->H e2.x.ca=none->qfq d H' t {S with hl:=S.hl++ [e2]}->e2.n=z->e2.x.el=some e.n->e2.x.w=wt->(∀y,e2.x.fp y=qcv f y)->(∀y,e2.x.fc y=qcv g y)->Q .non H'
include T in
theorem wby:FnOk P w K mg base (My.CX1 P w) 19 d.w69 d.w3m ["self","name","elder","promise","cap","weight"] (wd5 K d):=by
 refine okDX T.wec w5i (fun vs H Q E h=>?_) (fun cdv A outer s H vs Q E hr h=>?_)
 .obtain⟨t,a,b,S,z,xe,ka,kb,f,g,wt,rfl,_⟩:=h;rfl
 obtain⟨t,a,b,S,z,xe,ka,kb,f,g,wt,rfl,hT,gz,nz,hx,q2,q1⟩:=h
 refine⟨_,(qa4 (qat (qc8 ((w7z T).mono (by decide)) hr rfl T.w93 T.w5u.kp T.w9f .nil qao (qa0 (pv 1) qa3)))
  (qa4 (qay (qaz (qgm (pv 0) T.w03 T.w2k ((wb2 T).mono (by decide)) hr T.wbt .nil qaf (qa0 (pv 1) qa3))) (qa5 (qc3 rfl T.wjh rfl T.wiv qao (qa0 qcr qa3))) qam)
  (qa4 (qat (qai (pv 0) T.w03 T.w04 ((w0f T).mono (by decide)) hr T.w0k .nil qao (qa0 (pv 2) qa3)))
  (qa4 (qag (i:=6) w5i.nd rfl (Or.inl rfl) (qc8 ((w82 T).mono (by decide)) hr rfl T.w9b T.w6o.kp T.w94 .nil qao (qa0 (qaj (pv 0) rfl) (qa0 (pv 2) (qa0 (pv 3) (qa0 (pv 4) (qa0 (pv 5) qa3)))))))
  (qa4 (qay (qal op_ge (qad qdi rfl T.w34 PySem.boot_len (qa0 (qaj (pv 0) rfl) qa3)) (qec rfl T.wcs T.w25) (qap _)) (qa5 (qc3 rfl T.wh8 rfl T.whk qao (qa0 qcr qa3))) qam)
  (qa4 (qag (i:=7) w5i.nd rfl (Or.inl rfl) (qai (pv 0) T.w03 T.w2y ((we1 T).mono (by decide)) hr T.wey .nil qao (qa0 (pv 2) qa3)))
  (qa4 (qay (qal op_ge (qad qax rfl T.w34 PySem.boot_len (qa0 (pv 7) qa3)) (qec rfl T.wbe T.w1x) (qap _)) (qa5 (qc3 rfl T.whc rfl T.wgu qao (qa0 qcr qa3))) qam)
  (qa4 (qat (qc8 ((w2q T).mono (by decide)) hr rfl T.w3g T.w20.kp T.w3h .nil qao (qa0 (pv 1) (qa0 (qaj (pv 6) rfl) (qa0 (qaj (pv 6) rfl) qa3)))))
  (qa4 (qat (qai (pv 0) T.w03 T.w0y ((w89 T).mono (by decide)) hr T.w8t .nil qao (qa0 (pv 7) (qa0 (qaj (pv 6) rfl) qa3))))
  (qa5 (qc4 (qb9 hr) (qaj (pv 0) rfl) (pv 1) (pv 6) rfl))))))))))),?_⟩
 walk_at "d"
 refine qac (σ:=[some (.ref t),some (.str z),some (xe),some (.ref a),some (.ref b),some (.int wt),none,none]) rfl ?_
 have ct:=T.w03
 have ch:=T.w1z
 have n1:qak K d.w02 "sorted_wares":=T.w0e
 have n2:qak K d.w02 "houses":=T.w07
 have n3:qak K d.w09 "promise":=T.w0b
 have n4:qak K d.w09 "cap":=T.w19
 left
 refine⟨z,rfl,gz,fun H1 s1=>?_⟩
 have hT1:=hT.same s1
 obtain⟨dx,ht⟩:=id hT1.1
 left
 refine⟨t,S,.str z,rfl,hT1,.inl ⟨z,rfl⟩,?_⟩
 rw [show who S (.str z)=none from nz]
 left
 show if false=true then _ else _
 left
 refine⟨t,S,xe,rfl,hT1,hx.same s1,fun e he=>?_,fun he=>q2 he H1 s1⟩
 obtain⟨hW,hO,hws,ha,hA,za,hb,hB,zb,ff,fg,w0,w1,h40,⟨zs,hL,hz12,hy⟩,le,q⟩:=q1 e he
 obtain⟨y,rfl⟩:∃y,xe=.str y:=by
  rcases hx with h|⟨_,nz'⟩
  .exact h
  .rw [qd8 nz'] at he;cases he
 have ey:e.n=y:=(qcn he).2
 have hsw:=hT1.2.1
 left
 refine⟨S.sw,a,b,some y,S.ws,ka,kb,f,g,wt,rfl,hsw,s1 _ _ ha,hA,za,s1 _ _ hb,hB,zb,ff,fg,w0,w1,fun h o H3 s3 nh np nc hOo eel ew efp efc=>?_⟩
 obtain⟨⟨dh,ho⟩,hp,hpA,hc,hcA⟩:=id hOo
 have efp':o.fp=qcv f:=funext efp
 have efc':o.fc=qcv g:=funext efc
 have lk:o.kp.length<=S.ws.length:=hpA.le (by rw [efp'];exact pos_in ff)
 have hT3:=hT1.same s3
 obtain⟨⟨dx3,ht3⟩,hw3,hh3,nd3,hz3,hE3⟩:=id hT3
 left
 refine r_lenD hh3 ?_
 rw [qet]
 left
 refine⟨t,S,.str y,rfl,hT3,.inl ⟨y,zs,rfl,by rw [<-ey];exact hL,by omega,fun l hl=>?_⟩⟩
 have s4:=qaa hl (.lst (zs.map V.str))
 have eL:upd H3 l (.lst (zs.map V.str)) l=some (.lst (zs.map V.str)):=qa1
 have hzl:(zs.map V.str).length=zs.length:=zB _
 generalize upd H3 l (.lst (zs.map V.str))=H4 at*
 have ho4:=s4 _ _ ho
 have hp4:=s4 _ _ hp
 have hc4:=s4 _ _ hc
 left
 refine⟨.str z,o.pa,o.ca,o.kp,o.kc,o.fp,o.fc,rfl,.inl hp4,.inl hc4,hpA,hcA,by omega,by rw [efp',efc'];exact pos_le fg le,fun H5 s5=>?_⟩
 have s35:=s4.trans s5
 have ho5:=s35 _ _ ho
 have hT5:=hT3.same s35
 obtain⟨dx5,ht5⟩:=id hT5.1
 left
 refine⟨t,l,o.pa,S,zs,o.kp,o.fp,rfl,hT5,hW,hO,SqL.of (s5 _ _ eL),s35 _ _ hp,hpA,hws,by rw [efp'];exact pos_in ff,by rw [efp'];exact hy,fun H6 s6=>?_⟩
 have s36:=s35.trans s6
 have s16:=s3.trans s36
 have s06:=s1.trans s16
 obtain⟨⟨dx6,ht6⟩,hw6,hh6,nd6,hz6,hE6⟩:=hT3.same s36
 left
 have lkn:qd9 S.keys z=none:=by rw [qds,nz];rfl
 have hksz:(oK S.keys).length < sizeLine:=by rw [qet];show _ < 16777216;omega
 refine r_dpk hh6 hksz ?_
 rw [putK_oK lkn]
 left
 have sF:∀b u,b≠S.hs->H6 b=some u->upd H6 S.hs (.dK (oK (S.keys++ [(z,h)]))) b=some u:=fun b u hb e=>by rw [qa6 hb];exact e
 have nH:∀{b:Addr} {u:HO},H6 b=some u->u≠ .dK (oK S.keys)->b≠S.hs:=fun e1 e2 e3=>by
  subst e3;rw [hh6] at e1;exact e2 (Option.some.inj e1).symm
 have hT1':=hT1
 have fresh:∀{b:Addr} {u:HO},H1 b=none->H6 b=some u->b≠S.hs:=fun e1 _ e3=>by
  subst e3;rw [hT1'.2.2.1] at e1;cases e1
 refine q ⟨z,h,o⟩ _ (fun b u hb e=>sF b u hb (s06 _ _ e)) (s1.free nh) (s1.free np) (s1.free nc) ⟨⟨dx6,sF _ _ (nH ht6 (by intro e;cases e)) ht6⟩,sF _ _ (nH hw6 (by intro e;cases e)) hw6,?_,?_,?_,fun e1 he1=>?_⟩ rfl (by rw [ey];exact eel) ew efp efc
 .show upd _ _ _ S.hs=some (.dK (oK (Ts.keys _)))
  rw [qa1]
  unfold Ts.keys
  rw [zG];rfl
 .show (List.map _ (S.hl++ [_])).Nodup
  rw [zG,List.nodup_append]
  refine⟨nd6,zX.mpr ⟨by simp,yY⟩,fun x hx1 y' hy1 e=>?_⟩
  have:y'=z:=by simpa using hy1
  subst this
  subst e
  obtain⟨e2,m2,rfl⟩:=zJ.mp hx1
  rw [at_of nd6 m2] at nz
  cases nz
 .show (S.hl++ [_]).length<=60
  rw [zL]
  show _+1<=60
  omega
 .rcases zN.mp he1 with m|m
  .obtain⟨⟨dy,hy1⟩,hy2,hy3,hy4,hy5⟩:=hE6 e1 m
   have no:∀{k:List (Key × V)} {f:Str->Option Int},AD k f->HO.dK k≠ .dK (oK S.keys):=fun hk=>ad_oK hk (z:=e1.n) (h:=e1.a) (by rw [qds,at_of nd6 m];rfl)
   exact⟨⟨dy,sF _ _ (nH hy1 (by intro e;cases e)) hy1⟩,sF _ _ (nH hy2 (no hy3)) hy2,hy3,sF _ _ (nH hy4 (no hy5)) hy4,hy5⟩
  .have:e1=⟨z,h,o⟩:=by simpa using m
   subst this
   have h6:=s36 _ _ ho
   refine⟨⟨dh,sF _ _ (fresh nh h6) h6⟩,sF _ _ (fresh np (s36 _ _ hp)) (s36 _ _ hp),hpA,sF _ _ (fresh nc (s36 _ _ hc)) (s36 _ _ hc),hcA⟩
abbrev ABC:Str:=Str.ofString "abcdefghijklmnopqrstuvwxyz"
def qce (i:Int):Nat:=97+(i%26).toNat
theorem letAt (g:Int):atI ABC.cps.toList (g%26)=some (qce g):=by
 have e0:=Int.emod_nonneg g (show (26:Int)≠0 by decide)
 have e1:=Int.emod_lt_of_pos g (show (0:Int) < 26 by decide)
 have h:∀k:Nat,k < 26->ABC.cps.toList[k]?=some (97+k):=by decide+kernel
 have e:g%26=(((g%26).toNat:Nat):Int):=by omega
 rw [e]
 rw [qbn (h (g%26).toNat (by omega))]
 rfl
theorem qgp (g:Int):isL (qce g)=true:=by
 have e0:=Int.emod_nonneg g (show (26:Int)≠0 by decide)
 have e1:=Int.emod_lt_of_pos g (show (0:Int) < 26 by decide)
 unfold isL qce
 rw [Bool.and_eq_true,decide_eq_true_iff,decide_eq_true_iff]
 omega
theorem letc_inj {g g':Int} (h:qce g=qce g'):g%26=g'%26:=by
 have e0:=Int.emod_nonneg g (show (26:Int)≠0 by decide)
 have f0:=Int.emod_nonneg g' (show (26:Int)≠0 by decide)
 unfold qce at h
 omega
def ofL (l:List Nat):Str:=⟨l.toArray⟩
theorem qff (l:List Nat):qeg (ofL l)=l:=by simp [qeg,ofL]
theorem ofL_inj {l m:List Nat} (h:ofL l=ofL m):l=m:=by rw [<-qff l,<-qff m,h]
theorem qgo (l:List Nat):(ofL l).length=l.length:=by simp [ofL,Str.length]
def FinB (ws:List Str) (B:Int) (f:Str->Option Int):Prop:=∀z n,f z=some n->z∈ws/\0<=n/\n<=B
def elN (es:List Nat) (k:Nat):Nat:=(es[k - 1]?).getD 0
def ptN (ts:List Pt) (k:Nat) (v:Str):Int:=match ts[k]? with
 |some t=>gN t.f v
 |none=>0
theorem lineN_pw {el:Nat->Nat} {n:Nat} (lo:Low el n):∀k,k < n->(qb5 el k).Pairwise (fun a b=>b < a):=by
 intro k
 induction k using Nat.strongRecOn with
 |ind k ih=>
  intro kn
  cases k with
  |zero=>rw [qcx];exact List.pairwise_singleton ..
  |succ k=>
   have l:=lo (k+1) (by omega) kn
   rw [qc9 lo (by omega) kn,List.pairwise_cons]
   refine⟨fun a ha=>?_,ih _ l (by omega)⟩
   have:=qeq lo (el (k+1)) (by omega) a ha
   omega
theorem FinB.nn {ws:List Str} {B:Int} {f:Str->Option Int} (h:FinB ws B f) (v:Str):0<=gN f v:=by
 unfold gN
 cases e:f v with
 |none=>exact Int.le_refl _
 |some n=>exact(h v n e).2.1
structure PL where
 lw:Addr
 ln:Addr
 le:Addr
 lp:Addr
 lc:Addr
 ws:List Str
 nm:List Str
 es:List Nat
 tp:List Pt
 tc:List Pt
structure PlF (P:PL):Prop where
 w1:1<=P.ws.length
 w3:P.ws.length<=3
 wg:∀z∈P.ws,qe5 z=true
 wn:P.ws.Nodup
 nl:P.nm.length=P.es.length+1
 n12:P.nm.length<=12
 ng:∀z∈P.nm,qe5 z=true
 nn:P.nm.Nodup
 lo:∀(k e:Nat),P.es[k]?=some e->e<=k/\e<=10
 pl:P.tp.length=P.nm.length
 cl:P.tc.length=P.nm.length
 pa:∀t∈P.tp,AD t.k t.f/\FinB P.ws (10^30) t.f
 ca:∀t∈P.tc,AD t.k t.f/\FinB P.ws (10^30) t.f
 le:∀(j:Nat) (t:Pt),P.tc[j]?=some t->∀v∈P.ws,(qdb P.tp.length fun k=>if j∈qb5 (elN P.es) k then ptN P.tp k v else 0)<=gN t.f v
theorem FinB.gb {ws:List Str} {B:Int} {f:Str->Option Int} (h:FinB ws B f) (b0:0<=B) (v:Str):gN f v<=B:=by
 unfold gN
 cases e:f v with
 |none=>exact b0
 |some n=>exact(h v n e).2.2
theorem elN_low {es:List Nat} (lo:∀(k e:Nat),es[k]?=some e->e<=k) (n:Nat):Low (elN es) n:=fun k k0 kn=>by
 unfold elN
 cases e:es[k - 1]? with
 |none=>exact k0
 |some a=>have:=lo _ _ e;show a < k;omega
theorem elN_at {es:List Nat} {b:Nat} (hb:b < es.length):elN es (b+1)=es[b]:=by unfold elN;rw [Nat.add_sub_cancel,zA hb];rfl
theorem FinB.fin {ws:List Str} {B:Int} {f:Str->Option Int} (h:FinB ws B f) (hB:B<=10^30):Fin ws f:=fun z n e=>by
 obtain⟨a,b,c⟩:=h z n e
 exact⟨a,b,by omega⟩
theorem fin_perm {ws ws':List Str} {f:Str->Option Int} (h:Fin ws f) (p:ws'.Perm ws):Fin ws' f:=fun z n e=>by
 obtain⟨a,b,c⟩:=h z n e
 exact⟨p.mem_iff.mpr a,b,c⟩
def nmF (P:PL) (k:Nat):Str:=(P.nm[k]?).getD (ofL [])
def tfF (ts:List Pt) (k:Nat):Str->Option Int:=match ts[k]? with
 |some t=>t.f
 |none=>noF
theorem ptN_eq (ts:List Pt) (k:Nat) (v:Str):ptN ts k v=gN (tfF ts k) v:=by
 unfold ptN tfF
 cases ts[k]? <;> rfl
structure TInv (S:Ts) (P:PL) (n:Nat) (wt:Nat->Int):Prop where
 pl:Pl S (nmF P) (elN P.es) n
 wp:S.ws.Perm P.ws
 ws:PyProof.Rows.sortedS S.ws=true
 da:∀(k:Nat) (e:He),S.hl[k]?=some e->(∀v,e.x.fp v=qcv (tfF P.tp k) v)/\(∀v,e.x.fc v=qcv (tfF P.tc k) v)/\e.x.w=wt k
theorem nmF_at {P:PL} {k:Nat} (h:k < P.nm.length):nmF P k=P.nm[k]:=by unfold nmF;rw [zA h];rfl
theorem nmF_inj {P:PL} (f:PlF P) {n:Nat} (hn:n<=P.nm.length):∀i j,i < n->j < n->nmF P i=nmF P j->i=j:=fun i j hi hj e=>by
 rw [nmF_at (by omega),nmF_at (by omega)] at e
 rcases Nat.lt_trichotomy i j with h|h|h
 .exact absurd e ((yI.mp f.nn) i j (by omega) (by omega) h)
 .exact h
 .exact absurd e.symm ((yI.mp f.nn) j i (by omega) (by omega) h)
theorem PlF.low {P:PL} (f:PlF P) (n:Nat):Low (elN P.es) n:=elN_low (fun k e h=>(f.lo k e h).1) n
theorem qfu {P:PL} (f:PlF P) {k:Nat} (hk:k < P.nm.length):∃t,P.tp[k]?=some t/\t∈P.tp/\tfF P.tp k=t.f/\AD t.k t.f/\Fin P.ws t.f:=by
 have h:k < P.tp.length:=by rw [f.pl];exact hk
 have e:=zA h
 refine⟨_,e,zQ h,by unfold tfF;rw [e],(f.pa _ (zQ h)).1,(f.pa _ (zQ h)).2.fin (by decide)⟩
theorem tc_fin {P:PL} (f:PlF P) {k:Nat} (hk:k < P.nm.length):∃t,P.tc[k]?=some t/\t∈P.tc/\tfF P.tc k=t.f/\AD t.k t.f/\Fin P.ws t.f:=by
 have h:k < P.tc.length:=by rw [f.cl];exact hk
 have e:=zA h
 refine⟨_,e,zQ h,by unfold tfF;rw [e],(f.ca _ (zQ h)).1,(f.ca _ (zQ h)).2.fin (by decide)⟩
theorem fin_nn {ws:List Str} {f:Str->Option Int} (h:Fin ws f) (v:Str):0<=gN f v:=by
 unfold gN
 cases e:f v with
 |none=>exact Int.le_refl _
 |some n=>exact(h v n e).2.1
theorem fin_out {ws:List Str} {f:Str->Option Int} (h:Fin ws f) {v:Str} (hv:v∉ws):gN f v=0:=by
 unfold gN
 cases e:f v with
 |none=>rfl
 |some n=>exact absurd (h v n e).1 hv
theorem pr_nn {P:PL} (f:PlF P) {k:Nat} (hk:k < P.nm.length) (v:Str):0<=gN (tfF P.tp k) v:=by
 obtain⟨t,_,_,e,_,h⟩:=qfu f hk
 rw [e];exact fin_nn h v
theorem cap_ge {P:PL} (f:PlF P) {j:Nat} (hj:j < P.nm.length) (v:Str):(qdb P.nm.length fun k=>if j∈qb5 (elN P.es) k then gN (tfF P.tp k) v else 0)<=gN (tfF P.tc j) v:=by
 obtain⟨t,e1,e2,e3,e4,e5⟩:=tc_fin f hj
 rw [e3]
 by_cases hv:v∈P.ws
 .have z:=f.le j t e1 v hv
  rw [f.pl] at z
  have:(fun k=>if j∈qb5 (elN P.es) k then ptN P.tp k v else 0)=fun k=>if j∈qb5 (elN P.es) k then gN (tfF P.tp k) v else 0:=funext fun k=>by rw [ptN_eq]
  rw [this] at z
  exact z
 .have z:(qdb P.nm.length fun k=>if j∈qb5 (elN P.es) k then gN (tfF P.tp k) v else 0)<=qdb P.nm.length fun _=>0:=sumR_le fun k hk=>by
   split
   .obtain⟨t',_,_,q,_,h⟩:=qfu f hk
    rw [q,fin_out h hv];exact Int.le_refl _
   .exact Int.le_refl _
  have z0:∀n,(qdb n fun _=>0)=0:=fun n=>by
   induction n with
   |zero=>rfl
   |succ n ih=>show qdb n _+0=0;rw [ih];rfl
  rw [z0] at z
  have:=fin_nn e5 v
  omega
theorem own_le {P:PL} (f:PlF P) {k:Nat} (hk:k < P.nm.length) (v:Str):gN (tfF P.tp k) v<=gN (tfF P.tc k) v:=by
 have z:=cap_ge f hk v
 have h:gN (tfF P.tp k) v<=qdb P.nm.length fun i=>if k∈qb5 (elN P.es) i then gN (tfF P.tp i) v else 0:=by
  have h1:sumL (fun i=>if k∈qb5 (elN P.es) i then gN (tfF P.tp i) v else 0) [k]<=qdb P.nm.length fun i=>if k∈qb5 (elN P.es) i then gN (tfF P.tp i) v else 0:=
   qgc (zX.mpr ⟨by simp,yY⟩) (fun i hi=>by have:i=k:=(by simpa using hi);omega) fun i hi=>by
    split
    .exact pr_nn f hi v
    .exact Int.le_refl _
  have h2:sumL (fun i=>if k∈qb5 (elN P.es) i then gN (tfF P.tp i) v else 0) [k]=gN (tfF P.tp k) v:=by
   show (if k∈qb5 (elN P.es) k then gN (tfF P.tp k) v else 0)+0=_
   rw [if_pos (qcy (f.low P.nm.length) hk),Int.add_zero]
  omega
 omega
theorem TInv.ask {S:Ts} {P:PL} {k:Nat} {wt:Nat->Int} (h:TInv S P k wt) (f:PlF P) (k0:0 < k) (kn:k < P.nm.length):∃e,S.at (nmF P (elN P.es k))=some e/\e.n=nmF P (elN P.es k)/\WF S/\qh0 S/\S.ws.length<=50/\S.hl.length < 40/\S.at (nmF P k)=none/\
  ∃zs,LineOf S e.n zs/\zs.length < 12/\∀y∈zs,∃e',S.at y=some e'/\Dep S 12 y/\∀bs,Ben S 12 y bs->∀v n,qd7 (qc1 (bs.map (ptOf S))) (qcv (tfF P.tp k)) v=some n->n<=gN e'.x.fc v:=by
 have low:=f.low P.nm.length
 have lk:=low k k0 kn
 have n12:=f.n12
 obtain⟨e,h1,h2,h3⟩:=h.pl.at lk
 have en:e.n=nmF P (elN P.es k):=(qcn h1).2
 refine⟨e,h1,en,h.pl.wf,⟨by have:=h.wp.length_eq;have:=f.w3;omega,fun e' he z hz=>?_⟩,by have:=h.wp.length_eq;have:=f.w3;omega,by rw [h.pl.len];omega,?_,(qb5 (elN P.es) (elN P.es k)).map (nmF P),by rw [en];exact h.pl.line _ lk,?_,fun y hy=>?_⟩
 .obtain⟨i,hi,q,_⟩:=h.pl.ix he
  obtain⟨t,_,_,q2,_,q3⟩:=qfu f (k:=i) (by omega)
  rw [(h.da i e' q).1,q2] at hz
  exact h.wp.mem_iff.mpr (pos_in q3 z hz)
 .cases c:S.at (nmF P k) with
  |none=>rfl
  |some e'=>
   obtain⟨i,hi,_,q,_⟩:=h.pl.ix (qcn c).1
   have:=nmF_inj f (n:=P.nm.length) (Nat.le_refl _) i k (by omega) kn (by rw [<-q,(qcn c).2])
   omega
 .rw [zB]
  have hl:=lineN_len low (elN P.es k) (by omega)
  have:elN P.es k<=10:=by
   obtain⟨b,rfl⟩:∃b,k=b+1:=⟨k - 1,by omega⟩
   have hb:b < P.es.length:=by have:=f.nl;omega
   rw [elN_at hb]
   exact(f.lo b _ (zA hb)).2
  omega
 .obtain⟨j,hj,rfl⟩:=zJ.mp hy
  have jl:=qeq low (elN P.es k) (by omega) j hj
  have jk:j < k:=by omega
  obtain⟨e',q1,q2,_⟩:=h.pl.at jk
  refine⟨e',q1,h.pl.dep 12 j jk (by omega),fun bs hb v n hn=>?_⟩
  have hs:=h.pl.sums (v:=v) (pr:=fun i=>gN (tfF P.tp i) v) (fun i e2 he2=>?_) (fun i hi=>pr_nn f (by omega) v) jk hb
  .have g1:n=gN (qd7 (qc1 (bs.map (ptOf S))) (qcv (tfF P.tp k))) v:=by unfold gN;rw [hn];rfl
   obtain⟨t,_,_,t3,_,t5⟩:=qfu f kn
   rw [qdm,t3,qfc t5,<-t3] at g1
   obtain⟨u,_,_,u3,_,u5⟩:=tc_fin f (k:=j) (by omega)
   have fc:e'.x.fc=qcv u.f:=by rw [<-u3];exact funext (h.da j e' q2).2.1
   rw [fc,qfc u5,<-u3]
   have cg:=cap_ge f (j:=j) (by omega) v
   have mono:=sumR_mono (f:=fun i=>if j∈qb5 (elN P.es) i then gN (tfF P.tp i) v else 0) (n:=k+1) (m:=P.nm.length) (by omega) fun i hi=>by
    try dsimp only
    split
    .exact pr_nn f hi v
    .exact Int.le_refl _
   have top:(qdb (k+1) fun i=>if j∈qb5 (elN P.es) i then gN (tfF P.tp i) v else 0)=(qdb k fun i=>if j∈qb5 (elN P.es) i then gN (tfF P.tp i) v else 0)+gN (tfF P.tp k) v:=by
    show qdb k _+(if j∈qb5 (elN P.es) k then gN (tfF P.tp k) v else 0)=_
    rw [if_pos]
    rw [qc9 low k0 kn]
    exact zF _ hj
   omega
  .obtain⟨t,_,_,t3,_,t5⟩:=qfu f (k:=i) (by have:=(List.getElem?_eq_some_iff.mp he2).1;rw [h.pl.len] at this;omega)
   rw [show e2.x.fp=qcv (tfF P.tp i) from funext (h.da i e2 he2).1,t3]
   exact qfc t5 v
theorem TInv.next {S:Ts} {P:PL} {k:Nat} {wt:Nat->Int} (h:TInv S P k wt) (f:PlF P) (k0:0 < k) (kn:k < P.nm.length) {e2:He} {w:Int} (en:e2.n=nmF P k) (el:e2.x.el=some (nmF P (elN P.es k))) (ew:e2.x.w=w) (ep:∀v,e2.x.fp v=qcv (tfF P.tp k) v) (ec:∀v,e2.x.fc v=qcv (tfF P.tc k) v):
  TInv {S with hl:=S.hl++ [e2]} P (k+1) (fun i=>if i=k then w else wt i):=by
 have hl:=h.pl.len
 have split:∀(i:Nat) (e:He),(S.hl++ [e2])[i]?=some e->(i < k/\S.hl[i]?=some e)\/(i=k/\e=e2):=fun i e he=>by
  rcases Nat.lt_or_ge i S.hl.length with c|c
  .rw [List.getElem?_append_left c] at he
   exact .inl ⟨by omega,he⟩
  .have:=(List.getElem?_eq_some_iff.mp he).1
   rw [zL,yE] at this
   have ei:i=S.hl.length:=by omega
   rw [yJ c,ei,Nat.sub_self] at he
   exact .inr ⟨by omega,by simpa using he.symm⟩
 refine⟨⟨by show (S.hl++ [e2]).length=_;rw [zL,hl];rfl,fun i e he=>?_,nmF_inj f (by omega),fun i i0 ik=>f.low P.nm.length i i0 (by omega)⟩,h.wp,h.ws,fun i e he=>?_⟩
 .rcases split i e he with ⟨a,b⟩ |⟨rfl,rfl⟩
  .exact h.pl.nam i e b
  .exact⟨en,by rw [if_neg (by omega)];exact el⟩
 .rcases split i e he with ⟨a,b⟩ |⟨rfl,rfl⟩
  .obtain⟨x,y,z⟩:=h.da i e b
   exact⟨x,y,by rw [if_neg (by omega)];exact z⟩
  .exact⟨ep,ec,by rw [if_pos rfl];exact ew⟩
structure Apart (S:Ts) (t q:Addr):Prop where
 t:t≠q
 sw:S.sw≠q
 hs:S.hs≠q
 ho:∀e∈S.hl,e.a≠q/\e.x.pa≠q/\e.x.ca≠q
theorem pl_one {S:Ts} {P:PL} {e:He} (f:PlF P) (hl:S.hl=[e]) (en:e.n=nmF P 0) (el:e.x.el=none):Pl S (nmF P) (elN P.es) 1:=by
 refine⟨by rw [hl];rfl,fun k e' he=>?_,fun i j hi hj _=>by omega,fun k k0 k1=>by omega⟩
 rw [hl] at he
 have hk:=(List.getElem?_eq_some_iff.mp he).1
 have e0:k=0:=by rw [yE] at hk;omega
 subst e0
 have:e'=e:=by simpa using he.symm
 subst this
 exact⟨en,el⟩
theorem TInv.cast {S:Ts} {P:PL} {n:Nat} {wt wt':Nat->Int} (h:TInv S P n wt) (e:∀j,j < n->wt j=wt' j):TInv S P n wt':=⟨h.pl,h.wp,h.ws,fun k x hx=>by
 have hk:=(List.getElem?_eq_some_iff.mp hx).1
 rw [h.pl.len] at hk
 obtain⟨a,b,c⟩:=h.da k x hx
 exact⟨a,b,c.trans (e k hk)⟩⟩
def tV:Option Int->V
 |none=> .non
 |some n=> .int n
def qe8 (d:Ad) (s:Bool):Addr:=if s=true then d.w0n else d.w0t
def fsB (n:Int) (z:Str) (m:Addr) (r:Int) (t:Option Int):List (Str × V):=[("number",.int n),("house",.str z),("amounts",.ref m),("rank",.int r),("turns",tV t)]
theorem qfp {K:Frag} {mg:Str->Option Value} {d:Ad} (T:Tx K mg d) (s:Bool):Cls K (qe8 d s)/\qak K (qe8 d s) "number"/\qak K (qe8 d s) "house"/\qak K (qe8 d s) "amounts"/\qak K (qe8 d s) "rank"/\qak K (qe8 d s) "turns":=by
 cases s
 .exact⟨T.w3z,T.w1w,T.w26,T.w1q,T.w2x,T.w2c⟩
 .exact⟨T.w42,T.w1y,T.w2a,T.w1l,T.w2v,T.w2f⟩
def wdb (K:Frag) (d:Ad):Sp:=fun vs H Q _=>∃(x dx a:Addr) (s:Bool) (n:Int) (z:Str) (k:List (Key × V)) (r:Int) (t:Option Int),vs=[.ref x,.int n,.str z,.ref a,.int r,tV t]/\H x=some (.ins (qe8 d s) dx [])/\H a=some (.dK k)/\
 ∀m H',H m=none->H' x=some (.ins (qe8 d s) dx (fsB n z m r t))->H' m=some (.dK k)->SameBut x H H'->Q .non H'
include T in
theorem w9d:FnOk P w K mg base CX0 1 d.w51 d.w60 ["self","number","house","amounts","rank","turns"] (wdb K d):=by
 refine T.wfd.ok wdy (fun vs H Q E h=>?_) (fun cdv A outer s H vs Q E hr h=>?_)
 .obtain⟨x,dx,a,s,n,z,k,r,t,rfl,_⟩:=h;rfl
 obtain⟨x,dx,a,s,n,z,k,r,t,rfl,hx,ha,q⟩:=h
 refine⟨_,(qa4 (qcg (pv 0) (pv 1) rfl)
  (qa4 (qcg (pv 0) (pv 2) rfl)
  (qa4 (qcg (pv 0) (qbs qc5 rfl T.w7q PyProof.Rows.boot_dict (qa0 (pv 3) qa3)) rfl)
  (qa4 (qcg (pv 0) (pv 4) rfl)
  (qa5 (qcg (pv 0) (pv 5) rfl)))))),?_⟩
 walk_at "d"
 refine qac (σ:=[some (.ref x),some (.int n),some (.str z),some (.ref a),some (.int r),some (tV t)]) rfl ?_
 obtain⟨cl,n1,n2,n3,n4,n5⟩:=qfp T s
 left
 refine qeb qa1 cl n2 (by show 1 < 1000;decide) ?_
 rw [qbe]
 have nxa:a≠x:=fun z=>by subst z;rw [hx] at ha;cases ha
 have hRa:Rd (upd H x (.ins (qe8 d s) dx (qdw "house" (.str z) (qdw "number" (.int n) [])))) a (.dK k):=.inl (by rw [qa6 nxa];exact ha)
 left
 rename_i m hm
 have nmx:m≠x:=fun z=>by subst z;rw [qa1] at hm;cases hm
 have hm0:H m=none:=by rw [qa6 nmx] at hm;exact hm
 refine qeb (qa8 qa1 hm) cl n3 (by show 2 < 1000;decide) ?_
 left
 refine qeb qa1 cl n4 (by show 3 < 1000;decide) ?_
 left
 refine qeb qa1 cl n5 (by show 4 < 1000;decide) ?_
 left
 refine q m _ hm0 (by rw [qa1];rfl) (by rw [qa6 nmx,qa6 nmx,qa6 nmx];exact qa1) fun b o hb e=>?_
 rw [qa6 hb,qa6 hb,qa6 hb,qa6 (qa2 e hm0),qa6 hb]
 exact e
def InW (ws:List Str) (f:Str->Option Int):Prop:=∀z,f z≠none->z∈ws
structure Rr where
 p:Addr
 e:Addr
 n:Int
 i:Nat
 k:List (Key × V)
 f:Str->Option Int
 r:Int
 s:Bool
structure Ob where
 R:Rr
 o:Addr
 m:Addr
 t:Option Int
structure ObAt (d:Ad) (H:Hp) (P:PL) (b:Ob):Prop where
 obj:∃dx,H b.o=some (.ins (qe8 d b.R.s) dx (fsB b.R.n (nmF P b.R.i) b.m b.R.r b.t))
 amt:H b.m=some (.dK b.R.k)
 ad:AD b.R.k b.R.f
 inw:InW P.ws b.R.f
 il:b.R.i < P.nm.length
theorem ObAt.same {d:Ad} {H H':Hp} {P:PL} {b:Ob} (h:ObAt d H P b) (s:qas H H'):ObAt d H' P b:=⟨let ⟨dx,e⟩:=h.obj;⟨dx,s _ _ e⟩,s _ _ h.amt,h.ad,h.inw,h.il⟩
theorem line_kid {el:Nat->Nat} {n:Nat} (lo:Low el n) {j:Nat}:∀k,k < n->j∈qb5 el k->j≠k->∃c,0 < c/\c < n/\el c=j/\c∈qb5 el k:=by
 intro k
 induction k using Nat.strongRecOn with
 |ind k ih=>
  intro kn hj ne
  cases k with
  |zero=>rw [qcx] at hj;simp at hj;omega
  |succ k=>
   have l:=lo (k+1) (by omega) kn
   rw [qc9 lo (by omega) kn] at hj ⊢
   rcases zV.mp hj with h|h
   .exact absurd h ne
   .by_cases c:j=el (k+1)
    .exact⟨k+1,by omega,kn,c.symm,zC ..⟩
    .obtain⟨x,x0,x1,x2,x3⟩:=ih (el (k+1)) l (by omega) h c
     exact⟨x,x0,x1,x2,zF _ x3⟩
theorem Pl.isKid {S:Ts} {nm:Nat->Str} {el:Nat->Nat} {n:Nat} (p:Pl S nm el n) {c:Nat} (c0:0 < c) (cn:c < n):nm c∈qbb S (nm (el c)):=by
 obtain⟨e,h1,h2,h3⟩:=p.get cn
 rw [if_neg (by omega)] at h3
 rw [<-h2]
 exact zJ.mpr ⟨e,zY.mpr ⟨zK h1,decide_eq_true h3⟩,rfl⟩
theorem flat_in {parts:List (Str × List Str)} {q:Str × List Str} {y:Str} (hq:q∈parts) (hy:y∈q.2):y∈flat parts:=yR.mpr ⟨q.2,zJ.mpr ⟨q,hq,rfl⟩,hy⟩
theorem Pl.allBen {S:Ts} {nm:Nat->Str} {el:Nat->Nat} {n:Nat} (p:Pl S nm el n):∀(m j:Nat) (zs:List Str),j < n->Ben S m (nm j) zs->∀k,k < n->j∈qb5 el k->nm k∈zs:=by
 intro m
 induction m with
 |zero=>
  rintro j _ jn ⟨parts,hp,rfl,hb⟩ k kn hk
  by_cases c:j=k
  .rw [c];exact zC ..
  .obtain⟨x,x0,x1,x2,x3⟩:=line_kid p.low k kn hk c
   have z:=p.isKid x0 x1
   rw [x2] at z
   obtain⟨q,hq,_⟩:=zJ.mp (hp.mem_iff.mpr z)
   exact(hb q hq).elim
 |succ m ih=>
  rintro j _ jn ⟨parts,hp,rfl,hb⟩ k kn hk
  by_cases c:j=k
  .rw [c];exact zC ..
  .obtain⟨x,x0,x1,x2,x3⟩:=line_kid p.low k kn hk c
   have z:=p.isKid x0 x1
   rw [x2] at z
   obtain⟨q,hq,e⟩:=zJ.mp (hp.mem_iff.mpr z)
   have hB:=hb q hq
   rw [e] at hB
   exact zF _ (flat_in hq (ih x q.2 x1 hB k kn x3))
theorem Pl.benIff {S:Ts} {nm:Nat->Str} {el:Nat->Nat} {n:Nat} (p:Pl S nm el n) {m j:Nat} {zs:List Str} (jn:j < n) (h:Ben S m (nm j) zs) {k:Nat} (kn:k < n):nm k∈zs↔j∈qb5 el k:=by
 refine⟨fun hk=>?_,p.allBen m j zs jn h k kn⟩
 obtain⟨i,i1,i2,i3⟩:=p.ben m j zs jn h.part _ hk
 rw [p.inj k i kn i1 i2]
 exact i3
def bsV (bs:List Ob):List V:=bs.map fun b=> .ref b.o
def inZ (P:PL) (zs:List Str) (b:Ob):Bool:=decide (nmF P b.R.i∈zs)
def w9y (K:Frag) (d:Ad):Sp:=fun vs H Q _=>∃(t lh:Addr) (S:Ts) (P:PL) (bs:List Ob) (z:Str) (e:He),vs=[.ref t,.ref lh,.str z]/\qfq d H t S/\WF S/\S.at z=some e/\Dep S 12 z/\H lh=some (.lst (bsV bs))/\bs.length<=63/\(∀b∈bs,ObAt d H P b)/\
 ∀(l:Addr) (zs:List Str) H',qas H H'->H l=none->Ben S 12 z zs->H' l=some (.lst (bsV (bs.filter (inZ P zs))))->Q (.ref l) H'
include T in
theorem w9z:FnOk P w K mg base (My.CX1 P w) 17 d.w46 d.w36 ["tree","holds","house"] (w9y K d):=by
 refine okX T.w61 w5r (fun vs H Q E h=>?_) (fun cdv A outer s H vs Q E hr h=>?_)
 .obtain⟨t,lh,S,P,bs,z,e,rfl,_⟩:=h;rfl
 obtain⟨t,lh,S,P,bs,z,e,rfl,hT,hW,ae,hD,hL,h63,hB,q⟩:=h
 have een:=(qcn ae).2
 refine⟨_,(qa4 (qag (i:=3) w5r.nd rfl (Or.inr rfl) (qai (pv 0) T.w03 T.w0r ((w6e T).mono (by decide)) hr T.w4h .nil qao (qa0 (pv 2) qa3)))
  (qa5 (qae (qcd (caps:=[3]) (cn:=["names"]) (qbm rfl rfl (by rfl) (by rfl) rfl ⟨rfl,trivial⟩ (by rfl) rfl ⟨⟨rfl,rfl,rfl,rfl,_,rfl⟩,trivial⟩ (by decide)) rfl (qb6 (pv 1)) (fun _ _ _ _=>(qej (qal op_in_seq (qaj (pv 0) rfl) (pv 1) (by rfl)))) (fun _ _ _ _=>(pv 0)))))),?_⟩
 walk_at "d"
 try dsimp only [cxC]
 refine qac (σ:=[some (.ref t),some (.ref lh),some (.str z),none]) rfl ?_
 have ct:=T.w03
 obtain⟨dx,ht⟩:=id hT.1
 left
 refine⟨t,S,.str z,rfl,hT,slim_of hW hT.2.2.2.2.1,.inl ⟨_,rfl⟩,fun e' he'=>?_,fun hn=>?_⟩
 rotate_left
 .rw [show who S (.str z)=some e from ae] at hn;cases hn
 have ee:e=e':=Option.some.inj (ae.symm.trans he')
 subst ee
 rw [een]
 refine⟨hD,fun lb zs H1 s1 hlb elb hBen=>?_⟩
 have hL1:=s1 _ _ hL
 have hB1:∀b∈bs,ObAt d H1 P b:=fun b hb=>(hB b hb).same s1
 clear hT hD he' ht hL hB
 left
 intro C s0 H0 fp acc hacc
 refine c_by bs.length (fun i H'=>H'=upd H1 acc (.lst (bsV ((bs.take i).filter (inZ P zs))))) rfl ?_ ?_ ?_ ?_
 .rintro i H' hi rfl
  exact⟨_,.ref bs[i].o,SqL.of (qa8 hL1 hacc),by unfold bsV;rw [zD,zA hi];rfl⟩
 .rintro H' rfl
  exact⟨_,SqL.of (qa8 hL1 hacc),by unfold bsV;rw [zB];exact Nat.le_refl _⟩
 .rintro i H' v H'' hi rfl ⟨rfl,hy⟩
  have hv:=hy _ (SqL.of (qa8 hL1 hacc))
  unfold bsV at hv
  rw [zD,zA hi] at hv
  cases hv
  have hb:=hB1 _ (zQ hi)
  have tk:bs.take (i+1)=bs.take i++ [bs[i]]:=by rw [zT,zA hi];rfl
  generalize hbi:bs[i]=b at*
  obtain⟨dx,hbo⟩:=hb.obj
  have hbo':=qa8 (o':=.lst (bsV ((bs.take i).filter (inZ P zs)))) hbo hacc
  have elb':=qa8 (o':=.lst (bsV ((bs.take i).filter (inZ P zs)))) elb hacc
  obtain⟨cl,n1,n2,n3,n4,n5⟩:=qfp T b.R.s
  have zl:(bsV ((bs.take i).filter (inZ P zs))).length < sizeLine:=by
   unfold bsV
   rw [zB]
   have h1:=zW (inZ P zs) (bs.take i)
   rw [zS] at h1
   show _ < 16777216
   omega
  left
  refine r_inSs (SqL.of elb') ?_
  by_cases m:nmF P b.R.i∈zs
  .rw [decide_eq_true m]
   left
   rw [qbe,tk,yB,zU,if_pos (show inZ P zs b=true from decide_eq_true m)]
   congr 2
   unfold bsV
   rw [zG];rfl
  .rw [decide_eq_false m]
   left
   rw [tk,yB,zU,if_neg (show ¬inZ P zs b=true by rw [show inZ P zs b=false from decide_eq_false m];decide),yT,yA]
 rintro H' rfl
 rw [zZ]
 left
 exact q acc zs _ (s1.trans (qaa hacc _)) (s1.free hacc) hBen qa1
def qcw (b:Ob):Pt:=⟨b.m,b.R.k,b.R.f⟩
def wg6 (K:Frag) (d:Ad):Sp:=fun vs H Q _=>∃(lh:Addr) (P:PL) (bs:List Ob),vs=[.ref lh]/\H lh=some (.lst (bsV bs))/\bs.length<=63/\P.ws.length<=3/\(∀b∈bs,ObAt d H P b)/\
 ∀(l:Addr) (k:List (Key × V)) H',qas H H'->H l=none->H' l=some (.dK k)->AD k (qc1 (bs.map qcw))->Q (.ref l) H'
include T in
theorem wbs:FnOk P w K mg base CX0 4 d.wac d.w8u ["holds"] (wg6 K d):=by
 refine T.wa8.ok wg5 (fun vs H Q E h=>?_) (fun cdv A outer s H vs Q E hr h=>?_)
 .obtain⟨lh,P,bs,rfl,_⟩:=h;rfl
 obtain⟨lh,P,bs,rfl,hL,h63,w3,hB,q⟩:=h
 refine⟨_,(qa5 (qae (qab ((wad T).mono (by decide)) hr rfl T.wbp T.w8f.kp T.wbv .nil qaf (qa0 (qcd (caps:=[]) (cn:=[]) (qbm rfl rfl (by rfl) (by rfl) rfl trivial (by rfl) rfl trivial (by decide)) rfl (qb6 (pv 0)) (fun _ _ _ _=>qdy) (fun _ _ _ _=>(qaj (pv 0) rfl))) qa3)))),?_⟩
 walk_at "d"
 try dsimp only [cxC]
 refine qac (σ:=[some (.ref lh)]) rfl ?_
 left
 intro C s0 H0 fp acc hacc
 refine c_by bs.length (fun i H'=>H'=upd H acc (.lst (((bs.take i).map qcw).map fun u=> .ref u.a))) rfl ?_ ?_ ?_ ?_
 .rintro i H' hi rfl
  exact⟨_,.ref bs[i].o,SqL.of (qa8 hL hacc),by unfold bsV;rw [zD,zA hi];rfl⟩
 .rintro H' rfl
  exact⟨_,SqL.of (qa8 hL hacc),by unfold bsV;rw [zB];exact Nat.le_refl _⟩
 .rintro i H' v H'' hi rfl ⟨rfl,hy⟩
  have hv:=hy _ (SqL.of (qa8 hL hacc))
  unfold bsV at hv
  rw [zD,zA hi] at hv
  cases hv
  have hb:=hB _ (zQ hi)
  have tk:bs.take (i+1)=bs.take i++ [bs[i]]:=by rw [zT,zA hi];rfl
  generalize hbi:bs[i]=b at*
  obtain⟨dx,hbo⟩:=hb.obj
  have hbo':=qa8 (o':=.lst (((bs.take i).map qcw).map fun u=> .ref u.a)) hbo hacc
  obtain⟨cl,n1,n2,n3,n4,n5⟩:=qfp T b.R.s
  left
  rw [qbe,tk,zG,zG]
  rfl
 rintro H' rfl
 rw [zZ]
 have s2:=qaa hacc (.lst ((bs.map qcw).map fun u=>V.ref u.a))
 have eN:upd H acc (.lst ((bs.map qcw).map fun u=>V.ref u.a)) acc=some (.lst ((bs.map qcw).map fun u=>V.ref u.a)):=qa1
 left
 refine⟨acc,bs.map qcw,P.ws,rfl,SqL.of eN,by omega,fun u hu=>?_,fun l k' H2 s3 hl el hA=>q l k' H2 (s2.trans s3) (s2.free hl) el hA⟩
 obtain⟨b,hb,rfl⟩:=zJ.mp hu
 have hb':=hB b hb
 exact⟨s2 _ _ hb'.amt,hb'.ad,hb'.inw⟩
theorem ObAt.put {d:Ad} {H:Hp} {P:PL} {b:Ob} {q:Addr} {o:HO} (h:ObAt d H P b) (n1:b.o≠q) (n2:b.m≠q):ObAt d (upd H q o) P b:=⟨let ⟨dx,e⟩:=h.obj;⟨dx,by rw [qa6 n1];exact e⟩,by rw [qa6 n2];exact h.amt,h.ad,h.inw,h.il⟩
def wjb (K:Frag) (d:Ad):Sp:=fun vs H Q _=>∃(a:Addr) (ns:List Int) (k:Int),vs=[.ref a,.int k]/\SqL K H a (ns.map V.int)/\0<=k/\k<=1000/\ns.length<=63/\∀c:Int,0<=c->c < 1000000000039->Q (.int c) H
def pickU (c k:Int):Int:=(c+15485863*k)%2147483629
def qfn (c k m:Int):Int:=(pickU c k*pickU c k%2147483647*69621%2147483629).fdiv 32%m
theorem qgl {c k m:Int} (h:1<=m):0<=qfn c k m/\qfn c k m < m:=⟨Int.emod_nonneg _ (by omega),Int.emod_lt_of_pos _ (by omega)⟩
def wfr (K:Frag) (d:Ad):Sp:=fun vs H Q _=>∃c k m:Int,vs=[.int c,.int k,.int m]/\0<=k/\k<=100000/\1<=m/\m<=100000/\Q (.int (qfn c k m)) H
section
variable {K: Frag} {d: Ad} {H: Hp} {Q: VK} {E: XK}
theorem qbl {c k m:Int} (k0:0<=k) (k1:k<=100000) (m0:1<=m) (m1:m<=100000) (q:∀r:Int,0<=r->r < m->Q (.int r) H):wfr K d [.int c,.int k,.int m] H Q E:=⟨c,k,m,rfl,k0,k1,m0,m1,q _ (qgl m0).1 (qgl m0).2⟩
theorem u_pickE {c k m:Int} (k0:0<=k) (k1:k<=100000) (m0:1<=m) (m1:m<=100000) (q:Q (.int (qfn c k m)) H):wfr K d [.int c,.int k,.int m] H Q E:=⟨c,k,m,rfl,k0,k1,m0,m1,q⟩
end
include T in
theorem w57:FnOk P w K mg base CX0 1 d.whn d.wf9 ["_law_script","_law_k"] (wjb K d):=by
 refine T.w74.ok wfa (fun vs H Q E h=>?_) (fun cdv A outer s H vs Q E hr h=>?_)
 .obtain⟨a,ns,k,rfl,_⟩:=h;rfl
 obtain⟨a,ns,k,rfl,hS,k0,k1,hn,q⟩:=h
 refine⟨_,(qa4 (qay (qal op_lt (pv 1) (qad qax rfl T.w34 PySem.boot_len (qa0 (pv 0) qa3)) (qap _)) (qa5 (qae (qar qcl (qaq qaw (pv 0) (pv 1) (fun _ _=>rfl)) qa7))) qam)
  (qa4 (qag (i:=2) wfa.nd rfl (Or.inl rfl) qa7)
  (qa4 (qc0 (qay (qal qf6 (qad qax rfl T.w34 PySem.boot_len (qa0 (pv 0) qa3)) qa7 (qap _)) (qa5 (qag (i:=2) wfa.nd rfl (Or.inl rfl) (qar qcl (qaq qaw (pv 0) (qar qcl (pv 1) (qad qax rfl T.w34 PySem.boot_len (qa0 (pv 0) qa3))) (fun _ _=>rfl)) qa7))) qam))
  (qa5 (qae (qar qcl (qar qct (qar qb8 (qar qb8 (qar qct (pv 2) qa7) (qar qct qa7 (pv 1))) qa7) (qar qb8 (pv 1) qa7)) qa7)))))),?_⟩
 walk_at "d"
 refine qac (σ:=[some (.ref a),some (.int k),none]) rfl ?_
 left
 have hl:(ns.map V.int).length=ns.length:=zB _
 refine i_2 (fun c=>?_) (fun c=>?_)
 .rw [hl] at c
  left
  refine qbk hS (cell_at k0 c) ?_
  left
  exact q _ (Int.emod_nonneg _ (by decide)) (Int.emod_lt_of_pos _ (by decide))
 .have ks:k.natAbs < 2^600:=Nat.lt_of_le_of_lt (show k.natAbs<=1000 by omega) (by decide)
  left
  refine r_cut (fun σ' H'=>H'=H/\∃m:Int,σ'=[some (.ref a),some (.int k),some (.int m)]/\m.natAbs < 2^500) ?_ ?_
  .left
   rw [hl]
   refine i_2 (fun c2=>?_) (fun c2=>?_)
   .left
    rw [hl]
    have e0:=Int.emod_nonneg k (show ((ns.length:Nat):Int)≠0 by omega)
    have e1:=Int.emod_lt_of_pos k (show (0:Int) <((ns.length:Nat):Int) by omega)
    generalize k%((ns.length:Nat):Int)=r at*
    left
    refine qbk hS (cell_at e0 e1) ?_
    generalize cell ns r=x
    left
    have f0:=Int.emod_nonneg x (show (999983:Int)≠0 by decide)
    have f1:=Int.emod_lt_of_pos x (show (0:Int) < 999983 by decide)
    exact⟨rfl,_,rfl,Nat.lt_of_le_of_lt (show _<=10^12 by omega) (by decide)⟩
   .left
    exact⟨rfl,_,rfl,by decide⟩
  .rintro σ' H' ⟨rfl,m,rfl,hm⟩
   have m6:m.natAbs < 2^600:=Nat.lt_trans hm (by decide)
   have ub:(m*48271+7919*k+11).natAbs < 2^600:=by
    have:(m*48271).natAbs<=2^500*48271:=by rw [Int.natAbs_mul];exact Nat.mul_le_mul (Nat.le_of_lt hm) (by decide)
    exact Nat.lt_of_le_of_lt (show (m*48271+7919*k+11).natAbs<=2^500*48271+10^8 by omega) (by decide)
   left
   exact q _ (Int.emod_nonneg _ (by decide)) (Int.lt_trans (Int.emod_lt_of_pos _ (by decide)) (by decide))
include T in
theorem w0l:FnOk P w K mg base CX0 1 d.whl d.weq ["_law_cell_here","_law_k","_law_many"] (wfr K d):=by
 refine T.w18.ok wgm (fun vs H Q E h=>?_) (fun cdv A outer s H vs Q E hr h=>?_)
 .obtain⟨c,k,m,rfl,_⟩:=h;rfl
 obtain⟨c,k,m,rfl,k0,k1,m0,m1,q⟩:=h
 refine⟨_,(qa4 (qag (i:=3) wgm.nd rfl (Or.inl rfl) (qar qcl (qar qb8 (pv 0) (qar qct qa7 (pv 1))) qa7))
  (qa5 (qae (qar qcl (qar qep (qar qcl (qar qct (qar qcl (qar qct (pv 3) (pv 3)) qa7) qa7) qa7) qa7) (pv 2))))),?_⟩
 walk_at "d"
 refine qac (σ:=[some (.int c),some (.int k),some (.int m),none]) rfl ?_
 left
 have a0:=Int.emod_nonneg (c+15485863*k) (show (2147483629:Int)≠0 by decide)
 have a1:=Int.emod_lt_of_pos (c+15485863*k) (show (0:Int) < 2147483629 by decide)
 unfold qfn at q
 have eu:(c+15485863*k)%2147483629=pickU c k:=rfl
 rw [eu] at a0 a1 ⊢
 generalize pickU c k=u at*
 left
 exact q
theorem fm_take (l:List Nat):∀n:Nat,(List.range n).filterMap (fun i=>l[i]?)=l.take n
 |0=>rfl
 |n+1=>by
  rw [List.range_succ,List.filterMap_append,fm_take l n,zT]
  cases e:l[n]? <;> simp [List.filterMap_cons,e]
theorem slice8 {l:List Nat} (h:l.length=8) {n:Nat} (hn:n<=8):Txt.slice (ofL l) none (some (n:Int))=ofL (l.take n):=by
 have key:∀n:Nat,n < 9->Builtin.Str.strSliceIndices none (some (n:Int)) 1 8=List.range n:=by decide
 have hl:(ofL l).length=8:=by rw [qgo];exact h
 unfold Txt.slice
 rw [hl,key n (by omega),yG]
 split
 .rename_i c
  have:n=8:=by simpa using c
  rw [this,List.take_of_length_le (by omega)]
 .have e:(fun i:Nat=>(ofL l).cps[i]?)=fun i=>l[i]?:=funext fun i=>by simp [ofL]
  rw [e,fm_take];rfl
def qe9 (c:Nat):Str:=⟨#[c]⟩
theorem glue0 (l:List Nat):Builtin.Str.glued (Str.ofString "") (l.map qe9)=ofL l:=by
 cases l with
 |nil=>rfl
 |cons c r=>
  have key:∀(r:List Nat) (p:List Nat),(r.map qe9).foldl (fun acc (q:Str)=>acc++(Str.ofString "").cps++q.cps) p.toArray=(p++r).toArray:=by
   intro r
   induction r with
   |nil=>intro p;simp
   |cons q r ih=>
    intro p
    rw [zM,yP]
    have e:p.toArray++(Str.ofString "").cps++(qe9 q).cps=(p++ [q]).toArray:=by
     show p.toArray++(#[]:Array Nat)++#[q]=_
     simp
    rw [e,ih (p++ [q])]
    simp
  exact congrArg Str.mk (key r [c])
structure Nm2 (ss:List Str) (n:Nat):Prop where
 len:ss.length=n
 nd:ss.Nodup
 good:∀z∈ss,qe5 z=true
def gnA (us:List Int) (L:Int) (k:Nat):Str:=ofL ((us.map qce).take (1+((3*(k:Int)+L)%8).toNat))
def gnB (us:List Int) (L A:Nat) (S:Int) (k:Nat):Str:=ofL (((us.map qce).set A (qce ((us[A]?).getD 0+S*(k:Int)))).take L)
def gnK (b:Bool) (us:List Int) (L A:Nat) (S:Int) (k:Nat):Str:=if b then gnA us (L:Int) k else gnB us L A S k
theorem good_ofL {l:List Nat} (h1:1<=l.length) (h8:l.length<=8) (h:∀x∈l,isL x=true):qe5 (ofL l)=true:=by
 unfold qe5
 rw [qgo,qff,Bool.and_eq_true,Bool.and_eq_true,decide_eq_true_iff,decide_eq_true_iff,yM]
 exact⟨⟨h1,h8⟩,h⟩
theorem gn_good {b:Bool} {us:List Int} {L A:Nat} {S:Int} (hu:us.length=8) (l1:1<=L) (l8:L<=8) (k:Nat):qe5 (gnK b us L A S k)=true:=by
 unfold gnK gnA gnB
 have m0:=Int.emod_nonneg (3*(k:Int)+(L:Int)) (show (8:Int)≠0 by decide)
 have m1:=Int.emod_lt_of_pos (3*(k:Int)+(L:Int)) (show (0:Int) < 8 by decide)
 split
 .refine good_ofL ?_ ?_ fun x hx=>?_
  .rw [zS,zB];omega
  .rw [zS,zB];omega
  .obtain⟨u,_,rfl⟩:=zJ.mp (List.mem_of_mem_take hx)
   exact qgp _
 .refine good_ofL ?_ ?_ fun x hx=>?_
  .rw [zS,xB,zB];omega
  .rw [zS,xB,zB];omega
  .rcases List.mem_or_eq_of_mem_set (List.mem_of_mem_take hx) with h|h
   .obtain⟨u,_,rfl⟩:=zJ.mp h
    exact qgp _
   .rw [h];exact qgp _
theorem gn_inj {b:Bool} {us:List Int} {L A:Nat} {S:Int} (hu:us.length=8) (l1:1<=L) (l8:L<=8) (hA:A < L) (hS:S=1\/S=7\/S=25) {k k':Nat} (h0:k<=7) (h1:k'<=7) (h:gnK b us L A S k=gnK b us L A S k'):k=k':=by
 unfold gnK at h
 cases b with
 |true=>
  rw [if_pos rfl,if_pos rfl] at h
  have z:=congrArg List.length (ofL_inj h)
  rw [zS,zS,zB,hu] at z
  have m0:=Int.emod_nonneg (3*(k:Int)+(L:Int)) (show (8:Int)≠0 by decide)
  have m1:=Int.emod_lt_of_pos (3*(k:Int)+(L:Int)) (show (0:Int) < 8 by decide)
  have m2:=Int.emod_nonneg (3*(k':Int)+(L:Int)) (show (8:Int)≠0 by decide)
  have m3:=Int.emod_lt_of_pos (3*(k':Int)+(L:Int)) (show (0:Int) < 8 by decide)
  omega
 |false=>
  rw [if_neg Bool.false_ne_true,if_neg Bool.false_ne_true] at h
  have z:=congrArg (fun l:List Nat=>l[A]?) (ofL_inj h)
  rw [yK hA,yK hA,List.getElem?_set,List.getElem?_set,if_pos rfl,if_pos rfl,zB,hu,if_pos (by omega),if_pos (by omega)] at z
  have z:=letc_inj (Option.some.inj z)
  generalize (us[A]?).getD 0=x at z
  rcases hS with rfl|rfl|rfl <;> omega
theorem gn_nm {b:Bool} {us:List Int} {L A:Nat} {S:Int} {n:Nat} (hu:us.length=8) (l1:1<=L) (l8:L<=8) (hA:A < L) (hS:S=1\/S=7\/S=25) (hn:n<=7):Nm2 ((List.range n).map (gnK b us L A S)) n:=by
 refine⟨by rw [zB,yG],?_,fun z hz=>?_⟩
 .show List.Pairwise _ _
  rw [List.pairwise_map]
  refine List.Pairwise.imp_of_mem (R:=fun a b=>a < b) (fun {x y} hx hy lt e=>?_) List.pairwise_lt_range
  have:=xC.mp hx
  have:=xC.mp hy
  have:=gn_inj hu l1 l8 hA hS (by omega) (by omega) e
  omega
 .obtain⟨k,_,rfl⟩:=zJ.mp hz
  exact gn_good hu l1 l8 k
theorem let_in {u:Int} (h0:0<=u) (h1:u < 26):atI ABC.cps.toList u=some (qce u):=by
 have:=letAt u
 rw [Int.emod_eq_of_lt h0 h1] at this
 exact this
theorem one_sum (l:List Nat):((l.map qe9).map fun s:Str=>s.length).sum=l.length:=by
 induction l with
 |nil=>rfl
 |cons a l ih=>
  rw [zM,zM,yZ,ih,zR]
  show 1+l.length=_
  omega
def wi0 (K:Frag) (d:Ad):Sp:=fun vs H Q _=>∃(c:Int) (m:Nat),vs=[.int c,.int (m:Int)]/\m<=7/\∀(l:Addr) (ss:List Str) (H':Hp),qas H H'->H' l=some (.lst (ss.map V.str))->Nm2 ss m->Q (.ref l) H'
include T in
theorem wfx:FnOk P w K mg base CX0 2 d.wfq d.wd0 ["_law_cell_here","_law_many"] (wi0 K d):=by
 refine T.wew.ok w4e (fun vs H Q E h=>?_) (fun cdv A outer s H vs Q E hr h=>?_)
 .obtain⟨c,m,rfl,_⟩:=h;rfl
 obtain⟨c,m,rfl,m7,q⟩:=h
 refine⟨_,(qa4 (qag (i:=2) w4e.nd rfl (Or.inr rfl) qcr)
  (qa4 (qag (i:=3) w4e.nd rfl (Or.inl rfl) (qar qb8 qa7 (qab ((w0l T).mono (by decide)) hr rfl T.w1f T.w18.kp T.w1e .nil qaf (qa0 (pv 0) (qa0 qa7 (qa0 qa7 qa3))))))
  (qa4 (qag (i:=4) w4e.nd rfl (Or.inl rfl) (qab ((w0l T).mono (by decide)) hr rfl T.w1f T.w18.kp T.w1e .nil qaf (qa0 (pv 0) (qa0 qa7 (qa0 (pv 3) qa3)))))
  (qa4 (qf2 (j:=5) (caps:=[0]) (cn:=["_law_cell_here"]) (qbm rfl rfl (by rfl) (by rfl) rfl ⟨rfl,trivial⟩ (by rfl) rfl ⟨⟨rfl,rfl,rfl,rfl,_,rfl⟩,trivial⟩ (by decide)) rfl w4e.nd rfl rfl (qca rfl T.w6d (qa0 qa7 qa3)) (fun _ _ _ _=>qdy) (fun _ _ _ _=>(qab ((w0l T).mono (by decide)) hr rfl T.w1f T.w18.kp T.w1e .nil qaf (qa0 (pv 1) (qa0 (qar qb8 qa7 (pv 0)) (qa0 qa7 qa3))))))
  (qa4 (qag (i:=6) w4e.nd rfl (Or.inl rfl) (qcb qa3))
  (qa4 (qbh PassesOwn.never rfl (qca rfl T.w6d (qa0 (pv 1) qa3)) (qau (i:=7) w4e.nd rfl (Or.inl rfl)) (qa4 (qf2 (j:=8) (caps:=[2]) (cn:=["_law_letters"]) (qbm rfl rfl (by rfl) (by rfl) rfl ⟨rfl,trivial⟩ (by rfl) rfl ⟨⟨rfl,rfl,rfl,rfl,_,rfl⟩,trivial⟩ (by decide)) rfl w4e.nd rfl rfl (qb6 (pv 5)) (fun _ _ _ _=>qdy) (fun _ _ _ _=>(qaq ix_str (pv 1) (pv 0) (fun _ _=>rfl))))
  (qa4 (qf1 (pv 8) (pv 4) (qaq ix_str (pv 2) (qar qcl (qar qb8 (qaq qaw (pv 5) (pv 4) (fun _ _=>rfl)) (qar qct (qaq qaw (qcb (qa0 qa7 (qa0 qa7 (qa0 qa7 qa3)))) (qab ((w0l T).mono (by decide)) hr rfl T.w1f T.w18.kp T.w1e .nil qaf (qa0 (pv 0) (qa0 qa7 (qa0 qa7 qa3)))) (fun _ _=>rfl)) (pv 7))) qa7) (fun _ _=>rfl)) rfl)
  (qa5 (qc0 (qay (qal qee (qab ((w0l T).mono (by decide)) hr rfl T.w1f T.w18.kp T.w1e .nil qaf (qa0 (pv 0) (qa0 qa7 (qa0 qa7 qa3)))) qa7 (qap _)) (qa5 (qat (qdr PySem.F.plainAttrs_list PySem.F.slot_list_append PySem.F.type_list_append qbt (pv 6) (qa0 (qde sl_str (qdr PySem.F.plainAttrs_str PySem.F.slot_str_join PySem.F.type_str_join mt_joinG qcr (qa0 (qcd (caps:=[2]) (cn:=["_law_letters"]) (qbm rfl rfl (by rfl) (by rfl) rfl ⟨rfl,trivial⟩ (by rfl) rfl ⟨⟨rfl,rfl,rfl,rfl,_,rfl⟩,trivial⟩ (by decide)) rfl (qb6 (pv 5)) (fun _ _ _ _=>qdy) (fun _ _ _ _=>(qaq ix_str (pv 1) (pv 0) (fun _ _=>rfl)))) qa3)) qf3 (qdq (qar qb8 qa7 (qar qcl (qar qb8 (qar qct qa7 (pv 7)) (pv 3)) qa7)))) qa3)))) (qa5 (qat (qdr PySem.F.plainAttrs_list PySem.F.slot_list_append PySem.F.type_list_append qbt (pv 6) (qa0 (qde sl_str (qdr PySem.F.plainAttrs_str PySem.F.slot_str_join PySem.F.type_str_join mt_joinG qcr (qa0 (pv 8) qa3)) qf3 (qdq (pv 3))) qa3))))))))))
  (qa5 (qae (pv 6))))))))),?_⟩
 walk_at "d"
 try dsimp only [cxC]
 refine qac (σ:=[some (.int c),some (.int (m:Int)),none,none,none,none,none,none,none]) rfl ?_
 have em:((m:Nat):Int).toNat=m:=by omega
 generalize hmi:((m:Nat):Int)=mi at*
 have mi0:0<=mi:=by omega
 have mi7:mi<=7:=by omega
 left
 refine qbl (by decide) (by decide) (by decide) (by decide) fun r r0 r1=>?_
 obtain⟨L,eL⟩:∃L:Nat,1+r=(L:Int):=⟨(1+r).toNat,by omega⟩
 have l1:1<=L:=by omega
 have l8:L<=8:=by omega
 left
 rw [eL]
 clear eL r0 r1
 refine qbl (by decide) (by decide) (by omega) (by omega) fun ra a0 a1=>?_
 obtain⟨A,rfl⟩:=Int.eq_ofNat_of_zero_le a0
 have hA:A < L:=by omega
 clear a0 a1
 left
 intro C s0 H0 fp wd hwd
 refine c_by 8 (fun i H'=>∃us:List Int,H'=upd H wd (.lst (us.map V.int))/\us.length=i/\∀u∈us,0<=u/\u < 26) ⟨[],rfl,rfl,fun u h=>by simp at h⟩ ?_ ?_ ?_ ?_
 .rintro i H' hi _
  exact hi
 .rintro H' _
  exact Nat.le_refl _
 .rintro i H' v H'' hi ⟨us,rfl,hul,hub⟩ ⟨rfl,rfl⟩
  have zl:(us.map V.int).length < sizeLine:=by rw [zB];show _ < 16777216;omega
  left
  refine qbl (by omega) (by omega) (by decide) (by decide) fun u u0 u1=>?_
  left
  refine⟨us++ [u],by rw [qbe,zG];rfl,by rw [zL,hul];rfl,fun x hx=>?_⟩
  rcases zN.mp hx with h|h
  .exact hub x h
  .rw [zH.mp h];exact⟨u0,u1⟩
 rintro H1' ⟨us,rfl,hul,hub⟩
 have s1:=qaa hwd (.lst (us.map V.int))
 have e1:upd H wd (.lst (us.map V.int)) wd=some (.lst (us.map V.int)):=qa1
 generalize upd H wd (.lst (us.map V.int))=H1 at*
 have xA:atI (us.map V.int) ((A:Nat):Int)=some (.int ((us[A]?).getD 0)):=qbn (by rw [zD,zA (by omega)];rfl)
 have xb:((us[A]?).getD 0).natAbs < 2^600:=by
  rw [zA (by omega)]
  have:=hub _ (zQ (show A < us.length by omega))
  exact Nat.lt_of_le_of_lt (show (us[A]'(by omega)).natAbs<=26 by omega) (by decide)
 obtain⟨S,hSx,hS⟩:∃S:Int,atI [V.int 1,V.int 7,V.int 25] (qfn c 13 3)=some (.int S)/\(S=1\/S=7\/S=25):=by
  obtain⟨p0,p1⟩:=qgl (c:=c) (k:=13) (m:=3) (by decide)
  rcases(show qfn c 13 3=0\/qfn c 13 3=1\/qfn c 13 3=2 by omega) with e|e|e
  .exact⟨1,by rw [e];exact qbn (j:=0) rfl,.inl rfl⟩
  .exact⟨7,by rw [e];exact qbn (j:=1) rfl,.inr (.inl rfl)⟩
  .exact⟨25,by rw [e];exact qbn (j:=2) rfl,.inr (.inr rfl)⟩
 have Sb:S.natAbs < 2^600:=Nat.lt_of_le_of_lt (show S.natAbs<=25 by omega) (by decide)
 generalize hb:decide (qfn c 12 4=0)=b
 left
 rename_i nl hnl
 have s2:=s1.trans (qaa hnl (.lst []))
 have e2:upd H1 nl (.lst []) nl=some (.lst ((((List.range 0).map (gnK b us L A S))).map V.str)):=qa1
 have w2:=qa8 (o':=.lst []) e1 hnl
 have fn:=s1.free hnl
 have nwl:wd≠nl:=qa2 e1 hnl
 generalize upd H1 nl (.lst [])=H2 at*
 rw [em]
 refine qdu (fun i σ H'=>∃(w1 w2:Option V),σ=[some (V.int c),some (V.int mi),some (V.str ABC),some (V.int ((L:Nat):Int)),some (V.int ((A:Nat):Int)),some (V.ref wd),some (V.ref nl),w1,w2]/\qas H H'/\H' wd=some (.lst (us.map V.int))/\H' nl=some (.lst ((((List.range i).map (gnK b us L A S))).map V.str))) ⟨_,_,rfl,s2,w2,e2⟩ ?_ ?_
 .rintro i σ H' hi ⟨w1,w2,rfl,sm,ew,en⟩
  rw [Int.zero_add]
  have i7:0<=((i:Nat):Int)/\((i:Nat):Int)<=7:=by omega
  have kb:((i:Nat):Int).natAbs < 2^600:=Nat.lt_of_le_of_lt (show ((i:Nat):Int).natAbs<=12 by omega) (by decide)
  have Lb:((L:Nat):Int).natAbs < 2^600:=Nat.lt_of_le_of_lt (show ((L:Nat):Int).natAbs<=12 by omega) (by decide)
  have lz:(ofL (us.map qce)).length=8:=by rw [qgo,zB];exact hul
  clear s1 e1 s2 e2
  left
  intro C s0 H0 fp nm hnm
  refine c_by us.length (fun j H2=>H2=upd H' nm (.lst ((((us.take j).map qce).map qe9).map V.str))) rfl ?_ ?_ ?_ ?_
  .rintro j H2 hj rfl
   exact⟨_,.int us[j],SqL.of (qa8 ew hnm),by rw [zD,zA hj];rfl⟩
  .rintro H2 rfl
   exact⟨_,SqL.of (qa8 ew hnm),by rw [zB];exact Nat.le_refl _⟩
  .rintro j H2 v H3 hj rfl ⟨rfl,hy⟩
   have hv:=hy _ (SqL.of (qa8 ew hnm))
   rw [zD,zA hj] at hv
   cases hv
   have tk:us.take (j+1)=us.take j++ [us[j]]:=by rw [zT,zA hj];rfl
   obtain⟨u0,u1⟩:=hub _ (zQ hj)
   generalize us[j]=u at*
   have zl:((((us.take j).map qce).map qe9).map V.str).length < sizeLine:=by rw [zB,zB,zB,zS];show _ < 16777216;omega
   left
   refine r_ixS (by decide) (let_in u0 u1) ?_
   left
   rw [qbe,tk,zG,zG,zG];rfl
  rintro H2 rfl
  rw [zZ]
  have s3:=qaa hnm (.lst (((us.map qce).map qe9).map V.str))
  have en3:upd H' nm (.lst (((us.map qce).map qe9).map V.str)) nm=some (.lst (((us.map qce).map qe9).map V.str)):=qa1
  have ew3:=qa8 (o':=.lst (((us.map qce).map qe9).map V.str)) ew hnm
  have el3:=qa8 (o':=.lst (((us.map qce).map qe9).map V.str)) en hnm
  have nnl:nm≠nl:=(qa2 en hnm).symm
  have nwd:nm≠wd:=(qa2 ew hnm).symm
  have fnm:=sm.free hnm
  have sm3:=sm.trans s3
  generalize upd H' nm (.lst (((us.map qce).map qe9).map V.str))=H3 at*
  clear s3 ew en hnm
  left
  refine qbk (SqL.of ew3) xA ?_
  left
  rename_i pm hpm
  refine u_pickE (by decide) (by decide) (by decide) (by decide) ?_
  refine qbk (SqL.of qa1) hSx ?_
  have s4:=qaa hpm (.lst [.int 1,.int 7,.int 25])
  have ew4:=s4 _ _ ew3
  have el4:=s4 _ _ el3
  have en4:=s4 _ _ en3
  have sm4:=sm3.trans s4
  generalize upd H3 pm (.lst [.int 1,.int 7,.int 25])=H4 at*
  clear s4 hpm ew3 el3 en3 sm3
  generalize hx:(us[A]?).getD 0=x at*
  left
  refine r_ixS (by decide) (letAt (x+S*((i:Nat):Int))) ?_
  left
  refine r_lpk en4 (k:=A) (by rw [zB,zB,zB];omega) ?_ rfl
  have eset:((((us.map qce).map qe9).map V.str).set A (V.str ⟨#[qce (x+S*((i:Nat):Int))]⟩))=((((us.map qce).set A (qce (x+S*((i:Nat):Int)))).map qe9).map V.str):=by rw [xG,xG];rfl
  rw [eset]
  have en5:upd H4 nm (.lst ((((us.map qce).set A (qce (x+S*((i:Nat):Int)))).map qe9).map V.str)) nm=some (.lst ((((us.map qce).set A (qce (x+S*((i:Nat):Int)))).map qe9).map V.str)):=qa1
  have ew5:upd H4 nm (.lst ((((us.map qce).set A (qce (x+S*((i:Nat):Int)))).map qe9).map V.str)) wd=some (.lst (us.map V.int)):=by rw [qa6 nwd.symm];exact ew4
  have el5:upd H4 nm (.lst ((((us.map qce).set A (qce (x+S*((i:Nat):Int)))).map qe9).map V.str)) nl=some (.lst ((((List.range i).map (gnK b us L A S))).map V.str)):=by rw [qa6 nnl.symm];exact el4
  have sm5:qas H (upd H4 nm (.lst ((((us.map qce).set A (qce (x+S*((i:Nat):Int)))).map qe9).map V.str))):=qbf sm4 fnm
  have eB:b=false->gnK b us L A S i=ofL (((us.map qce).set A (qce (x+S*((i:Nat):Int)))).take L):=fun e=>by unfold gnK gnB;rw [e,if_neg Bool.false_ne_true,hx]
  have lB:((us.map qce).set A (qce (x+S*((i:Nat):Int)))).length=8:=by rw [xB,zB];exact hul
  generalize upd H4 nm (.lst ((((us.map qce).set A (qce (x+S*((i:Nat):Int)))).map qe9).map V.str))=H5 at*
  generalize (us.map qce).set A (qce (x+S*((i:Nat):Int)))=Ls at*
  clear eset sm4 el4 ew4 en4
  have lz2:(ofL Ls).length=8:=by rw [qgo];exact lB
  have zn:((((List.range i).map (gnK b us L A S))).map V.str).length < sizeLine:=by rw [zB,zB,yG];show _ < 16777216;omega
  have snoc:∀z:Str,z=gnK b us L A S i->(((List.range (i+1)).map (gnK b us L A S))).map V.str=(((List.range i).map (gnK b us L A S))).map V.str++ [.str z]:=fun z e=>by rw [List.range_succ,zG,zG,e];rfl
  left
  refine qbz ?_
  left
  refine u_pickE (by decide) (by decide) (by decide) (by decide) ?_
  left
  refine i_2 (fun c1=>?_) (fun c1=>?_)
  .have bt:b=true:=by rw [<-hb];exact decide_eq_true c1
   have m0:=Int.emod_nonneg (3*((i:Nat):Int)+((L:Nat):Int)) (show (8:Int)≠0 by decide)
   have m1:=Int.emod_lt_of_pos (3*((i:Nat):Int)+((L:Nat):Int)) (show (0:Int) < 8 by decide)
   have eN:1+(3*((i:Nat):Int)+((L:Nat):Int))%8=((1+((3*((i:Nat):Int)+((L:Nat):Int))%8).toNat:Nat):Int):=by omega
   have eA:gnK b us L A S i=ofL ((us.map qce).take (1+((3*((i:Nat):Int)+((L:Nat):Int))%8).toNat)):=by unfold gnK gnA;rw [bt,if_pos rfl]
   have N8:1+((3*((i:Nat):Int)+((L:Nat):Int))%8).toNat<=8:=by omega
   have l8':(us.map qce).length=8:=by rw [zB];exact hul
   clear m0 m1 c1
   left
   intro C2 s02 H02 fp2 ac hac
   refine c_by us.length (fun j H6=>H6=upd H5 ac (.lst ((((us.take j).map qce).map qe9).map V.str))) rfl ?_ ?_ ?_ ?_
   .rintro j H6 hj rfl
    exact⟨_,.int us[j],SqL.of (qa8 ew5 hac),by rw [zD,zA hj];rfl⟩
   .rintro H6 rfl
    exact⟨_,SqL.of (qa8 ew5 hac),by rw [zB];exact Nat.le_refl _⟩
   .rintro j H6 v H7 hj rfl ⟨rfl,hy⟩
    have hv:=hy _ (SqL.of (qa8 ew5 hac))
    rw [zD,zA hj] at hv
    cases hv
    have tk:us.take (j+1)=us.take j++ [us[j]]:=by rw [zT,zA hj];rfl
    obtain⟨u0,u1⟩:=hub _ (zQ hj)
    generalize us[j]=u at*
    have zl:((((us.take j).map qce).map qe9).map V.str).length < sizeLine:=by rw [zB,zB,zB,zS];show _ < 16777216;omega
    left
    refine r_ixS (by decide) (let_in u0 u1) ?_
    left
    rw [qbe,tk,zG,zG,zG];rfl
   rintro H6 rfl
   rw [zZ]
   have s6:=qaa hac (.lst (((us.map qce).map qe9).map V.str))
   have ea6:upd H5 ac (.lst (((us.map qce).map qe9).map V.str)) ac=some (.lst (((us.map qce).map qe9).map V.str)):=qa1
   have el6:=qa8 (o':=.lst (((us.map qce).map qe9).map V.str)) el5 hac
   have ew6:=qa8 (o':=.lst (((us.map qce).map qe9).map V.str)) ew5 hac
   generalize upd H5 ac (.lst (((us.map qce).map qe9).map V.str))=H6 at*
   clear el5 ew5 en5
   left
   refine r_joinG (SqL.of ea6) (by decide) ?_ (by rw [zB,l8'];decide) ?_
   .rw [one_sum,l8'];decide
   rw [glue0]
   left
   rw [eN,slice8 l8' N8]
   left
   exact⟨_,_,rfl,qbf (sm5.trans s6) fn,by rw [qa6 nwl];exact ew6,by rw [qa1,snoc _ eA.symm]⟩
  .have bf:b=false:=by rw [<-hb];exact decide_eq_false c1
   left
   refine r_joinG (SqL.of en5) (by decide) ?_ (by rw [zB];omega) ?_
   .rw [one_sum,lB];decide
   rw [glue0]
   left
   rw [slice8 lB (by omega)]
   left
   exact⟨_,_,rfl,qbf sm5 fn,by rw [qa6 nwl];exact ew5,by rw [qa1,snoc _ (eB bf).symm]⟩
 rintro σ H' ⟨w1,w2,rfl,sm,ew,en⟩
 left
 exact q nl _ H' sm en (gn_nm hul l1 l8 hA hS m7)
def tdS (f:Str->Option Int) (p:Str × Int):Str->Option Int:=if 0 < p.2 then qfm f p.1 p.2 else f
def tdP (k:List (Key × V)) (p:Str × Int):List (Key × V):=if 0 < p.2 then qco k (Sum.inr p.1) (.int p.2) else k
def tdF (l:List (Str × Int)):Str->Option Int:=l.foldl tdS noF
def tdK (l:List (Str × Int)):List (Key × V):=l.foldl tdP []
theorem td_snoc (l:List (Str × Int)) (p:Str × Int):tdF (l++ [p])=tdS (tdF l) p/\tdK (l++ [p])=tdP (tdK l) p:=by
 unfold tdF tdK
 rw [List.foldl_append,List.foldl_append]
 exact⟨rfl,rfl⟩
theorem td_ad0:∀(l:List (Str × Int)) {k:List (Key × V)} {f:Str->Option Int},AD k f->AD (l.foldl tdP k) (l.foldl tdS f)
 | [],_,_,h=>h
 |p :: l,k,f,h=>by
  rw [yP,yP]
  refine td_ad0 l ?_
  unfold tdP tdS
  by_cases c:0 < p.2
  .rw [if_pos c,if_pos c];exact h.put _ _
  .rw [if_neg c,if_neg c];exact h
theorem td_ad (l:List (Str × Int)):AD (tdK l) (tdF l):=td_ad0 l AD.nil
theorem td_len0:∀(l:List (Str × Int)) (k:List (Key × V)),(l.foldl tdP k).length<=k.length+l.length
 | [],k=>Nat.le_refl _
 |p :: l,k=>by
  rw [yP,zR]
  have h:=td_len0 l (tdP k p)
  have:(tdP k p).length<=k.length+1:=by
   unfold tdP
   by_cases c:0 < p.2
   .rw [if_pos c];have:=qbx k (Sum.inr p.1) (.int p.2);omega
   .rw [if_neg c];omega
  omega
theorem td_len (l:List (Str × Int)):(tdK l).length<=l.length:=by
 have:=td_len0 l []
 rw [yW,Nat.zero_add] at this
 exact this
theorem td_miss:∀(l:List (Str × Int)) (f:Str->Option Int) (z:Str),z∉l.map (·.1)->l.foldl tdS f z=f z
 | [],_,_,_=>rfl
 |p :: l,f,z,h=>by
  rw [zM,zV,not_or] at h
  rw [yP,td_miss l _ z h.2]
  unfold tdS
  by_cases c:0 < p.2
  .rw [if_pos c];unfold qfm;rw [if_neg h.1]
  .rw [if_neg c]
theorem td_hit:∀(l:List (Str × Int)) (f:Str->Option Int) (p:Str × Int),(l.map (·.1)).Nodup->p∈l->f p.1=none->l.foldl tdS f p.1=if 0 < p.2 then some p.2 else none
 | [],_,_,_,h,_=>absurd h (by simp)
 |x :: l,f,p,nd,h,hf=>by
  rw [zM,zX] at nd
  rw [yP]
  rcases zV.mp h with e|e
  .subst e
   rw [td_miss l _ _ nd.1]
   unfold tdS
   by_cases c:0 < p.2
   .rw [if_pos c,if_pos c];unfold qfm;rw [if_pos rfl]
   .rw [if_neg c,if_neg c];exact hf
  .have ne:p.1≠x.1:=fun z=>nd.1 (z ▸ zJ.mpr ⟨p,e,rfl⟩)
   refine td_hit l _ p nd.2 e ?_
   unfold tdS
   by_cases c:0 < x.2
   .rw [if_pos c];unfold qfm;rw [if_neg ne];exact hf
   .rw [if_neg c];exact hf
theorem zip_fst {ws:List Str} {ps:List Int} (h:ws.length=ps.length):(ws.zip ps).map (·.1)=ws:=by
 rw [List.map_fst_zip (by omega)]
theorem tdF_at {ws:List Str} {ps:List Int} (h:ws.length=ps.length) (nd:ws.Nodup) {j:Nat} (h1:j < ws.length) (h2:j < ps.length):tdF (ws.zip ps) ws[j]=if 0 < ps[j] then some ps[j] else none:=by
 have hm:(ws[j],ps[j])∈ws.zip ps:=by
  refine yD.mpr ⟨j,by rw [yX];omega,?_⟩
  rw [List.getElem_zip]
 exact td_hit (ws.zip ps) noF (ws[j],ps[j]) (by rw [zip_fst h];exact nd) hm rfl
theorem tdF_in {ws:List Str} {ps:List Int} (h:ws.length=ps.length):InW ws (tdF (ws.zip ps)):=fun z hz=>by
 apply Classical.byContradiction
 intro c
 exact hz (td_miss (ws.zip ps) noF z (by rw [zip_fst h];exact c))
theorem tdF_fin {ws:List Str} {ps:List Int} {B:Int} (h:ws.length=ps.length) (nd:ws.Nodup) (hp:∀p∈ps,p<=B):FinB ws B (tdF (ws.zip ps)):=fun z n e=>by
 have hz:=tdF_in h z (by rw [e];simp)
 obtain⟨j,hj,rfl⟩:=yD.mp hz
 have hj2:j < ps.length:=by omega
 rw [tdF_at h nd hj hj2] at e
 by_cases c:0 < ps[j]
 .rw [if_pos c] at e
  have e:ps[j]=n:=Option.some.inj e
  exact⟨hz,by omega,by rw [<-e];exact hp _ (zQ hj2)⟩
 .rw [if_neg c] at e;cases e
structure Sc (sc:Int):Prop where
 lo:1<=sc
 hi:sc<=10^28
structure GtOk (p:Int):Prop where
 lo:0<=p
 hi:p<=8*10^28
structure XtOk (x:Int):Prop where
 hi:x<=7*10^28
structure KyOk (key m:Int):Prop where
 k0:0<=key
 k1:key<=1000
 m0:1<=m
 m1:m<=8
def whw (K:Frag) (d:Ad):Sp:=fun vs H Q _=>∃(c key sc m:Int) (lw:Addr) (ws:List Str),vs=[.int c,.int key,.ref lw,.int sc,.int m]/\H lw=some (.lst (ws.map V.str))/\ws.length<=3/\KyOk key m/\Sc sc/\
 ∀(l:Addr) (ps:List Int) (H':Hp),qas H H'->H l=none->H' l=some (.dK (tdK (ws.zip ps)))->ps.length=ws.length->(∀p∈ps,GtOk p)->Q (.ref l) H'
include T in
theorem wfs:FnOk P w K mg base CX0 2 d.wez d.wc6 ["_law_cell_here","_law_key","_law_wares","_law_scale","_law_many"] (whw K d):=by
 refine T.wf7.ok wa3 (fun vs H Q E h=>?_) (fun cdv A outer s H vs Q E hr h=>?_)
 .obtain⟨c,key,sc,m,lw,ws,rfl,_⟩:=h;rfl
 obtain⟨c,key,sc,m,lw,ws,rfl,hW,w3,ky,hsc,q⟩:=h
 refine⟨_,(qa4 (qag (i:=5) wa3.nd rfl (Or.inl rfl) qc7)
  (qa4 (qbh PassesOwn.never rfl (qca rfl T.w6d (qa0 (qad qax rfl T.w34 PySem.boot_len (qa0 (pv 2) qa3)) qa3)) (qau (i:=6) wa3.nd rfl (Or.inl rfl)) (qa4 (qag (i:=7) wa3.nd rfl (Or.inl rfl) (qar qb8 (qar qct (qab ((w0l T).mono (by decide)) hr rfl T.w1f T.w18.kp T.w1e .nil qaf (qa0 (pv 0) (qa0 (qar qb8 (pv 1) (pv 6)) (qa0 (pv 4) qa3)))) (pv 3)) (qar qep (qab ((w0l T).mono (by decide)) hr rfl T.w1f T.w18.kp T.w1e .nil qaf (qa0 (pv 0) (qa0 (qar qb8 (qar qb8 (pv 1) (pv 6)) qa7) (qa0 qa7 qa3)))) qa7)))
  (qa5 (qc0 (qay (qal qf6 (pv 7) qa7 (qap _)) (qa5 (qc4 (qb9 hr) (pv 5) (qaq qaw (pv 2) (pv 6) (fun _ _=>rfl)) (pv 7) rfl)) qam)))))
  (qa5 (qae (pv 5))))),?_⟩
 walk_at "d"
 refine qac (σ:=[some (.int c),some (.int key),some (.ref lw),some (.int sc),some (.int m),none,none,none]) rfl ?_
 have wl:(((ws.map V.str).length:Nat):Int)=((ws.length:Nat):Int):=by rw [zB]
 left
 rename_i l hl
 have hW1:=qa8 (o':=.dK []) hW hl
 have s1:=qaa hl (.dK [])
 have e1:upd H l (.dK []) l=some (.dK (tdK ((ws.take 0).zip []))):=qa1
 generalize upd H l (.dK [])=H1 at*
 generalize hwi:((ws.length:Nat):Int)=wi at*
 have wi3:wi<=3:=by omega
 have ewi:wi.toNat=ws.length:=by omega
 left
 rw [wl]
 left
 rw [ewi]
 refine qdu (fun i σ H'=>∃(ps:List Int) (w1 w2:Option V),σ=[some (V.int c),some (V.int key),some (V.ref lw),some (V.int sc),some (V.int m),some (V.ref l),w1,w2]/\qas H H'/\H' l=some (.dK (tdK ((ws.take i).zip ps)))/\ps.length=i/\∀p∈ps,GtOk p) ⟨[],_,_,rfl,s1,e1,rfl,fun p h=>by simp at h⟩ ?_ ?_
 .rintro i σ H' hi ⟨ps,w1,w2,rfl,sm,el,hlen,hp⟩
  rw [Int.zero_add]
  have hz:=zA hi
  have xz:atI (ws.map V.str) ((i:Nat):Int)=some (.str ws[i]):=qbn (by rw [zD,hz];rfl)
  have tk:ws.take (i+1)=ws.take i++ [ws[i]]:=by rw [zT,hz];rfl
  have hW':=sm _ _ hW
  have zp:∀p:Int,(ws.take (i+1)).zip (ps++ [p])=(ws.take i).zip ps++ [(ws[i],p)]:=fun p=>by
   rw [tk,List.zip_append (by rw [zS];omega)];rfl
  generalize ws[i]=z at*
  have kl:(tdK ((ws.take i).zip ps)).length < sizeLine:=by
   have:=td_len ((ws.take i).zip ps)
   rw [yX,zS] at this
   show _ < 16777216
   omega
  have i3:0<=((i:Nat):Int)/\((i:Nat):Int)<=2:=by omega
  generalize hii:((i:Nat):Int)=ii at*
  clear s1 e1 hW1
  left
  have k0:=ky.k0
  have k1:=ky.k1
  have m0:=ky.m0
  have m1:=ky.m1
  refine qbl (by omega) (by omega) m0 (by omega) fun r r0 r1=>?_
  have r7:r<=7:=by omega
  clear m0 m1 k0 k1 r1
  have sb:sc.natAbs < 2^200:=by
   have a:=hsc.lo
   have b:=hsc.hi
   exact Nat.lt_of_le_of_lt (show sc.natAbs<=10^28 by omega) (by decide)
  have s0:0<=sc:=by have:=hsc.lo;omega
  have sb6:sc.natAbs < 2^600:=Nat.lt_trans sb (by decide)
  have rb:r.natAbs < 2^600:=Nat.lt_of_le_of_lt (show r.natAbs<=8 by omega) (by decide)
  left
  have k0:=ky.k0
  have k1:=ky.k1
  refine qbl (by omega) (by omega) (by decide) (by decide) fun r2 a0 a1=>?_
  clear k0 k1
  have x0:0<=r*sc:=Int.mul_nonneg r0 s0
  have xu:XtOk (r*sc):=⟨Int.mul_le_mul r7 hsc.hi s0 (by decide)⟩
  have ed:r2.fdiv 8=r2 / 8:=Int.fdiv_eq_ediv_of_nonneg r2 (by decide)
  have d0:0<=r2.fdiv 8/\r2.fdiv 8<=1:=by rw [ed];omega
  clear ed a0 a1
  have ok:GtOk (r*sc+r2.fdiv 8):=⟨by omega,by have:=xu.hi;omega⟩
  left
  generalize r*sc+r2.fdiv 8=p at*
  clear x0 xu d0 r0 r7 rb sb sb6 s0
  refine qbz ?_
  left
  have st:=td_snoc ((ws.take i).zip ps) (z,p)
  have all:∀x∈ps++ [p],GtOk x:=fun x hx=>by
   rcases zN.mp hx with h|h
   .exact hp x h
   .rw [zH.mp h];exact ok
  refine i_2 (fun c1=>?_) (fun c1=>?_)
  .left
   refine qbk (SqL.of hW') xz ?_
   left
   exact⟨ps++ [p],_,_,rfl,qbf sm hl,by rw [qa1,zp,st.2];unfold tdP;rw [if_pos (show 0 <(z,p).2 from c1)],by rw [zL,hlen];rfl,all⟩
  .left
   exact⟨ps++ [p],_,_,rfl,sm,by rw [el,zp,st.2];unfold tdP;rw [if_neg (show ¬0 <(z,p).2 from c1)],by rw [zL,hlen];rfl,all⟩
 .rintro σ H' ⟨ps,w1,w2,rfl,sm,el,hlen,hp⟩
  rw [zZ] at el
  left
  exact q l ps H' sm hl el hlen hp
theorem deq_nilD {K:Frag} {H:Hp} {n:Nat} {a b:Addr} {ka:List (Key × V)} {f:Str->Option Int} (ha:Rd H a (.dK ka)) (hb:H b=some (.dK [])) (ne:a≠b) (hf:∀p∈ka,qd6 p.2=true):DEq K H (n+1) (.ref a) (.ref b) (decide (ka=[])):=by
 have z:=DEq.dd (n:=n) (K:=K) ha (.inl hb) ne hf (fun p hp=>by simp at hp)
 have e:(ka.length==([]:List (Key × V)).length && ka.all fun p=>(qbq ([]:List (Key × V)) p.1).elim false (eqV p.2))=decide (ka=[]):=by
  cases ka with
  |nil=>rfl
  |cons p r=>rfl
 rw [e] at z
 exact z
structure GpOk (ws:List Str) (f:Str->Option Int):Prop where
 ok:∀z n,f z=some n->z∈ws/\1<=n/\n<=8*10^28
def wd7 (K:Frag) (d:Ad):Sp:=fun vs H Q _=>∃(c sc:Int) (lw:Addr) (ws:List Str),vs=[.int c,.ref lw,.int sc]/\H lw=some (.lst (ws.map V.str))/\1<=ws.length/\ws.length<=3/\ws.Nodup/\Sc sc/\
 ∀(l:Addr) (k:List (Key × V)) (f:Str->Option Int) (H':Hp),qas H H'->H l=none->H' l=some (.dK k)->AD k f->GpOk ws f->k≠ []->Q (.ref l) H'
include T in
theorem w7w:FnOk P w K mg base CX0 3 d.w62 d.w5e ["_law_cell_here","_law_wares","_law_scale"] (wd7 K d):=by
 refine T.w63.ok w88 (fun vs H Q E h=>?_) (fun cdv A outer s H vs Q E hr h=>?_)
 .obtain⟨c,sc,lw,ws,rfl,_⟩:=h;rfl
 obtain⟨c,sc,lw,ws,rfl,hW,w1,w3,nd,hsc,q⟩:=h
 refine⟨_,(qa4 (qag (i:=3) w88.nd rfl (Or.inl rfl) (qab ((wfs T).mono (by decide)) hr rfl T.whp T.wf7.kp T.whi .nil qaf (qa0 (pv 0) (qa0 qa7 (qa0 (pv 1) (qa0 (pv 2) (qa0 qa7 qa3)))))))
  (qa4 (qc0 (qay (qal (op_eqD (hu8 hr)) (pv 3) qc7 (qap _)) (qa5 (qc4 (qb9 hr) (pv 3) (qaq qaw (pv 1) (qab ((w0l T).mono (by decide)) hr rfl T.w1f T.w18.kp T.w1e .nil qaf (qa0 (pv 0) (qa0 qa7 (qa0 (qad qax rfl T.w34 PySem.boot_len (qa0 (pv 1) qa3)) qa3)))) (fun _ _=>rfl)) (pv 2) rfl)) qam))
  (qa5 (qae (pv 3))))),?_⟩
 walk_at "d"
 refine qac (σ:=[some (.int c),some (.ref lw),some (.int sc),none]) rfl ?_
 left
 refine⟨c,31,sc,4,lw,ws,rfl,hW,w3,⟨by decide,by decide,by decide,by decide⟩,hsc,fun l ps H1 s1 hl el hpl hp=>?_⟩
 have hA:=td_ad (ws.zip ps)
 have hin:=tdF_in (ws:=ws) (ps:=ps) hpl.symm
 have hok:GpOk ws (tdF (ws.zip ps)):=⟨fun z n e=>by
  have hz:=hin z (by rw [e];intro h;cases h)
  obtain⟨j,hj,rfl⟩:=yD.mp hz
  have e2:=tdF_at hpl.symm nd hj (show j < ps.length by omega)
  rw [e2] at e
  have ok:=hp _ (zQ (show j < ps.length by omega))
  by_cases c0:0 < ps[j]'(by omega)
  .rw [if_pos c0] at e
   have:ps[j]'(by omega)=n:=Option.some.inj e
   exact⟨hz,by omega,by have:=ok.hi;omega⟩
  .rw [if_neg c0] at e;cases e⟩
 have hfl:∀p∈tdK (ws.zip ps),qd6 p.2=true:=fun p hp=>by
  obtain⟨z,i,rfl⟩:=hA.sh p hp
  rfl
 generalize tdK (ws.zip ps)=k at*
 generalize tdF (ws.zip ps)=f at*
 clear hin
 left
 refine r_cut (fun σ' H'=>σ'=[some (V.int c),some (V.ref lw),some (V.int sc),some (V.ref l)]/\qas H H'/\∃(k:List (Key × V)) (f:Str->Option Int),H' l=some (.dK k)/\AD k f/\GpOk ws f/\k≠ []) ?_ ?_
 .left
  rename_i pe hpe
  have ne:=qa2 el hpe
  refine r_eqD ne (by decide) (deq_nilD (n:=0) (f:=f) (.inl (qa8 el hpe)) qa1 ne hfl) ?_
  have s2:=s1.trans (qaa hpe (.dK []))
  have el2:=qa8 (o':=.dK []) el hpe
  generalize upd H1 pe (.dK [])=H2 at*
  by_cases ck:k=[]
  .rw [decide_eq_true ck]
   have hW2:=s2 _ _ hW
   have kl:k.length < sizeLine:=by rw [ck];decide
   have wl:(((ws.map V.str).length:Nat):Int)=((ws.length:Nat):Int):=by rw [zB]
   generalize hwi:((ws.length:Nat):Int)=wi at*
   left
   rw [wl]
   refine qbl (by decide) (by decide) (by omega) (by omega) fun r r0 r1=>?_
   obtain⟨j,rfl⟩:=Int.eq_ofNat_of_zero_le r0
   have hj:j < ws.length:=by omega
   have xz:atI (ws.map V.str) ((j:Nat):Int)=some (.str ws[j]):=qbn (by rw [zD,zA hj];rfl)
   have hzm:=zQ hj
   generalize ws[j]=z at*
   clear r0 r1
   refine qbk (SqL.of hW2) xz ?_
   left
   refine⟨rfl,qbf s2 hl,_,qfm f z sc,qa1,hA.put z sc,⟨fun y n e=>?_⟩,by rw [ck,L2.qdd _ L2.valV_nil];simp⟩
   unfold qfm at e
   split at e
   .rename_i ey
    have:sc=n:=Option.some.inj e
    rw [ey]
    exact⟨hzm,by have:=hsc.lo;omega,by have:=hsc.hi;omega⟩
   .exact hok.ok y n e
  .rw [decide_eq_false ck]
   left
   exact⟨rfl,s2,k,f,el2,hA,hok,ck⟩
 rintro σ' H' ⟨rfl,sm,k,f,ek,hA,hok,ck⟩
 left
 exact q l k f H' sm hl ek hA hok ck
def wiw (K:Frag) (d:Ad):Sp:=fun vs H Q _=>∃(a b:Addr) (ka kb:List (Key × V)) (f g:Str->Option Int),vs=[.ref a,.ref b]/\H a=some (.dK ka)/\AD ka f/\H b=some (.dK kb)/\AD kb g/\ka.length<=100/\kb.length<=100/\
 ∀(l:Addr) (k:List (Key × V)) (h:Str->Option Int) (H':Hp),qas H H'->H l=none->H' l=some (.dK k)->AD k h->(∀z,gN h z=gN f z+gN g z)->(∀z,h z≠none↔f z≠none\/g z≠none)->(∀z,h z=qd7 f g z)->Q (.ref l) H'
include T in
theorem wh6:FnOk P w K mg base CX0 1 d.wgj d.wf4 ["_law_one","_law_other"] (wiw K d):=by
 refine T.wgt.ok wen (fun vs H Q E h=>?_) (fun cdv A outer s H vs Q E hr h=>?_)
 .obtain⟨a,b,ka,kb,f,g,rfl,_⟩:=h;rfl
 obtain⟨a,b,ka,kb,f,g,rfl,ha,hA,hb,hB,la,lb,q⟩:=h
 refine⟨_,(qa4 (qag (i:=2) wen.nd rfl (Or.inl rfl) (qbs qc5 rfl T.w7q PyProof.Rows.boot_dict (qa0 (pv 0) qa3)))
  (qa4 (qf0 (qbh PassesOwn.never rfl (qd3 (pv 1)) (qau (i:=3) wen.nd rfl (Or.inl rfl)) (qa5 (qc4 (qb9 hr) (pv 2) (pv 3) (qar qb8 (qdz (qb9 hr) (pv 2) (pv 3) qa7 ⟨rfl,rfl,rfl,rfl⟩) (qb3 (qb9 hr) (pv 1) (pv 3) (fun _ _=>rfl))) rfl))))
  (qa5 (qae (pv 2))))),?_⟩
 walk_at "d"
 refine qac (σ:=[some (.ref a),some (.ref b),none,none]) rfl ?_
 have hRa:Rd H a (.dK ka):=.inl ha
 left
 rename_i l hl
 have eb:=qa8 (o':=.dK ka) hb hl
 have nlb:l≠b:=(qa2 hb hl).symm
 refine qgi eb fun o=>?_
 refine qfd (fun i σ H'=>∃(k':List (Key × V)) (w:Option V),σ=[some (.ref a),some (.ref b),some (.ref l),w]/\SameBut b H H'/\H' b=some (.frz o (.dK kb))/\H' l=some (.dK k')/\k'.length<=1000+i/\AD k' (fun y=>if y∈(qda kb).take i then qd7 f g y else f y))
  ⟨ka,none,rfl,SameBut.at (SameBut.of (qaa hl _)),qa1,by rw [qa6 nlb];exact qa1,by omega,hA.cast fun z=>by simp⟩ ?_ ?_ ?_
 .rintro i σ H' _ ⟨k',w,rfl,sb,fz,hl',_⟩;exact fz
 .rintro i k v σ H' hk ⟨k',w,rfl,sb,fz,hl',hlen,hA'⟩
  obtain⟨z,n,rfl,rfl,hf,hzi⟩:=hB.at hk
  have hi:i < kb.length:=(List.getElem?_eq_some_iff.mp hk).1
  have hRb:Rd H' b (.dK kb):=.inr ⟨o,fz⟩
  have hRl:Rd H' l (.dK k'):=.inl hl'
  have kl:k'.length < sizeLine:=by show _ < 16777216;omega
  have zni:z∉(qda kb).take i:=fun hm=>by
   obtain⟨j,hj,ej⟩:=yD.mp hm
   rw [zS] at hj
   rw [List.getElem_take] at ej
   obtain⟨i2,ei⟩:=List.getElem?_eq_some_iff.mp hzi
   have:=(yI.mp hB.knd) j i (by omega) i2 (by omega)
   exact this (ej.trans ei.symm)
  have gf:gN (fun y=>if y∈(qda kb).take i then qd7 f g y else f y) z=gN f z:=by show (if z∈(qda kb).take i then qd7 f g z else f z).getD 0=_;rw [if_neg zni];rfl
  show qfb _ (.str z) _ _ _
  left
  rw [gf]
  refine⟨_,_,rfl,qfy sb hl,by rw [qa6 nlb.symm];exact fz,qa1,?_,(hA'.put z _).cast fun y=>?_⟩
  .have:=qbx k' (Sum.inr z) (.int (gN f z+n));omega
  .exact qge hzi (qd7 f g) f (by unfold qd7;rw [hf]) y
 .rintro σ H' ⟨k',w,rfl,sb,fz,hl',_,hA'⟩
  refine qew (qga fz (qch hb)) ?_
  left
  refine q l k' (qd7 f g) _ (qc2 hb sb) hl (by rw [qa6 nlb];exact hl') (hA'.cast fun y=>?_) (fun z=>qdm f g z) (fun z=>?_) (fun _=>rfl)
  .exact qgf hB (qd7 f g) f (fun y e=>by unfold qd7;rw [e]) y
  .unfold qd7
   cases e:g z <;> simp [e]
def SB (ls:List Addr) (H H':Hp):Prop:=∀b o,H b=some o->b∉ls->H' b=some o
theorem putK_last {kvs:List (Key × V)} {k:Key} {v v':V} (h:k∉kvs.map (·.1)):qco (kvs++ [(k,v)]) k v'=kvs++ [(k,v')]:=by
 have hm:∀l:List (Key × V),k∉l.map (·.1)->(l.map fun kv=>if kv.1=k then (kv.1,v') else kv)=l:=fun l=>by
  induction l with
  |nil=>intro _;rfl
  |cons p r ih=>
   intro h
   rw [zM,zV,not_or] at h
   rw [zM,ih h.2,if_neg (fun e=>h.1 e.symm)]
 unfold qco
 rw [if_pos (by rw [List.any_append];simp),zG,hm kvs h]
 simp
theorem zip_snoc {α β:Type}:∀{bs:List β} {as:List α} {a:α} {b:β},as[bs.length]?=some a->as.zip (bs++ [b])=as.zip bs++ [(a,b)]
 | [],as,a,b,h=>by
  cases as with
  |nil=>simp at h
  |cons x r=>
   have:x=a:=by simpa using h
   subst this;simp
 |y :: bs,as,a,b,h=>by
  cases as with
  |nil=>simp at h
  |cons x r=>
   have h':r[bs.length]?=some a:=by simpa using h
   show (x,y) :: r.zip (bs++ [b])=(x,y) ::(r.zip bs++ [(a,b)])
   rw [zip_snoc h']
def kvZ (nm:List Str) (vs:List V):List (Key × V):=(nm.zip vs).map fun p=>(Sum.inr p.1,p.2)
theorem qgr {nm:List Str} {vs:List V} {z:Str} (v:V) (h:nm[vs.length]?=some z):kvZ nm (vs++ [v])=kvZ nm vs++ [(Sum.inr z,v)]:=by
 unfold kvZ
 rw [zip_snoc h,zG];rfl
theorem kvZ_not {nm:List Str} {vs:List V} {z:Str} (nd:nm.Nodup) (h:nm[vs.length]?=some z):(Sum.inr z:Key)∉(kvZ nm vs).map (·.1):=fun hm=>by
 unfold kvZ at hm
 rw [yQ] at hm
 obtain⟨p,hp,e⟩:=zJ.mp hm
 have e:p.1=z:=Sum.inr.inj e
 obtain⟨j,hj,ep⟩:=yD.mp hp
 rw [yX] at hj
 rw [List.getElem_zip] at ep
 obtain⟨h1,h2⟩:=List.getElem?_eq_some_iff.mp h
 have e3:nm[j]'(by omega)=nm[vs.length]:=by rw [h2,<-e,<-ep]
 exact absurd e3 ((yI.mp nd) j vs.length (by omega) h1 (by omega))
theorem kvZ_len (nm:List Str) (vs:List V):(kvZ nm vs).length<=vs.length:=by unfold kvZ;rw [zB,yX];omega
theorem qes {nm:List Str} {vs:List V} {z:Str} (nd:nm.Nodup) (h:nm[vs.length]?=some z):qbq (kvZ nm vs) (Sum.inr z:Key)=none:=by
 cases e:qbq (kvZ nm vs) (Sum.inr z:Key) with
 |none=>rfl
 |some v=>exact absurd (L2.valV_in e) (kvZ_not nd h)
abbrev Pq2:=Addr × List Int
def elV (nm:List Str) (el:Nat->Nat) (k:Nat):V:=if k=0 then .non else .str ((nm[el k]?).getD "")
structure GvAt (H0 H:Hp) (ln lw de dp:Addr) (nm ws:List Str) (n:Nat) (el:Nat->Nat) (qs:List Pq2):Prop where
 ln:H ln=some (.lst (nm.map V.str))
 lw:H lw=some (.lst (ws.map V.str))
 de:H de=some (.dK (kvZ nm ((List.range n).map (elV nm el))))
 dp:H dp=some (.dK (kvZ nm (qs.map fun q=>V.ref q.1)))
 nl:Nm2 nm (n+1)
 wl:Nm2 ws ws.length
 w1:1<=ws.length
 w3:ws.length<=3
 n1:1<=n
 n5:n<=5
 lo:∀k,0 < k->k < n->el k < k
 ql:qs.length=n
 q:∀q∈qs,H q.1=some (.dK (tdK (ws.zip q.2)))/\q.2.length=ws.length/\(∀p∈q.2,GtOk p)
def wi5 (K:Frag) (d:Ad):Sp:=fun vs H Q _=>∃(a:Addr) (ns:List Int),vs=[.ref a]/\SqL K H a (ns.map V.int)/\ns.length<=63/\
 ∀(t ln lw de dp:Addr) (sc:Int) (nm ws:List Str) (n:Nat) (el:Nat->Nat) (qs:List Pq2) (H':Hp),qas H H'->H' t=some (.tup [.ref ln,.ref lw,.int sc,.ref de,.ref dp])->Sc sc->GvAt H H' ln lw de dp nm ws n el qs->Q (.ref t) H'
include T in
theorem wi9:FnOk P w K mg base CX0 4 d.wf8 d.wcx ["_law_script"] (wi5 K d):=by
 refine T.wgq.ok w3n (fun vs H Q E h=>?_) (fun cdv A outer s H vs Q E hr h=>?_)
 .obtain⟨a,ns,rfl,_⟩:=h;rfl
 obtain⟨a,ns,rfl,hS,h63,q⟩:=h
 refine⟨_,(qa4 (qag (i:=1) w3n.nd rfl (Or.inl rfl) (qab ((w57 T).mono (by decide)) hr rfl T.w83 T.w74.kp T.w7u .nil qaf (qa0 (pv 0) (qa0 qa7 qa3))))
  (qa4 (qag (i:=2) w3n.nd rfl (Or.inl rfl) (qar qb8 qa7 (qab ((w0l T).mono (by decide)) hr rfl T.w1f T.w18.kp T.w1e .nil qaf (qa0 (pv 1) (qa0 qa7 (qa0 qa7 qa3))))))
  (qa4 (qag (i:=3) w3n.nd rfl (Or.inl rfl) (qab ((wfx T).mono (by decide)) hr rfl T.whj T.wew.kp T.wh9 .nil qaf (qa0 (qab ((w57 T).mono (by decide)) hr rfl T.w83 T.w74.kp T.w7u .nil qaf (qa0 (pv 0) (qa0 qa7 qa3))) (qa0 (qar qb8 (pv 2) qa7) qa3))))
  (qa4 (qag (i:=4) w3n.nd rfl (Or.inl rfl) (qab ((wfx T).mono (by decide)) hr rfl T.whj T.wew.kp T.wh9 .nil qaf (qa0 (qab ((w57 T).mono (by decide)) hr rfl T.w83 T.w74.kp T.w7u .nil qaf (qa0 (pv 0) (qa0 qa7 qa3))) (qa0 (qar qb8 qa7 (qab ((w0l T).mono (by decide)) hr rfl T.w1f T.w18.kp T.w1e .nil qaf (qa0 (pv 1) (qa0 qa7 (qa0 qa7 qa3))))) qa3))))
  (qa4 (qag (i:=5) w3n.nd rfl (Or.inl rfl) (qaq qaw (qcb (qa0 qa7 (qa0 qa7 (qa0 qa7 (qa0 (qar op_pow qa7 qa7) qa3))))) (qab ((w0l T).mono (by decide)) hr rfl T.w1f T.w18.kp T.w1e .nil qaf (qa0 (pv 1) (qa0 qa7 (qa0 qa7 qa3)))) (fun _ _=>rfl)))
  (qa4 (qag (i:=6) w3n.nd rfl (Or.inl rfl) qc7)
  (qa4 (qag (i:=7) w3n.nd rfl (Or.inl rfl) qc7)
  (qa4 (qbh PassesOwn.never rfl (qca rfl T.w6d (qa0 (pv 2) qa3)) (qau (i:=8) w3n.nd rfl (Or.inl rfl)) (qa4 (qc4 (qb9 hr) (pv 6) (qaq qaw (pv 3) (pv 8) (fun _ _=>rfl)) qck rfl)
  (qa4 (qc0 (qay (qal qf6 (pv 8) qa7 (qap _)) (qa5 (qc4 (qb9 hr) (pv 6) (qaq qaw (pv 3) (pv 8) (fun _ _=>rfl)) (qaq qaw (pv 3) (qab ((w0l T).mono (by decide)) hr rfl T.w1f T.w18.kp T.w1e .nil qaf (qa0 (pv 1) (qa0 (qar qb8 qa7 (pv 8)) (qa0 (pv 8) qa3)))) (fun _ _=>rfl)) rfl)) qam))
  (qa5 (qc4 (qb9 hr) (pv 7) (qaq qaw (pv 3) (pv 8) (fun _ _=>rfl)) (qab ((wfs T).mono (by decide)) hr rfl T.whp T.wf7.kp T.whi .nil qaf (qa0 (qab ((w57 T).mono (by decide)) hr rfl T.w83 T.w74.kp T.w7u .nil qaf (qa0 (pv 0) (qa0 qa7 qa3))) (qa0 (qar qb8 qa7 (qar qct qa7 (pv 8))) (qa0 (pv 4) (qa0 (pv 5) (qa0 qa7 qa3)))))) rfl)))))
  (qa5 (qae (qg0 (qa0 (pv 3) (qa0 (pv 4) (qa0 (pv 5) (qa0 (pv 6) (qa0 (pv 7) qa3)))))))))))))))),?_⟩
 walk_at "d"
 refine qac (σ:=[some (.ref a),none,none,none,none,none,none,none,none]) rfl ?_
 left
 refine⟨a,ns,0,rfl,hS,by decide,by decide,h63,fun c0 _ _=>?_⟩
 left
 refine qbl (by decide) (by decide) (by decide) (by decide) fun r r0 r1=>?_
 obtain⟨n,en⟩:∃n:Nat,1+r=(n:Int):=⟨(1+r).toNat,by omega⟩
 have n1:1<=n:=by omega
 have n5:n<=5:=by omega
 left
 rw [en]
 clear en r0 r1
 refine⟨a,ns,1,rfl,hS,by decide,by decide,h63,fun c1 _ _=>?_⟩
 left
 refine⟨c1,n+1,rfl,by omega,fun ln nm H1 s1 eln hnm=>?_⟩
 have hS1:=s1.seq hS
 left
 refine⟨a,ns,2,rfl,hS1,by decide,by decide,h63,fun c2 _ _=>?_⟩
 left
 refine qbl (by decide) (by decide) (by decide) (by decide) fun r r0 r1=>?_
 obtain⟨kd,ekd⟩:∃kd:Nat,1+r=(kd:Int):=⟨(1+r).toNat,by omega⟩
 have k1:1<=kd:=by omega
 have k3:kd<=3:=by omega
 left
 rw [ekd]
 clear ekd r0 r1
 refine⟨c2,kd,rfl,by omega,fun lw ws H2 s2 elw hws=>?_⟩
 have hS2:=s2.seq hS1
 have eln2:=s2 _ _ eln
 have hkl:=hws.len
 subst hkl
 have hS0:=hS
 clear hS1 eln hS
 left
 rename_i pm hpm
 have e28:(10:Int)^Int.toNat 28=10^28:=rfl
 have s3:=qaa hpm (.lst [.int 1,.int 1,.int 1000003,.int (10^Int.toNat 28)])
 have e3:upd H2 pm (.lst [.int 1,.int 1,.int 1000003,.int (10^Int.toNat 28)]) pm=some (.lst [.int 1,.int 1,.int 1000003,.int (10^Int.toNat 28)]):=qa1
 generalize upd H2 pm (.lst [.int 1,.int 1,.int 1000003,.int (10^Int.toNat 28)])=H3 at*
 refine qbl (by decide) (by decide) (by decide) (by decide) fun r r0 r1=>?_
 refine r_menu (xs:=[1,1,1000003,10^Int.toNat 28]) (SqL.of e3) r0 r1 fun sc hm=>?_
 have hsc:Sc sc:=by
  simp only [zV,List.not_mem_nil,or_false] at hm
  rw [e28] at hm
  exact⟨by omega,by omega⟩
 clear hm r0 r1 e3 e28
 have t3:=(s1.trans s2).trans s3
 have hS3:=s3.seq hS2
 have eln3:=s3 _ _ eln2
 have elw3:=s3 _ _ elw
 clear s1 s2 s3 hS2 eln2 elw
 have eni:((n:Nat):Int).toNat=n:=by omega
 generalize hni:((n:Nat):Int)=ni at*
 have ni0:0<=ni:=by omega
 have ni5:ni<=5:=by omega
 left
 rename_i de hde dp hdp
 have sE:=t3.trans ((qaa hde (.dK [])).trans (qaa hdp (.dK [])))
 have eE:upd (upd H3 de (.dK [])) dp (.dK []) de=some (.dK (kvZ nm ((List.range 0).map (elV nm fun _=>0)))):=by
  have:kvZ nm ((List.range 0).map (elV nm fun _=>0))=[]:=by unfold kvZ;rw [List.range_zero,xD,List.zip_nil_right];rfl
  rw [this];exact qa8 qa1 hdp
 have eP:upd (upd H3 de (.dK [])) dp (.dK []) dp=some (.dK (kvZ nm (([]:List Pq2).map fun q=>V.ref q.1))):=by
  have:kvZ nm (([]:List Pq2).map fun q=>V.ref q.1)=[]:=by unfold kvZ;rw [xD,List.zip_nil_right];rfl
  rw [this];exact qa1
 have nep:de≠dp:=qa2 (show upd H3 de (.dK []) de=some (.dK []) from qa1) hdp
 have fde:H de=none:=t3.free hde
 have fdp:H dp=none:=by
  have:H3 dp=none:=by rw [qa6 nep.symm] at hdp;exact hdp
  exact t3.free this
 have eln4:=qa8 (o':=.dK []) (qa8 (o':=.dK []) eln3 hde) hdp
 have elw4:=qa8 (o':=.dK []) (qa8 (o':=.dK []) elw3 hde) hdp
 have hS4:=((qaa hde (.dK [])).trans (qaa hdp (.dK []))).seq hS3
 generalize upd (upd H3 de (.dK [])) dp (.dK [])=H4 at*
 have nnd:ln≠de/\ln≠dp:=⟨(fun z=>by rw [z,eE] at eln4;cases eln4),(fun z=>by rw [z,eP] at eln4;cases eln4)⟩
 have nwd:lw≠de/\lw≠dp:=⟨(fun z=>by rw [z,eE] at elw4;cases elw4),(fun z=>by rw [z,eP] at elw4;cases elw4)⟩
 clear hde hdp hS3 eln3 elw3 t3
 rw [eni]
 refine qdu (fun i σ H'=>∃(el:Nat->Nat) (qs:List Pq2) (w:Option V),σ=[some (V.ref a),some (V.int c0),some (V.int ni),some (V.ref ln),some (V.ref lw),some (V.int sc),some (V.ref de),some (V.ref dp),w]/\SB [de,dp] H4 H'/\qas H H'/\H' de=some (.dK (kvZ nm ((List.range i).map (elV nm el))))/\H' dp=some (.dK (kvZ nm (qs.map fun q=>V.ref q.1)))/\qs.length=i/\(∀k,0 < k->k < i->el k < k)/\∀q∈qs,H' q.1=some (.dK (tdK (ws.zip q.2)))/\q.2.length=ws.length/\(∀p∈q.2,GtOk p)/\q.1≠de/\q.1≠dp)
  ⟨fun _=>0, [],_,rfl,fun b o h _=>h,sE,eE,eP,rfl,fun k _ h=>absurd h (by omega),fun q h=>by simp at h⟩ ?_ ?_
 .rintro i σ H' hi ⟨el,qs,w,rfl,sb,sm,ede,edp,hql,hlo,hq⟩
  have go:∀{x:Addr} {o:HO},H4 x=some o->x≠de->x≠dp->H' x=some o:=fun {x o} e n1 n2=>sb x o e fun m=>by
   rcases zV.mp m with m|m
   .exact n1 m
   .exact n2 (zH.mp m)
  have eln':=go eln4 nnd.1 nnd.2
  have elw':=go elw4 nwd.1 nwd.2
  have hnl:=hnm.len
  have ndn:=hnm.nd
  have hz:=zA (show i < nm.length by omega)
  have xk:atI (nm.map V.str) ((i:Nat):Int)=some (.str nm[i]):=qbn (by rw [zD,hz];rfl)
  have hzE:nm[((List.range i).map (elV nm el)).length]?=some nm[i]:=by rw [zB,yG];exact hz
  have hzP:nm[(qs.map fun q=>V.ref q.1).length]?=some nm[i]:=by rw [zB,hql];exact hz
  have lE:=kvZ_len nm ((List.range i).map (elV nm el))
  have lP:=kvZ_len nm (qs.map fun q=>V.ref q.1)
  rw [zB,yG] at lE
  rw [zB,hql] at lP
  have nE:=qes ndn hzE
  have nE2:=kvZ_not ndn hzE
  have nP:=qes ndn hzP
  have snE:∀v:V,kvZ nm ((List.range i).map (elV nm el)++ [v])=kvZ nm ((List.range i).map (elV nm el))++ [(Sum.inr nm[i],v)]:=fun v=>qgr v hzE
  have snP:∀v:V,kvZ nm ((qs.map fun q=>V.ref q.1)++ [v])=kvZ nm (qs.map fun q=>V.ref q.1)++ [(Sum.inr nm[i],v)]:=fun v=>qgr v hzP
  clear hzE hzP hz
  generalize nm[i]=z at*
  generalize hkE:kvZ nm ((List.range i).map (elV nm el))=kE at*
  generalize hkP:kvZ nm (qs.map fun q=>V.ref q.1)=kP at*
  have zE:kE.length < sizeLine:=by show _ < 16777216;omega
  have zP:kP.length < sizeLine:=by show _ < 16777216;omega
  rw [Int.zero_add]
  generalize hii:((i:Nat):Int)=ii at*
  have i4:0<=ii/\ii<=4:=by omega
  clear go sE eE eP
  left
  refine qbk (SqL.of eln') xk ?_
  left
  rw [L2.qdd _ nE]
  have ede5:upd H' de (.dK (kE++ [(Sum.inr z,V.non)])) de=some (.dK (kE++ [(Sum.inr z,V.non)])):=qa1
  have edp5:upd H' de (.dK (kE++ [(Sum.inr z,V.non)])) dp=some (.dK kP):=by rw [qa6 nep.symm];exact edp
  have eln5:upd H' de (.dK (kE++ [(Sum.inr z,V.non)])) ln=some (.lst (nm.map V.str)):=by rw [qa6 nnd.1];exact eln'
  have elw5:upd H' de (.dK (kE++ [(Sum.inr z,V.non)])) lw=some (.lst (ws.map V.str)):=by rw [qa6 nwd.1];exact elw'
  have hq5:∀q∈qs,upd H' de (.dK (kE++ [(Sum.inr z,V.non)])) q.1=some (.dK (tdK (ws.zip q.2))):=fun q h=>by rw [qa6 (hq q h).2.2.2.1];exact(hq q h).1
  have sm5:qas H (upd H' de (.dK (kE++ [(Sum.inr z,V.non)]))):=qbf sm fde
  have sb5:SB [de,dp] H4 (upd H' de (.dK (kE++ [(Sum.inr z,V.non)]))):=fun b o e hn=>by
   rw [qa6 (fun z=>hn (by rw [z];exact zC ..))]
   exact sb b o e hn
  generalize upd H' de (.dK (kE++ [(Sum.inr z,V.non)]))=H5 at*
  have zE2:(kE++ [((Sum.inr z:Key),V.non)]).length < sizeLine:=by rw [zL];show _+1 < 16777216;omega
  have hq9:∀q∈qs,q.2.length=ws.length/\(∀p∈q.2,GtOk p)/\q.1≠de/\q.1≠dp:=fun q h=>(hq q h).2
  clear ede edp eln' elw' hq sm sb
  refine r_cut (fun σ' H6=>σ'=[some (V.ref a),some (V.int c0),some (V.int ni),some (V.ref ln),some (V.ref lw),some (V.int sc),some (V.ref de),some (V.ref dp),some (V.int ii)]/\∃e:Nat,(0 < i->e < i)/\H6 de=some (.dK (kE++ [(Sum.inr z,if i=0 then V.non else .str ((nm[e]?).getD ""))]))/\H6 dp=some (.dK kP)/\H6 ln=some (.lst (nm.map V.str))/\H6 lw=some (.lst (ws.map V.str))/\(∀q∈qs,H6 q.1=some (.dK (tdK (ws.zip q.2))))/\qas H H6/\SB [de,dp] H4 H6) ?_ ?_
  .left
   refine i_2 (fun c1=>?_) (fun c1=>?_)
   .left
    refine qbl (by omega) (by omega) (by omega) (by omega) fun r r0 r1=>?_
    obtain⟨e,rfl⟩:=Int.eq_ofNat_of_zero_le r0
    have he:e < i:=by omega
    have hen:e < nm.length:=by omega
    have xe:atI (nm.map V.str) ((e:Nat):Int)=some (.str nm[e]):=qbn (by rw [zD,zA hen];rfl)
    have eg:(nm[e]?).getD "" =nm[e]:=by rw [zA hen];rfl
    clear r0 r1
    refine qbk (SqL.of eln5) xe ?_
    left
    refine qbk (SqL.of eln5) xk ?_
    left
    rw [putK_last nE2]
    refine⟨rfl,e,fun _=>he,by rw [qa1,if_neg (by omega),eg],by rw [qa6 nep.symm];exact edp5,by rw [qa6 nnd.1];exact eln5,by rw [qa6 nwd.1];exact elw5,fun q h=>by rw [qa6 (hq9 q h).2.2.1];exact hq5 q h,qbf sm5 fde,fun b o e hn=>?_⟩
    rw [qa6 (fun z=>hn (by rw [z];exact zC ..))]
    exact sb5 b o e hn
   .left
    exact⟨rfl,0,fun h=>absurd h (by omega),by rw [ede5,if_pos (by omega)],edp5,eln5,elw5,hq5,sm5,sb5⟩
  rintro σ' H6 ⟨rfl,e,he,ede6,edp6,eln6,elw6,hq6,sm6,sb6⟩
  clear ede5 edp5 eln5 elw5 hq5 sm5 sb5 zE2
  left
  refine⟨a,ns,3,rfl,sm6.seq hS0,by decide,by decide,h63,fun c3 _ _=>?_⟩
  left
  refine⟨c3,100+10*ii,sc,8,lw,ws,rfl,elw6,k3,⟨by omega,by omega,by decide,by decide⟩,hsc,fun l ps H7 s7 hl el7 hpl hp=>?_⟩
  have eln7:=s7 _ _ eln6
  have edp7:=s7 _ _ edp6
  have ede7:=s7 _ _ ede6
  have nlp:l≠dp:=(qa2 edp6 hl).symm
  have nle:l≠de:=(qa2 ede6 hl).symm
  left
  refine qbk (SqL.of eln7) xk ?_
  left
  rw [L2.qdd _ nP]
  have eelx:(List.range (i+1)).map (elV nm fun k=>if k=i then e else el k)=(List.range i).map (elV nm el)++ [if i=0 then V.non else .str ((nm[e]?).getD "")]:=by
   rw [List.range_succ,zG]
   congr 1
   .refine yO fun k hk=>?_
    have:=xC.mp hk
    unfold elV
    rw [show (fun k=>if k=i then e else el k) k=el k from if_neg (by omega)]
   .show [elV nm (fun k=>if k=i then e else el k) i]=_
    unfold elV
    rw [show (fun k=>if k=i then e else el k) i=e from if_pos rfl]
  refine⟨fun k=>if k=i then e else el k,qs++ [(l,ps)],_,rfl,fun b o eb hn=>?_,qbf (sm6.trans s7) fdp,?_,?_,by rw [zL,hql];rfl,fun k k0 kn=>?_,fun q h=>?_⟩
  .rw [qa6 (fun z=>hn (by rw [z];exact zF _ (zC ..)))]
   exact s7 _ _ (sb6 b o eb hn)
  .rw [qa6 nep,eelx,snE];exact ede7
  .rw [qa1,zG]
   show _=some (HO.dK (kvZ nm ((qs.map fun q=>V.ref q.1)++ [V.ref l])))
   rw [snP]
  .by_cases ck:k=i
   .subst ck;show (if k=k then e else el k) < k;rw [if_pos rfl];exact he k0
   .show (if k=i then e else el k) < k;rw [if_neg ck];exact hlo k k0 (by omega)
  .rcases zN.mp h with h|h
   .exact⟨by rw [qa6 (hq9 q h).2.2.2];exact s7 _ _ (hq6 q h),hq9 q h⟩
   .rw [zH.mp h]
    exact⟨by rw [qa6 nlp];exact el7,hpl,hp,nle,nlp⟩
 rintro σ H' ⟨el,qs,w,rfl,sb,sm,ede,edp,hql,hlo,hq⟩
 have go:∀{x:Addr} {o:HO},H4 x=some o->x≠de->x≠dp->H' x=some o:=fun {x o} e n1 n2=>sb x o e fun m=>by
  rcases zV.mp m with m|m
  .exact n1 m
  .exact n2 (zH.mp m)
 left
 rename_i t ht
 exact q t ln lw de dp sc nm ws n el qs _ (qdc sm ht) qa1 hsc ⟨qa8 (go eln4 nnd.1 nnd.2) ht,qa8 (go elw4 nwd.1 nwd.2) ht,qa8 ede ht,qa8 edp ht,hnm,hws,k1,k3,n1,n5,hlo,hql,fun q h=>⟨qa8 (hq q h).1 ht,(hq q h).2.1,(hq q h).2.2.1⟩⟩
theorem qgj {H:Hp} {Q:VK} {a:Addr} {kvs:List (Key × V)} {z:Str} {v:V} (d:Rd H a (.dK kvs)) (e:qbq kvs (Sum.inr z)=some v) (h:Q v H):rDGk (.ref a) (.str z) H Q:=⟨a,v,rfl,.inl ⟨kvs,Sum.inr z,d,rfl,e.symm⟩,h⟩
theorem r_dg2v {H:Hp} {Q:VK} {a:Addr} {kvs:List (Key × V)} {z:Str} {y:V} (d:Rd H a (.dK kvs)) (h:Q ((qbq kvs (Sum.inr z)).getD y) H):rDG a (.str z) y H Q:=⟨qbq kvs (Sum.inr z),.inl ⟨kvs,Sum.inr z,d,rfl,rfl⟩,h⟩
theorem kvZ_nd:∀{nm:List Str} {vs:List V},nm.Nodup->((kvZ nm vs).map (·.1)).Nodup
 | [],_,_=>by unfold kvZ;rw [List.zip_nil_left];exact yY
 |_ :: _, [],_=>by unfold kvZ;rw [List.zip_nil_right];exact yY
 |z :: nm,v :: vs,h=>by
  rw [zX] at h
  show ((Sum.inr z:Key) ::(kvZ nm vs).map (·.1)).Nodup
  rw [zX]
  refine⟨fun hm=>?_,kvZ_nd h.2⟩
  obtain⟨p,hp,e⟩:=zJ.mp hm
  obtain⟨q,hq,rfl⟩:=zJ.mp hp
  have e:q.1=z:=Sum.inr.inj e
  exact h.1 (e ▸ (List.of_mem_zip hq).1)
theorem qcu {nm:List Str} {vs:List V} {k:Nat} {z:Str} {v:V} (nd:nm.Nodup) (h1:nm[k]?=some z) (h2:vs[k]?=some v):qbq (kvZ nm vs) (Sum.inr z)=some v:=
 qdp (kvZ_nd nd) (zJ.mpr ⟨(z,v),zK (i:=k) (List.getElem?_zip_eq_some.mpr ⟨h1,h2⟩),rfl⟩)
theorem kvZ_at {nm:List Str} {vs:List V} {i:Nat} {k:Key} {v:V} (h:(kvZ nm vs)[i]?=some (k,v)):∃z,nm[i]?=some z/\k=Sum.inr z/\vs[i]?=some v:=by
 unfold kvZ at h
 rw [zD] at h
 cases e:(nm.zip vs)[i]? with
 |none=>rw [e] at h;cases h
 |some p=>
  rw [e] at h
  have h:(Sum.inr p.1,p.2)=(k,v):=Option.some.inj h
  obtain⟨h1,h2⟩:=List.getElem?_zip_eq_some.mp e
  exact⟨p.1,h1,(Prod.mk.inj h).1.symm,by rw [h2,(Prod.mk.inj h).2]⟩
theorem qdg {nm:List Str} {vs:List V} (h:vs.length<=nm.length):(kvZ nm vs).length=vs.length:=by unfold kvZ;rw [zB,yX];omega
theorem mapK_miss {k:Key} {v':V}:∀{l:List (Key × V)},k∉l.map (·.1)->(l.map fun kv=>if kv.1=k then (kv.1,v') else kv)=l
 | [],_=>rfl
 |p :: r,h=>by
  rw [zM,zV,not_or] at h
  rw [zM,mapK_miss h.2,if_neg (fun e=>h.1 e.symm)]
theorem kvZ_mapK {v:V} {z:Str}:∀{nm:List Str} {vs:List V} {j:Nat},nm.Nodup->nm[j]?=some z->j < vs.length->((kvZ nm vs).map fun kv=>if kv.1=(Sum.inr z:Key) then (kv.1,v) else kv)=kvZ nm (vs.set j v)
 | [],_,_,_,h,_=>by simp at h
 |_ :: _, [],_,_,_,h=>by simp at h
 |y :: nm,u :: vs,0,nd,h,_=>by
  have e:y=z:=by simpa using h
  subst e
  rw [zX] at nd
  show (if (Sum.inr y:Key)=Sum.inr y then ((Sum.inr y:Key),v) else (Sum.inr y,u)) ::((kvZ nm vs).map fun kv=>if kv.1=(Sum.inr y:Key) then (kv.1,v) else kv)=(Sum.inr y,v) :: kvZ nm vs
  rw [if_pos rfl,mapK_miss fun hm=>?_]
  obtain⟨p,hp,e⟩:=zJ.mp hm
  obtain⟨q,hq,rfl⟩:=zJ.mp hp
  have e:q.1=y:=Sum.inr.inj e
  exact nd.1 (e ▸ (List.of_mem_zip hq).1)
 |y :: nm,u :: vs,j+1,nd,h,hj=>by
  have h:nm[j]?=some z:=by simpa using h
  rw [zX] at nd
  have ne:¬(Sum.inr y:Key)=Sum.inr z:=fun e=>nd.1 (Sum.inr.inj e ▸ zK h)
  show (if (Sum.inr y:Key)=Sum.inr z then ((Sum.inr y:Key),v) else (Sum.inr y,u)) ::((kvZ nm vs).map fun kv=>if kv.1=(Sum.inr z:Key) then (kv.1,v) else kv)=(Sum.inr y,u) :: kvZ nm (vs.set j v)
  rw [if_neg ne,kvZ_mapK nd.2 h (by simpa using hj)]
theorem kvZ_set {nm:List Str} {vs:List V} {j:Nat} {z:Str} (v:V) (nd:nm.Nodup) (h:nm[j]?=some z) (hj:j < vs.length):qco (kvZ nm vs) (Sum.inr z) v=kvZ nm (vs.set j v):=by
 unfold qco
 rw [if_pos (by rw [L2.qc6,qcu nd h (zA hj)];rfl),kvZ_mapK nd h hj]
def ixN:List Str->Str->Nat
 | [],_=>0
 |y :: r,z=>if y=z then 0 else ixN r z+1
theorem ixN_at:∀{nm:List Str} {k:Nat} {z:Str},nm.Nodup->nm[k]?=some z->ixN nm z=k
 | [],_,_,_,h=>by simp at h
 |y :: nm,0,z,_,h=>by
  have e:y=z:=by simpa using h
  show (if y=z then 0 else _)=0
  rw [if_pos e]
 |y :: nm,k+1,z,nd,h=>by
  have h:nm[k]?=some z:=by simpa using h
  rw [zX] at nd
  show (if y=z then 0 else ixN nm z+1)=k+1
  rw [if_neg (fun e:y=z=>nd.1 (by rw [e];exact zK h)),ixN_at nd.2 h]
def oS (nm:List Str):Option Nat->V
 |none=> .non
 |some a=> .str ((nm[a]?).getD "")
theorem oS_at {nm:List Str} {a:Nat} {y:Str} (h:nm[a]?=some y):oS nm (some a)=V.str y:=by
 show V.str ((nm[a]?).getD "")=_
 rw [h];rfl
def restL (el:Nat->Nat):Option Nat->List Nat
 |none=> []
 |some a=>qb5 el a
def meas6 (nm:List Str) (σ:L2.St):Nat:=match σ[6]? with
 |some (some (V.str z))=>ixN nm z+1
 |_=>0
def upO (el:Nat->Nat) (a:Nat):Option Nat:=if a=0 then none else some (el a)
theorem elV_oS (nm:List Str) (el:Nat->Nat) (a:Nat):elV nm el a=oS nm (upO el a):=by
 unfold elV upO
 by_cases c:a=0
 .rw [if_pos c,if_pos c];rfl
 .rw [if_neg c,if_neg c];rfl
theorem rest_up {el:Nat->Nat} {n a:Nat} (lo:Low el n) (ha:a < n):qb5 el a=a :: restL el (upO el a):=by
 unfold upO
 by_cases c:a=0
 .subst c;rfl
 .rw [if_neg c];exact qc9 lo (by omega) ha
def qfr (H:Hp) (dc:Addr) (ws:List Str) (cs:List Pt) (X:Nat->Str->Int):Prop:=∀(h:Nat) (t:Pt),cs[h]?=some t->H t.a=some (.dK t.k)/\t.a≠dc/\AD t.k t.f/\InW ws t.f/\∀v,gN t.f v=X h v
theorem qfr.cast {H:Hp} {dc:Addr} {ws:List Str} {cs:List Pt} {X Y:Nat->Str->Int} (h:qfr H dc ws cs X) (e:∀i v,i < cs.length->X i v=Y i v):qfr H dc ws cs Y:=fun i t ht=>by
 obtain⟨a,b,c,d,f⟩:=h i t ht
 exact⟨a,b,c,d,fun v=>(f v).trans (e i v (List.getElem?_eq_some_iff.mp ht).1)⟩
theorem qfr.step {H H':Hp} {dc:Addr} {ws:List Str} {cs:List Pt} {X Y:Nat->Str->Int} {t':Pt} {a:Nat} {cs':List Pt} (h:qfr H dc ws cs X) (s:qas H H') (u:H' t'.a=some (.dK t'.k)) (n:t'.a≠dc) (A:AD t'.k t'.f) (I:InW ws t'.f) (g:∀v,gN t'.f v=Y a v) (hc:∀i t,cs'[i]?=some t->(i=a/\t=t')\/(i≠a/\cs[i]?=some t)) (e:∀i v,i≠a->i < cs.length->X i v=Y i v) (o:HO):qfr (upd H' dc o) dc ws cs' Y:=fun i t ht=>by
 rcases hc i t ht with ⟨rfl,rfl⟩ |⟨ne,ht⟩
 .exact⟨by rw [qa6 n];exact u,n,A,I,g⟩
 .obtain⟨x1,x2,x3,x4,x5⟩:=h i t ht
  exact⟨by rw [qa6 x2];exact s _ _ x1,x2,x3,x4,fun v=>(x5 v).trans (e i v ne (List.getElem?_eq_some_iff.mp ht).1)⟩
def tpQ (ws:List Str) (qs:List Pq2):List Pt:=qs.map fun q=>⟨q.1,tdK (ws.zip q.2),tdF (ws.zip q.2)⟩
theorem tpQ_at {ws:List Str} {qs:List Pq2} {k:Nat} {q:Pq2} (h:qs[k]?=some q):(tpQ ws qs)[k]?=some ⟨q.1,tdK (ws.zip q.2),tdF (ws.zip q.2)⟩:=by unfold tpQ;rw [zD,h];rfl
theorem tpQ_len (ws:List Str) (qs:List Pq2):(tpQ ws qs).length=qs.length:=by unfold tpQ;rw [zB]
structure Bg (x:Int):Prop where
 lo:0<=x
 hi:x<=8*10^28
theorem sumR_bg {f:Nat->Int}:∀{n:Nat},(∀k,k < n->Bg (f k))->0<=qdb n f/\qdb n f<=(n:Int)*(8*10^28)
 |0,_=>⟨Int.le_refl _,by show (0:Int)<=_;simp⟩
 |n+1,h=>by
  have h1:=sumR_bg (n:=n) fun k hk=>h k (by omega)
  have h2:=h n (by omega)
  have a:=h2.lo
  have b:=h2.hi
  show 0<=qdb n f+f n/\qdb n f+f n<=_
  refine⟨by omega,?_⟩
  have e:(((n+1:Nat)):Int)*(8*10^28)=(n:Int)*(8*10^28)+8*10^28:=by rw [Int.natCast_add,Int.add_mul];rfl
  rw [e];omega
theorem qfv {f g:Nat->Int}:∀{n:Nat},(∀k,k < n->f k=g k)->qdb n f=qdb n g
 |0,_=>rfl
 |n+1,h=>by
  show qdb n f+f n=qdb n g+g n
  rw [qfv fun k hk=>h k (by omega),h n (by omega)]
theorem sumR_nil:∀n:Nat,(qdb n fun _=>0)=0
 |0=>rfl
 |n+1=>by show qdb n _+0=0;rw [sumR_nil n];rfl
theorem r_slL {K:Frag} {H:Hp} {Q:VK} {a:Addr} {xs:List V} {lo hi:Option Int} (h:SqL K H a xs) (q:∀p,H p=none->Q (.ref p) (upd H p (.lst (cutV xs lo hi)))):rSlL K (.ref a) lo hi H Q:=⟨a,xs,rfl,h,q⟩
section
variable {H0 H: Hp} {ln lw de dp: Addr} {nm ws: List Str} {n: Nat} {el: Nat -> Nat} {qs: List Pq2}
theorem GvAt.fin (hG:GvAt H0 H ln lw de dp nm ws n el qs) {q:Pq2} (hq:q∈qs):FinB ws (8*10^28) (tdF (ws.zip q.2)):=tdF_fin (hG.q q hq).2.1.symm hG.wl.nd fun p hp=>((hG.q q hq).2.2 p hp).hi
theorem GvAt.bg (hG:GvAt H0 H ln lw de dp nm ws n el qs) (k:Nat) (v:Str):Bg (ptN (tpQ ws qs) k v):=by
 unfold ptN
 cases e:qs[k]? with
 |none=>
  have:(tpQ ws qs)[k]?=none:=by unfold tpQ;rw [zD,e];rfl
  rw [this];show Bg 0;exact⟨Int.le_refl _,by decide⟩
 |some q=>
  rw [tpQ_at e]
  have f:=hG.fin (zK e)
  exact⟨f.nn v,f.gb (by decide) v⟩
theorem GvAt.v0 (hG:GvAt H0 H ln lw de dp nm ws n el qs):∃z,nm[0]?=some z/\qbq (kvZ nm ((List.range n).map (elV nm el))) (Sum.inr z)=some .non:=by
 have n1:=hG.n1
 have nl:=hG.nl.len
 have hz0:=zA (show 0 < nm.length by omega)
 exact⟨_,hz0,qcu hG.nl.nd hz0 (by rw [zD,List.getElem?_range (by omega)];rfl)⟩
theorem GvAt.ned (hG:GvAt H0 H ln lw de dp nm ws n el qs):dp≠de:=fun e=>by
 obtain⟨z,hz0,a1⟩:=hG.v0
 have n1:=hG.n1
 have ql:=hG.ql
 have h1:=hG.dp
 rw [e,hG.de] at h1
 have h2:kvZ nm ((List.range n).map (elV nm el))=kvZ nm (qs.map fun q=>V.ref q.1):=by injection h1 with h1;injection h1
 have a2:=qcu (vs:=qs.map fun q=>V.ref q.1) (v:=.ref (qs[0]'(by omega)).1) hG.nl.nd hz0 (by rw [zD,zA (by omega)];rfl)
 rw [h2,a2] at a1
 cases a1
theorem GvAt.nqe (hG:GvAt H0 H ln lw de dp nm ws n el qs) {q:Pq2} (hq:q∈qs):q.1≠de:=fun e=>by
 obtain⟨z,hz0,a1⟩:=hG.v0
 have h1:=(hG.q q hq).1
 rw [e,hG.de] at h1
 have h2:kvZ nm ((List.range n).map (elV nm el))=tdK (ws.zip q.2):=by injection h1 with h1;injection h1
 have m:=qen a1
 rw [h2] at m
 obtain⟨_,_,e3⟩:=(td_ad (ws.zip q.2)).sh _ m
 cases e3
theorem GvAt.same {H':Hp} (hG:GvAt H0 H ln lw de dp nm ws n el qs) (s:qas H H'):GvAt H0 H' ln lw de dp nm ws n el qs:=⟨s _ _ hG.ln,s _ _ hG.lw,s _ _ hG.de,s _ _ hG.dp,hG.nl,hG.wl,hG.w1,hG.w3,hG.n1,hG.n5,hG.lo,hG.ql,fun q h=>⟨s _ _ (hG.q q h).1,(hG.q q h).2⟩⟩
theorem GvAt.es (hG:GvAt H0 H ln lw de dp nm ws n el qs):∃es:List Nat,es.length+1=n/\GvAt H0 H ln lw de dp nm ws n (elN es) qs:=by
 have n1:=hG.n1
 have ee:∀k,0 < k->k < n->elN ((List.range (n - 1)).map fun k=>el (k+1)) k=el k:=fun k k0 kn=>by
  unfold elN
  rw [zD,List.getElem?_range (by omega)]
  show el (k - 1+1)=el k
  rw [show k - 1+1=k by omega]
 refine⟨(List.range (n - 1)).map fun k=>el (k+1),by rw [zB,yG];omega,hG.ln,hG.lw,?_,hG.dp,hG.nl,hG.wl,hG.w1,hG.w3,hG.n1,hG.n5,fun k k0 kn=>by rw [ee k k0 kn];exact hG.lo k k0 kn,hG.ql,hG.q⟩
 have:(List.range n).map (elV nm (elN ((List.range (n - 1)).map fun k=>el (k+1))))=(List.range n).map (elV nm el):=by
  refine yO fun k hk=>?_
  have kn:=xC.mp hk
  unfold elV
  by_cases c:k=0
  .rw [if_pos c,if_pos c]
  .rw [if_neg c,if_neg c,ee k (by omega) kn]
 rw [this]
 exact hG.de
end
def pX (es:List Nat) (tp:List Pt) (i h:Nat) (v:Str):Int:=qdb i fun k=>if h∈qb5 (elN es) k then ptN tp k v else 0
theorem pX_zero {es:List Nat} {tp:List Pt} {n i:Nat} {v:Str} (lo:Low (elN es) n) (hi:i < n):pX es tp i i v=0:=by
 unfold pX
 rw [qfv (g:=fun _=>0) fun k hk=>?_]
 .exact sumR_nil i
 .refine if_neg fun hm=>?_
  have:=qeq lo k (by omega) i hm
  omega
def wiu (K:Frag) (d:Ad):Sp:=fun vs H Q _=>∃(ln lw de dp:Addr) (nm ws:List Str) (n:Nat) (es:List Nat) (qs:List Pq2),vs=[.ref ln,.ref lw,.ref de,.ref dp]/\GvAt H H ln lw de dp nm ws n (elN es) qs/\es.length+1=n/\
 ∀(t:Addr) (S:Ts) (P:PL) (wt:Nat->Int) (H':Hp),qas H H'->P.nm=nm.take n->P.ws=ws->P.es=es->P.tp=tpQ ws qs->PlF P->qfq d H' t S->H S.hs=none->TInv S P n wt->Q (.ref t) H'
theorem FinB.up {ws:List Str} {B B':Int} {f:Str->Option Int} (h:FinB ws B f) (hB:B<=B'):FinB ws B' f:=fun z n e=>by
 obtain⟨a,b,c⟩:=h z n e
 exact⟨a,b,by omega⟩
def mkG (ws nm:List Str) (n:Nat) (es:List Nat) (qs:List Pq2) (cs:List Pt):PL:=⟨0,0,0,0,0,ws,nm.take n,es,tpQ ws qs,cs⟩
theorem gv_plf {H0 H1 H:Hp} {ln lw de dp dc:Addr} {nm ws:List Str} {n:Nat} {es:List Nat} {qs:List Pq2} {cs:List Pt} (hG:GvAt H0 H ln lw de dp nm ws n (elN es) qs) (hes:es.length+1=n) (hcl:cs.length=n) (hC:qfr H1 dc ws cs (pX es (tpQ ws qs) n)):PlF (mkG ws nm n es qs cs):=by
 have n5:=hG.n5
 have ql:=hG.ql
 have tl:(nm.take n).length=n:=by rw [zS,hG.nl.len];omega
 have bd:∀j v,0<=pX es (tpQ ws qs) n j v/\pX es (tpQ ws qs) n j v<=10^30:=fun j v=>by
  have z:=sumR_bg (n:=n) (f:=fun k=>if j∈qb5 (elN es) k then ptN (tpQ ws qs) k v else 0) fun k _=>by
   try dsimp only
   split
   .exact hG.bg k v
   .exact⟨Int.le_refl _,by decide⟩
  refine⟨z.1,Int.le_trans z.2 ?_⟩
  have:(n:Int)*(8*10^28)<=5*(8*10^28):=Int.mul_le_mul_of_nonneg_right (by omega) (by decide)
  exact Int.le_trans this (by decide)
 refine⟨hG.w1,hG.w3,hG.wl.good,hG.wl.nd,by show (nm.take n).length=_;rw [tl];exact hes.symm,by show (nm.take n).length<=12;omega,fun z hz=>hG.nl.good z (List.mem_of_mem_take hz),hG.nl.nd.sublist (List.take_sublist ..),fun k e h=>?_,by show (tpQ ws qs).length=(nm.take n).length;rw [tpQ_len,tl,ql],by show cs.length=(nm.take n).length;rw [tl,hcl],fun t ht=>?_,fun t ht=>?_,fun j t ht v hv=>?_⟩
 .obtain⟨hk,e'⟩:=List.getElem?_eq_some_iff.mp (show es[k]?=some e from h)
  have:=hG.lo (k+1) (by omega) (by omega)
  rw [elN_at hk,e'] at this
  exact⟨by omega,by omega⟩
 .obtain⟨q,hq,rfl⟩:=zJ.mp (show t∈tpQ ws qs from ht)
  exact⟨td_ad _,(hG.fin hq).up (by decide)⟩
 .obtain⟨h,hh,e⟩:=yD.mp (show t∈cs from ht)
  obtain⟨x1,x2,x3,x4,x5⟩:=hC h t (by rw [<-e];exact zA hh)
  refine⟨x3,fun z m em=>?_⟩
  have g:gN t.f z=m:=by unfold gN;rw [em];rfl
  have b:=bd h z
  rw [<-x5 z,g] at b
  exact⟨x4 z (by rw [em];intro h;cases h),b.1,b.2⟩
 .obtain⟨_,_,_,_,x5⟩:=hC j t ht
  show (qdb (tpQ ws qs).length fun k=>if j∈qb5 (elN es) k then ptN (tpQ ws qs) k v else 0)<=gN t.f v
  rw [x5 v,tpQ_len,ql];exact Int.le_refl _
theorem cut1 {nm:List Str} {n:Nat} (h:n+1=nm.length) (h1:1<=n):cutV (nm.map V.str) (some 1) (some ((n:Nat):Int))=((nm.drop 1).take (n - 1)).map V.str:=by
 unfold cutV
 rw [show (1:Int)=((1:Nat):Int) from rfl,HT.sIx_nat,HT.sIx_nat,zB,show min 1 nm.length=1 by omega,show min n nm.length=n by omega,List.map_take,List.map_drop]
include T in
theorem wj4:FnOk P w K mg base CX0 20 d.wh7 d.wfg ["_law_names_here","_law_wares","_law_elders","_law_promises"] (wiu K d):=by
 refine T.wis.ok w7g (fun vs H Q E h=>?_) (fun cdv A outer s H vs Q E hr h=>?_)
 .obtain⟨ln,lw,de,dp,nm,ws,n,es,qs,rfl,_⟩:=h;rfl
 obtain⟨ln,lw,de,dp,nm,ws,n,es,qs,rfl,hG,hes,q⟩:=h
 refine⟨_,(qa4 (qag (i:=4) w7g.nd rfl (Or.inl rfl) qc7)
  (qa4 (qf0 (qbh PassesOwn.never rfl (qd3 (pv 2)) (qau (i:=5) w7g.nd rfl (Or.inl rfl)) (qa4 (qag (i:=6) w7g.nd rfl (Or.inl rfl) (pv 5))
  (qa5 (ps_while PassesOwn.never (qal qe1 (pv 6) qck (qap _)) (qa4 (qc4 (qb9 hr) (pv 4) (pv 6) (qab ((wh6 T).mono (by decide)) hr rfl T.wif T.wgt.kp T.wic .nil qaf (qa0 (qdz (qb9 hr) (pv 4) (pv 6) qc7 ⟨rfl,rfl,rfl,rfl⟩) (qa0 (qb3 (qb9 hr) (pv 3) (pv 5) (fun _ _=>rfl)) qa3))) rfl)
  (qa5 (qag (i:=6) w7g.nd rfl (Or.inl rfl) (qb3 (qb9 hr) (pv 2) (pv 6) (fun _ _=>rfl))))))))))
  (qa4 (qag (i:=7) w7g.nd rfl (Or.inl rfl) (pe_makeX (W:=fun _ _ _ _=>False) T.wah ((wdf T).mono (by decide)) hr rfl T.wjx T.wei T.wdv qdk (qa0 (qbs qg6 rfl T.whf PyProof.Rows.boot_list (qa0 (pv 1) qa3)) (qa0 (qaq qaw (pv 0) qa7 (fun _ _=>rfl)) (qa0 (qb3 (qb9 hr) (pv 3) (qaq qaw (pv 0) qa7 (fun _ _=>rfl)) (fun _ _=>rfl)) (qa0 (qb3 (qb9 hr) (pv 4) (qaq qaw (pv 0) qa7 (fun _ _=>rfl)) (fun _ _=>rfl)) qa3))))))
  (qa4 (qbh PassesOwn.never rfl (qb6 (qde sl_list (pv 0) (qdq qa7) (qdq (qad qdi rfl T.w34 PySem.boot_len (qa0 (pv 2) qa3))))) (qau (i:=5) w7g.nd rfl (Or.inl rfl)) (qa5 (qat (qai (W:=fun _ _ _ _=>False) (pv 7) T.w03 T.w2b ((wby T).mono (by decide)) hr T.wce T.wcm qdk (qa0 (pv 5) (qa0 (qb3 (qb9 hr) (pv 2) (pv 5) (fun _ _=>rfl)) (qa0 (qb3 (qb9 hr) (pv 3) (pv 5) (fun _ _=>rfl)) (qa0 (qb3 (qb9 hr) (pv 4) (pv 5) (fun _ _=>rfl)) qa3))))))))
  (qa5 (qae (pv 7))))))),?_⟩
 walk_at "d"
 try dsimp only [cxC]
 refine qac (σ:=[some (.ref ln),some (.ref lw),some (.ref de),some (.ref dp),none,none,none,none]) rfl ?_
 have low:Low (elN es) n:=hG.lo
 have ndn:=hG.nl.nd
 have nln:=hG.nl.len
 have n5:=hG.n5
 have n1:=hG.n1
 have ned:=hG.ned
 have nwe:lw≠de:=fun e=>by have:=hG.lw;rw [e,hG.de] at this;cases this
 have nne:ln≠de:=fun e=>by have:=hG.ln;rw [e,hG.de] at this;cases this
 left
 rename_i dc hdc
 have ede:=qa8 (o':=.dK []) hG.de hdc
 have nde:dc≠de:=(qa2 hG.de hdc).symm
 have lkE:(kvZ nm ((List.range n).map (elV nm (elN es)))).length=n:=by rw [qdg (by rw [zB,yG];omega),zB,yG]
 have e0:kvZ nm (([]:List Pt).map fun t=>V.ref t.a)=[]:=by unfold kvZ;rw [xD,List.zip_nil_right];rfl
 refine qgi ede fun o=>?_
 refine qfd (fun i σ H'=>∃(cs:List Pt) (w1 w2:Option V),σ=[some (V.ref ln),some (V.ref lw),some (V.ref de),some (V.ref dp),some (V.ref dc),w1,w2,none]/\SameBut de H H'/\H' de=some (.frz o (.dK (kvZ nm ((List.range n).map (elV nm (elN es))))))/\H' dc=some (.dK (kvZ nm (cs.map fun t=>V.ref t.a)))/\cs.length=i/\qfr H' dc ws cs (pX es (tpQ ws qs) i))
  ⟨[],none,none,rfl,SameBut.at (SameBut.of (qaa hdc _)),qa1,by rw [qa6 nde,e0];exact qa1,rfl,fun h t e=>by simp at e⟩ ?_ ?_ ?_
 .rintro i σ H' _ ⟨cs,w1,w2,rfl,sb,fz,_⟩;exact fz
 .rintro i k v σ H' hk ⟨cs0,w1,w2,rfl,sb,fz,ecd,hcl,hC⟩
  obtain⟨z,hz,rfl,_⟩:=kvZ_at hk
  have hi:i < n:=by have:=(List.getElem?_eq_some_iff.mp hk).1;omega
  have hqi:=zA (show i < qs.length by rw [hG.ql];exact hi)
  have hqm:=zK hqi
  generalize (qs[i]'(by rw [hG.ql];exact hi))=qi at hqi hqm
  have xq:qbq (kvZ nm (qs.map fun q=>V.ref q.1)) (Sum.inr z)=some (.ref qi.1):=qcu ndn hz (by rw [zD,hqi];rfl)
  have eqi:=(hG.q _ hqm).1
  have ptE:∀v,ptN (tpQ ws qs) i v=gN (tdF (ws.zip qi.2)) v:=fun v=>by unfold ptN;rw [tpQ_at hqi]
  have nqi:=hG.nqe hqm
  have inq:InW ws (tdF (ws.zip qi.2)):=tdF_in (hG.q _ hqm).2.1.symm
  have lq:(tdK (ws.zip qi.2)).length<=100:=by have:=td_len (ws.zip qi.2);rw [yX] at this;have:=hG.w3;omega
  have w3:=hG.w3
  show qfb _ (.str z) _ _ _
  left
  refine while_by (fun σ H3=>∃(done:List Nat) (oa:Option Nat) (cs:List Pt),σ=[some (V.ref ln),some (V.ref lw),some (V.ref de),some (V.ref dp),some (V.ref dc),some (V.str z),some (oS nm oa),none]/\done++restL (elN es) oa=qb5 (elN es) i/\(∀a,oa=some a->a < n)/\SameBut de H H3/\H3 de=some (.frz o (.dK (kvZ nm ((List.range n).map (elV nm (elN es))))))/\H3 dc=some (.dK (kvZ nm (cs.map fun t=>V.ref t.a)))/\cs.length=(if done=[] then i else i+1)/\qfr H3 dc ws cs (fun h v=>pX es (tpQ ws qs) i h v+if h∈done then ptN (tpQ ws qs) i v else 0)) (fun σ _=>meas6 nm σ)
   ⟨[],some i,cs0,by rw [oS_at hz],rfl,fun a h=>by cases h;exact hi,sb,fz,ecd,hcl,hC.cast fun h v _=>by simp⟩ ?_ ?_
  .clear hC ecd fz sb hcl
   rintro σ H3 ⟨done,oa,cs,rfl,hd,ha,sb3,fz3,ec3,hcl3,hC3⟩
   cases oa with
   |none=>
    rw [show oS nm none=V.non from rfl]
    left
    have hd':done=qb5 (elN es) i:=by rw [<-hd];exact(yA _).symm
    have dn:done≠ []:=by rw [hd',rest_up low hi];exact List.cons_ne_nil _ _
    rw [if_neg dn] at hcl3
    refine⟨cs,_,_,rfl,sb3,fz3,ec3,hcl3,hC3.cast fun h v _=>?_⟩
    rw [hd'];rfl
   |some a=>
    have han:=ha a rfl
    have hd:done++qb5 (elN es) a=qb5 (elN es) i:=hd
    have hza:=zA (show a < nm.length by omega)
    generalize (nm[a]'(by omega))=y at hza
    rw [oS_at hza]
    have ixa:=ixN_at ndn hza
    have xe:qbq (kvZ nm ((List.range n).map (elV nm (elN es)))) (Sum.inr y)=some (oS nm (upO (elN es) a)):=qcu ndn hza (by rw [zD,List.getElem?_range (by omega),<-elV_oS];rfl)
    have rup:=rest_up low han
    have dec:=lineN_pw low i hi
    rw [<-hd,List.pairwise_append] at dec
    have lt:∀x∈done,a < x:=fun x hx=>dec.2.2 x hx a (qcy low han)
    have nad:a∉done:=fun h=>by have:=lt a h;omega
    have lei:∀x∈done,x<=i:=fun x hx=>qeq low i hi x (by rw [<-hd];exact yF _ hx)
    have cas:(done=[]/\a=i/\cs.length=i)\/(done≠ []/\a < i/\cs.length=i+1):=by
     by_cases c:done=[]
     .rw [if_pos c] at hcl3
      refine .inl ⟨c,?_,hcl3⟩
      rw [c,List.nil_append,rup,rest_up low hi] at hd
      exact(List.cons.inj hd).1
     .rw [if_neg c] at hcl3
      refine .inr ⟨c,?_,hcl3⟩
      obtain⟨x,r,e⟩:=List.exists_cons_of_ne_nil c
      have m:x∈done:=by rw [e];exact zC ..
      have:=lt x m
      have:=lei x m
      omega
    left
    rename_i p hp
    refine r_dg2v (.inl (qa8 ec3 hp)) ?_
    obtain⟨b,kb,fb,eb1,eb2,eb3,eb4,eb5⟩:∃(b:Addr) (kb:List (Key × V)) (fb:Str->Option Int),(qbq (kvZ nm (cs.map fun t=>V.ref t.a)) (Sum.inr y)).getD (V.ref p)=.ref b/\upd H3 p (.dK []) b=some (.dK kb)/\AD kb fb/\InW ws fb/\∀v,gN fb v=pX es (tpQ ws qs) i a v:=by
     rcases cas with ⟨c,ea,ecl⟩ |⟨c,ea,ecl⟩
     .rw [qes ndn (by rw [zB,ecl,<-ea];exact hza)]
      refine⟨p, [],noF,rfl,qa1,AD.nil,fun z h=>absurd rfl h,fun v=>?_⟩
      subst ea
      rw [pX_zero low han];rfl
     .have hac:a < cs.length:=by omega
      obtain⟨x1,x2,x3,x4,x5⟩:=hC3 a _ (zA hac)
      rw [qcu ndn hza (v:=.ref cs[a].a) (by rw [zD,zA hac];rfl)]
      exact⟨cs[a].a,cs[a].k,cs[a].f,rfl,qa8 x1 hp,x3,x4,fun v=>by rw [x5 v];show pX es (tpQ ws qs) i a v+(if a∈done then _ else 0)=_;rw [if_neg nad,Int.add_zero]⟩
    rw [eb1]
    have lb:=eb3.le eb4
    left
    refine qgj (.inl (qa8 (sb3 _ _ ned hG.dp) hp)) xq ?_
    left
    refine⟨b,qi.1,kb,_,fb,_,rfl,eb2,eb3,qa8 (sb3 _ _ nqi eqi) hp,td_ad _,by omega,lq,fun l k' h' H5 s5 hl5 el5 hA5 hg5 hs5 _=>?_⟩
    have ec5:=s5 _ _ (qa8 (o':=.dK []) ec3 hp)
    have t5:=(qaa hp (.dK [])).trans s5
    have sb5:SameBut de H H5:=sb3.same t5
    have fz5:=t5 _ _ fz3
    have nlc:l≠dc:=(qa2 (qa8 (o':=.dK []) ec3 hp) hl5).symm
    have zc:(kvZ nm (cs.map fun t=>V.ref t.a)).length < sizeLine:=by
     have:=kvZ_len nm (cs.map fun t=>V.ref t.a)
     rw [zB] at this
     show _ < 16777216
     omega
    obtain⟨cs',cs1,cs2,cs3⟩:∃cs':List Pt,qco (kvZ nm (cs.map fun t=>V.ref t.a)) (Sum.inr y) (V.ref l)=kvZ nm (cs'.map fun t=>V.ref t.a)/\cs'.length=i+1/\∀j t,cs'[j]?=some t->(j=a/\t=⟨l,k',h'⟩)\/(j≠a/\cs[j]?=some t):=by
     rcases cas with ⟨c,ea,ecl⟩ |⟨c,ea,ecl⟩
     .have hzl:nm[(cs.map fun t=>V.ref t.a).length]?=some y:=by rw [zB,ecl,<-ea];exact hza
      refine⟨cs++ [⟨l,k',h'⟩],?_,by rw [zL,ecl];rfl,fun j t hj=>?_⟩
      .rw [L2.qdd _ (qes ndn hzl),zG,<-qgr _ hzl];rfl
      .rcases Nat.lt_or_ge j cs.length with g|g
       .rw [List.getElem?_append_left g] at hj
        exact .inr ⟨by omega,hj⟩
       .have:=(List.getElem?_eq_some_iff.mp hj).1
        rw [zL,yE] at this
        have ej:j=cs.length:=by omega
        rw [yJ g,ej,Nat.sub_self] at hj
        exact .inl ⟨by omega,by simpa using hj.symm⟩
     .refine⟨cs.set a ⟨l,k',h'⟩,?_,by rw [xB,ecl],fun j t hj=>?_⟩
      .rw [kvZ_set _ ndn hza (by rw [zB];omega),xG]
      .rw [List.getElem?_set] at hj
       by_cases ej:a=j
       .rw [if_pos ej,if_pos (by omega)] at hj
        exact .inl ⟨ej.symm,(Option.some.inj hj).symm⟩
       .rw [if_neg ej] at hj
        exact .inr ⟨fun z=>ej z.symm,hj⟩
    left
    rw [cs1]
    refine qgj (.inr ⟨o,by rw [qa6 nde.symm];exact fz5⟩) xe ?_
    left
    refine⟨⟨done++ [a],upO (elN es) a,cs',rfl,?_,fun b hb=>?_,qfy sb5 hdc,by rw [qa6 nde.symm];exact fz5,qa1,by rw [cs2,if_neg (by simp)],hC3.step (Y:=fun h v=>pX es (tpQ ws qs) i h v+if h∈done++ [a] then ptN (tpQ ws qs) i v else 0) (t':=⟨l,k',h'⟩) t5 el5 nlc hA5 (fun z hz=>?_) (fun v=>?_) cs3 (fun j v ne _=>?_) _⟩,?_⟩
    .rw [yC,<-hd,rup];rfl
    .unfold upO at hb
     by_cases c:a=0
     .rw [if_pos c] at hb;cases hb
     .rw [if_neg c] at hb
      cases hb
      have:=low a (by omega) han
      omega
    .rcases(hs5 z).mp hz with h|h
     .exact eb4 z h
     .exact inq z h
    .show gN h' v=_
     rw [hg5 v,eb5 v,if_pos (zI _ (zH.mpr rfl)),ptE v]
    .have:(j∈done)=(j∈done++ [a]):=propext ⟨fun h=>yF _ h,fun h=>by
      rcases zN.mp h with h|h
      .exact h
      .exact absurd (zH.mp h) ne⟩
     simp only [this]
    .show meas6 nm _ < ixN nm y+1
     rw [ixa]
     unfold upO
     by_cases c:a=0
     .rw [if_pos c];show 0 < a+1;omega
     .rw [if_neg c]
      have la:=low a (by omega) han
      have hzb:=zA (show elN es a < nm.length by omega)
      show ixN nm ((nm[elN es a]?).getD "")+1 < a+1
      rw [hzb]
      show ixN nm nm[elN es a]+1 < a+1
      rw [ixN_at ndn hzb]
      omega
  .rintro σ H1 Q1 Q2 h ⟨v,hv,w,k,hk,hq⟩
   exact⟨v,hv,w,k,hk,h _ _ hq⟩
 .rintro σ H' ⟨cs,w1,w2,rfl,sb,fz,ecd,hcl,hC⟩
  rw [lkE] at hcl hC
  refine qew (qga fz (qch hG.de)) ?_
  have s1:=qc2 hG.de sb
  have ec1:upd H' de (.dK (kvZ nm ((List.range n).map (elV nm (elN es))))) dc=some (.dK (kvZ nm (cs.map fun t=>V.ref t.a))):=by rw [qa6 nde];exact ecd
  have hC1:qfr (upd H' de (.dK (kvZ nm ((List.range n).map (elV nm (elN es)))))) dc ws cs (pX es (tpQ ws qs) n):=fun h t ht=>by
   obtain⟨x1,x2⟩:=hC h t ht
   exact⟨by rw [qa6 (fun e=>by rw [e,fz] at x1;cases x1)];exact x1,x2⟩
  generalize upd H' de (.dK (kvZ nm ((List.range n).map (elV nm (elN es)))))=H1 at*
  clear sb fz ecd hC ede e0
  have pf:=gv_plf hG hes hcl hC1
  have etp:(mkG ws nm n es qs cs).tp=tpQ ws qs:=rfl
  have etc:(mkG ws nm n es qs cs).tc=cs:=rfl
  have ews:(mkG ws nm n es qs cs).ws=ws:=rfl
  have enm:(mkG ws nm n es qs cs).nm=nm.take n:=rfl
  have ees:(mkG ws nm n es qs cs).es=es:=rfl
  generalize mkG ws nm n es qs cs=P at*
  subst ews ees
  have tl:P.nm.length=n:=by rw [enm,zS,nln];omega
  have hzk:∀k,k < n->nm[k]?=some (nmF P k):=fun k hk=>by
   have e:P.nm[k]?=nm[k]?:=by rw [enm,yK hk]
   have e2:=zA (show k < nm.length by omega)
   unfold nmF
   rw [e,e2];rfl
  have all:∀k,k < n->∃(qk:Pq2) (ck:Pt),qk∈qs/\qbq (kvZ nm (qs.map fun q=>V.ref q.1)) (Sum.inr (nmF P k))=some (.ref qk.1)/\qbq (kvZ nm (cs.map fun t=>V.ref t.a)) (Sum.inr (nmF P k))=some (.ref ck.a)/\tfF P.tp k=tdF (P.ws.zip qk.2)/\tfF P.tc k=ck.f/\H1 ck.a=some (.dK ck.k)/\AD ck.k ck.f/\Fin P.ws ck.f/\Fin P.ws (tdF (P.ws.zip qk.2))/\ck.k.length<=1000/\(tdK (P.ws.zip qk.2)).length<=1000:=fun k hk=>by
   have hq:=zA (show k < qs.length by rw [hG.ql];exact hk)
   have hc:=zA (show k < cs.length by omega)
   have hm:=zK hq
   generalize (qs[k]'(by rw [hG.ql];exact hk))=qk at hq hm
   obtain⟨x1,x2,x3,x4,x5⟩:=hC1 k _ hc
   have fc:=(pf.ca _ (by rw [etc];exact zK hc)).2.fin (by decide)
   have w3:=hG.w3
   have l1:=x3.le x4
   have l2:=td_len (P.ws.zip qk.2)
   rw [yX] at l2
   exact⟨qk,_,hm,qcu ndn (hzk k hk) (by rw [zD,hq];rfl),qcu ndn (hzk k hk) (by rw [zD,hc];rfl),by unfold tfF;rw [etp,tpQ_at hq],by unfold tfF;rw [etc,hc],x1,x3,fc,(hG.fin hm).fin (by decide),by omega,by omega⟩
  have gt:GoodT P.ws:=⟨pf.w1,by have:=pf.w3;omega,pf.wg,pf.wn⟩
  have xn0:atI (nm.map V.str) 0=some (.str (nmF P 0)):=qbn (j:=0) (by rw [zD,hzk 0 (by omega)];rfl)
  have gz:∀k,k < n->qe5 (nmF P k)=true:=fun k hk=>hG.nl.good _ (zK (hzk k hk))
  clear hC1
  have eln1:=s1 _ _ hG.ln
  have elw1:=s1 _ _ hG.lw
  have edp1:=s1 _ _ hG.dp
  have ede1:=s1 _ _ hG.de
  have hqd:∀qk∈qs,H1 qk.1=some (.dK (tdK (P.ws.zip qk.2))):=fun qk h=>s1 _ _ (hG.q qk h).1
  obtain⟨q0,c0,q0m,xq0,xc0,tq0,tc0,c01,c02,c03,c04,c05,c06⟩:=all 0 (by omega)
  have ole:=own_le pf (k:=0) (by omega)
  rw [tq0,tc0] at ole
  left
  refine r_listL (SqL.of elw1) fun h0 hh0=>?_
  have s2:=qaa hh0 (.lst (P.ws.map V.str))
  have e0:upd H1 h0 (.lst (P.ws.map V.str)) h0=some (.lst (P.ws.map V.str)):=qa1
  generalize upd H1 h0 (.lst (P.ws.map V.str))=H2 at*
  left
  refine qbk (SqL.of (s2 _ _ eln1)) xn0 ?_
  left
  refine qbk (SqL.of (s2 _ _ eln1)) xn0 ?_
  refine qgj (.inl (s2 _ _ edp1)) xq0 ?_
  left
  refine qbk (SqL.of (s2 _ _ eln1)) xn0 ?_
  refine qgj (.inl (s2 _ _ ec1)) xc0 ?_
  left
  intro x dx hx hdx ne
  have sN:∀b u,H2 b=some u->upd (upd H2 dx (.own x)) x (.ins d.w02 dx []) b=some u:=fun b u e=>by rw [qa6 (qa2 e hx),qa6 (qa2 e hdx)];exact e
  refine⟨x,dx,h0,q0.1,c0.a,nmF P 0,P.ws,_,c0.k,_,c0.f,1,rfl,qa1,sN _ _ e0,gt,gz 0 (by omega),sN _ _ (s2 _ _ (hqd q0 q0m)),td_ad _,c06,sN _ _ (s2 _ _ c01),c02,c05,c04,c03,by decide,by decide,ole,fun S e H5 sb hTr hs' f1 f2 f3 f4 hl en' ee ew' efp efc hpm hso=>⟨rfl,?_⟩⟩
  have s5:qas H2 H5:=fun b u e=>sb b u (qa2 e hx) (sN b u e)
  have fr:H2 S.hs=none:=by
   cases r:H2 S.hs with
   |none=>rfl
   |some u=>rw [sN _ _ r] at hs';cases hs'
  have s15:=s2.trans s5
  have hs2:H1 S.hs=none:=s2.free fr
  have tI:TInv S P (1+0) (fun _=>1):=⟨pl_one pf hl en' ee,hpm,hso,fun k e' he=>by
   rw [hl] at he
   have hk:=(List.getElem?_eq_some_iff.mp he).1
   have e0:k=0:=by rw [yE] at hk;omega
   subst e0
   have:e'=e:=by simpa using he.symm
   subst this
   exact⟨by rw [tq0];exact efp,by rw [tc0];exact efc,ew'⟩⟩
  clear sN fr hs' sb f1 f2 f3 f4 hpm hso efp efc ew' ee hl en' s5 e0 hx hdx ne hh0 gt xn0 xq0 xc0 tq0 tc0 c01 c02 c03 c04 c05 c06 q0m s2 ole
  have eln5:=s15 _ _ eln1
  left
  refine r_lenD (s15 _ _ ede1) ?_
  rw [lkE]
  left
  refine r_slL (SqL.of eln5) fun hl hhl=>?_
  rw [cut1 (by omega) n1]
  have s6:=s15.trans (qaa hhl (.lst (((nm.drop 1).take (n - 1)).map V.str)))
  have el6:upd H5 hl (.lst (((nm.drop 1).take (n - 1)).map V.str)) hl=some (.lst (((nm.drop 1).take (n - 1)).map V.str)):=qa1
  have hT6:=hTr.same (qaa hhl (.lst (((nm.drop 1).take (n - 1)).map V.str)))
  generalize upd H5 hl (.lst (((nm.drop 1).take (n - 1)).map V.str))=H6 at*
  clear s15 eln5 hTr hhl
  left
  have xl:(((nm.drop 1).take (n - 1)).map V.str).length=n - 1:=by rw [zB,zS,List.length_drop];omega
  refine qdn (xs:=((nm.drop 1).take (n - 1)).map V.str) (fun i σ H'=>∃(w w2:Option V) (S':Ts),σ=[some (V.ref ln),some (V.ref lw),some (V.ref de),some (V.ref dp),some (V.ref dc),w,w2,some (V.ref x)]/\H1 S'.hs=none/\qfq d H' x S'/\TInv S' P (1+i) (fun _=>1)/\qas H1 H'/\H' hl=some (.lst (((nm.drop 1).take (n - 1)).map V.str))) ⟨_,_,S,rfl,hs2,hT6,tI,s6,el6⟩ ?_ ?_ ?_
  .rintro i σ H' _ ⟨w,w2,S',_,_,_,_,_,e⟩;exact SqL.of e
  .rintro i v σ H' hv ⟨w,w2,S',rfl,hs1,hT',hI',sm,ehl⟩
   have hi:i < n - 1:=by have:=(List.getElem?_eq_some_iff.mp hv).1;omega
   have kn:1+i < P.nm.length:=by omega
   have hkn:1+i < n:=by omega
   rw [zD,yK hi,List.getElem?_drop,hzk (1+i) hkn] at hv
   have hv:V.str (nmF P (1+i))=v:=Option.some.inj hv
   subst hv
   obtain⟨e',ae,een,hWf,hOw,hw50,h40,nk,line⟩:=hI'.ask pf (by omega) kn
   obtain⟨qk,ck,qkm,xq,xc,tq,tc,c1,c2,c3,c4,c5,c6⟩:=all (1+i) hkn
   have ole:=own_le pf kn
   rw [tq,tc] at ole
   rw [tq] at line
   have lw':=low (1+i) (by omega) hkn
   have xe:qbq (kvZ nm ((List.range n).map (elV nm (elN P.es)))) (Sum.inr (nmF P (1+i)))=some (.str (nmF P (elN P.es (1+i)))):=qcu ndn (hzk _ hkn) (by
    rw [zD,List.getElem?_range hkn]
    show some (elV nm (elN P.es) (1+i))=_
    unfold elV
    rw [if_neg (by omega),hzk _ (by omega)];rfl)
   have gzk:=gz (1+i) hkn
   obtain⟨dx',ht'⟩:=id hT'.1
   clear hT6 tI s6 hs2 el6 xl
   left
   refine qgj (.inl (sm _ _ ede1)) xe ?_
   left
   refine qgj (.inl (sm _ _ edp1)) xq ?_
   left
   refine qgj (.inl (sm _ _ ec1)) xc ?_
   left
   refine⟨x,qk.1,ck.a,S',nmF P (1+i),.str (nmF P (elN P.es (1+i))),tdK (P.ws.zip qk.2),ck.k,tdF (P.ws.zip qk.2),ck.f,1,rfl,hT',gzk,nk,.inl ⟨_,rfl⟩,fun hn=>?_,fun e3 he3=>?_⟩
   .rw [show who S' (.str (nmF P (elN P.es (1+i))))=some e' from ae] at hn;cases hn
   .have e33:e'=e3:=Option.some.inj (ae.symm.trans he3)
    subst e33
    refine⟨hWf,hOw,hw50,sm _ _ (hqd qk qkm),td_ad _,c6,sm _ _ c1,c2,c5,fin_perm c4 hI'.wp,fin_perm c3 hI'.wp,by decide,by decide,h40,line,ole,fun e4 H7 sb f1 f2 f3 hT5 n1 n2 n3 n4 n5=>?_⟩
    left
    have nlh:hl≠S'.hs:=fun e=>by have:=hT'.2.2.1;rw [<-e,ehl] at this;cases this
    refine⟨_,_,{S' with hl:=S'.hl++ [e4]},rfl,hs1,hT5,(hI'.next pf (by omega) kn n1 (by rw [n2,een]) n3 (by rw [tq];exact n4) (by rw [tc];exact n5)).cast fun j hj=>?_,fun b u e=>sb b u (qa2 e hs1) (sm b u e),sb _ _ nlh ehl⟩
    split <;> rfl
  .rintro σ H' ⟨w,w2,S',rfl,hs1,hT',hI',sm,_⟩
   rw [xl,show 1+(n - 1)=n by omega] at hI'
   left
   exact q x S' P _ H' (s1.trans sm) enm rfl rfl etp pf hT' (s1.free hs1) hI'
structure WrAt (K:Frag) (d:Ad) (H:Hp) (t:Addr) (S:Ts) (P:PL) (n:Nat):Prop where
 tr:qfq d H t S
 wf:WF S
 pl:Pl S (nmF P) (elN P.es) n
 nn:P.nm.length=n
 hs:∀j,j < n->(∃e,S.at (nmF P j)=some e)/\Dep S 12 (nmF P j)
 w3:P.ws.length<=3
theorem WrAt.same {K:Frag} {d:Ad} {H H':Hp} {t:Addr} {S:Ts} {P:PL} {n:Nat} (h:WrAt K d H t S P n) (s:qas H H'):WrAt K d H' t S P n:=⟨h.tr.same s,h.wf,h.pl,h.nn,h.hs,h.w3⟩
def stK (bs:List Ob):List (Key × V):=bs.map fun b=>(Sum.inl b.R.n,V.ref b.o)
structure Nus (bs:List Ob) (L:Int):Prop where
 up:(bs.map fun b=>b.R.n).Pairwise (·< ·)
 bd:∀b∈bs,1<=b.R.n/\b.R.n<=L
structure StAt (d:Ad) (H:Hp) (so t hd:Addr) (P:PL) (bs:List Ob) (L:Int):Prop where
 obj:∃dx,H so=some (.ins d.w00 dx [("tree",.ref t),("holds",.ref hd),("last",.int L)])
 hds:H hd=some (.dK (stK bs))
 ob:∀b∈bs,ObAt d H P b
 nu:Nus bs L
 l63:bs.length<=60
theorem StAt.same {d:Ad} {H H':Hp} {so t hd:Addr} {P:PL} {bs:List Ob} {L:Int} (h:StAt d H so t hd P bs L) (s:qas H H'):StAt d H' so t hd P bs L:=⟨let ⟨dx,e⟩:=h.obj;⟨dx,s _ _ e⟩,s _ _ h.hds,fun b hb=>(h.ob b hb).same s,h.nu,h.l63⟩
theorem StAt.keys {d:Ad} {H:Hp} {so t hd:Addr} {P:PL} {bs:List Ob} {L:Int} (h:StAt d H so t hd P bs L):(stK bs).map (·.1)=(bs.map fun b=>b.R.n).map Sum.inl:=by
 unfold stK
 rw [yQ,yQ];rfl
theorem num_sort {bs:List Ob} {L:Int} (nu:Nus bs L):(bs.map fun b=>b.R.n).Pairwise (·<=·):=nu.up.imp fun h=>Int.le_of_lt h
theorem sortI_eq:∀{l l':List Int},l.Perm l'->l.Pairwise (·<=·)->l'.Pairwise (·<=·)->l=l':=fun h a b=>List.Perm.eq_of_pairwise (fun _ _ _ _ h1 h2=>Int.le_antisymm h1 h2) a b h
theorem st_keys {bs:List Ob} {L:Int} (nu:Nus bs L):((stK bs).map (·.1)).Nodup:=by
 have e:(stK bs).map (·.1)=(bs.map fun b=>b.R.n).map Sum.inl:=by unfold stK;rw [yQ,yQ];rfl
 rw [e]
 show List.Pairwise (·≠·) _
 rw [List.pairwise_map]
 exact nu.up.imp (fun {a b} (h:a < b) (e:(Sum.inl a:Key)=Sum.inl b)=>by have:=Sum.inl.inj e;omega)
theorem qea {bs:List Ob} {L:Int} (nu:Nus bs L) {b:Ob} (h:b∈bs):qbq (stK bs) (Sum.inl b.R.n)=some (.ref b.o):=qdp (st_keys nu) (zJ.mpr ⟨b,h,rfl⟩)
def w9j (K:Frag) (d:Ad):Sp:=fun vs H Q _=>∃(so t hd:Addr) (P:PL) (bs:List Ob) (L:Int),vs=[.ref so]/\StAt d H so t hd P bs L/\∀l,H l=none->Q (.ref l) (upd H l (.lst ((bs.map fun b=>b.R.n).map V.int)))
include T in
theorem w5t:FnOk P w K mg base CX0 1 d.w45 d.w3e ["self"] (w9j K d):=by
 refine T.wb8.ok w9t (fun vs H Q E h=>?_) (fun cdv A outer s H vs Q E hr h=>?_)
 .obtain⟨so,t,hd,P,bs,L,rfl,_⟩:=h;rfl
 obtain⟨so,t,hd,P,bs,L,rfl,hS,q⟩:=h
 refine⟨_,(qa5 (qae (qad (call_sortI rfl) rfl T.w87 PyProof.Rows.boot_sorted (qa0 (qaj (pv 0) rfl) qa3)))),?_⟩
 walk_at "d"
 refine qac (σ:=[some (.ref so)]) rfl ?_
 have cs:=T.w01
 have n2:qak K d.w00 "holds":=T.w06
 obtain⟨dx,ho⟩:=hS.obj
 have l63:=hS.l63
 left
 refine r_sortI (.inl hS.hds) hS.keys (by rw [zB];omega) fun l ns hl hp hs=>?_
 rw [sortI_eq hp hs (num_sort hS.nu)]
 left
 exact q l hl
def wbj (K:Frag) (d:Ad):Sp:=fun vs H Q _=>∃(so t hd:Addr) (P:PL) (bs:List Ob) (L:Int) (x:V),vs=[.ref so,x]/\StAt d H so t hd P bs L/\((x=.non/\∀l H',qas H H'->H l=none->H' l=some (.lst (bsV bs))->Q (.ref l) H')\/∃(S:Ts) (n h:Nat),x=.str (nmF P h)/\WrAt K d H t S P n/\h < n/\∀l H',qas H H'->H l=none->H' l=some (.lst (bsV (bs.filter fun b=>decide (h∈qb5 (elN P.es) b.R.i))))->Q (.ref l) H')
include T in
theorem w4i:FnOk P w K mg base (My.CX1 P w) 18 d.w5h d.w2t ["self","house"] (wbj K d):=by
 refine okDX T.wcz w73 (fun vs H Q E h=>?_) (fun cdv A outer s H vs Q E hr h=>?_)
 .obtain⟨so,t,hd,P,bs,L,x,rfl,_⟩:=h;rfl
 obtain⟨so,t,hd,P,bs,L,x,rfl,hS,q⟩:=h
 refine⟨_,(qa4 (qf2 (j:=2) (caps:=[0]) (cn:=["self"]) (qbm rfl rfl (by rfl) (by rfl) rfl ⟨rfl,trivial⟩ (by rfl) rfl ⟨⟨rfl,rfl,rfl,rfl,_,rfl⟩,trivial⟩ (by decide)) rfl w73.nd rfl rfl (qb6 (qbi (pv 0) T.w01 T.w0v ((w5t T).mono (by decide)) hr T.w5w .nil qaf)) (fun _ _ _ _=>qdy) (fun _ _ _ _=>(qb3 (qb9 hr) (qaj (pv 1) rfl) (pv 0) (fun _ _=>rfl))))
  (qa4 (qay (qal qgn (pv 1) qck (qap _)) (qa5 (qae (pv 2))) qam)
  (qa5 (qae (qc8 ((w9z T).mono (by decide)) hr rfl T.wb0 T.w61.kp T.waz .nil qao (qa0 (qaj (pv 0) rfl) (qa0 (pv 2) (qa0 (pv 1) qa3)))))))),?_⟩
 walk_at "d"
 try dsimp only [cxC]
 refine qac (σ:=[some (.ref so),some (x),none]) rfl ?_
 have cs:=T.w01
 have n2:qak K d.w00 "holds":=T.w06
 obtain⟨dx,ho⟩:=hS.obj
 have l63:=hS.l63
 left
 refine⟨so,t,hd,P,bs,L,rfl,hS,fun l1 hl1=>?_⟩
 have s1:=qaa hl1 (.lst ((bs.map fun b=>b.R.n).map V.int))
 have e1:upd H l1 (.lst ((bs.map fun b=>b.R.n).map V.int)) l1=some (.lst ((bs.map fun b=>b.R.n).map V.int)):=qa1
 generalize upd H l1 (.lst ((bs.map fun b=>b.R.n).map V.int))=H1 at*
 have hS1:=hS.same s1
 have ho1:=s1 _ _ ho
 left
 intro C s0 H0 fp acc hacc
 refine c_by bs.length (fun i H'=>H'=upd H1 acc (.lst (bsV (bs.take i)))) rfl ?_ ?_ ?_ ?_
 .rintro i H' hi rfl
  exact⟨_,.int bs[i].R.n,SqL.of (qa8 e1 hacc),by rw [zD,zD,zA hi];rfl⟩
 .rintro H' rfl
  exact⟨_,SqL.of (qa8 e1 hacc),by rw [zB,zB];exact Nat.le_refl _⟩
 .rintro i H' v H'' hi rfl ⟨rfl,hy⟩
  have hv:=hy _ (SqL.of (qa8 e1 hacc))
  rw [zD,zD,zA hi] at hv
  cases hv
  have tk:bs.take (i+1)=bs.take i++ [bs[i]]:=by rw [zT,zA hi];rfl
  have hvv:=qea hS.nu (zQ hi)
  generalize bs[i]=b at*
  have ho2:=qa8 (o':=.lst (bsV (bs.take i))) ho1 hacc
  have hd2:=qa8 (o':=.lst (bsV (bs.take i))) hS1.hds hacc
  have zl:(bsV (bs.take i)).length < sizeLine:=by unfold bsV;rw [zB,zS];show _ < 16777216;omega
  left
  refine r_dgI (.inl hd2) hvv ?_
  left
  rw [qbe,tk]
  unfold bsV
  rw [zG];rfl
 rintro H' rfl
 rw [zZ]
 have s2:=s1.trans (qaa hacc (.lst (bsV bs)))
 have e2:upd H1 acc (.lst (bsV bs)) acc=some (.lst (bsV bs)):=qa1
 have hS2:=hS.same s2
 have ho2:=s2 _ _ ho
 have fa:=s1.free hacc
 generalize upd H1 acc (.lst (bsV bs))=H2 at*
 clear hS1 ho1 e1 hacc
 rcases q with ⟨rfl,q⟩ |⟨S,n,h,rfl,hW,hn,q⟩
 .left
  exact q acc _ s2 fa e2
 .have n1:qak K d.w00 "tree":=T.w0a
  obtain⟨⟨eh,aeh⟩,dp⟩:=hW.hs h hn
  have hW2:=hW.same s2
  left
  refine⟨t,acc,S,P,bs,nmF P h,eh,rfl,hW2.tr,hW.wf,aeh,dp,e2,by omega,hS2.ob,fun l zs H3 s3 hl hBen el=>?_⟩
  have euf:bs.filter (inZ P zs)=bs.filter fun b=>decide (h∈qb5 (elN P.es) b.R.i):=by
   refine yS fun b hb=>?_
   unfold inZ
   exact decide_eq_decide.mpr (hW.pl.benIff hn hBen (k:=b.R.i) (by have:=(hS.ob b hb).il;rw [hW.nn] at this;exact this))
  rw [euf] at el
  left
  exact q l _ (s2.trans s3) (s2.free hl) el
def atH (h:Nat) (b:Ob):Bool:=decide (b.R.i=h)
def w8o (K:Frag) (d:Ad):Sp:=fun vs H Q _=>∃(so t hd:Addr) (S:Ts) (P:PL) (bs:List Ob) (L:Int) (n h:Nat),vs=[.ref so,.str (nmF P h)]/\StAt d H so t hd P bs L/\WrAt K d H t S P n/\h < n/\∀l H',qas H H'->H l=none->H' l=some (.lst (bsV (bs.filter (atH h))))->Q (.ref l) H'
include T in
theorem w4n:FnOk P w K mg base (My.CX1 P w) 19 d.w3c d.w2r ["self","house"] (w8o K d):=by
 refine okX T.w9q w8h (fun vs H Q E h=>?_) (fun cdv A outer s H vs Q E hr h=>?_)
 .obtain⟨so,t,hd,S,P,bs,L,n,h,rfl,_⟩:=h;rfl
 obtain⟨so,t,hd,S,P,bs,L,n,h,rfl,hS,hW,hn,q⟩:=h
 refine⟨_,(qa4 (qat (qai (qaj (pv 0) rfl) T.w03 T.w04 ((w0f T).mono (by decide)) hr T.w0k .nil qao (qa0 (pv 1) qa3)))
  (qa5 (qae (qcd (caps:=[1]) (cn:=["house"]) (qbm rfl rfl (by rfl) (by rfl) rfl ⟨rfl,trivial⟩ (by rfl) rfl ⟨⟨rfl,rfl,rfl,rfl,_,rfl⟩,trivial⟩ (by decide)) rfl (qb6 (pe_methX0 (pv 0) T.w01 T.w12 ((w4i T).mono (by decide)) hr T.w6y T.w72 qao)) (fun _ _ _ _=>(qej (qal qee (qaj (pv 0) rfl) (pv 1) (qap _)))) (fun _ _ _ _=>(pv 0)))))),?_⟩
 walk_at "d"
 try dsimp only [cxC]
 refine qac (σ:=[some (.ref so),some (.str (nmF P h))]) rfl ?_
 have cs:=T.w01
 have ct:=T.w03
 have n1:qak K d.w00 "tree":=T.w0a
 obtain⟨dx,ho⟩:=hS.obj
 obtain⟨dt,ht⟩:=id hW.tr.1
 obtain⟨⟨eh,aeh⟩,_⟩:=hW.hs h hn
 have l63:=hS.l63
 left
 refine⟨t,S,.str (nmF P h),rfl,hW.tr,.inl ⟨_,rfl⟩,fun e he=>?_,fun wn=>?_⟩
 .skip
  left
  refine⟨so,t,hd,P,bs,L,.non,rfl,hS,.inl ⟨rfl,fun l1 H1 s1 hl1 e1=>?_⟩⟩
  have hB1:∀b∈bs,ObAt d H1 P b:=fun b hb=>(hS.ob b hb).same s1
  left
  intro C s0 H0 fp acc hacc
  refine c_by bs.length (fun i H'=>H'=upd H1 acc (.lst (bsV ((bs.take i).filter (atH h))))) rfl ?_ ?_ ?_ ?_
  .rintro i H' hi rfl
   exact⟨_,.ref bs[i].o,SqL.of (qa8 e1 hacc),by unfold bsV;rw [zD,zA hi];rfl⟩
  .rintro H' rfl
   exact⟨_,SqL.of (qa8 e1 hacc),by unfold bsV;rw [zB];exact Nat.le_refl _⟩
  .rintro i H' v H'' hi rfl ⟨rfl,hy⟩
   have hv:=hy _ (SqL.of (qa8 e1 hacc))
   unfold bsV at hv
   rw [zD,zA hi] at hv
   cases hv
   have hb:=hB1 _ (zQ hi)
   have tk:bs.take (i+1)=bs.take i++ [bs[i]]:=by rw [zT,zA hi];rfl
   generalize bs[i]=b at*
   obtain⟨dx,hbo⟩:=hb.obj
   have hbo':=qa8 (o':=.lst (bsV ((bs.take i).filter (atH h)))) hbo hacc
   obtain⟨cl,q1,q2,q3,q4,q5⟩:=qfp T b.R.s
   have ein:(nmF P b.R.i=nmF P h)=(b.R.i=h):=propext ⟨fun e=>hW.pl.inj _ _ (by have:=hb.il;have:=hW.nn;omega) hn e,fun e=>by rw [e]⟩
   have zl:(bsV ((bs.take i).filter (atH h))).length < sizeLine:=by
    unfold bsV
    rw [zB]
    have h1:=zW (atH h) (bs.take i)
    rw [zS] at h1
    show _ < 16777216
    omega
   left
   simp only [ein]
   by_cases c:b.R.i=h
   .rw [decide_eq_true c]
    left
    rw [qbe,tk,yB,zU,if_pos (show atH h b=true from decide_eq_true c)]
    unfold bsV
    rw [zG];rfl
   .rw [decide_eq_false c]
    left
    rw [tk,yB,zU,if_neg (by unfold atH;rw [decide_eq_false c];exact Bool.false_ne_true),yT,yA]
  rintro H' rfl
  rw [zZ]
  left
  exact q acc _ (s1.trans (qaa hacc _)) (s1.free hacc) qa1
 .exact absurd (show who S (.str (nmF P h))=some eh from aeh) (by rw [wn];intro z;cases z)
theorem r_diI {H:Hp} {Q:VK} {a:Addr} {kvs:List (Key × V)} {n:Int} (d:Rd H a (.dK kvs)) (h:Q (.bl (qbq kvs (Sum.inl n:Key)).isSome) H):rDI (.ref a) (.int n) H Q:=⟨a,_,rfl,.inl ⟨kvs,Sum.inl n,d,rfl,rfl⟩,h⟩
def hasB (bs:List Ob) (n:Int):Bool:=bs.any fun b=>decide (b.R.n=n)
theorem val_in {bs:List Ob} {L:Int} (nu:Nus bs L) (n:Int):(qbq (stK bs) (Sum.inl n:Key)).isSome=hasB bs n:=by
 cases e:hasB bs n with
 |true=>
  obtain⟨b,hb,eb⟩:=yV.mp e
  have eb:b.R.n=n:=of_decide_eq_true eb
  rw [<-eb,qea nu hb];rfl
 |false=>
  cases e2:qbq (stK bs) (Sum.inl n:Key) with
  |none=>rfl
  |some v=>
   have:=qen e2
   unfold stK at this
   obtain⟨b,hb,eb⟩:=zJ.mp this
   have h2:b.R.n=n:=Sum.inl.inj (Prod.mk.inj eb).1
   have:hasB bs n=true:=yV.mpr ⟨b,hb,decide_eq_true h2⟩
   rw [e] at this;cases this
def wbc (K:Frag) (d:Ad):Sp:=fun vs H Q _=>∃(so t hd:Addr) (P:PL) (bs:List Ob) (L:Int) (x:V),vs=[.ref so,x]/\StAt d H so t hd P bs L/\((∃n:Int,x=.int n/\Q (.bl (hasB bs n)) H)\/(NoW H x/\Q (.bl false) H))
include T in
theorem w71:FnOk P w K mg base CX0 2 d.w4z d.w4g ["self","thing"] (wbc K d):=by
 refine T.wcj.ok wbd (fun vs H Q E h=>?_) (fun cdv A outer s H vs Q E hr h=>?_)
 .obtain⟨so,t,hd,P,bs,L,x,rfl,_⟩:=h;rfl
 obtain⟨so,t,hd,P,bs,L,x,rfl,hS,h⟩:=h
 refine⟨_,(qa5 (qae (qe0 (qab ((wb9 T).mono (by decide)) hr rfl T.wbu T.w8c.kp T.wbx .nil qaf (qa0 (pv 1) qa3)) (qdl (pe_cmp (pc_din (qb9 hr) (pv 1) (qaj (pv 0) rfl))))))),?_⟩
 walk_at "d"
 refine qac (σ:=[some (.ref so),some (x)]) rfl ?_
 have cs:=T.w01
 have n2:qak K d.w00 "holds":=T.w06
 obtain⟨dx,ho⟩:=hS.obj
 rcases h with ⟨n,rfl,q⟩ |⟨hN,q⟩
 .left
  refine⟨_,rfl,.inl ⟨n,rfl,?_⟩⟩
  left
  refine r_diI (.inl hS.hds) ?_
  rw [val_in hS.nu]
  left
  exact q
 .left
  refine⟨_,rfl,.inr ⟨hN,?_⟩⟩
  left
  exact q
def wba (K:Frag) (d:Ad):Sp:=fun vs H Q _=>∃x:V,vs=[x]/\Q (.bl true) H
include T in
theorem w2i:FnOk P w K mg base CX0 1 d.w4f d.w3s ["self"] (wba K d):=by
 refine T.wbl.ok waj (fun vs H Q E h=>?_) (fun cdv A outer s H vs Q E hr h=>?_)
 .obtain⟨x,rfl,_⟩:=h;rfl
 obtain⟨x,rfl,q⟩:=h
 refine⟨_,(qa5 (qae qcs)),?_⟩
 walk_at "d"
 refine qac (σ:=[some (x)]) rfl ?_
 left
 exact q
def wau (K:Frag) (d:Ad):Sp:=fun vs H Q _=>∃x:V,vs=[x]/\Q (.bl false) H
include T in
theorem w27:FnOk P w K mg base CX0 1 d.w4j d.w3v ["self"] (wau K d):=by
 refine T.wbi.ok wb6 (fun vs H Q E h=>?_) (fun cdv A outer s H vs Q E hr h=>?_)
 .obtain⟨x,rfl,_⟩:=h;rfl
 obtain⟨x,rfl,q⟩:=h
 refine⟨_,(qa5 (qae qcs)),?_⟩
 walk_at "d"
 refine qac (σ:=[some (x)]) rfl ?_
 left
 exact q
def qbj (h:Nat) (b:Ob):Bool:=atH h b && b.R.s
def butF:V->Ob->Bool
 | .int m=>fun b=>decide (b.R.n≠m)
 |_=>fun _=>true
theorem butF_no {H:Hp} {x:V} (h:NoW H x) (b:Ob):butF x b=true:=by cases h;rfl
theorem NoW.same {H H':Hp} {x:V} (h:NoW H x) (_:qas H H'):NoW H' x:=h
def surB (h:Nat) (x:V) (b:Ob):Bool:=qbj h b && butF x b
def w6g (K:Frag) (d:Ad):Sp:=fun vs H Q _=>∃(so t hd:Addr) (S:Ts) (P:PL) (bs:List Ob) (L:Int) (n h:Nat) (y:V),vs=[.ref so,.str (nmF P h),y]/\StAt d H so t hd P bs L/\WrAt K d H t S P n/\h < n/\((∃m:Int,y=.int m)\/NoW H y)/\∀l k H',qas H H'->H l=none->H' l=some (.dK k)->AD k (qc1 ((bs.filter (surB h y)).map qcw))->Q (.ref l) H'
include T in
theorem w2w:FnOk P w K mg base (My.CX1 P w) 20 d.w1u d.w1m ["self","house","but"] (w6g K d):=by
 refine okX T.w6x w1p (fun vs H Q E h=>?_) (fun cdv A outer s H vs Q E hr h=>?_)
 .obtain⟨so,t,hd,S,P,bs,L,n,h,y,rfl,_⟩:=h;rfl
 obtain⟨so,t,hd,S,P,bs,L,n,h,y,rfl,hS,hW,hn,hy0,q⟩:=h
 refine⟨_,(qa4 (qf2 (j:=3) (caps:=[]) (cn:=[]) (qbm rfl rfl (by rfl) (by rfl) rfl trivial (by rfl) rfl trivial (by decide)) rfl w1p.nd rfl rfl (qb6 (qai (pv 0) T.w01 T.w0q ((w4n T).mono (by decide)) hr T.w5o .nil qao (qa0 (pv 1) qa3))) (fun _ _ _ _=>(qej (qaz (pe_alt (qbi (pv 0) T.w42 T.w0i ((w2i T).mono (by decide)) hr T.w2s .nil qaf) (qbi (pv 0) T.w3z T.w0h ((w27 T).mono (by decide)) hr T.w2u .nil qaf))))) (fun _ _ _ _=>(pv 0)))
  (qa4 (qc0 (qay (qaz (qgm (pv 0) T.w01 T.w1i ((w71 T).mono (by decide)) hr T.w84 .nil qaf (qa0 (pv 2) qa3))) (qa5 (qf2 (j:=3) (caps:=[2]) (cn:=["but"]) (qbm rfl rfl (by rfl) (by rfl) rfl ⟨rfl,trivial⟩ (by rfl) rfl ⟨⟨rfl,rfl,rfl,rfl,_,rfl⟩,trivial⟩ (by decide)) rfl w1p.nd rfl rfl (qb6 (pv 3)) (fun _ _ _ _=>(qej (qal op_ne (qaj (pv 0) rfl) (pv 1) (qap _)))) (fun _ _ _ _=>(pv 0)))) qam))
  (qa5 (qae (qab ((wbs T).mono (by decide)) hr rfl T.wdo T.wa8.kp T.we3 .nil qaf (qa0 (pv 3) qa3)))))),?_⟩
 walk_at "d"
 try dsimp only [cxC]
 refine qac (σ:=[some (.ref so),some (.str (nmF P h)),some (y),none]) rfl ?_
 have cs:=T.w01
 obtain⟨dx,ho⟩:=hS.obj
 have l63:=hS.l63
 left
 refine⟨so,t,hd,S,P,bs,L,n,h,rfl,hS,hW,hn,fun l1 H1 s1 hl1 e1=>?_⟩
 have efl:bs.filter (surB h y)=((bs.filter (atH h)).filter fun b=>b.R.s).filter (butF y):=by
  rw [List.filter_filter,List.filter_filter]
  refine yS fun b _=>?_
  unfold surB qbj
  cases atH h b <;> cases b.R.s <;> cases butF y b <;> rfl
 have hB1:∀b∈bs.filter (atH h),ObAt d H1 P b:=fun b hb=>(hS.ob b (zY.mp hb).1).same s1
 have hmem:∀b∈bs.filter (atH h),b∈bs:=fun b hb=>(zY.mp hb).1
 have l1le:(bs.filter (atH h)).length<=60:=Nat.le_trans (zW ..) l63
 have ho1:=s1 _ _ ho
 have w3:=hW.w3
 rw [efl] at q
 generalize bs.filter (atH h)=cs1 at*
 left
 intro C s0 H0 fp acc hacc
 refine c_by cs1.length (fun i H'=>H'=upd H1 acc (.lst (bsV ((cs1.take i).filter fun b=>b.R.s)))) rfl ?_ ?_ ?_ ?_
 .rintro i H' hi rfl
  exact⟨_,.ref cs1[i].o,SqL.of (qa8 e1 hacc),by unfold bsV;rw [zD,zA hi];rfl⟩
 .rintro H' rfl
  exact⟨_,SqL.of (qa8 e1 hacc),by unfold bsV;rw [zB];exact Nat.le_refl _⟩
 .rintro i H' v H'' hi rfl ⟨rfl,hy⟩
  have hv:=hy _ (SqL.of (qa8 e1 hacc))
  unfold bsV at hv
  rw [zD,zA hi] at hv
  cases hv
  have hb:=hB1 _ (zQ hi)
  have tk:cs1.take (i+1)=cs1.take i++ [cs1[i]]:=by rw [zT,zA hi];rfl
  generalize cs1[i]=b at*
  obtain⟨dx,hbo⟩:=hb.obj
  have hbo':=qa8 (o':=.lst (bsV ((cs1.take i).filter fun b=>b.R.s))) hbo hacc
  have zl:(bsV ((cs1.take i).filter fun b=>b.R.s)).length < sizeLine:=by
   unfold bsV
   rw [zB]
   have h1:=zW (fun b:Ob=>b.R.s) (cs1.take i)
   rw [zS] at h1
   show _ < 16777216
   omega
  cases hs:b.R.s with
  |true=>
   rw [hs,show qe8 d true=d.w0n from rfl] at hbo'
   left
   refine r_alt1 ?_
   left
   refine⟨_,rfl,?_⟩
   left
   rw [qbe,tk,yB,zU,if_pos hs]
   unfold bsV
   rw [zG];rfl
  |false=>
   rw [hs,show qe8 d false=d.w0t from rfl] at hbo'
   left
   refine r_alt2 ?_
   left
   refine⟨_,rfl,?_⟩
   left
   rw [tk,yB,zU,if_neg (by rw [hs];exact Bool.false_ne_true),yT,yA]
 rintro H' rfl
 rw [zZ]
 have s2:=s1.trans (qaa hacc (.lst (bsV (cs1.filter fun b=>b.R.s))))
 have e2:upd H1 acc (.lst (bsV (cs1.filter fun b=>b.R.s))) acc=some (.lst (bsV (cs1.filter fun b=>b.R.s))):=qa1
 have hB2:∀b∈cs1.filter (fun b=>b.R.s),ObAt d (upd H1 acc (.lst (bsV (cs1.filter fun b=>b.R.s)))) P b:=fun b hb=>(hB1 b (zY.mp hb).1).same (qaa hacc _)
 have ho2:=qa8 (o':=.lst (bsV (cs1.filter fun b=>b.R.s))) ho1 hacc
 have hS2:=hS.same s2
 have l2le:(cs1.filter fun b=>b.R.s).length<=60:=Nat.le_trans (zW ..) l1le
 generalize upd H1 acc (.lst (bsV (cs1.filter fun b=>b.R.s)))=H2 at*
 have hmem2:∀b∈cs1.filter (fun b=>b.R.s),b∈bs:=fun b hb=>hmem b (zY.mp hb).1
 generalize (cs1.filter fun b=>b.R.s)=ds at*
 clear hmem hB1 l1le e1 hl1
 left
 refine r_cut (fun σ' H'=>∃lx:Addr,qas H2 H'/\H' lx=some (.lst (bsV (ds.filter (butF y))))/\σ'=[some (V.ref so),some (.str (nmF P h)),some y,some (.ref lx)]) ?_ ?_
 .left
  rcases hy0 with ⟨m,rfl⟩ |hN
  .refine⟨so,t,hd,P,bs,L,.int m,rfl,hS2,.inl ⟨m,rfl,?_⟩⟩
   left
   refine i_b2 (fun hk=>?_) (fun hk=>?_)
   .left
    intro C s0 H0 fp ac2 hac2
    refine c_by ds.length (fun i H'=>H'=upd H2 ac2 (.lst (bsV ((ds.take i).filter (butF (.int m)))))) rfl ?_ ?_ ?_ ?_
    .rintro i H' hi rfl
     exact⟨_,.ref ds[i].o,SqL.of (qa8 e2 hac2),by unfold bsV;rw [zD,zA hi];rfl⟩
    .rintro H' rfl
     exact⟨_,SqL.of (qa8 e2 hac2),by unfold bsV;rw [zB];exact Nat.le_refl _⟩
    .rintro i H' v H'' hi rfl ⟨rfl,hyv⟩
     have hv:=hyv _ (SqL.of (qa8 e2 hac2))
     unfold bsV at hv
     rw [zD,zA hi] at hv
     cases hv
     have hb:=hB2 _ (zQ hi)
     have tk:ds.take (i+1)=ds.take i++ [ds[i]]:=by rw [zT,zA hi];rfl
     generalize ds[i]=b at*
     obtain⟨dx,hbo⟩:=hb.obj
     have hbo':=qa8 (o':=.lst (bsV ((ds.take i).filter (butF (.int m))))) hbo hac2
     obtain⟨cl,q1,q2,q3,q4,q5⟩:=qfp T b.R.s
     have zl:(bsV ((ds.take i).filter (butF (.int m)))).length < sizeLine:=by
      unfold bsV
      rw [zB]
      have h1:=zW (butF (.int m)) (ds.take i)
      rw [zS] at h1
      show _ < 16777216
      omega
     left
     by_cases c:b.R.n=m
     .rw [decide_eq_true c]
      left
      rw [tk,yB,zU,if_neg (by show ¬decide (b.R.n≠m)=true;rw [decide_eq_false (not_not_intro c)];exact Bool.false_ne_true),yT,yA]
     .rw [decide_eq_false c]
      left
      rw [qbe,tk,yB,zU,if_pos (show butF (.int m) b=true from decide_eq_true c)]
      unfold bsV
      rw [zG];rfl
    rintro H' rfl
    rw [zZ]
    left
    exact⟨ac2,qaa hac2 _,qa1,rfl⟩
   .left
    refine⟨acc,qas.refl _,?_,rfl⟩
    have:ds.filter (butF (.int m))=ds:=yN.mpr fun b hb=>decide_eq_true fun e=>by
     have:hasB bs m=true:=yV.mpr ⟨b,hmem2 b hb,decide_eq_true e⟩
     rw [hk] at this;cases this
    rw [this];exact e2
  .refine⟨so,t,hd,P,bs,L,y,rfl,hS2,.inr ⟨hN.same s2,?_⟩⟩
   left
   refine⟨acc,qas.refl _,?_,rfl⟩
   have:ds.filter (butF y)=ds:=yN.mpr fun b _=>butF_no hN b
   rw [this];exact e2
 rintro σ' H' ⟨lx,sx,ex,rfl⟩
 left
 refine⟨lx,P,_,rfl,ex,Nat.le_trans (zW ..) (by omega),w3,fun b hb=>(hB2 b (zY.mp hb).1).same sx,fun l k H3 s3 hl el hA=>?_⟩
 have s2x:=s2.trans sx
 left
 exact q l k H3 (s2x.trans s3) (s2x.free hl) el hA
theorem qgb (h:Nat) (bs:List Ob):bs.filter (surB h .non)=bs.filter (qbj h):=yS fun b _=>by unfold surB butF;rw [Bool.and_true]
def w8x (K:Frag) (d:Ad):Sp:=fun vs H Q _=>∃(so t hd:Addr) (S:Ts) (P:PL) (bs:List Ob) (L:Int) (n h:Nat),vs=[.ref so,.str (nmF P h)]/\StAt d H so t hd P bs L/\WrAt K d H t S P n/\h < n/\∀l k H',qas H H'->H l=none->H' l=some (.dK k)->AD k (qc1 ((bs.filter (qbj h)).map qcw))->Q (.ref l) H'
include T in
theorem w8g:FnOk P w K mg base (My.CX1 P w) 21 d.w3f d.w2o ["self","house"] (w8x K d):=by
 refine okX T.w9p w8l (fun vs H Q E h=>?_) (fun cdv A outer s H vs Q E hr h=>?_)
 .obtain⟨so,t,hd,S,P,bs,L,n,h,rfl,_⟩:=h;rfl
 obtain⟨so,t,hd,S,P,bs,L,n,h,rfl,hS,hW,hn,q⟩:=h
 .refine⟨_,(qa5 (qae (qai (pv 0) T.w01 T.w0d ((w2w T).mono (by decide)) hr T.w3j .nil qao (qa0 (pv 1) (qa0 qck qa3))))),?_⟩
  walk_at "d"
  refine qac (σ:=[some (.ref so),some (.str (nmF P h))]) rfl ?_
  have cs:=T.w01
  obtain⟨dx,ho⟩:=hS.obj
  left
  refine⟨so,t,hd,S,P,bs,L,n,h,.non,rfl,hS,hW,hn,.inr rfl,fun l k H1 s1 hl el hA=>?_⟩
  rw [qgb] at hA
  left
  exact q l k H1 s1 hl el hA
def lineH (P:PL) (h:Nat) (b:Ob):Bool:=decide (h∈qb5 (elN P.es) b.R.i)
def wea (K:Frag) (d:Ad):Sp:=fun vs H Q _=>∃(so t hd:Addr) (S:Ts) (P:PL) (bs:List Ob) (L:Int) (n h:Nat),vs=[.ref so,.str (nmF P h)]/\StAt d H so t hd P bs L/\WrAt K d H t S P n/\h < n/\∀l k H',qas H H'->H l=none->H' l=some (.dK k)->AD k (qc1 ((bs.filter (lineH P h)).map qcw))->Q (.ref l) H'
include T in
theorem wd9:FnOk P w K mg base (My.CX1 P w) 20 d.w79 d.w6f ["self","house"] (wea K d):=by
 refine okX T.wep we6 (fun vs H Q E h=>?_) (fun cdv A outer s H vs Q E hr h=>?_)
 .obtain⟨so,t,hd,S,P,bs,L,n,h,rfl,_⟩:=h;rfl
 obtain⟨so,t,hd,S,P,bs,L,n,h,rfl,hS,hW,hn,q⟩:=h
 .refine⟨_,(qa4 (qat (qai (qaj (pv 0) rfl) T.w03 T.w04 ((w0f T).mono (by decide)) hr T.w0k .nil qao (qa0 (pv 1) qa3)))
  (qa5 (qae (qab ((wbs T).mono (by decide)) hr rfl T.wdo T.wa8.kp T.we3 .nil qaf (qa0 (qai (pv 0) T.w01 T.w12 ((w4i T).mono (by decide)) hr T.wc5 .nil qao (qa0 (pv 1) qa3)) qa3))))),?_⟩
  walk_at "d"
  refine qac (σ:=[some (.ref so),some (.str (nmF P h))]) rfl ?_
  have cs:=T.w01
  have ct:=T.w03
  have n1:qak K d.w00 "tree":=T.w0a
  obtain⟨dx,ho⟩:=hS.obj
  obtain⟨dt,ht⟩:=id hW.tr.1
  obtain⟨⟨eh,aeh⟩,_⟩:=hW.hs h hn
  have l63:=hS.l63
  have w3:=hW.w3
  left
  refine⟨t,S,.str (nmF P h),rfl,hW.tr,.inl ⟨_,rfl⟩,fun e he=>?_,fun wn=>absurd (show who S (.str (nmF P h))=some eh from aeh) (by rw [wn];intro z;cases z)⟩
  left
  refine⟨so,t,hd,P,bs,L,_,rfl,hS,.inr ⟨S,n,h,rfl,hW,hn,fun l H1 s1 hl el=>?_⟩⟩
  left
  refine⟨l,P,_,rfl,el,Nat.le_trans (zW ..) (by omega),w3,fun b hb=>(hS.ob b (zY.mp hb).1).same s1,fun l2 k H2 s2 hl2 el2 hA=>?_⟩
  left
  exact q l2 k H2 (s1.trans s2) (s1.free hl2) el2 hA
theorem qgd {ws:List Str}:∀(ts:List Pt) (f0:Str->Option Int),(∀z,f0 z≠none->z∈ws)->(∀t∈ts,∀z,t.f z≠none->z∈ws)->∀z,(ts.foldl (fun f t=>qd7 f t.f) f0) z≠none->z∈ws
 | [],_,h,_=>h
 |t :: ts,_,h,ht=>qgd ts _ (qdj h (ht t (zC ..))) fun x hx=>ht x (zF _ hx)
theorem sumO_sup {d:Ad} {H:Hp} {P:PL} {bs:List Ob} (h:∀b∈bs,ObAt d H P b):∀z,qc1 (bs.map qcw) z≠none->z∈P.ws:=qgd _ _ (fun z hz=>absurd rfl hz) fun t ht z hz=>by
 obtain⟨b,hb,rfl⟩:=zJ.mp ht
 exact(h b hb).inw z hz
def mF (bs:List Ob) (h:Nat) (y:V) (f:Str->Option Int):Str->Option Int:=qd7 (qc1 ((bs.filter (surB h y)).map qcw)) f
def fpO (S:Ts) (P:PL) (h:Nat):Str->Option Int:=match S.at (nmF P h) with
 |some e=>e.x.fp
 |none=>noF
def Fits (S:Ts) (P:PL) (bs:List Ob) (h:Nat) (y:V) (f:Str->Option Int):Prop:=∀z,¬viol (mF bs h y f) (fpO S P h) z
def w8e (K:Frag) (d:Ad):Sp:=fun vs H Q _=>∃(so t hd am:Addr) (S:Ts) (P:PL) (bs:List Ob) (L:Int) (n h:Nat) (y:V) (k:List (Key × V)) (f:Str->Option Int),vs=[.ref so,.str (nmF P h),.ref am,y]/\StAt d H so t hd P bs L/\WrAt K d H t S P n/\h < n/\((∃m:Int,y=.int m)\/NoW H y)/\H am=some (.dK k)/\AD k f/\InW P.ws f/\(∀H',qas H H'->Fits S P bs h y f->Q .non H')/\∀z H',qas H H'->viol (mF bs h y f) (fpO S P h) z->(∀u,viol (mF bs h y f) (fpO S P h) u->leS z u)->Q (.str z) H'
include T in
theorem w8j:FnOk P w K mg base (My.CX1 P w) 21 d.w39 d.w2n ["self","house","amounts","but"] (w8e K d):=by
 refine okX T.w9m w8b (fun vs H Q E h=>?_) (fun cdv A outer s H vs Q E hr h=>?_)
 .obtain⟨so,t,hd,am,S,P,bs,L,n,h,y,k,f,rfl,_⟩:=h;rfl
 obtain⟨so,t,hd,am,S,P,bs,L,n,h,y,k,f,rfl,hS,hW,hn,hy0,ham,hA,hI,q1,q2⟩:=h
 refine⟨_,(qa5 (qae (qab ((wae T).mono (by decide)) hr rfl T.wck T.wa2.kp T.wco .nil qaf (qa0 (qab ((wa0 T).mono (by decide)) hr rfl T.wc8 T.wa5.kp T.wcd .nil qaf (qa0 (qai (pv 0) T.w01 T.w0d ((w2w T).mono (by decide)) hr T.w3j .nil qao (qa0 (pv 1) (qa0 (pv 3) qa3))) (qa0 (pv 2) qa3))) (qa0 (qai (qaj (pv 0) rfl) T.w03 T.w0j ((w4d T).mono (by decide)) hr T.w4p .nil qao (qa0 (pv 1) qa3)) qa3))))),?_⟩
 walk_at "d"
 refine qac (σ:=[some (.ref so),some (.str (nmF P h)),some (.ref am),some (y)]) rfl ?_
 have cs:=T.w01
 have ct:=T.w03
 have n1:qak K d.w00 "tree":=T.w0a
 obtain⟨dx,ho⟩:=hS.obj
 obtain⟨dt,ht⟩:=id hW.tr.1
 obtain⟨⟨eh,aeh⟩,_⟩:=hW.hs h hn
 have w3:=hW.w3
 have kl:=hA.le hI
 left
 refine⟨so,t,hd,S,P,bs,L,n,h,y,rfl,hS,hW,hn,hy0,fun l1 k1 H1 s1 hl1 e1 hA1=>?_⟩
 have sup1:=sumO_sup (bs:=bs.filter (surB h y)) fun b hb=>hS.ob b (zY.mp hb).1
 have kl1:=hA1.le sup1
 left
 refine⟨l1,am,k1,k,_,f,rfl,.inl e1,s1 _ _ ham,hA1,hA,by omega,by omega,fun l2 k2 H2 s2 hl2 e2 hA2=>?_⟩
 have t2:=s1.trans s2
 have ho2:=t2 _ _ ho
 have ht2:=t2 _ _ ht
 have kl2:=hA2.le (qdj sup1 hI)
 left
 refine⟨t,S,.str (nmF P h),rfl,hW.tr.same t2,.inl ⟨_,rfl⟩,fun e he p hp=>?_,fun wn=>?_⟩
 .have he:S.at (nmF P h)=some e:=he
  have efp:fpO S P h=e.x.fp:=by unfold fpO;rw [he]
  obtain⟨_,hp0,hpA,_,_⟩:=(hW.tr.same t2).2.2.2.2.2 e (qcn he).1
  have e3:upd H2 p (.dK e.x.kp) p=some (.dK e.x.kp):=qa1
  have e23:=qa8 (o':=.dK e.x.kp) e2 hp
  have t3:=t2.trans (qaa hp (.dK e.x.kp))
  generalize upd H2 p (.dK e.x.kp)=H3 at*
  left
  refine⟨l2,p,k2,e.x.kp,_,e.x.fp,rfl,.inl e23,.inl e3,hA2,hpA,by omega,fun H4 s4 hv=>?_,fun z H4 s4 hv hl=>?_⟩
  .left
   exact q1 _ (t3.trans s4) (fun z=>by rw [efp];exact hv z)
  .left
   exact q2 z _ (t3.trans s4) (by rw [efp];exact hv) (fun u hu=>by rw [efp] at hu;exact hl u hu)
 .exact absurd (show who S (.str (nmF P h))=some eh from aeh) (by rw [wn];intro z;cases z)
def w7k (K:Frag) (d:Ad):Sp:=fun vs H Q _=>∃(so t hd am:Addr) (S:Ts) (P:PL) (bs:List Ob) (L:Int) (n h:Nat) (y:V) (k:List (Key × V)) (f:Str->Option Int),vs=[.ref so,.str (nmF P h),.ref am,y]/\StAt d H so t hd P bs L/\WrAt K d H t S P n/\h < n/\((∃m:Int,y=.int m)\/NoW H y)/\H am=some (.dK k)/\AD k f/\InW P.ws f/\Fits S P bs h y f/\∀H',qas H H'->Q .non H'
include T in
theorem w3w:FnOk P w K mg base (My.CX1 P w) 22 d.w2d d.w22 ["self","house","amounts","but"] (w7k K d):=by
 refine okX T.w7p w3q (fun vs H Q E h=>?_) (fun cdv A outer s H vs Q E hr h=>?_)
 .obtain⟨so,t,hd,am,S,P,bs,L,n,h,y,k,f,rfl,_⟩:=h;rfl
 obtain⟨so,t,hd,am,S,P,bs,L,n,h,y,k,f,rfl,hS,hW,hn,hy0,ham,hA,hI,hF,q⟩:=h
 refine⟨_,(qa4 (qag (i:=4) w3q.nd rfl (Or.inl rfl) (qai (pv 0) T.w01 T.w14 ((w8j T).mono (by decide)) hr T.w9x .nil qao (qa0 (pv 1) (qa0 (pv 2) (qa0 (pv 3) qa3)))))
  (qa5 (qay (qal qe1 (pv 4) qck (qap _)) (qa5 (ps_raiseI rfl T.w91 ((w70 T).mono (by decide)) hr T.w7r rfl T.wb7 qao (qa0 (pv 1) (qa0 (pv 4) qa3)))) qam))),?_⟩
 walk_at "d"
 refine qac (σ:=[some (.ref so),some (.str (nmF P h)),some (.ref am),some (y),none]) rfl ?_
 have cs:=T.w01
 obtain⟨dx,ho⟩:=hS.obj
 left
 refine⟨so,t,hd,am,S,P,bs,L,n,h,y,k,f,rfl,hS,hW,hn,hy0,ham,hA,hI,fun H1 s1 _=>?_,fun z H1 s1 hv _=>absurd hv (hF z)⟩
 left
 exact q _ s1
def wj7 (K:Frag) (d:Ad):Sp:=fun vs H Q _=>∃(n:Int) (z:Str) (a:Addr) (k:List (Key × V)) (r:Int) (t:Option Int) (s:Bool),vs=[.int n,.str z,.ref a,.int r,tV t,.bl s]/\H a=some (.dK k)/\∀x m H',qas H H'->H x=none->H m=none->(∃dx,H' x=some (.ins (qe8 d s) dx (fsB n z m r t)))->H' m=some (.dK k)->Q (.ref x) H'
include T in
theorem wh1:FnOk P w K mg base CX0 3 d.wgx d.wf2 ["number","house","amounts","rank","turns","sure"] (wj7 K d):=by
 refine T.wgz.ok wj3 (fun vs H Q E h=>?_) (fun cdv A outer s H vs Q E hr h=>?_)
 .obtain⟨n,z,a,k,r,t,s,rfl,_⟩:=h;rfl
 obtain⟨n,z,a,k,r,t,s',rfl,ha,q⟩:=h
 refine⟨_,(qa4 (qay (qaz (pv 5)) (qa5 (qae (qf4 T.wa6 ((w9d T).mono (by decide)) hr rfl T.wk0 T.way .nil qaf (qa0 (pv 0) (qa0 (pv 1) (qa0 (pv 2) (qa0 (pv 3) (qa0 (pv 4) qa3)))))))) qam)
  (qa5 (qae (qf4 T.wav ((w9d T).mono (by decide)) hr rfl T.wk8 T.way .nil qaf (qa0 (pv 0) (qa0 (pv 1) (qa0 (pv 2) (qa0 (pv 3) (qa0 (pv 4) qa3))))))))),?_⟩
 walk_at "d"
 refine qac (σ:=[some (.int n),some (.str z),some (.ref a),some (.int r),some (tV t),some (.bl s')]) rfl ?_
 have fin:∀(x dx m:Addr) (H3:Hp),H x=none->H dx=none->upd (upd H dx (.own x)) x (.ins (qe8 d s') dx []) m=none->H3 x=some (.ins (qe8 d s') dx (fsB n z m r t))->H3 m=some (.dK k)->SameBut x (upd (upd H dx (.own x)) x (.ins (qe8 d s') dx [])) H3->Q (.ref x) H3:=fun x dx m H3 hx hdx hm ex em sb=>by
  have nmx:m≠x:=fun z=>by subst z;rw [qa1] at hm;cases hm
  rw [qa6 nmx] at hm
  have hm0:H m=none:=by
   by_cases e:m=dx
   .subst e;exact hdx
   .rw [qa6 e] at hm;exact hm
  exact q x m H3 (fun b o hb=>sb b o (qa2 hb hx) (by rw [qa6 (qa2 hb hx),qa6 (qa2 hb hdx)];exact hb)) hx hm0 ⟨dx,ex⟩ em
 left
 refine i_b2 (fun hs=>?_) (fun hs=>?_)
 .have ec:qe8 d s'=d.w0n:=by rw [hs];rfl
  left
  intro x dx hx hdx ne
  refine⟨x,dx,a,s',n,z,k,r,t,rfl,by rw [ec];exact qa1,by rw [qa6 (qa2 ha hx),qa6 (qa2 ha hdx)];exact ha,fun m H3 hm ex em sb=>⟨rfl,?_⟩⟩
  rw [<-ec] at hm sb
  left
  exact fin x dx m H3 hx hdx hm ex em sb
 .have ec:qe8 d s'=d.w0t:=by rw [hs];rfl
  left
  intro x dx hx hdx ne
  refine⟨x,dx,a,s',n,z,k,r,t,rfl,by rw [ec];exact qa1,by rw [qa6 (qa2 ha hx),qa6 (qa2 ha hdx)];exact ha,fun m H3 hm ex em sb=>⟨rfl,?_⟩⟩
  rw [<-ec] at hm sb
  left
  exact fin x dx m H3 hx hdx hm ex em sb
def fsS (t hd:Addr) (n:Int):List (Str × V):=[("tree",.ref t),("holds",.ref hd),("last",.int n)]
def wcg (K:Frag) (d:Ad):Sp:=fun vs H Q _=>∃(x dx t:Addr),vs=[.ref x,.ref t]/\H x=some (.ins d.w00 dx [])/\∀hd H',H hd=none->H' x=some (.ins d.w00 dx (fsS t hd 0))->H' hd=some (.dK [])->SameBut x H H'->Q .non H'
include T in
theorem w7y:FnOk P w K mg base CX0 1 d.w6h d.w5f ["self","tree"] (wcg K d):=by
 refine T.wde.ok wd2 (fun vs H Q E h=>?_) (fun cdv A outer s H vs Q E hr h=>?_)
 .obtain⟨x,dx,t,rfl,_⟩:=h;rfl
 obtain⟨x,dx,t,rfl,hx,q⟩:=h
 refine⟨_,(qa4 (qcg (pv 0) (pv 1) rfl)
  (qa4 (qcg (pv 0) qc7 rfl)
  (qa5 (qcg (pv 0) qa7 rfl)))),?_⟩
 walk_at "d"
 refine qac (σ:=[some (.ref x),some (.ref t)]) rfl ?_
 have cl:=T.w01
 have n1:qak K d.w00 "tree":=T.w0a
 have n2:qak K d.w00 "holds":=T.w06
 have n3:qak K d.w00 "last":=T.w1d
 left
 rename_i m hm
 have nmx:m≠x:=fun z=>by subst z;rw [qa1] at hm;cases hm
 have hm0:H m=none:=by rw [qa6 nmx] at hm;exact hm
 refine qeb (qa8 qa1 hm) cl n2 (by show 1 < 1000;decide) ?_
 left
 refine qeb qa1 cl n3 (by show 2 < 1000;decide) ?_
 left
 refine q m _ hm0 (by rw [qa1];rfl) (by rw [qa6 nmx,qa6 nmx];exact qa1) fun b o hb e=>?_
 rw [qa6 hb,qa6 hb,qa6 (qa2 e hm0),qa6 hb]
 exact e
theorem st_new {bs:List Ob} {L:Int} (nu:Nus bs L):qbq (stK bs) (Sum.inl (L+1))=none:=by
 cases e:qbq (stK bs) (Sum.inl (L+1)) with
 |none=>rfl
 |some v=>
  have:=qen e
  unfold stK at this
  obtain⟨b,hb,eb⟩:=zJ.mp this
  have h2:b.R.n=L+1:=Sum.inl.inj (Prod.mk.inj eb).1
  have:=nu.bd b hb
  omega
theorem Nus.snoc {bs:List Ob} {L:Int} (nu:Nus bs L) (L0:0<=L) {b:Ob} (hb:b.R.n=L+1):Nus (bs++ [b]) (L+1):=by
 refine⟨?_,fun x hx=>?_⟩
 .rw [zG,List.pairwise_append]
  refine⟨nu.up,List.pairwise_singleton _ _,fun x hx y hy=>?_⟩
  obtain⟨c,hc,rfl⟩:=zJ.mp hx
  have hy:y=b.R.n:=by simpa using hy
  have:=nu.bd c hc
  omega
 .rcases zN.mp hx with h|h
  .have:=nu.bd x h
   omega
  .rw [zH.mp h,hb]
   omega
theorem stK_put {bs:List Ob} {L:Int} (nu:Nus bs L) {b:Ob} (hb:b.R.n=L+1):qco (stK bs) (Sum.inl (L+1)) (.ref b.o)=stK (bs++ [b]):=by
 rw [L2.qdd _ (st_new nu)]
 unfold stK
 rw [zG,<-hb];rfl
theorem ObAt.ne {d:Ad} {H:Hp} {P:PL} {b:Ob} {so hd t dx:Addr} {n:Int} {kvs:List (Key × V)} (h:ObAt d H P b) (ho:H so=some (.ins d.w00 dx (fsS t hd n))) (hh:H hd=some (.dK kvs)):b.o≠so/\b.o≠hd/\b.m≠so:=by
 obtain⟨dx',e⟩:=h.obj
 refine⟨fun z=>?_,fun z=>?_,fun z=>?_⟩
 .rw [z,ho] at e
  injection e with e
  injection e with _ _ e
  exact absurd (congrArg List.length e) (show ¬((3:Nat)=5) by decide)
 .rw [z,hh] at e;cases e
 .have e2:=h.amt
  rw [z,ho] at e2;cases e2
def rOf (n:Int) (h:Nat) (k:List (Key × V)) (f:Str->Option Int) (r:Int) (s:Bool):Rr:=⟨0,0,n,h,k,f,r,s⟩
def we5 (K:Frag) (d:Ad):Sp:=fun vs H Q _=>∃(so t hd am:Addr) (S:Ts) (P:PL) (bs:List Ob) (L:Int) (n h:Nat) (k:List (Key × V)) (f:Str->Option Int) (r:Int) (tn:Option Int) (s:Bool),vs=[.ref so,.str (nmF P h),.ref am,.int r,tV tn,.bl s]/\StAt d H so t hd P bs L/\(∀b∈bs,b.m≠hd)/\am≠hd/\0<=L/\bs.length < 60/\WrAt K d H t S P n/\h < n/\H am=some (.dK k)/\AD k f/\InW P.ws f/\(s=true->Fits S P bs h .non f)/\
 ∀(b:Ob) H',StAt d H' so t hd P (bs++ [b]) (L+1)->(∀x∈bs++ [b],x.m≠hd)->SB [so,hd] H H'->H b.o=none->H b.m=none->b.t=tn->b.R=rOf (L+1) h k f r s->Q (.int (L+1)) H'
include T in
theorem we7:FnOk P w K mg base (My.CX1 P w) 23 d.w7d d.w68 ["self","house","amounts","rank","turns","sure"] (we5 K d):=by
 refine okX T.wem wdd (fun vs H Q E h=>?_) (fun cdv A outer s H vs Q E hr h=>?_)
 .obtain⟨so,t,hd,am,S,P,bs,L,n,h,k,f,r,tn,s,rfl,_⟩:=h;rfl
 obtain⟨so,t,hd,am,S,P,bs,L,n,h,k,f,r,tn,s',rfl,hS,hm,nam,L0,l59,hW,hn,ham,hA,hI,hF,q⟩:=h
 refine⟨_,(qa4 (qat (qai (qaj (pv 0) rfl) T.w03 T.w04 ((w0f T).mono (by decide)) hr T.w0k .nil qao (qa0 (pv 1) qa3)))
  (qa4 (qc0 (qay (qaz (pv 5)) (qa5 (qat (qai (pv 0) T.w01 T.w0g ((w3w T).mono (by decide)) hr T.w4c .nil qao (qa0 (pv 1) (qa0 (pv 2) (qa0 qck qa3)))))) qam))
  (qa4 (ps_fldaug (pv 0) qa7 in_add)
  (qa4 (qc4 (qb9 hr) (qaj (pv 0) rfl) (qaj (pv 0) rfl) (qab ((wh1 T).mono (by decide)) hr rfl T.wim T.wgz.kp T.wig .nil qaf (qa0 (qaj (pv 0) rfl) (qa0 (pv 1) (qa0 (pv 2) (qa0 (pv 3) (qa0 (pv 4) (qa0 (pv 5) qa3))))))) rfl)
  (qa5 (qae (qaj (pv 0) rfl))))))),?_⟩
 walk_at "d"
 refine qac (σ:=[some (.ref so),some (.str (nmF P h)),some (.ref am),some (.int r),some (tV tn),some (.bl s')]) rfl ?_
 have cs:=T.w01
 have ct:=T.w03
 have n1:qak K d.w00 "tree":=T.w0a
 have n2:qak K d.w00 "holds":=T.w06
 have n3:qak K d.w00 "last":=T.w1d
 obtain⟨dx,ho⟩:=hS.obj
 obtain⟨dt,ht⟩:=id hW.tr.1
 obtain⟨⟨eh,aeh⟩,_⟩:=hW.hs h hn
 left
 refine⟨t,S,.str (nmF P h),rfl,hW.tr,.inl ⟨_,rfl⟩,fun e he=>?_,fun wn=>absurd (show who S (.str (nmF P h))=some eh from aeh) (by rw [wn];intro z;cases z)⟩
 left
 refine r_cut (fun σ' H'=>qas H H'/\σ'=[some (V.ref so),some (.str (nmF P h)),some (.ref am),some (.int r),some (tV tn),some (.bl s')]) ?_ ?_
 .left
  refine i_b2 (fun hs=>?_) (fun hs=>?_)
  .left
   refine⟨so,t,hd,am,S,P,bs,L,n,h,.non,k,f,rfl,hS,hW,hn,.inr rfl,ham,hA,hI,hF hs,fun H1 s1=>?_⟩
   left
   exact⟨s1,rfl⟩
  .left
   exact⟨qas.refl _,rfl⟩
 rintro σ' H1 ⟨s1,rfl⟩
 have hS1:=hS.same s1
 have ho1:=s1 _ _ ho
 have ham1:=s1 _ _ ham
 clear ho ht hF
 left
 refine r_fa ?_
 left
 refine⟨so,_,_,_,_,rfl,ho1,cs,n3,rfl,?_⟩
 left
 refine r_addI ?_
 refine⟨_,_,ho1,(by show 3 < 1000;decide),?_⟩
 have epf:qdw "last" (.int (L+1)) [("tree",V.ref t),("holds",.ref hd),("last",.int L)]=fsS t hd (L+1):=rfl
 rw [epf]
 have ho2:upd H1 so (.ins d.w00 dx (fsS t hd (L+1))) so=some (.ins d.w00 dx (fsS t hd (L+1))):=qa1
 have nhs:hd≠so:=fun z=>by have:=hS1.hds;rw [z,ho1] at this;cases this
 have nas:am≠so:=fun z=>by rw [z,ho1] at ham1;cases ham1
 have hd2:upd H1 so (.ins d.w00 dx (fsS t hd (L+1))) hd=some (.dK (stK bs)):=by rw [qa6 nhs];exact hS1.hds
 have ham2:upd H1 so (.ins d.w00 dx (fsS t hd (L+1))) am=some (.dK k):=by rw [qa6 nas];exact ham1
 have hB2:∀b∈bs,ObAt d (upd H1 so (.ins d.w00 dx (fsS t hd (L+1)))) P b:=fun b hb=>(hS1.ob b hb).put ((hS1.ob b hb).ne (n:=L) ho1 hS1.hds).1 ((hS1.ob b hb).ne (n:=L) ho1 hS1.hds).2.2
 have sb2:SB [so,hd] H (upd H1 so (.ins d.w00 dx (fsS t hd (L+1)))):=fun b o hb hn=>by
  rw [qa6 (fun z=>hn (by rw [z];exact zC ..))]
  exact s1 _ _ hb
 generalize upd H1 so (.ins d.w00 dx (fsS t hd (L+1)))=H2 at*
 have fr:∀y,H2 y=none->H y=none:=fun y hy=>by
  cases r:H y with
  |none=>rfl
  |some u=>
   by_cases c:y∈ [so,hd]
   .rcases zV.mp c with c|c
    .rw [c,ho2] at hy;cases hy
    .rw [zH.mp c,hd2] at hy;cases hy
   .rw [sb2 _ _ r c] at hy;cases hy
 unfold fsS at ho2
 left
 refine⟨L+1,nmF P h,am,k,r,tn,s',rfl,ham2,fun x m H3 s3 hx hm3 ⟨dx3,ex⟩ em=>?_⟩
 have ho3:=s3 _ _ ho2
 have hd3:=s3 _ _ hd2
 have nxd:x≠hd:=(qa2 hd2 hx).symm
 have nmd:m≠hd:=(qa2 hd2 hm3).symm
 left
 refine r_dpI hd3 (by unfold stK;rw [zB];show _ < 16777216;omega) ?_
 have er:(⟨rOf (L+1) h k f r s',x,m,tn⟩:Ob).R.n=L+1:=rfl
 have ek:=stK_put hS.nu er
 rw [ek]
 have ho4:upd H3 hd (.dK (stK (bs++ [⟨rOf (L+1) h k f r s',x,m,tn⟩]))) so=some (.ins d.w00 dx [("tree",V.ref t),("holds",.ref hd),("last",.int (L+1))]):=by rw [qa6 nhs.symm];exact ho3
 left
 refine q ⟨rOf (L+1) h k f r s',x,m,tn⟩ _ ⟨⟨dx,?_⟩,qa1,fun b hb=>?_,hS.nu.snoc L0 er,by rw [zL];show _+1<=60;omega⟩ (fun b hb=>?_) (fun b o hb hn=>?_) (fr _ hx) (fr _ hm3) rfl rfl
 .exact ho4
 .rcases zN.mp hb with hb|hb
  .have h3:=(hB2 b hb).same s3
   refine h3.put (fun z=>?_) (hm b hb)
   obtain⟨_,e⟩:=h3.obj
   rw [z,hd3] at e;cases e
  .rw [zH.mp hb]
   exact⟨⟨dx3,by rw [qa6 nxd];exact ex⟩,by rw [qa6 nmd];exact em,hA,hI,by show h < _;rw [hW.nn];exact hn⟩
 .rcases zN.mp hb with hb|hb
  .exact hm b hb
  .rw [zH.mp hb];exact nmd
 .have n3':b≠hd:=fun z=>hn (by rw [z];exact zF _ (zC ..))
  rw [qa6 n3']
  exact s3 _ _ (sb2 b o hb hn)
def wib (K:Frag) (d:Ad):Sp:=fun vs H Q _=>∃c:Int,vs=[.int c]/\∀t:Option Int,(∀k,t=some k->1<=k)->Q (tV t) H
include T in
theorem whu:FnOk P w K mg base CX0 2 d.wf1 d.wci ["_law_cell_here"] (wib K d):=by
 refine T.wgk.ok wg3 (fun vs H Q E h=>?_) (fun cdv A outer s H vs Q E hr h=>?_)
 .obtain⟨c,rfl,_⟩:=h;rfl
 obtain⟨c,rfl,q⟩:=h
 refine⟨_,(qa4 (qag (i:=1) wg3.nd rfl (Or.inl rfl) (qab ((w0l T).mono (by decide)) hr rfl T.w1f T.w18.kp T.w1e .nil qaf (qa0 (pv 0) (qa0 qa7 (qa0 qa7 qa3)))))
  (qa4 (qay (qal op_lt (pv 1) qa7 (qap _)) (qa5 (qae qck)) qam)
  (qa4 (qay (qal op_lt (pv 1) qa7 (qap _)) (qa5 (qae (qar qb8 qa7 (qab ((w0l T).mono (by decide)) hr rfl T.w1f T.w18.kp T.w1e .nil qaf (qa0 (pv 0) (qa0 qa7 (qa0 qa7 qa3))))))) qam)
  (qa5 (qae (qar qb8 qa7 (qab ((w0l T).mono (by decide)) hr rfl T.w1f T.w18.kp T.w1e .nil qaf (qa0 (pv 0) (qa0 qa7 (qa0 qa7 qa3)))))))))),?_⟩
 walk_at "d"
 refine qac (σ:=[some (.int c),none]) rfl ?_
 left
 refine qbl (by decide) (by decide) (by decide) (by decide) fun r r0 r1=>?_
 clear r0 r1
 left
 refine i_2 (fun c1=>?_) (fun c1=>?_)
 .left
  exact q none fun k e=>by cases e
 left
 refine i_2 (fun c2=>?_) (fun c2=>?_)
 .left
  refine qbl (by decide) (by decide) (by decide) (by decide) fun r2 a0 _=>?_
  left
  exact q (some (1+r2)) fun k e=>by cases e;omega
 .left
  refine qbl (by decide) (by decide) (by decide) (by decide) fun r2 a0 _=>?_
  left
  exact q (some (1+r2)) fun k e=>by cases e;omega
def wfw (K:Frag) (d:Ad):Sp:=fun vs H Q _=>∃i:Int,vs=[.int i]/\Q (.bl true) H
include T in
theorem wa1:FnOk P w K mg base CX0 1 d.wej d.wc1 ["_law_found"] (wfw K d):=by
 refine T.wat.ok whv (fun vs H Q E h=>?_) (fun cdv A outer s H vs Q E hr h=>?_)
 .obtain⟨i,rfl,_⟩:=h;rfl
 obtain⟨i,rfl,q⟩:=h
 refine⟨_,(qa5 (qae (qe0 (qad qb2 rfl T.w08 PyProof.Rows.boot_isinstance (qa0 (pv 0) (qa0 (qbr (v:=.ty "int") rfl T.wj8 PyProof.Rows.boot_int rfl) qa3))) (qdl (pe_not (qad qb2 rfl T.w08 PyProof.Rows.boot_isinstance (qa0 (pv 0) (qa0 (qbr (v:=.ty "bool") rfl T.wft PyProof.Rows.boot_bool rfl) qa3)))))))),?_⟩
 walk_at "d"
 refine qac (σ:=[some (.int i)]) rfl ?_
 left
 exact q
def wg9 (K:Frag) (d:Ad):Sp:=fun vs H Q _=>∃(l:Addr) (k:List (Key × V)) (f:Str->Option Int),vs=[.ref l]/\H l=some (.dK k)/\AD k f/\(∀z n,f z=some n->1<=n)/\∀H',qas H H'->Q (.bl true) H'
include T in
theorem wgc:FnOk P w K mg base CX0 2 d.was d.w8q ["_law_found"] (wg9 K d):=by
 refine T.wdq.ok wbo (fun vs H Q E h=>?_) (fun cdv A outer s H vs Q E hr h=>?_)
 .obtain⟨l,k,f,rfl,_⟩:=h;rfl
 obtain⟨a,kvs,f,rfl,ha,hA,hf,q⟩:=h
 refine⟨_,(qa4 (qay (qbd (qaz (qad qb2 rfl T.w08 PyProof.Rows.boot_isinstance (qa0 (pv 0) (qa0 (qbr (v:=.ty "dict") rfl T.w7q PyProof.Rows.boot_dict rfl) qa3))))) (qa5 (qae qcs)) qam)
  (qa4 (qf0 (qbh PassesOwn.never rfl (qd3 (pv 0)) (qau (i:=1) wbo.nd rfl (Or.inl rfl)) (qa5 (qay (PW.pt (qem (qbd (qaz (qad qb2 rfl T.w08 PyProof.Rows.boot_isinstance (qa0 (pv 1) (qa0 (qbr (v:=.ty "str") rfl T.wgs PyProof.Rows.boot_str rfl) qa3))))) (qem (qbd (qaz (qab ((wa1 T).mono (by decide)) hr rfl T.wc3 T.wat.kp T.wch .nil qaf (qa0 (qb3 (qb9 hr) (pv 0) (pv 1) (fun _ _=>rfl)) qa3)))) (qex (qal op_lt (qb3 (qb9 hr) (pv 0) (pv 1) (fun _ _=>rfl)) qa7 (qap _)))))) (qa5 (qae qcs)) qam))))
  (qa5 (qae qcs)))),?_⟩
 walk_at "d"
 refine qac (σ:=[some (.ref a),none]) rfl ?_
 left
 refine qgi ha fun o=>?_
 refine qfd (fun i σ H'=>H'=upd H a (.frz o (.dK kvs))/\∃w2,σ=[some (.ref a),w2]) ⟨rfl,_,rfl⟩ ?_ ?_ ?_
 .rintro i σ H' _ ⟨rfl,_⟩;exact qa1
 .rintro i k v σ H' hk ⟨rfl,w2,rfl⟩
  obtain⟨z,n,rfl,rfl,hfz,hzi⟩:=hA.at hk
  have hRd:Rd (upd H a (.frz o (.dK kvs))) a (.dK kvs):=.inr ⟨o,qa1⟩
  have hn:=hf z n hfz
  show qfb _ (.str z) _ _ _
  left
  refine⟨n,rfl,?_⟩
  left
  exact⟨rfl,_,rfl⟩
 .rintro σ H' ⟨rfl,w2,rfl⟩
  refine qew (qga qa1 (qch ha)) ?_
  have s2:=qc2 ha (sb_frz (o:=o) ha)
  generalize upd (upd H a (.frz o (.dK kvs))) a (.dK kvs)=H2 at*
  left
  exact q _ s2
def wdk (K:Frag) (d:Ad):Sp:=fun vs H Q _=>∃(b:Ob) (P:PL),vs=[.ref b.o]/\ObAt d H P b/\∀p m H',qas H H'->H p=none->H m=none->H' p=some (.tup [.int b.R.n,.str (nmF P b.R.i),.ref m,.int b.R.r,tV b.t,.bl b.R.s])->H' m=some (.dK b.R.k)->Q (.ref p) H'
include T in
theorem w98:FnOk P w K mg base CX0 2 d.w56 d.w6q ["self"] (wdk K d):=by
 refine T.wfi.ok wds (fun vs H Q E h=>?_) (fun cdv A outer s H vs Q E hr h=>?_)
 .obtain⟨b,P,rfl,_⟩:=h;rfl
 obtain⟨b,P,rfl,hb,q⟩:=h
 refine⟨_,(qa5 (qae (qg0 (qa0 (qaj (pv 0) rfl) (qa0 (qaj (pv 0) rfl) (qa0 (qbs qc5 rfl T.w7q PyProof.Rows.boot_dict (qa0 (qaj (pv 0) rfl) qa3)) (qa0 (qaj (pv 0) rfl) (qa0 (qaj (pv 0) rfl) (qa0 (pe_alt (qbi (pv 0) T.w42 T.w0i ((w2i T).mono (by decide)) hr T.w2s .nil qaf) (qbi (pv 0) T.w3z T.w0h ((w27 T).mono (by decide)) hr T.w2u .nil qaf)) qa3))))))))),?_⟩
 walk_at "d"
 refine qac (σ:=[some (.ref b.o)]) rfl ?_
 obtain⟨dx,hbo⟩:=hb.obj
 obtain⟨cl,n1,n2,n3,n4,n5⟩:=qfp T b.R.s
 have hRm:Rd H b.m (.dK b.R.k):=.inl hb.amt
 cases hs:b.R.s with
 |true=>
  rw [hs,show qe8 d true=d.w0n from rfl] at hbo cl n1 n2 n3 n4 n5
  rw [hs] at q
  unfold fsB at hbo
  left
  rename_i m hm
  refine r_alt1 ?_
  left
  refine⟨_,rfl,?_⟩
  left
  rename_i p hp
  exact q p m _ (qdc (qaa hm _) hp) (by have:=qaa hm (.dK b.R.k);exact this.free hp) hm qa1 (qa8 qa1 hp)
 |false=>
  rw [hs,show qe8 d false=d.w0t from rfl] at hbo cl n1 n2 n3 n4 n5
  rw [hs] at q
  unfold fsB at hbo
  left
  rename_i m hm
  refine r_alt2 ?_
  left
  refine⟨_,rfl,?_⟩
  left
  rename_i p hp
  exact q p m _ (qdc (qaa hm _) hp) (by have:=qaa hm (.dK b.R.k);exact this.free hp) hm qa1 (qa8 qa1 hp)
section
variable {K: Frag} {d: Ad} {H: Hp} {Q: VK} {E: XK}
theorem u_whole {i:Int} (q:Q (.bl true) H):wfw K d [.int i] H Q E:=⟨_,rfl,q⟩
end
def w9o (K:Frag) (d:Ad):Sp:=fun vs H Q _=>∃(so t hd:Addr) (P:PL) (bs:List Ob) (L:Int) (b:Ob),vs=[.ref so,.int b.R.n]/\StAt d H so t hd P bs L/\b∈bs/\Q (.ref b.o) H
include T in
theorem w3d:FnOk P w K mg base (My.CX1 P w) 3 d.w3x d.w3b ["self","number"] (w9o K d):=by
 refine okX T.wa7 w9w (fun vs H Q E h=>?_) (fun cdv A outer s H vs Q E hr h=>?_)
 .obtain⟨so,t,hd,P,bs,L,b,rfl,_⟩:=h;rfl
 obtain⟨so,t,hd,P,bs,L,b,rfl,hS,hb,q⟩:=h
 refine⟨_,(qa4 (qay (qbd (qaz (qgm (pv 0) T.w01 T.w1i ((w71 T).mono (by decide)) hr T.w84 .nil qaf (qa0 (pv 1) qa3)))) (qa5 (qc3 rfl T.wi1 rfl T.whr qao (qa0 qcr qa3))) qam)
  (qa5 (qae (qb3 (qb9 hr) (qaj (pv 0) rfl) (pv 1) (fun _ _=>rfl))))),?_⟩
 walk_at "d"
 refine qac (σ:=[some (.ref so),some (.int b.R.n)]) rfl ?_
 have cs:=T.w01
 have n2:qak K d.w00 "holds":=T.w06
 obtain⟨dx,ho⟩:=hS.obj
 have hv:=qea hS.nu hb
 left
 refine⟨so,t,hd,P,bs,L,_,rfl,hS,.inl ⟨b.R.n,rfl,?_⟩⟩
 rw [show hasB bs b.R.n=true from yV.mpr ⟨b,hb,decide_eq_true rfl⟩]
 left
 refine r_dgI (.inl hS.hds) hv ?_
 left
 exact q
def wca (K:Frag) (d:Ad):Sp:=fun vs H Q _=>∃(so t hd:Addr) (P:PL) (bs:List Ob) (L:Int) (b:Ob),vs=[.ref so,.int b.R.n]/\StAt d H so t hd P bs L/\b∈bs/\∀p m H',qas H H'->H p=none->H m=none->H' p=some (.tup [.int b.R.n,.str (nmF P b.R.i),.ref m,.int b.R.r,tV b.t,.bl b.R.s])->H' m=some (.dK b.R.k)->Q (.ref p) H'
include T in
theorem w86:FnOk P w K mg base (My.CX1 P w) 4 d.w6j d.w5c ["self","number"] (wca K d):=by
 refine okX T.wd8 wc0 (fun vs H Q E h=>?_) (fun cdv A outer s H vs Q E hr h=>?_)
 .obtain⟨so,t,hd,P,bs,L,b,rfl,_⟩:=h;rfl
 obtain⟨so,t,hd,P,bs,L,b,rfl,hS,hb,q⟩:=h
 refine⟨_,(qa5 (qae (pe_alt (qbi (qai (pv 0) T.w01 T.w0m ((w3d T).mono (by decide)) hr T.w3t .nil qao (qa0 (pv 1) qa3)) T.w42 T.w2z ((w98 T).mono (by decide)) hr T.wax .nil qaf) (qbi (qai (pv 0) T.w01 T.w0m ((w3d T).mono (by decide)) hr T.w3t .nil qao (qa0 (pv 1) qa3)) T.w3z T.w32 ((w98 T).mono (by decide)) hr T.wax .nil qaf)))),?_⟩
 walk_at "d"
 refine qac (σ:=[some (.ref so),some (.int b.R.n)]) rfl ?_
 have cs:=T.w01
 have ch:=T.w42
 have cl:=T.w3z
 obtain⟨dx,ho⟩:=hS.obj
 have hob:=hS.ob b hb
 obtain⟨db,hbo⟩:=hob.obj
 cases hs:b.R.s with
 |true=>
  rw [hs,show qe8 d true=d.w0n from rfl] at hbo
  left
  refine r_alt1 ?_
  left
  refine⟨so,t,hd,P,bs,L,b,rfl,hS,hb,?_⟩
  left
  refine⟨b,P,rfl,hob,fun p m H' s hp hm e1 e2=>?_⟩
  left
  exact q p m H' s hp hm e1 e2
 |false=>
  rw [hs,show qe8 d false=d.w0t from rfl] at hbo
  left
  refine r_alt2 ?_
  left
  refine⟨so,t,hd,P,bs,L,b,rfl,hS,hb,?_⟩
  left
  refine⟨b,P,rfl,hob,fun p m H' s hp hm e1 e2=>?_⟩
  left
  exact q p m H' s hp hm e1 e2
def notN (n:Int) (b:Ob):Bool:=decide (b.R.n≠n)
theorem stK_drop (bs:List Ob) (n:Int):qgy (stK bs) (Sum.inl n)=stK (bs.filter (notN n)):=by
 unfold qgy stK
 rw [List.filter_map]
 congr 1
 refine yS fun b _=>?_
 unfold notN
 show decide ((Sum.inl b.R.n:Key)≠Sum.inl n)=decide (b.R.n≠n)
 exact decide_eq_decide.mpr ⟨fun h e=>h (by rw [e]),fun h e=>h (Sum.inl.inj e)⟩
theorem Nus.filter {bs:List Ob} {L:Int} (nu:Nus bs L) (p:Ob->Bool):Nus (bs.filter p) L:=by
 refine⟨?_,fun b hb=>nu.bd b (zY.mp hb).1⟩
 have h:=nu.up
 rw [List.pairwise_map] at h ⊢
 exact h.sublist List.filter_sublist
def wd1 (K:Frag) (d:Ad):Sp:=fun vs H Q _=>∃(so t hd:Addr) (P:PL) (bs:List Ob) (L:Int) (b:Ob),vs=[.ref so,.int b.R.n]/\StAt d H so t hd P bs L/\b∈bs/\(∀x∈bs,x.m≠hd)/\
 ∀p m H',SB [hd] H H'->H p=none->H m=none->H' p=some (.tup [.int b.R.n,.str (nmF P b.R.i),.ref m,.int b.R.r,tV b.t,.bl b.R.s])->H' m=some (.dK b.R.k)->StAt d H' so t hd P (bs.filter (notN b.R.n)) L->Q (.ref p) H'
include T in
theorem w85:FnOk P w K mg base (My.CX1 P w) 5 d.w6c d.w58 ["self","number"] (wd1 K d):=by
 refine okX T.we0 w7n (fun vs H Q E h=>?_) (fun cdv A outer s H vs Q E hr h=>?_)
 .obtain⟨so,t,hd,P,bs,L,b,rfl,_⟩:=h;rfl
 obtain⟨so,t,hd,P,bs,L,b,rfl,hS,hb,hm,q⟩:=h
 refine⟨_,(qa4 (qag (i:=2) w7n.nd rfl (Or.inl rfl) (qai (pv 0) T.w01 T.w1r ((w86 T).mono (by decide)) hr T.w95 .nil qao (qa0 (pv 1) qa3)))
  (qa4 (qat (qdr PySem.F.plainAttrs_dict PySem.F.slot_dict_pop PySem.F.type_dict_pop mt_dpopI (qaj (pv 0) rfl) (qa0 (pv 1) qa3)))
  (qa5 (qae (pv 2))))),?_⟩
 walk_at "d"
 refine qac (σ:=[some (.ref so),some (.int b.R.n),none]) rfl ?_
 have cs:=T.w01
 have n2:qak K d.w00 "holds":=T.w06
 obtain⟨dx,ho⟩:=hS.obj
 left
 refine⟨so,t,hd,P,bs,L,b,rfl,hS,hb,fun p m H1 s1 hp hm1 ep em=>?_⟩
 have hS1:=hS.same s1
 have ho1:=s1 _ _ ho
 have hd1:=hS1.hds
 have hv:=qea hS.nu hb
 left
 refine r_dpopI hd1 hv ?_
 rw [stK_drop]
 left
 have nph:p≠hd:=(qa2 hS.hds hp).symm
 have nmh:m≠hd:=(qa2 hS.hds hm1).symm
 have nsh:so≠hd:=fun z=>by rw [z,hd1] at ho1;cases ho1
 refine q p m _ (fun x o e n=>?_) hp hm1 (by rw [qa6 nph];exact ep) (by rw [qa6 nmh];exact em) ⟨⟨dx,by rw [qa6 nsh];exact ho1⟩,qa1,fun x hx=>?_,hS.nu.filter _,Nat.le_trans (zW ..) hS.l63⟩
 .rw [qa6 (fun z=>n (by rw [z];exact zC ..))];exact s1 _ _ e
 .have hx:=(zY.mp hx).1
  have g:=hS1.ob x hx
  refine g.put (fun z=>?_) (hm x hx)
  obtain⟨_,e⟩:=g.obj
  rw [z,hd1] at e;cases e
def wga (K:Frag) (d:Ad):Sp:=fun vs H Q _=>∃(b:Ob) (P:PL) (a:Addr) (k:List (Key × V)) (t:Option Int) (s:Bool),vs=[.ref b.o,.ref a,tV t,.bl s]/\ObAt d H P b/\H a=some (.dK k)/\∀x m H',qas H H'->H x=none->H m=none->(∃dx,H' x=some (.ins (qe8 d s) dx (fsB b.R.n (nmF P b.R.i) m b.R.r t)))->H' m=some (.dK k)->Q (.ref x) H'
include T in
theorem w8s:FnOk P w K mg base CX0 4 d.wai d.w8n ["hold","amounts","turns","sure"] (wga K d):=by
 refine T.w7s.ok wgf (fun vs H Q E h=>?_) (fun cdv A outer s H vs Q E hr h=>?_)
 .obtain⟨b,P,a,k,t,s,rfl,_⟩:=h;rfl
 obtain⟨b,P,a,k,t,s',rfl,hb,ha,q⟩:=h
 refine⟨_,(qa5 (qae (qab ((wh1 T).mono (by decide)) hr rfl T.wim T.wgz.kp T.wig .nil qaf (qa0 (qaj (pv 0) rfl) (qa0 (qaj (pv 0) rfl) (qa0 (pv 1) (qa0 (qaj (pv 0) rfl) (qa0 (pv 2) (qa0 (pv 3) qa3))))))))),?_⟩
 walk_at "d"
 refine qac (σ:=[some (.ref b.o),some (.ref a),some (tV t),some (.bl s')]) rfl ?_
 obtain⟨dx,hbo⟩:=hb.obj
 obtain⟨cl,n1,n2,n3,n4,n5⟩:=qfp T b.R.s
 unfold fsB at hbo
 left
 refine⟨b.R.n,nmF P b.R.i,a,k,b.R.r,t,s',rfl,ha,fun x m H1 s1 hx hm ex em=>?_⟩
 left
 exact q x m H1 s1 hx hm ex em
def qcj (bs:List Ob) (b':Ob):List Ob:=bs.map fun x=>if x.R.n=b'.R.n then b' else x
theorem qgg {bs:List Ob} {b':Ob} {L:Int} (nu:Nus bs L) {b:Ob} (hb:b∈bs) (en:b.R.n=b'.R.n):qco (stK bs) (Sum.inl b'.R.n) (.ref b'.o)=stK (qcj bs b'):=by
 unfold qco
 rw [if_pos (by rw [L2.qc6,<-en,qea nu hb];rfl)]
 unfold stK qcj
 rw [yQ,yQ]
 refine yO fun x _=>?_
 show (if (Sum.inl x.R.n:Key)=Sum.inl b'.R.n then ((Sum.inl x.R.n:Key),V.ref b'.o) else (Sum.inl x.R.n,V.ref x.o))=(Sum.inl (if x.R.n=b'.R.n then b' else x).R.n,V.ref (if x.R.n=b'.R.n then b' else x).o)
 by_cases c:x.R.n=b'.R.n
 .rw [if_pos (by rw [c]),if_pos c,c]
 .rw [if_neg (fun e=>c (Sum.inl.inj e)),if_neg c]
theorem repl_n (bs:List Ob) (b':Ob):(qcj bs b').map (fun b=>b.R.n)=bs.map fun b=>b.R.n:=by
 unfold qcj
 rw [yQ]
 refine yO fun x _=>?_
 show (if x.R.n=b'.R.n then b' else x).R.n=x.R.n
 by_cases c:x.R.n=b'.R.n
 .rw [if_pos c,c]
 .rw [if_neg c]
theorem qd2 {bs:List Ob} {b' x:Ob} (h:x∈qcj bs b'):x=b'\/x∈bs:=by
 obtain⟨y,hy,e⟩:=zJ.mp h
 by_cases c:y.R.n=b'.R.n
 .rw [if_pos c] at e;exact .inl e.symm
 .rw [if_neg c] at e;exact .inr (e ▸ hy)
theorem Nus.repl {bs:List Ob} {L:Int} (nu:Nus bs L) {b b':Ob} (hb:b∈bs) (en:b.R.n=b'.R.n):Nus (qcj bs b') L:=by
 refine⟨by rw [repl_n];exact nu.up,fun x hx=>?_⟩
 rcases qd2 hx with h|h
 .rw [h,<-en];exact nu.bd b hb
 .exact nu.bd x h
theorem StAt.swap {d:Ad} {H:Hp} {so t hd:Addr} {P:PL} {bs bs':List Ob} {L:Int} (h:StAt d H so t hd P bs L) (hm:∀x∈bs,x.m≠hd) (hb:∀b∈bs',b∈bs\/(ObAt d H P b/\b.o≠hd/\b.m≠hd)) (nu:Nus bs' L) (l:bs'.length<=60):StAt d (upd H hd (.dK (stK bs'))) so t hd P bs' L:=by
 obtain⟨dx,ho⟩:=h.obj
 have hds:=h.hds
 have nsh:so≠hd:=fun z=>by rw [z,hds] at ho;cases ho
 refine⟨⟨dx,by rw [qa6 nsh];exact ho⟩,qa1,fun b hbm=>?_,nu,l⟩
 rcases hb b hbm with g|⟨g,n1,n2⟩
 .have g':=h.ob b g
  refine g'.put (fun z=>?_) (hm b g)
  obtain⟨_,e⟩:=g'.obj
  rw [z,hds] at e;cases e
 .exact g.put n1 n2
def wab (K:Frag) (d:Ad):Sp:=fun vs H Q _=>∃(so t hd am:Addr) (P:PL) (bs:List Ob) (L:Int) (b:Ob) (k:List (Key × V)) (f:Str->Option Int),vs=[.ref so,.int b.R.n,.ref am,.bl false]/\StAt d H so t hd P bs L/\(∀x∈bs,x.m≠hd)/\am≠hd/\H am=some (.dK k)/\AD k f/\InW P.ws f/\b∈bs/\
 ∀(b':Ob) H',StAt d H' so t hd P (qcj bs b') L->(∀x∈qcj bs b',x.m≠hd)->SB [hd] H H'->H b'.o=none->H b'.m=none->b'.t=b.t->b'.R=rOf b.R.n b.R.i k f b.R.r false->Q .non H'
include T in
theorem waq:FnOk P w K mg base (My.CX1 P w) 23 d.w4k d.w44 ["self","number","amounts","sure"] (wab K d):=by
 refine okX T.wbk w6p (fun vs H Q E h=>?_) (fun cdv A outer s H vs Q E hr h=>?_)
 .obtain⟨so,t,hd,am,P,bs,L,b,k,f,rfl,_⟩:=h;rfl
 obtain⟨so,t,hd,am,P,bs,L,b,k,f,rfl,hS,hm,nam,ham,hA,hI,hb,q⟩:=h
 refine⟨_,(qa4 (qag (i:=4) w6p.nd rfl (Or.inl rfl) (qai (pv 0) T.w01 T.w0m ((w3d T).mono (by decide)) hr T.w3t .nil qao (qa0 (pv 1) qa3)))
  (qa4 (qc0 (qay (qaz (pv 3)) (qa5 (qat (qai (pv 0) T.w01 T.w0g ((w3w T).mono (by decide)) hr T.w4c .nil qao (qa0 (qaj (pv 4) rfl) (qa0 (pv 2) (qa0 (pv 1) qa3)))))) qam))
  (qa5 (qc4 (qb9 hr) (qaj (pv 0) rfl) (pv 1) (qab ((w8s T).mono (by decide)) hr rfl T.wa9 T.w7s.kp T.wao .nil qaf (qa0 (pv 4) (qa0 (pv 2) (qa0 (qaj (pv 4) rfl) (qa0 (pv 3) qa3))))) rfl)))),?_⟩
 walk_at "d"
 refine qac (σ:=[some (.ref so),some (.int b.R.n),some (.ref am),some (.bl false),none]) rfl ?_
 have cs:=T.w01
 have n2:qak K d.w00 "holds":=T.w06
 obtain⟨dx,ho⟩:=hS.obj
 have hob:=hS.ob b hb
 obtain⟨db,hbo⟩:=hob.obj
 obtain⟨cl,m1,m2,m3,m4,m5⟩:=qfp T b.R.s
 unfold fsB at hbo
 left
 refine⟨so,t,hd,P,bs,L,b,rfl,hS,hb,?_⟩
 left
 refine qbz ?_
 left
 refine⟨b,P,am,k,b.t,false,rfl,hob,ham,fun x m H2 t2 hx hm2 ex em=>?_⟩
 have ho2:=t2 _ _ ho
 have hd2:=t2 _ _ hS.hds
 have nxd:x≠hd:=(qa2 hS.hds hx).symm
 have nmd:m≠hd:=(qa2 hS.hds hm2).symm
 have l60:=hS.l63
 left
 refine r_dpI hd2 (by unfold stK;rw [zB];show _ < 16777216;omega) ?_
 have ek:=qgg hS.nu hb (b':=⟨rOf b.R.n b.R.i k f b.R.r false,x,m,b.t⟩) rfl
 have ek:qco (stK bs) (Sum.inl b.R.n) (.ref x)=stK (qcj bs ⟨rOf b.R.n b.R.i k f b.R.r false,x,m,b.t⟩):=ek
 rw [ek]
 left
 refine q ⟨rOf b.R.n b.R.i k f b.R.r false,x,m,b.t⟩ _ ((hS.same t2).swap hm (fun y hy=>?_) (hS.nu.repl hb rfl) (by unfold qcj;rw [zB];exact l60)) (fun y hy=>?_) (fun y o e nn=>?_) hx hm2 rfl rfl
 .rcases qd2 hy with h|h
  .rw [h]
   exact .inr ⟨⟨ex,em,hA,hI,hob.il⟩,nxd,nmd⟩
  .exact .inl h
 .rcases qd2 hy with h|h
  .rw [h];exact nmd
  .exact hm y h
 .rw [qa6 (fun z=>nn (by rw [z];exact zC ..))];exact t2 _ _ e
structure Lr where
 a:Addr
 m:Addr
 n:Int
 i:Nat
 k:List (Key × V)
 f:Str->Option Int
 u:V
 v:V
 s:Bool
structure LrAt (H:Hp) (P:PL) (r:Lr):Prop where
 tup:H r.a=some (.tup [.int r.n,.str (nmF P r.i),.ref r.m,r.u,r.v,.bl r.s])
 dic:H r.m=some (.dK r.k)
 ad:AD r.k r.f
 inw:InW P.ws r.f
 pos:∀z n,r.f z=some n->1<=n
 il:r.i < P.nm.length
theorem LrAt.same {H H':Hp} {P:PL} {r:Lr} (h:LrAt H P r) (s:qas H H'):LrAt H' P r:=⟨s _ _ h.tup,s _ _ h.dic,h.ad,h.inw,h.pos,h.il⟩
def rwV (rs:List Lr):List V:=rs.map fun r=> .ref r.a
def lrPt (r:Lr):Pt:=⟨r.m,r.k,r.f⟩
theorem sumF_snoc (ts:List Pt) (t:Pt):qc1 (ts++ [t])=qd7 (qc1 ts) t.f:=by unfold qc1;rw [List.foldl_append];rfl
theorem sumL_sup {H:Hp} {P:PL} {rs:List Lr} (h:∀r∈rs,LrAt H P r):InW P.ws (qc1 (rs.map lrPt)):=qgd _ _ (fun z hz=>absurd rfl hz) fun t ht z hz=>by
 obtain⟨b,hb,rfl⟩:=zJ.mp ht
 exact(h b hb).inw z hz
def wjs (K:Frag) (d:Ad):Sp:=fun vs H Q _=>∃(lr:Addr) (P:PL) (rs:List Lr),vs=[.ref lr]/\H lr=some (.lst (rwV rs))/\(∀r∈rs,LrAt H P r)/\P.ws.length<=3/\∀l k H',qas H H'->H l=none->H' l=some (.dK k)->AD k (qc1 (rs.map lrPt))->Q (.ref l) H'
include T in
theorem wik:FnOk P w K mg base CX0 2 d.wjm d.whg ["_law_rows"] (wjs K d):=by
 refine T.wji.ok wfz (fun vs H Q E h=>?_) (fun cdv A outer s H vs Q E hr h=>?_)
 .obtain⟨lr,P,rs,rfl,_⟩:=h;rfl
 obtain⟨lr,P,rs,rfl,hL,hR,w3,q⟩:=h
 refine⟨_,(qa4 (qag (i:=1) wfz.nd rfl (Or.inl rfl) qc7)
  (qa4 (qbh PassesOwn.never rfl (qb6 (pv 0)) (qau (i:=2) wfz.nd rfl (Or.inl rfl)) (qa5 (qag (i:=1) wfz.nd rfl (Or.inl rfl) (qab ((wh6 T).mono (by decide)) hr rfl T.wif T.wgt.kp T.wic .nil qaf (qa0 (pv 1) (qa0 (qaq qav (pv 2) qa7 (fun _ _=>rfl)) qa3))))))
  (qa5 (qae (pv 1))))),?_⟩
 walk_at "d"
 refine qac (σ:=[some (.ref lr),none,none]) rfl ?_
 left
 rename_i l0 hl0
 have s0:=qaa hl0 (.dK [])
 have e0:upd H l0 (.dK []) l0=some (.dK []):=qa1
 generalize upd H l0 (.dK [])=H0 at*
 have eL0:=s0 _ _ hL
 left
 refine qdn (xs:=rwV rs) (fun i σ H'=>∃(l:Addr) (k:List (Key × V)) (w:Option V),σ=[some (V.ref lr),some (V.ref l),w]/\qas H H'/\H l=none/\H' l=some (.dK k)/\AD k (qc1 ((rs.take i).map lrPt))) ⟨l0, [],_,rfl,s0,hl0,e0,AD.nil⟩ ?_ ?_ ?_
 .rintro i σ H' _ ⟨l,k,w,_,sm,_⟩;exact SqL.of (sm _ _ hL)
 .rintro i v σ H' hv ⟨l,k,w,rfl,sm,hl,el,hA⟩
  have hi:i < rs.length:=by have:=(List.getElem?_eq_some_iff.mp hv).1;unfold rwV at this;rw [zB] at this;exact this
  have er:=zA hi
  have hrm:=zQ hi
  have tk:rs.take (i+1)=rs.take i++ [rs[i]]:=by rw [zT,er];rfl
  generalize rs[i]=r at*
  have hv:V.ref r.a=v:=by
   unfold rwV at hv
   rw [zD,er] at hv
   exact Option.some.inj hv
  subst hv
  have hrw:=(hR r hrm).same sm
  have hr1:=hrw.tup
  have kl:=hA.le (sumL_sup (H:=H) (P:=P) fun x hx=>hR x (List.mem_of_mem_take hx))
  have kl2:=hrw.ad.le hrw.inw
  clear eL0 e0 s0
  left
  refine⟨l,r.m,k,r.k,_,r.f,rfl,el,hA,hrw.dic,hrw.ad,by omega,by omega,fun l2 k2 f2 H2 s2 hl2 el2 hA2 _ _ hf2=>?_⟩
  left
  refine⟨l2,k2,_,rfl,sm.trans s2,sm.free hl2,el2,?_⟩
  rw [tk,zG]
  show AD k2 (qc1 ((rs.take i).map lrPt++ [lrPt r]))
  rw [sumF_snoc]
  exact hA2.cast hf2
 rintro σ H' ⟨l,k,w,rfl,sm,hl,el,hA⟩
 have e:(rwV rs).length=rs.length:=zB _
 rw [e,zZ] at hA
 left
 exact q l k H' sm hl el hA
def butL:V->Int->Bool
 | .int m=>fun n=>decide (n≠m)
 |_=>fun _=>true
def qfk (h:Nat) (m:V) (r:Lr):Bool:=decide (r.i=h) && (r.s && butL m r.n)
def qcc (rs:List Lr) (h:Nat) (m:V):Str->Option Int:=qc1 ((rs.filter (qfk h m)).map lrPt)
def shV (rs:List Lr) (h:Nat) (m:V) (f fp:Str->Option Int) (z:Str):Prop:=f z≠none/\gN fp z < gN (qcc rs h m) z+gN f z
def wi8 (K:Frag) (d:Ad):Sp:=fun vs H Q _=>∃(lr a b:Addr) (P:PL) (rs:List Lr) (h:Nat) (m:V) (k kp:List (Key × V)) (f fp:Str->Option Int),vs=[.ref lr,.str (nmF P h),.ref a,.ref b,m]/\((∃x:Int,m=.int x)\/m=.non)/\H lr=some (.lst (rwV rs))/\(∀r∈rs,LrAt H P r)/\rs.length<=60/\P.ws.length<=3/\(∀i j,i < P.nm.length->j < P.nm.length->nmF P i=nmF P j->i=j)/\h < P.nm.length/\H a=some (.dK k)/\AD k f/\InW P.ws f/\H b=some (.dK kp)/\AD kp fp/\
 ∀l ss H',qas H H'->H l=none->H' l=some (.lst (ss.map V.str))->PyProof.Rows.sortedS ss=true->(∀z,z∈ss↔shV rs h m f fp z)->Q (.ref l) H'
include T in
theorem wg4:FnOk P w K mg base CX0 3 d.weo d.wc9 ["_law_rows","_law_name","_law_parts_here","_law_promise","_law_but"] (wi8 K d):=by
 refine T.wfj.ok wfu (fun vs H Q E h=>?_) (fun cdv A outer s H vs Q E hr h=>?_)
 .obtain⟨lr,a,b,P,rs,h,m,k,kp,f,fp,rfl,_⟩:=h;rfl
 obtain⟨lr,a,b,P,rs,h,m,k,kp,f,fp,rfl,hm0,hL,hR,l60,w3,inj,hh,ha,hA,hI,hb,hB,q⟩:=h
 refine⟨_,(qa4 (qag (i:=5) wfu.nd rfl (Or.inr rfl) (qab ((wik T).mono (by decide)) hr rfl T.wk6 T.wji.kp T.wjp .nil qaf (qa0 (qcd (caps:=[1,4]) (cn:=["_law_name","_law_but"]) (qbm rfl rfl (by rfl) (by rfl) rfl ⟨rfl,⟨rfl,trivial⟩⟩ (by rfl) rfl ⟨⟨rfl,rfl,rfl,rfl,_,rfl⟩,⟨⟨rfl,rfl,rfl,rfl,_,rfl⟩,trivial⟩⟩ (by decide)) rfl (qb6 (pv 0)) (fun _ _ _ _=>(qej (PW.pt (qez (qal qee (qaq qav (pv 0) qa7 (fun _ _=>rfl)) (pv 1) (qap _)) (qez (qaz (qaq qav (pv 0) qa7 (fun _ _=>rfl))) (qey (qal op_ne (qaq qav (pv 0) qa7 (fun _ _=>rfl)) (pv 2) (qap _)))))))) (fun _ _ _ _=>(pv 0))) qa3)))
  (qa5 (qae (qad qeh rfl T.w87 PyProof.Rows.boot_sorted (qa0 (pe_thV (qcd (caps:=[2,3,5]) (cn:=["_law_parts_here","_law_promise","_law_have"]) (qbm rfl rfl (by rfl) (by rfl) rfl ⟨rfl,⟨rfl,⟨rfl,trivial⟩⟩⟩ (by rfl) rfl ⟨⟨rfl,rfl,rfl,rfl,_,rfl⟩,⟨⟨rfl,rfl,rfl,rfl,_,rfl⟩,⟨⟨rfl,rfl,rfl,rfl,_,rfl⟩,trivial⟩⟩⟩ (by decide)) rfl (qd3 (pv 2)) (fun _ _ _ _=>(qej (qal qf6 (qar qb8 (qdz (qb9 hr) (pv 3) (pv 0) qa7 ⟨rfl,rfl,rfl,rfl⟩) (qb3 (qb9 hr) (pv 1) (pv 0) (fun _ _=>rfl))) (qdz (qb9 hr) (pv 2) (pv 0) qa7 ⟨rfl,rfl,rfl,rfl⟩) (qap _)))) (fun _ _ _ _=>(pv 0)))) qa3))))),?_⟩
 walk_at "d"
 try dsimp only [cxC]
 refine qac (σ:=[some (.ref lr),some (.str (nmF P h)),some (.ref a),some (.ref b),some (m),none]) rfl ?_
 left
 intro C s0 H0 fp0 acc hacc
 refine c_by rs.length (fun i H'=>H'=upd H acc (.lst (rwV ((rs.take i).filter (qfk h m))))) rfl ?_ ?_ ?_ ?_
 .rintro i H' hi rfl
  exact⟨_,.ref rs[i].a,SqL.of (qa8 hL hacc),by unfold rwV;rw [zD,zA hi];rfl⟩
 .rintro H' rfl
  exact⟨_,SqL.of (qa8 hL hacc),by unfold rwV;rw [zB];exact Nat.le_refl _⟩
 .rintro i H' v H'' hi rfl ⟨rfl,hyv⟩
  have hv:=hyv _ (SqL.of (qa8 hL hacc))
  unfold rwV at hv
  rw [zD,zA hi] at hv
  cases hv
  have hrw:=hR _ (zQ hi)
  have tk:rs.take (i+1)=rs.take i++ [rs[i]]:=by rw [zT,zA hi];rfl
  generalize rs[i]=r at*
  have hr1:=qa8 (o':=.lst (rwV ((rs.take i).filter (qfk h m)))) hrw.tup hacc
  have ein:(nmF P r.i=nmF P h)=(r.i=h):=propext ⟨fun e=>inj _ _ hrw.il hh e,fun e=>by rw [e]⟩
  have zl:(rwV ((rs.take i).filter (qfk h m))).length < sizeLine:=by
   unfold rwV
   rw [zB]
   have h1:=zW (qfk h m) (rs.take i)
   rw [zS] at h1
   show _ < 16777216
   omega
  have no:qfk h m r=false->(rs.take (i+1)).filter (qfk h m)=(rs.take i).filter (qfk h m):=fun e=>by
   rw [tk,yB,zU,if_neg (by rw [e];exact Bool.false_ne_true),yT,yA]
  left
  simp only [ein]
  by_cases c1:r.i=h
  .rw [decide_eq_true c1]
   left
   cases c2:r.s with
   |true=>
    rw [c2] at hr1
    left
    refine⟨by rcases hm0 with ⟨x,rfl⟩ |rfl <;> rfl,?_⟩
    have ed:(!decide (V.int r.n=m))=butL m r.n:=by
     rcases hm0 with ⟨x,rfl⟩ |rfl
     .show (!decide (V.int r.n=V.int x))=decide (r.n≠x)
      by_cases c:r.n=x
      .rw [c,decide_eq_true rfl,decide_eq_false (not_not_intro rfl)];rfl
      .rw [decide_eq_false (fun e=>c (V.int.inj e)),decide_eq_true c];rfl
     .rfl
    rw [ed]
    cases c3:butL m r.n with
    |false=>
     left
     rw [no (by unfold qfk;rw [c2,c3,decide_eq_true c1];rfl)]
    |true=>
     left
     rw [qbe,tk,yB,zU,if_pos (show qfk h m r=true by unfold qfk;rw [c2,c3,decide_eq_true c1];rfl),yT]
     unfold rwV
     rw [zG];rfl
   |false=>
    rw [c2] at hr1
    left
    rw [no (by unfold qfk;rw [c2];simp)]
  .rw [decide_eq_false c1]
   left
   rw [no (by unfold qfk;rw [decide_eq_false c1];rfl)]
 rintro H' rfl
 rw [zZ]
 have s1:=qaa hacc (.lst (rwV (rs.filter (qfk h m))))
 have e1:upd H acc (.lst (rwV (rs.filter (qfk h m)))) acc=some (.lst (rwV (rs.filter (qfk h m)))):=qa1
 generalize upd H acc (.lst (rwV (rs.filter (qfk h m))))=H1 at*
 left
 refine⟨acc,P,_,rfl,e1,fun r hr=>(hR r (zY.mp hr).1).same s1,w3,fun lh kh H2 s2 hlh elh hAh=>?_⟩
 have t2:=s1.trans s2
 have ha2:=t2 _ _ ha
 have hb2:=t2 _ _ hb
 have flh:H lh=none:=s1.free hlh
 have nah:lh≠a:=(qa2 ha flh).symm
 have kl:=hA.le hI
 clear s2 e1 hacc
 left
 refine r_thV ?_
 left
 refine qgi ha2 fun o=>?_
 intro C s0 H0 fp0 acc2 hacc
 have hF:upd H2 a (.frz o (.dK k)) a=some (.frz o (.dK k)):=qa1
 have elh2:upd H2 a (.frz o (.dK k)) lh=some (.dK kh):=by rw [qa6 nah];exact elh
 have hb3:Rd (upd H2 a (.frz o (.dK k))) b (.dK kp):=by
  by_cases c:b=a
  .have e:k=kp:=by rw [c,ha2] at hb2;injection hb2 with hb2;injection hb2
   rw [c,<-e];exact .inr ⟨o,qa1⟩
  .exact .inl (by rw [qa6 c];exact hb2)
 have sb:SameBut a H2 (upd H2 a (.frz o (.dK k))):=sb_frz ha2
 have hac0:H2 acc2=none:=by
  by_cases z:acc2=a
  .subst z;rw [hF] at hacc;cases hacc
  .rw [qa6 z] at hacc;exact hacc
 have hkeys:=hA.keys
 have hkl:=hA.klen
 generalize upd H2 a (.frz o (.dK k))=HF at*
 refine c_by k.length (fun i H'=>∃ss:List Str,H'=upd HF acc2 (.lst (ss.map V.str))/\ss.length<=i/\∀z,z∈ss↔z∈(qda k).take i/\gN fp z < gN (qcc rs h m) z+gN f z) ⟨[],rfl,Nat.le_refl _,fun z=>by simp⟩ ?_ ?_ ?_ ?_
 .rintro i H' hi ⟨ss,rfl,_⟩
  exact⟨qa8 hF hacc,hi⟩
 .rintro H' ⟨ss,rfl,_⟩
  exact⟨qa8 hF hacc,Nat.le_refl _⟩
 .rintro i H' v H'' hi ⟨ss,rfl,hsl,hss⟩ ⟨rfl,kk,v',hk,rfl⟩
  obtain⟨z,x,rfl,rfl,hf,hz⟩:=hA.at hk
  have tk:(qda k).take (i+1)=(qda k).take i++ [z]:=by rw [zT,hz];rfl
  have hRa:Rd (upd HF acc2 (.lst (ss.map V.str))) a (.dK k):=qev (.inr ⟨o,hF⟩) hacc
  have hRh:Rd (upd HF acc2 (.lst (ss.map V.str))) lh (.dK kh):=.inl (qa8 elh2 hacc)
  have hRb:Rd (upd HF acc2 (.lst (ss.map V.str))) b (.dK kp):=qev hb3 hacc
  have zl:(ss.map V.str).length < sizeLine:=by rw [zB];show _ < 16777216;omega
  have gz:gN f z=x:=by unfold gN;rw [hf];rfl
  have hAh':AD kh (qcc rs h m):=hAh
  rw [show kV (Sum.inr z:Key)=V.str z from rfl]
  left
  refine i_2 (fun c=>?_) (fun c=>?_)
  .left
   refine⟨ss++ [z],by rw [qbe,zG];rfl,by rw [zL,yE];omega,fun y=>?_⟩
   rw [zN,hss y,tk,zN,zH]
   refine⟨fun hy=>?_,fun hy=>?_⟩
   .rcases hy with hy|hy
    .exact⟨.inl hy.1,hy.2⟩
    .rw [hy,gz];exact⟨.inr rfl,by omega⟩
   .rcases hy.1 with hy1|hy1
    .exact .inl ⟨hy1,hy.2⟩
    .exact .inr hy1
  .refine⟨ss,rfl,by omega,fun y=>?_⟩
   rw [hss y,tk,zN,zH]
   refine⟨fun hy=>⟨.inl hy.1,hy.2⟩,fun hy=>?_⟩
   rcases hy.1 with hy1|hy1
   .exact⟨hy1,hy.2⟩
   .have:=hy.2
    rw [hy1,gz] at this
    omega
 rintro H' ⟨ss,rfl,hsl,hss⟩
 have nns:acc2≠a:=fun z=>by subst z;rw [hF] at hacc;cases hacc
 have eN:upd (upd HF acc2 (.lst (ss.map V.str))) a (.dK k) acc2=some (.lst (ss.map V.str)):=by rw [qa6 nns];exact qa1
 have sm:qas H2 (upd (upd HF acc2 (.lst (ss.map V.str))) a (.dK k)):=qc2 ha2 (qfy sb hac0)
 refine⟨_,qga (qa8 hF hacc) (qch ha),?_⟩
 show tNil _ (upd (upd HF acc2 (.lst (ss.map V.str))) a (.dK k)) _
 generalize upd (upd HF acc2 (.lst (ss.map V.str))) a (.dK k)=H3 at*
 left
 refine r_sortL (SqL.of eN) (by omega) fun l ss' hl hp hs=>?_
 left
 have t3:=t2.trans sm
 refine q l ss' _ (qdc t3 hl) (t3.free hl) qa1 hs fun z=>?_
 rw [hp.mem_iff,hss z,List.take_of_length_le (by omega),hA.kin z]
 exact Iff.rfl
structure Co where
 n:Int
 i:Nat
 f:Str->Option Int
 s:Bool
def bCo (b:Ob):Co:=⟨b.R.n,b.R.i,b.R.f,b.R.s⟩
def rCo (r:Lr):Co:=⟨r.n,r.i,r.f,r.s⟩
def sumC (cs:List Co):Str->Option Int:=cs.foldl (fun f c=>qd7 f c.f) noF
theorem sumB (bs:List Ob) (p:Co->Bool):qc1 ((bs.filter fun b=>p (bCo b)).map qcw)=sumC ((bs.map bCo).filter p):=by
 unfold qc1 sumC
 rw [List.filter_map,List.foldl_map,List.foldl_map];rfl
theorem sumRs (rs:List Lr) (p:Co->Bool):qc1 ((rs.filter fun r=>p (rCo r)).map lrPt)=sumC ((rs.map rCo).filter p):=by
 unfold qc1 sumC
 rw [List.filter_map,List.foldl_map,List.foldl_map];rfl
theorem sum_eq {bs:List Ob} {rs:List Lr} (h:bs.map bCo=rs.map rCo) (p:Co->Bool):qc1 ((bs.filter fun b=>p (bCo b)).map qcw)=qc1 ((rs.filter fun r=>p (rCo r)).map lrPt):=by rw [sumB,sumRs,h]
theorem GvAt.re {H0 H0' H:Hp} {ln lw de dp:Addr} {nm ws:List Str} {n:Nat} {el:Nat->Nat} {qs:List Pq2} (h:GvAt H0 H ln lw de dp nm ws n el qs):GvAt H0' H ln lw de dp nm ws n el qs:=⟨h.ln,h.lw,h.de,h.dp,h.nl,h.wl,h.w1,h.w3,h.n1,h.n5,h.lo,h.ql,h.q⟩
theorem SB.trans {A:List Addr} {H H1 H2:Hp} (s:SB A H H1) (s':SB A H1 H2):SB A H H2:=fun b o h n=>s' b o (s b o h n) n
theorem SB.of {A:List Addr} {H H1:Hp} (s:qas H H1):SB A H H1:=fun b o h _=>s b o h
theorem SB.up {A B:List Addr} {H H1:Hp} (s:SB A H H1) (h:∀a∈A,a∈B):SB B H H1:=fun b o e n=>s b o e fun m=>n (h b m)
theorem SB.at {A:List Addr} {H H1:Hp} {a:Addr} {o:HO} (s:SB A H H1) (h:a∈A):SB A H (upd H1 a o):=fun b u e n=>by
 rw [qa6 (fun z=>n (by rw [z];exact h))]
 exact s b u e n
structure W23 (d:Ad) (H6 H:Hp) (so t hd lr:Addr) (P:PL) (bs:List Ob) (rs:List Lr) (L:Int):Prop where
 s0:qas H6 H
 st:StAt d H so t hd P bs L
 mh:∀b∈bs,b.m≠hd
 hl:H lr=some (.lst (rwV rs))
 rw:∀r∈rs,LrAt H P r
 co:bs.map bCo=rs.map rCo
 ar:∀r∈rs,r.a∉ [so,hd,lr]/\r.m∉ [so,hd,lr]
 ab:∀b∈bs,b.o≠lr/\b.m≠lr
structure C23 (H6:Hp) (so hd lr:Addr):Prop where
 n6:∀a∈ [so,hd,lr],H6 a=none
 sl:so≠lr
 hl:hd≠lr
theorem qbw {x a b c:Addr} (h:x∈ [a,b,c]):x=a\/x=b\/x=c:=by
 simp only [zV,List.not_mem_nil,or_false] at h
 exact h
theorem W23.new {d:Ad} {H6 H:Hp} {so t hd lr x:Addr} {P:PL} {bs:List Ob} {rs:List Lr} {L:Int} (v:W23 d H6 H so t hd lr P bs rs L) (hx:H x=none):x∉ [so,hd,lr]:=fun hm=>by
 obtain⟨dx,e⟩:=v.st.obj
 rcases qbw hm with h|h|h
 .rw [h,e] at hx;cases hx
 .rw [h,v.st.hds] at hx;cases hx
 .rw [h,v.hl] at hx;cases hx
theorem W23.same {d:Ad} {H6 H H':Hp} {so t hd lr:Addr} {P:PL} {bs:List Ob} {rs:List Lr} {L:Int} (v:W23 d H6 H so t hd lr P bs rs L) (s:qas H H'):W23 d H6 H' so t hd lr P bs rs L:=⟨v.s0.trans s,v.st.same s,v.mh,s _ _ v.hl,fun r hr=>(v.rw r hr).same s,v.co,v.ar,v.ab⟩
theorem W23.mv {d:Ad} {H6 H H3:Hp} {so t hd lr:Addr} {P:PL} {bs bs':List Ob} {rs rs':List Lr} {L L':Int} (v:W23 d H6 H so t hd lr P bs rs L) (C:C23 H6 so hd lr) (sb:SB [so,hd,lr] H H3) (st3:StAt d H3 so t hd P bs' L') (mh3:∀b∈bs',b.m≠hd) (hl3:H3 lr=some (.lst (rwV rs')))
  (hr:∀r∈rs',r∈rs\/(LrAt H3 P r/\H r.a=none/\H r.m=none)) (hb:∀b∈bs',b∈bs\/(b.o≠lr/\b.m≠lr)) (co:bs'.map bCo=rs'.map rCo):W23 d H6 H3 so t hd lr P bs' rs' L':=by
 refine⟨fun x o e=>sb x o (v.s0 x o e) fun m=>(by rw [C.n6 x m] at e;cases e),st3,mh3,hl3,fun r h=>?_,co,fun r h=>?_,fun b h=>?_⟩
 .rcases hr r h with h|h
  .have g:=v.rw r h
   exact⟨sb _ _ g.tup (v.ar r h).1,sb _ _ g.dic (v.ar r h).2,g.ad,g.inw,g.pos,g.il⟩
  .exact h.1
 .rcases hr r h with h|h
  .exact v.ar r h
  .exact⟨v.new h.2.1,v.new h.2.2⟩
 .rcases hb b h with h|h
  .exact v.ab b h
  .exact h
theorem qe3 {α β:Type} (f:α->β):∀(l:List α) (i:Nat),(l.eraseIdx i).map f=(l.map f).eraseIdx i
 | [],_=>rfl
 |_ :: _,0=>rfl
 |x :: l,i+1=>by show f x ::(l.eraseIdx i).map f=f x ::(l.map f).eraseIdx i;rw [qe3 f l i]
theorem bs_n {bs:List Ob}:(bs.map bCo).map (fun c=>c.n)=bs.map fun b=>b.R.n:=by rw [yQ];rfl
theorem Nus.nd {bs:List Ob} {L:Int} (nu:Nus bs L):(bs.map fun b=>b.R.n).Nodup:=nu.up.imp fun h e=>by omega
def NgOk (P:PL) (bs:List Ob):Prop:=∀h v,gN (qc1 ((bs.filter (qbj h)).map qcw)) v<=gN (tfF P.tp h) v
theorem have_eq {bs:List Ob} {rs:List Lr} (co:bs.map bCo=rs.map rCo) (h:Nat) (y:V):qcc rs h y=qc1 ((bs.filter (surB h y)).map qcw):=by
 have e:∀c:Co,(decide (c.i=h) && (c.s && butL y c.n))=((decide (c.i=h) && c.s) && butL y c.n):=fun c=>(Bool.and_assoc ..).symm
 have eb:∀b:Ob,butF y b=butL y b.R.n:=fun b=>by cases y <;> rfl
 have e1:bs.filter (surB h y)=bs.filter fun b=>decide ((bCo b).i=h) && ((bCo b).s && butL y (bCo b).n):=yS fun b _=>by rw [e];unfold surB qbj atH;rw [eb];rfl
 rw [e1]
 exact(sum_eq co fun c=>decide (c.i=h) && (c.s && butL y c.n)).symm
def NnB (bs:List Ob):Prop:=∀b∈bs,∀v,0<=gN b.R.f v
theorem NnB.of {H:Hp} {P:PL} {bs:List Ob} {rs:List Lr} (co:bs.map bCo=rs.map rCo) (h:∀r∈rs,LrAt H P r):NnB bs:=fun b hb v=>by
 have hc:bCo b∈rs.map rCo:=by rw [<-co];exact zJ.mpr ⟨b,hb,rfl⟩
 obtain⟨r,hr,er⟩:=zJ.mp hc
 have ef:r.f=b.R.f:=congrArg (fun c:Co=>c.f) er
 rw [<-ef]
 unfold gN
 cases e:r.f v with
 |none=>exact Int.le_refl _
 |some n=>have:=(h r hr).pos v n e;show 0<=n;omega
theorem sum_le (v:Str) (p q:Ob->Bool) (hpq:∀b,p b=true->q b=true):∀(bs:List Ob),NnB bs->(((bs.filter p).map qcw).map fun t=>gN t.f v).sum<=(((bs.filter q).map qcw).map fun t=>gN t.f v).sum
 | [],_=>Int.le_refl _
 |b :: bs,h=>by
  have ih:=sum_le v p q hpq bs fun x hx=>h x (zF _ hx)
  have hb:0<=gN (qcw b).f v:=h b (zC ..) v
  rw [zU,zU]
  by_cases c:p b=true
  .rw [if_pos c,if_pos (hpq b c)]
   simp only [zM,yZ]
   omega
  .rw [if_neg c]
   by_cases c2:q b=true
   .rw [if_pos c2]
    simp only [zM,yZ]
    omega
   .rw [if_neg c2];exact ih
theorem gN_sub {bs:List Ob} (nn:NnB bs) (h:Nat) (y:V) (v:Str):gN (qc1 ((bs.filter (surB h y)).map qcw)) v<=gN (qc1 ((bs.filter (qbj h)).map qcw)) v:=by
 unfold qc1
 rw [qe6,qe6]
 have:=sum_le v (surB h y) (qbj h) (fun b e=>by unfold surB at e;rw [Bool.and_eq_true] at e;exact e.1) bs nn
 omega
theorem fp_eq {S:Ts} {P:PL} {wt:Nat->Int} {n h:Nat} (hI:TInv S P n wt) (pf:PlF P) (hn:n<=P.nm.length) (hh:h < n) (y:Str):gN (fpO S P h) y=gN (tfF P.tp h) y:=by
 obtain⟨e,ae,he,_⟩:=hI.pl.at hh
 obtain⟨t,_,_,t3,_,t5⟩:=qfu pf (k:=h) (by omega)
 unfold fpO
 rw [ae]
 show gN e.x.fp y=_
 rw [show e.x.fp=qcv (tfF P.tp h) from funext (hI.da h e he).1,t3]
 exact qfc t5 y
theorem viol_sh {S:Ts} {P:PL} {wt:Nat->Int} {n h:Nat} {bs:List Ob} {rs:List Lr} {f:Str->Option Int} (hI:TInv S P n wt) (pf:PlF P) (hn:n<=P.nm.length) (hh:h < n) (co:bs.map bCo=rs.map rCo) (nn:NnB bs) (ng:NgOk P bs) (y:V) (z:Str):viol (mF bs h y f) (fpO S P h) z↔shV rs h y f (tfF P.tp h) z:=by
 unfold viol shV
 rw [fp_eq hI pf hn hh,have_eq co h y]
 have eg:gN (mF bs h y f) z=gN (qc1 ((bs.filter (surB h y)).map qcw)) z+gN f z:=by unfold mF;rw [qdm]
 rw [eg]
 refine⟨fun⟨h1,h2⟩=>⟨fun e=>?_,h2⟩,fun⟨h1,h2⟩=>⟨fun e=>h1 ?_,h2⟩⟩
 .have g0:gN f z=0:=by unfold gN;rw [e];rfl
  have:=gN_sub nn h y z
  have:=ng h z
  omega
 .unfold mF qd7 at e
  cases ef:f z with
  |none=>rfl
  |some b=>rw [ef] at e;cases e
theorem have_nn {bs:List Ob} {rs:List Lr} {L:Int} (nu:Nus bs L) (co:bs.map bCo=rs.map rCo) (h:Nat):qcc rs h (.int 0)=qcc rs h .non:=by
 unfold qcc
 have e:rs.filter (qfk h (.int 0))=rs.filter (qfk h .non):=by
  refine yS fun r hr=>?_
  have:r.n≠0:=fun e=>by
   have hc:rCo r∈bs.map bCo:=by rw [co];exact zJ.mpr ⟨r,hr,rfl⟩
   obtain⟨b,hb,eb⟩:=zJ.mp hc
   have en:b.R.n=r.n:=congrArg (fun c:Co=>c.n) eb
   have:=nu.bd b hb
   omega
  show (decide (r.i=h) && (r.s && decide (r.n≠0)))=(decide (r.i=h) && (r.s && true))
  rw [decide_eq_true this]
 rw [e]
theorem sh_zero {bs:List Ob} {rs:List Lr} {L:Int} (nu:Nus bs L) (co:bs.map bCo=rs.map rCo) (h:Nat) (f fp:Str->Option Int) (z:Str):shV rs h (.int 0) f fp z↔shV rs h .non f fp z:=by unfold shV;rw [have_nn nu co h]
theorem ng_put {P:PL} {bs:List Ob} {b:Ob} (ng:NgOk P bs) (h:b.R.s=true->∀y,gN (qc1 ((bs.filter (qbj b.R.i)).map qcw)) y+gN b.R.f y<=gN (tfF P.tp b.R.i) y):NgOk P (bs++ [b]):=fun j y=>by
 rw [yB,zG]
 by_cases c:b.R.s=true/\b.R.i=j
 .rw [zU,if_pos (by unfold qbj atH;rw [c.1,decide_eq_true c.2];rfl)]
  show gN (qc1 ((bs.filter (qbj j)).map qcw++ [qcw b])) y<=_
  rw [sumF_snoc,qdm,<-c.2]
  exact h c.1 y
 .rw [zU,if_neg (fun z=>c (by
   unfold qbj atH at z
   rw [Bool.and_eq_true] at z
   exact⟨z.2,of_decide_eq_true z.1⟩)),yT,xD,yA]
  exact ng j y
theorem StAt.sbl {d:Ad} {H H':Hp} {so t hd:Addr} {P:PL} {bs:List Ob} {L:Int} {A:List Addr} (h:StAt d H so t hd P bs L) (s:SB A H H') (n1:so∉A) (n2:hd∉A) (n3:∀b∈bs,b.o∉A/\b.m∉A):StAt d H' so t hd P bs L:=by
 obtain⟨dx,e⟩:=h.obj
 refine⟨⟨dx,s _ _ e n1⟩,s _ _ h.hds n2,fun b hb=>?_,h.nu,h.l63⟩
 have g:=h.ob b hb
 obtain⟨dy,g1⟩:=g.obj
 exact⟨⟨dy,s _ _ g1 (n3 b hb).1⟩,s _ _ g.amt (n3 b hb).2,g.ad,g.inw,g.il⟩
theorem qan {x a:Addr} (h:x≠a):x∉ [a]:=fun m=>h (zH.mp m)
theorem two_no {x a b:Addr} (h:x≠a) (h2:x≠b):x∉ [a,b]:=fun m=>by
 rcases zV.mp m with m|m
 .exact h m
 .exact h2 (zH.mp m)
theorem ng_filter {P:PL} {bs:List Ob} (ng:NgOk P bs) (nn:NnB bs) (p:Ob->Bool):NgOk P (bs.filter p):=fun h v=>by
 refine Int.le_trans ?_ (ng h v)
 rw [List.filter_filter]
 unfold qc1
 rw [qe6,qe6]
 have:=sum_le v (fun b=>qbj h b && p b) (qbj h) (fun b e=>by rw [Bool.and_eq_true] at e;exact e.1) bs nn
 omega
structure Ev (K:Frag) (d:Ad) (H6:Hp) (tg ln lw de dp:Addr) (sc:Int) (nm:List Str) (n:Nat) (qs:List Pq2) (t:Addr) (S:Ts) (P:PL) (wt:Nat->Int):Prop where
 tg:H6 tg=some (.tup [.ref ln,.ref lw,.int sc,.ref de,.ref dp])
 sc:Sc sc
 gv:GvAt H6 H6 ln lw de dp nm P.ws n (elN P.es) qs
 wr:WrAt K d H6 t S P n
 ti:TInv S P n wt
 pf:PlF P
 nm:P.nm=nm.take n
 tp:P.tp=tpQ P.ws qs
section
variable {K: Frag} {d: Ad} {H6: Hp} {tg ln lw de dp: Addr} {sc: Int} {nm: List Str} {n: Nat} {qs: List Pq2} {t: Addr} {S: Ts} {P: PL} {wt: Nat -> Int}
theorem Ev.nl (e:Ev K d H6 tg ln lw de dp sc nm n qs t S P wt):P.nm.length=n:=e.wr.nn
theorem Ev.at (e:Ev K d H6 tg ln lw de dp sc nm n qs t S P wt) {k:Nat} (hk:k < n):nm[k]?=some (nmF P k):=by
 have e1:P.nm[k]?=nm[k]?:=by rw [e.nm,yK hk]
 have e2:=zA (show k < nm.length by have:=e.gv.nl.len;omega)
 unfold nmF
 rw [e1,e2];rfl
theorem Ev.pr (e:Ev K d H6 tg ln lw de dp sc nm n qs t S P wt) {h:Nat} (hh:h < n):∃qi:Pq2,qi∈qs/\qbq (kvZ nm (qs.map fun q=>V.ref q.1)) (Sum.inr (nmF P h))=some (.ref qi.1)/\tfF P.tp h=tdF (P.ws.zip qi.2)/\H6 qi.1=some (.dK (tdK (P.ws.zip qi.2)))/\InW P.ws (tdF (P.ws.zip qi.2)):=by
 have hqi:=zA (show h < qs.length by rw [e.gv.ql];exact hh)
 have hqm:=zK hqi
 exact⟨_,hqm,qcu e.gv.nl.nd (e.at hh) (by rw [zD,hqi];rfl),by unfold tfF;rw [e.tp,tpQ_at hqi],(e.gv.q _ hqm).1,tdF_in (e.gv.q _ hqm).2.1.symm⟩
theorem Ev.inj (e:Ev K d H6 tg ln lw de dp sc nm n qs t S P wt):∀i j,i < P.nm.length->j < P.nm.length->nmF P i=nmF P j->i=j:=fun i j hi hj h=>e.ti.pl.inj i j (by rw [<-e.nl];exact hi) (by rw [<-e.nl];exact hj) h
end
def TlOk (bs:List Ob) (rs:List Lr):Prop:=∀(i:Nat) (b:Ob) (r:Lr),bs[i]?=some b->rs[i]?=some r->r.u=.int b.R.r/\r.v=tV b.t
theorem pair_at {bs:List Ob} {rs:List Lr} (co:bs.map bCo=rs.map rCo) {i:Nat} {r:Lr} (h:rs[i]?=some r):∃b,bs[i]?=some b/\bCo b=rCo r:=by
 have e:=congrArg (fun l:List Co=>l[i]?) co
 try dsimp only at e
 rw [zD,zD,h] at e
 exact Option.map_eq_some_iff.mp e
theorem eq_tV {K:Frag} {H:Hp} {n:Nat} (t:Option Int):DEq K H n (tV t) (tV t) true:=by
 cases t with
 |none=>exact DEq.flat (x:=.non) (y:=.non) rfl rfl
 |some i=>
  have w:=DEq.flat (K:=K) (H:=H) (n:=n) (x:=.int i) (y:=.int i) rfl rfl
  have e:eqV (.int i) (.int i)=true:=by simp [eqV]
  rw [e] at w
  exact w
theorem deq_int {K:Frag} {H:Hp} {n:Nat} (i:Int):DEq K H n (.int i) (.int i) true:=eq_tV (some i)
theorem deq_tup {K:Frag} {H:Hp} {n:Nat} {a b:Addr} {xs ys:List V} (ha:SqT K H a xs) (hb:SqT K H b ys) (ne:a≠b) (h:DEqs K H n xs ys):DEq K H (n+1) (.ref a) (.ref b) true:=by
 have z:=DEq.ts (n:=n) (e:=fun _=>true) ha hb ne h.get
 have e:((List.range (min xs.length ys.length)).all (fun _=>true) && xs.length==ys.length)=true:=by rw [h.len];simp
 rw [e] at z
 exact z
structure BrOk (b:Ob) (r:Lr):Prop where
 co:bCo b=rCo r
 u:r.u=.int b.R.r
 v:r.v=tV b.t
theorem BrOk.row {H:Hp} {P:PL} {b:Ob} {r:Lr} (h:BrOk b r) (hr:LrAt H P r):H r.a=some (.tup [.int b.R.n,.str (nmF P b.R.i),.ref r.m,.int b.R.r,tV b.t,.bl b.R.s]):=by
 have e1:r.n=b.R.n:=(congrArg (fun c:Co=>c.n) h.co).symm
 have e2:r.i=b.R.i:=(congrArg (fun c:Co=>c.i) h.co).symm
 have e3:r.s=b.R.s:=(congrArg (fun c:Co=>c.s) h.co).symm
 have:=hr.tup
 rw [e1,e2,e3,h.u,h.v] at this
 exact this
theorem BrOk.f {b:Ob} {r:Lr} (h:BrOk b r):r.f=b.R.f:=(congrArg (fun c:Co=>c.f) h.co).symm
theorem br_at {bs:List Ob} {rs:List Lr} (co:bs.map bCo=rs.map rCo) (tl:TlOk bs rs) {i:Nat} {r:Lr} (h:rs[i]?=some r):∃b,bs[i]?=some b/\BrOk b r:=by
 obtain⟨b,hb,e⟩:=pair_at co h
 exact⟨b,hb,e,(tl i b r hb h).1,(tl i b r hb h).2⟩
theorem deq_rows {K:Frag} {H:Hp} {P:PL} {p m:Addr} {b:Ob} {r:Lr} (ep:H p=some (.tup [.int b.R.n,.str (nmF P b.R.i),.ref m,.int b.R.r,tV b.t,.bl b.R.s])) (em:H m=some (.dK b.R.k)) (hA:AD b.R.k b.R.f) (h:LrAt H P r) (hb:BrOk b r) (ne:p≠r.a) (ne':m≠r.m):DEq K H 2 (.ref p) (.ref r.a) true:=by
 have ad:=h.ad
 rw [hb.f] at ad
 have dd:=DEq.dd (K:=K) (n:=0) (.inl em) (.inl h.dic) ne' hA.flat ad.flat
 rw [hA.eq ad] at dd
 exact deq_tup (n:=1) (SqT.of ep) (SqT.of (hb.row h)) ne ⟨deq_int _,deq_str _,dd,deq_int _,eq_tV _,deq_bl _,trivial⟩
def wi2 (K:Frag) (d:Ad):Sp:=fun vs H Q _=>∃(p m:Addr) (P:PL) (b:Ob) (r:Lr),vs=[.ref p,.ref r.a]/\H p=some (.tup [.int b.R.n,.str (nmF P b.R.i),.ref m,.int b.R.r,tV b.t,.bl b.R.s])/\H m=some (.dK b.R.k)/\AD b.R.k b.R.f/\LrAt H P r/\BrOk b r/\p≠r.a/\m≠r.m/\∀H',qas H H'->Q (.bl true) H'
local macro_rules | `(tactic| walk_at "sp") => `(tactic| (with_reducible refine u_whole ?_))
include T in
theorem wi4:FnOk P w K mg base CX0 3 d.wfh d.wcy ["_law_told","_law_row"] (wi2 K d):=by
 refine T.wgo.ok wht (fun vs H Q E h=>?_) (fun cdv A outer s H vs Q E hr h=>?_)
 .obtain⟨p,m,P,b,r,rfl,_⟩:=h;rfl
 obtain⟨p,m,P,b,r,rfl,hp,hm,hA,hw,hbr,ne,ne',q⟩:=h
 refine⟨_,(qa4 (qay (PW.pt (qem (qbd (qaz (qad qb2 rfl T.w08 PyProof.Rows.boot_isinstance (qa0 (pv 0) (qa0 (qbr (v:=.ty "tuple") rfl T.wjg PyProof.Rows.boot_tuple rfl) qa3))))) (qem (qal op_ne (qad qax rfl T.w34 PySem.boot_len (qa0 (pv 0) qa3)) qa7 (qap _)) (qem (qbd (qaz (qab ((wa1 T).mono (by decide)) hr rfl T.wc3 T.wat.kp T.wch .nil qaf (qa0 (qaq qav (pv 0) qa7 (fun _ _=>rfl)) qa3)))) (qex (qbd (qaz (qad qb2 rfl T.w08 PyProof.Rows.boot_isinstance (qa0 (qaq qav (pv 0) qa7 (fun _ _=>rfl)) (qa0 (qbr (v:=.ty "str") rfl T.wgs PyProof.Rows.boot_str rfl) qa3)))))))))) (qa5 (qae qcs)) qam)
  (qa4 (qay (PW.pt (qem (qbd (qaz (qab ((wgc T).mono (by decide)) hr rfl T.whb T.wdq.kp T.wgv .nil qaf (qa0 (qaq qav (pv 0) qa7 (fun _ _=>rfl)) qa3)))) (qem (qbd (qaz (qab ((wa1 T).mono (by decide)) hr rfl T.wc3 T.wat.kp T.wch .nil qaf (qa0 (qaq qav (pv 0) qa7 (fun _ _=>rfl)) qa3)))) (qex (qbd (qaz (qad qb2 rfl T.w08 PyProof.Rows.boot_isinstance (qa0 (qaq qav (pv 0) qa7 (fun _ _=>rfl)) (qa0 (qbr (v:=.ty "bool") rfl T.wft PyProof.Rows.boot_bool rfl) qa3))))))))) (qa5 (qae qcs)) qam)
  (qa5 (qae (qe0 (pe_or (qd4 qgn (qaq qav (pv 0) qa7 (fun _ _=>rfl)) qck (qap _)) (qdl (qab ((wa1 T).mono (by decide)) hr rfl T.wc3 T.wat.kp T.wch .nil qaf (qa0 (qaq qav (pv 0) qa7 (fun _ _=>rfl)) qa3)))) (qdl (qd4 (op_eqD (hu8 hr)) (pv 0) (pv 1) (qap _)))))))),?_⟩
 walk_at "d"
 refine qac (σ:=[some (.ref p),some (.ref r.a)]) rfl ?_
 left
 refine⟨m,b.R.k,b.R.f,rfl,hm,hA,fun z n e=>hw.pos z n (by rw [hbr.f];exact e),fun H' sm=>?_⟩
 have hp':=sm _ _ hp
 have dq:=deq_rows (K:=K) hp' (sm _ _ hm) hA (hw.same sm) hbr ne ne'
 clear hp
 cases ht:b.t with
 |none=>
  have et:tV b.t=.non:=by rw [ht];rfl
  rw [et] at hp'
  left
  refine r_eqD ne (by decide) dq ?_
  left
  exact q _ sm
 |some n=>
  have et:tV b.t=.int n:=by rw [ht];rfl
  rw [et] at hp'
  left
  refine r_eqD ne (by decide) dq ?_
  left
  exact q _ sm
def wjj (K:Frag) (d:Ad):Sp:=fun vs H Q _=>∃(H6:Hp) (so t hd lr:Addr) (P:PL) (bs:List Ob) (rs:List Lr) (L:Int),vs=[.ref so,.ref lr]/\W23 d H6 H so t hd lr P bs rs L/\TlOk bs rs/\rs.length<=40/\∀H',qas H H'->Q (.bl true) H'
include T in
theorem wjk:FnOk P w K mg base CX0 5 d.whd d.wfm ["_law_store","_law_rows"] (wjj K d):=by
 refine T.wid.ok wgn (fun vs H Q E h=>?_) (fun cdv A outer s H vs Q E hr h=>?_)
 .obtain⟨H6,so,t,hd,lr,P,bs,rs,L,rfl,_⟩:=h;rfl
 obtain⟨H6,so,t,hd,lr,P,bs,rs,L,rfl,v,tl,r40,q⟩:=h
 refine⟨_,(qa4 (qay (qal (op_neD (hu8 hr)) (qbi (pv 0) T.w01 T.w0v ((w5t T).mono (by decide)) hr T.w5w .nil qaf) (qcd (caps:=[]) (cn:=[]) (qbm rfl rfl (by rfl) (by rfl) rfl trivial (by rfl) rfl trivial (by decide)) rfl (qb6 (pv 1)) (fun _ _ _ _=>qdy) (fun _ _ _ _=>(qaq qav (pv 0) qa7 (fun _ _=>rfl)))) (qap _)) (qa5 (qae qcs)) qam)
  (qa4 (qbh PassesOwn.never rfl (qb6 (pv 1)) (qau (i:=2) wgn.nd rfl (Or.inl rfl)) (qa5 (qay (qbd (qaz (qab ((wi4 T).mono (by decide)) hr rfl T.wj1 T.wgo.kp T.wj5 .nil qaf (qa0 (qai (W:=fun _ _ _ _=>False) (pv 0) T.w01 T.w1r ((w86 T).mono (by decide)) hr T.w95 .nil qdk (qa0 (qaq qav (pv 2) qa7 (fun _ _=>rfl)) qa3)) (qa0 (pv 2) qa3))))) (qa5 (qae qcs)) qam)))
  (qa5 (qae qcs)))),?_⟩
 walk_at "d"
 try dsimp only [cxC]
 refine qac (σ:=[some (.ref so),some (.ref lr),none]) rfl ?_
 have cs:=T.w01
 obtain⟨dx,ho⟩:=v.st.obj
 have ens:(bs.map fun b=>b.R.n).map V.int=rs.map fun r=>V.int r.n:=by
  have e1:(bs.map fun b=>b.R.n)=(bs.map bCo).map fun c=>c.n:=bs_n.symm
  rw [e1,v.co,yQ,yQ];rfl
 have elr:=v.hl
 left
 refine⟨so,t,hd,P,bs,L,rfl,v.st,fun l hl=>?_⟩
 rw [ens]
 have s1:=qaa hl (.lst (rs.map fun r=>V.int r.n))
 have e1:upd H l (.lst (rs.map fun r=>V.int r.n)) l=some (.lst (rs.map fun r=>V.int r.n)):=qa1
 generalize upd H l (.lst (rs.map fun r=>V.int r.n))=H1 at*
 have eL1:=s1 _ _ elr
 left
 intro C s0 H0 fp acc hacc
 refine c_by rs.length (fun i H'=>H'=upd H1 acc (.lst ((rs.take i).map fun r=>V.int r.n))) rfl ?_ ?_ ?_ ?_
 .rintro i H' hi rfl
  exact⟨_,.ref rs[i].a,SqL.of (qa8 eL1 hacc),by unfold rwV;rw [zD,zA hi];rfl⟩
 .rintro H' rfl
  exact⟨_,SqL.of (qa8 eL1 hacc),by unfold rwV;rw [zB];exact Nat.le_refl _⟩
 .rintro i H' v' H'' hi rfl ⟨rfl,hy⟩
  have hv:=hy _ (SqL.of (qa8 eL1 hacc))
  unfold rwV at hv
  rw [zD,zA hi] at hv
  cases hv
  have tk:rs.take (i+1)=rs.take i++ [rs[i]]:=by rw [zT,zA hi];rfl
  have hr:=((v.rw _ (zQ hi)).same s1).tup
  generalize rs[i]=r at*
  have hr2:=qa8 (o':=.lst ((rs.take i).map fun r=>V.int r.n)) hr hacc
  have zl:((rs.take i).map fun r=>V.int r.n).length < sizeLine:=by rw [zB,zS];show _ < 16777216;omega
  left
  rw [qbe,tk,zG];rfl
 rintro H' rfl
 rw [zZ]
 have ne:l≠acc:=qa2 e1 hacc
 have e2:=qa8 (o':=.lst (rs.map fun r=>V.int r.n)) e1 hacc
 have s2:=s1.trans (qaa hacc (.lst (rs.map fun r=>V.int r.n)))
 have ea:upd H1 acc (.lst (rs.map fun r=>V.int r.n)) acc=some (.lst (rs.map fun r=>V.int r.n)):=qa1
 generalize upd H1 acc (.lst (rs.map fun r=>V.int r.n))=H2 at*
 refine r_neD ne (by decide) (deq_list (n:=0) (SqL.of e2) (SqL.of ea) ne (DEqs.self fun x hx=>by
  obtain⟨r,_,rfl⟩:=zJ.mp hx
  exact deq_int _)) ?_
 clear e1 e2 ea eL1 s1 hacc
 have eL2:=s2 _ _ elr
 left
 refine qdn (xs:=rwV rs) (fun i σ H'=>∃w2:Option V,σ=[some (V.ref so),some (V.ref lr),w2]/\qas H H') ⟨_,rfl,s2⟩ ?_ ?_ ?_
 .rintro i σ H' _ ⟨w2,_,sm⟩;exact SqL.of (sm _ _ elr)
 .rintro i x σ H' hx ⟨w2,rfl,sm⟩
  have hi:i < rs.length:=by have:=(List.getElem?_eq_some_iff.mp hx).1;unfold rwV at this;rw [zB] at this;exact this
  have er:=zA hi
  generalize rs[i]=r at*
  have hx:V.ref r.a=x:=by
   unfold rwV at hx
   rw [zD,er] at hx
   exact Option.some.inj hx
  subst hx
  obtain⟨b,hbi,hbr⟩:=br_at v.co tl er
  have hbm:=zK hbi
  have hrm:=zK er
  have hrw:=(v.rw r hrm).same sm
  have hr1:=hrw.tup
  have ho':=sm _ _ ho
  have en:b.R.n=r.n:=congrArg (fun c:Co=>c.n) hbr.co
  clear eL2 s2
  left
  refine⟨so,t,hd,P,bs,L,b,by rw [en];rfl,v.st.same sm,hbm,fun p m H5 s5 hp hm ep em=>?_⟩
  have nep:p≠r.a:=(qa2 hrw.tup hp).symm
  have nem:m≠r.m:=(qa2 hrw.dic hm).symm
  left
  refine⟨p,m,P,b,r,rfl,ep,em,(v.st.ob b hbm).ad,hrw.same s5,hbr,nep,nem,fun H6' s6=>?_⟩
  left
  exact⟨_,rfl,sm.trans (s5.trans s6)⟩
 rintro σ H5 ⟨w2,rfl,s5⟩
 left
 exact q _ s5
def wh4 (K:Frag) (d:Ad):Sp:=fun vs H Q _=>∃(a b:Addr) (ka kb:List (Key × V)) (f g:Str->Option Int),vs=[.ref a,.ref b]/\Rd H a (.dK ka)/\Rd H b (.dK kb)/\AD ka f/\AD kb g/\ka.length < 64/\
 (∀H',qas H H'->(∀y,¬viol f g y)->Q (.bl true) H')/\∀z H',qas H H'->viol f g z->Q (.bl false) H'
include T in
theorem wha:FnOk P w K mg base CX0 3 d.wc4 d.waa ["one","other"] (wh4 K d):=by
 refine T.wg0.ok wgr (fun vs H Q E h=>?_) (fun cdv A outer s H vs Q E hr h=>?_)
 .obtain⟨a,b,ka,kb,f,g,rfl,_⟩:=h;rfl
 obtain⟨a,b,ka,kb,f,g,rfl,hRa,hRb,hA,hB,za,qn,qs⟩:=h
 refine⟨_,(qa5 (qae (qd4 qgn (qab ((wae T).mono (by decide)) hr rfl T.wck T.wa2.kp T.wco .nil qaf (qa0 (pv 0) (qa0 (pv 1) qa3))) qck (qap _)))),?_⟩
 walk_at "d"
 refine qac (σ:=[some (.ref a),some (.ref b)]) rfl ?_
 left
 refine⟨a,b,ka,kb,f,g,rfl,hRa,hRb,hA,hB,za,fun H1 s1 hv=>?_,fun z H1 s1 hv _=>?_⟩
 .left
  exact qn H1 s1 hv
 .left
  exact qs z H1 s1 hv
def stF (t h:Addr) (L:Int):List (Str × V):=[("tree",.ref t),("holds",.ref h),("last",.int L)]
def wcn (K:Frag) (d:Ad):Sp:=fun vs H Q _=>∃(so t hd:Addr) (P:PL) (bs:List Ob) (L:Int),vs=[.ref so]/\StAt d H so t hd P bs L/\∀so2 hd2 H',qas H H'->H so2=none->H hd2=none->so2≠hd2->StAt d H' so2 t hd2 P bs L->Q (.ref so2) H'
include T in
theorem wcq:FnOk P w K mg base CX0 4 d.w5x d.w5g ["self"] (wcn K d):=by
 refine T.wdp.ok w7t (fun vs H Q E h=>?_) (fun cdv A outer s H vs Q E hr h=>?_)
 .obtain⟨so,t,hd,P,bs,L,rfl,_⟩:=h;rfl
 obtain⟨so,t,hd,P,bs,L,rfl,hS,q⟩:=h
 refine⟨_,(qa4 (qag (i:=1) w7t.nd rfl (Or.inl rfl) (qf4 T.w6w ((w7y T).mono (by decide)) hr rfl T.whh T.w9e .nil qaf (qa0 (qaj (pv 0) rfl) qa3)))
  (qa4 (qcg (pv 1) (qbs qc5 rfl T.w7q PyProof.Rows.boot_dict (qa0 (qaj (pv 0) rfl) qa3)) rfl)
  (qa4 (qcg (pv 1) (qaj (pv 0) rfl) rfl)
  (qa5 (qae (pv 1)))))),?_⟩
 walk_at "d"
 refine qac (σ:=[some (.ref so),none]) rfl ?_
 have cs:=T.w01
 have n1:qak K d.w00 "tree":=T.w0a
 have n2:qak K d.w00 "holds":=T.w06
 have n3:qak K d.w00 "last":=T.w1d
 obtain⟨dx,ho⟩:=hS.obj
 left
 intro so2 dx2 hso hdx ne
 refine⟨so2,dx2,t,rfl,qa1,fun hd1 H7 hhd ex7 ed7 sb7=>⟨rfl,?_⟩⟩
 have s7:qas H H7:=fun b o hb=>sb7 b o (qa2 hb hso) (by rw [qa6 (qa2 hb hso),qa6 (qa2 hb hdx)];exact hb)
 have ho7:=s7 _ _ ho
 have hR7:Rd H7 hd (.dK (stK bs)):=.inl (s7 _ _ hS.hds)
 have nso:so≠so2:=qa2 ho hso
 clear hhd ed7 sb7 hdx ne
 left
 rename_i h2 hh2
 have fh2:H h2=none:=s7.free hh2
 have nh2:so2≠h2:=qa2 ex7 hh2
 have s8:qas H (upd H7 h2 (.dK (stK bs))):=s7.trans (qaa hh2 _)
 have ex8:upd H7 h2 (.dK (stK bs)) so2=some (.ins d.w00 dx2 [("tree",.ref t),("holds",.ref hd1),("last",.int 0)]):=qa8 ex7 hh2
 have e8:upd H7 h2 (.dK (stK bs)) h2=some (.dK (stK bs)):=qa1
 have ho8:=s8 _ _ ho
 generalize upd H7 h2 (.dK (stK bs))=H8 at*
 clear hR7 ho7 ex7 hh2
 left
 refine qeb ex8 cs n2 (by show (3:Nat) < 1000;decide) ?_
 have ep:qdw "holds" (.ref h2) (stF t hd1 0)=stF t h2 0:=rfl
 have ep:qdw "holds" (.ref h2) [("tree",.ref t),("holds",.ref hd1),("last",.int 0)]=stF t h2 0:=ep
 rw [ep]
 have ho9:upd H8 so2 (.ins d.w00 dx2 (stF t h2 0)) so=some (.ins d.w00 dx [("tree",.ref t),("holds",.ref hd),("last",.int L)]):=by rw [qa6 nso];exact ho8
 have e9:upd H8 so2 (.ins d.w00 dx2 (stF t h2 0)) h2=some (.dK (stK bs)):=by rw [qa6 nh2.symm];exact e8
 have ex9:upd H8 so2 (.ins d.w00 dx2 (stF t h2 0)) so2=some (.ins d.w00 dx2 (stF t h2 0)):=qa1
 have s9:qas H (upd H8 so2 (.ins d.w00 dx2 (stF t h2 0))):=qbf s8 hso
 generalize upd H8 so2 (.ins d.w00 dx2 (stF t h2 0))=H9 at*
 clear ex8 e8 ho8 s8 ho
 left
 refine qeb ex9 cs n3 (by show (3:Nat) < 1000;decide) ?_
 have ep2:qdw "last" (.int L) (stF t h2 0)=stF t h2 L:=rfl
 rw [ep2]
 have s10:qas H (upd H9 so2 (.ins d.w00 dx2 (stF t h2 L))):=qbf s9 hso
 have st10:StAt d (upd H9 so2 (.ins d.w00 dx2 (stF t h2 L))) so2 t h2 P bs L:=⟨⟨dx2,qa1⟩,by rw [qa6 nh2.symm];exact e9,fun b hb=>(hS.ob b hb).same s10,hS.nu,hS.l63⟩
 left
 exact q so2 h2 _ s10 hso fh2 nh2 st10
structure T3 where
 c:Co
 u:V
 v:V
def b3 (b:Ob):T3:=⟨bCo b,.int b.R.r,tV b.t⟩
def r3 (r:Lr):T3:=⟨rCo r,r.u,r.v⟩
def tnV:V->Option V
 | .int k=>if 1 < k then some (.int (k - 1)) else none
 |v=>some v
def tn3 (x:T3):Option T3:=match tnV x.v with
 |some v=>some ⟨x.c,x.u,v⟩
 |none=>none
theorem erase_mid {bs:List Ob} {L:Int} {cs:List Ob} {b:Ob} {ds:List Ob} (nu:Nus bs L) (e:bs=cs++b :: ds):bs.filter (notN b.R.n)=cs++ds:=by
 have nd:(bs.map fun b=>b.R.n).Nodup:=nu.up.imp fun h e=>by omega
 rw [e] at nd ⊢
 rw [zG,zM,List.nodup_append] at nd
 obtain⟨_,nd2,nd3⟩:=nd
 rw [zX] at nd2
 rw [yB,zU,if_neg (by unfold notN;rw [decide_eq_false (not_not_intro rfl)];exact Bool.false_ne_true)]
 congr 1
 .refine yN.mpr fun y hy=>decide_eq_true fun e=>?_
  exact nd3 y.R.n (zJ.mpr ⟨y,hy,rfl⟩) b.R.n (zC ..) e
 .refine yN.mpr fun y hy=>decide_eq_true fun e=>nd2.1 ?_
  rw [<-e]
  exact zJ.mpr ⟨y,hy,rfl⟩
theorem repl_mid {bs:List Ob} {L:Int} {cs:List Ob} {b b':Ob} {ds:List Ob} (nu:Nus bs L) (e:bs=cs++b :: ds) (en:b.R.n=b'.R.n):qcj bs b'=cs++b' :: ds:=by
 have nd:(bs.map fun b=>b.R.n).Nodup:=nu.up.imp fun h e=>by omega
 rw [e] at nd ⊢
 rw [zG,zM,List.nodup_append] at nd
 obtain⟨_,nd2,nd3⟩:=nd
 rw [zX] at nd2
 unfold qcj
 rw [zG,zM,if_pos en]
 congr 1
 .refine(yO fun y hy=>?_).trans (List.map_id cs)
  rw [if_neg (fun e2=>nd3 y.R.n (zJ.mpr ⟨y,hy,rfl⟩) b.R.n (zC ..) (e2.trans en.symm))]
  rfl
 .congr 1
  refine(yO fun y hy=>?_).trans (List.map_id ds)
  rw [if_neg (fun e2=>nd2.1 (by rw [en,<-e2];exact zJ.mpr ⟨y,hy,rfl⟩))]
  rfl
theorem ObAt.nl {d:Ad} {H:Hp} {P:PL} {b:Ob} {x:Addr} {xs:List V} (g:ObAt d H P b) (e:H x=some (.lst xs)):b.o≠x/\b.m≠x:=by
 obtain⟨_,e1⟩:=g.obj
 refine⟨fun z=>?_,fun z=>?_⟩
 .rw [z,e] at e1;cases e1
 .have:=g.amt
  rw [z,e] at this;cases this
theorem mem_mid {us ds:List Ob} {b x:Ob} (h:x∈us++ds):x∈us++b :: ds:=by
 rcases zN.mp h with h|h
 .exact yF _ h
 .exact zI _ (zF _ h)
theorem mem_mid2 {us ds:List Ob} {b b' x:Ob} (h:x∈us++b' :: ds):x=b'\/x∈us++b :: ds:=by
 rcases zN.mp h with h|h
 .exact .inr (yF _ h)
 .rcases zV.mp h with h|h
  .exact .inl h
  .exact .inr (zI _ (zF _ h))
def PosT (bs:List Ob):Prop:=∀b∈bs,∀k,b.t=some k->1<=k
def wd3 (K:Frag) (d:Ad):Sp:=fun vs H Q _=>∃(so t hd:Addr) (P:PL) (bs:List Ob) (L:Int),vs=[.ref so]/\StAt d H so t hd P bs L/\PosT bs/\(∀x∈bs,x.m≠hd)/\
 ∀bs' v H',StAt d H' so t hd P bs' L->bs'.map b3=(bs.map b3).filterMap tn3->(∀b∈bs',b∈bs\/(H b.o=none/\H b.m=none))->SB [hd] H H'->Q v H'
include T in
theorem wd6:FnOk P w K mg base CX0 19 d.w6i d.w5d ["self"] (wd3 K d):=by
 refine T.weg.ok w53 (fun vs H Q E h=>?_) (fun cdv A outer s H vs Q E hr h=>?_)
 .obtain⟨so,t,hd,P,bs,L,rfl,_⟩:=h;rfl
 obtain⟨so,t,hd,P,bs,L,rfl,hS,hpt,hm,q⟩:=h
 refine⟨_,(qa4 (qag (i:=1) w53.nd rfl (Or.inl rfl) (qcb qa3))
  (qa4 (qbh PassesOwn.never rfl (qb6 (pe_methX0 (W:=fun _ _ _ _=>False) (pv 0) T.w01 T.w12 ((w4i T).mono (by decide)) hr T.w6y T.w72 qdk)) (qau (i:=2) w53.nd rfl (Or.inl rfl)) (qa5 (qc0 (qay (qal qee (qaj (pv 2) rfl) qa7 (qap _)) (qa4 (qat (qdr PySem.F.plainAttrs_dict PySem.F.slot_dict_pop PySem.F.type_dict_pop mt_dpopI (qaj (pv 0) rfl) (qa0 (qaj (pv 2) rfl) qa3)))
  (qa5 (qat (qdr PySem.F.plainAttrs_list PySem.F.slot_list_append PySem.F.type_list_append qbt (pv 1) (qa0 (qaj (pv 2) rfl) qa3))))) (qa5 (qc0 (qay (qal qe1 (qaj (pv 2) rfl) qck (qap _)) (qa5 (qc4 (qb9 hr) (qaj (pv 0) rfl) (qaj (pv 2) rfl) (qab ((w8s T).mono (by decide)) hr rfl T.wa9 T.w7s.kp T.wao .nil qaf (qa0 (pv 2) (qa0 (qaj (pv 2) rfl) (qa0 (qar op_sub (qaj (pv 2) rfl) qa7) (qa0 (pe_alt (qbi (pv 2) T.w42 T.w0i ((w2i T).mono (by decide)) hr T.w2s .nil qaf) (qbi (pv 2) T.w3z T.w0h ((w27 T).mono (by decide)) hr T.w2u .nil qaf)) qa3))))) rfl)) qam)))))))
  (qa5 (qae (pv 1))))),?_⟩
 walk_at "d"
 refine qac (σ:=[some (.ref so),none,none]) rfl ?_
 have cs:=T.w01
 have n2:qak K d.w00 "holds":=T.w06
 obtain⟨dx,ho⟩:=hS.obj
 have l60:=hS.l63
 left
 rename_i ll hll
 have s0:=qaa hll (.lst [])
 have e0:upd H ll (.lst []) ll=some (.lst []):=qa1
 generalize upd H ll (.lst [])=H0 at*
 have ho0:=s0 _ _ ho
 left
 refine⟨so,t,hd,P,bs,L,.non,rfl,hS.same s0,.inl ⟨rfl,fun l H1 s1 hl el=>?_⟩⟩
 have t1:=s0.trans s1
 have nl:l≠ll:=(qa2 e0 hl).symm
 have fl:H l=none:=s0.free hl
 have nlh:l≠hd:=(qa2 hS.hds fl).symm
 have nllh:ll≠hd:=(qa2 hS.hds hll).symm
 have e1:=s1 _ _ e0
 clear ho0 e0
 left
 refine qdn (xs:=bsV bs) (fun i σ H'=>∃(us:List Ob) (xs:List V) (w:Option V),σ=[some (V.ref so),some (V.ref ll),w]/\StAt d H' so t hd P (us++bs.drop i) L/\us.map b3=((bs.take i).map b3).filterMap tn3/\(∀b∈us,b∈bs\/(H b.o=none/\H b.m=none))/\SB [hd] H H'/\H' l=some (.lst (bsV bs))/\H' ll=some (.lst xs)/\xs.length<=i) ⟨[], [],_,rfl,hS.same t1,rfl,fun b hb=>by simp at hb,SB.of t1,el,e1,Nat.le_refl _⟩ ?_ ?_ ?_
 .rintro i σ H' _ ⟨us,xs,w,_,_,_,_,_,el',_⟩;exact SqL.of el'
 .rintro i v σ H' hv ⟨us,xs,w,rfl,st,hu,hn,sb,el',ell,hxl⟩
  have hi:i < bs.length:=by have:=(List.getElem?_eq_some_iff.mp hv).1;unfold bsV at this;rw [zB] at this;exact this
  have er:=zA hi
  have hbm:=zQ hi
  have tk:bs.take (i+1)=bs.take i++ [bs[i]]:=by rw [zT,er];rfl
  have dk:bs.drop i=bs[i] :: bs.drop (i+1):=yH hi
  generalize bs[i]=b at*
  have hv:V.ref b.o=v:=by
   unfold bsV at hv
   rw [zD,er] at hv
   exact Option.some.inj hv
  subst hv
  rw [dk] at st
  have hb':=st.ob b (zI _ (zC ..))
  obtain⟨db,hbo⟩:=hb'.obj
  obtain⟨cl,m1,m2,m3,m4,m5⟩:=qfp T b.R.s
  unfold fsB at hbo
  obtain⟨dx',ho'⟩:=st.obj
  have hvv:=qea st.nu (zI us (zC (a:=b) (l:=bs.drop (i+1))))
  have hpb:=hpt b hbm
  have hds:=st.hds
  have zx:xs.length < sizeLine:=by show _ < 16777216;omega
  clear e1 el
  cases et:b.t with
  |none=>
   rw [et] at hbo
   have hbo:H' b.o=some (.ins (qe8 d b.R.s) db [("number",.int b.R.n),("house",.str (nmF P b.R.i)),("amounts",.ref b.m),("rank",.int b.R.r),("turns",.non)]):=hbo
   left
   refine qbz ?_
   left
   refine⟨rfl,?_⟩
   rw [decide_eq_false (fun z=>by cases z)]
   left
   refine qbz ?_
   left
   refine⟨us++ [b],xs,_,rfl,(by rw [yC];exact st),?_,fun x hx=>?_,sb,el',ell,by omega⟩
   .rw [tk,zG,zG,List.filterMap_append,hu]
    congr 1
    show [b3 b]=List.filterMap tn3 [b3 b]
    have e:tn3 (b3 b)=some (b3 b):=by unfold tn3 b3;rw [et];rfl
    rw [List.filterMap_cons_some e];rfl
   .rcases zN.mp hx with hx|hx
    .exact hn x hx
    .rw [zH.mp hx];exact .inl hbm
  |some k=>
   rw [et] at hbo
   have hbo:H' b.o=some (.ins (qe8 d b.R.s) db [("number",.int b.R.n),("house",.str (nmF P b.R.i)),("amounts",.ref b.m),("rank",.int b.R.r),("turns",.int k)]):=hbo
   have k1:=hpb k et
   have mh':∀x∈us++b :: bs.drop (i+1),x.m≠hd:=fun x hx=>by
    rcases zN.mp hx with hx|hx
    .rcases hn x hx with h|h
     .exact hm x h
     .exact(qa2 hS.hds h.2).symm
    .rw [<-dk] at hx
     exact hm x (List.mem_of_mem_drop hx)
   by_cases c:k=1
   .subst c
    left
    refine qbz ?_
    left
    refine r_dpopI hds hvv ?_
    rw [stK_drop,erase_mid st.nu rfl]
    have st2:=st.swap mh' (bs':=us++bs.drop (i+1)) (fun x hx=> .inl (mem_mid hx)) (by rw [<-erase_mid st.nu rfl];exact st.nu.filter _) (by have h1:=st.l63;rw [zL,zR] at h1;rw [zL];omega)
    have nbh:b.o≠hd:=fun z=>by rw [z,hds] at hbo;cases hbo
    have hbo2:upd H' hd (.dK (stK (us++bs.drop (i+1)))) b.o=some (.ins (qe8 d b.R.s) db [("number",.int b.R.n),("house",.str (nmF P b.R.i)),("amounts",.ref b.m),("rank",.int b.R.r),("turns",.int 1)]):=by rw [qa6 nbh];exact hbo
    have ell2:upd H' hd (.dK (stK (us++bs.drop (i+1)))) ll=some (.lst xs):=by rw [qa6 nllh];exact ell
    have el2:upd H' hd (.dK (stK (us++bs.drop (i+1)))) l=some (.lst (bsV bs)):=by rw [qa6 nlh];exact el'
    have sb2:SB [hd] H (upd H' hd (.dK (stK (us++bs.drop (i+1))))):=sb.at (zC ..)
    generalize upd H' hd (.dK (stK (us++bs.drop (i+1))))=H2 at*
    clear ho' hbo hds
    obtain⟨dx',ho'⟩:=st2.obj
    left
    have sbl:=(SB.of (A:=[ll]) (qas.refl H2)).at (o:=.lst (xs++ [V.int b.R.n])) (zC ..)
    refine⟨us,xs++ [V.int b.R.n],_,rfl,st2.sbl sbl (qan (qa2 ho hll)) (qan nllh.symm) fun x hx=>?_,?_,hn,fun x o e nn=>?_,by rw [qa6 nl];exact el2,qa1,by rw [zL,yE];omega⟩
    .have g:=(st2.ob x hx).nl ell2
     exact⟨qan g.1,qan g.2⟩
    .rw [tk,zG,List.filterMap_append,hu]
     have e:tn3 (b3 b)=none:=by unfold tn3 b3;rw [et];rfl
     show _=_++List.filterMap tn3 [b3 b]
     rw [List.filterMap_cons_none e];simp
    .rw [qa6 (qa2 e hll)];exact sb2 x o e nn
   .have amt:=hb'.amt
    have had:=hb'.ad
    have hin:=hb'.inw
    have hil:=hb'.il
    have l60s:=st.l63
    have fin:∀(x m:Addr) (H2:Hp),qas H' H2->H' x=none->H' m=none->(∃dx,H2 x=some (.ins (qe8 d b.R.s) dx (fsB b.R.n (nmF P b.R.i) m b.R.r (some (k - 1)))))->H2 m=some (.dK b.R.k)->
      ∃(us':List Ob) (xs':List V) (w':Option V), [some (V.ref so),some (V.ref ll),some (V.ref b.o)]=[some (V.ref so),some (V.ref ll),w']/\StAt d (upd H2 hd (.dK (qco (stK (us++b :: bs.drop (i+1))) (Sum.inl b.R.n) (.ref x)))) so t hd P (us'++bs.drop (i+1)) L/\us'.map b3=((bs.take (i+1)).map b3).filterMap tn3/\(∀b∈us',b∈bs\/(H b.o=none/\H b.m=none))/\SB [hd] H (upd H2 hd (.dK (qco (stK (us++b :: bs.drop (i+1))) (Sum.inl b.R.n) (.ref x))))/\upd H2 hd (.dK (qco (stK (us++b :: bs.drop (i+1))) (Sum.inl b.R.n) (.ref x))) l=some (.lst (bsV bs))/\upd H2 hd (.dK (qco (stK (us++b :: bs.drop (i+1))) (Sum.inl b.R.n) (.ref x))) ll=some (.lst xs')/\xs'.length<=i+1:=fun x m H2 s2 hx hm2 ex em=>by
     have ek:=qgg st.nu (zI us (zC (a:=b) (l:=bs.drop (i+1)))) (b':=⟨rOf b.R.n b.R.i b.R.k b.R.f b.R.r b.R.s,x,m,some (k - 1)⟩) rfl
     have er2:=repl_mid st.nu (b':=⟨rOf b.R.n b.R.i b.R.k b.R.f b.R.r b.R.s,x,m,some (k - 1)⟩) rfl rfl
     rw [er2] at ek
     have ek:qco (stK (us++b :: bs.drop (i+1))) (Sum.inl b.R.n) (.ref x)=stK (us++⟨rOf b.R.n b.R.i b.R.k b.R.f b.R.r b.R.s,x,m,some (k - 1)⟩ :: bs.drop (i+1)):=ek
     rw [ek]
     have nu2:=st.nu.repl (zI us (zC (a:=b) (l:=bs.drop (i+1)))) (b':=⟨rOf b.R.n b.R.i b.R.k b.R.f b.R.r b.R.s,x,m,some (k - 1)⟩) rfl
     rw [er2] at nu2
     have nxd:x≠hd:=(qa2 hds hx).symm
     have nmd:m≠hd:=(qa2 hds hm2).symm
     have st2:=(st.same s2).swap mh' (bs':=us++⟨rOf b.R.n b.R.i b.R.k b.R.f b.R.r b.R.s,x,m,some (k - 1)⟩ :: bs.drop (i+1)) (fun y hy=>by
      rcases mem_mid2 (b:=b) hy with h|h
      .rw [h];exact .inr ⟨⟨ex,em,had,hin,hil⟩,nxd,nmd⟩
      .exact .inl h) nu2 (by rw [zL,zR] at l60s ⊢;exact l60s)
     have fre:∀y,H' y=none->H y=none:=fun y hy=>by
      cases e:H y with
      |none=>rfl
      |some o=>
       by_cases c:y=hd
       .rw [c,hds] at hy;cases hy
       .rw [sb y o e (qan c)] at hy;cases hy
     refine⟨us++ [⟨rOf b.R.n b.R.i b.R.k b.R.f b.R.r b.R.s,x,m,some (k - 1)⟩],xs,_,rfl,by rw [yC];exact st2,?_,fun y hy=>?_,(sb.trans (SB.of s2)).at (zC ..),by rw [qa6 nlh];exact s2 _ _ el',by rw [qa6 nllh];exact s2 _ _ ell,by omega⟩
     .rw [tk,zG,zG,List.filterMap_append,hu]
      congr 1
      have e:tn3 (b3 b)=some (b3 ⟨rOf b.R.n b.R.i b.R.k b.R.f b.R.r b.R.s,x,m,some (k - 1)⟩):=by
       unfold tn3 b3
       rw [et]
       show (match (if 1 < k then some (V.int (k - 1)) else none) with|some v=>_|none=>_)=_
       rw [if_pos (by omega)];rfl
      show [b3 _]=List.filterMap tn3 [b3 b]
      rw [List.filterMap_cons_some e];rfl
     .rcases zN.mp hy with hy|hy
      .exact hn y hy
      .rw [zH.mp hy];exact .inr ⟨fre x hx,fre m hm2⟩
    have zd:(stK (us++b :: bs.drop (i+1))).length < 16777216:=by unfold stK;rw [zB];omega
    left
    refine qbz ?_
    left
    refine qbz ?_
    left
    cases hs:b.R.s with
    |true=>
     rw [hs] at fin
     have hboH:=hbo
     rw [hs] at hboH
     have hboH:H' b.o=some (.ins d.w0n db [("number",.int b.R.n),("house",.str (nmF P b.R.i)),("amounts",.ref b.m),("rank",.int b.R.r),("turns",.int k)]):=hboH
     refine r_alt1 ?_
     left
     refine⟨_,rfl,?_⟩
     clear hboH
     left
     refine⟨b,P,b.m,b.R.k,some (k - 1),true,rfl,hb',amt,fun x m H2 s2 hx hm2 ex em=>?_⟩
     have f:=fin x m H2 s2 hx hm2 ex em
     have ho2:=s2 _ _ ho'
     have hbo2:=s2 _ _ hbo
     have hd2:=s2 _ _ hds
     left
     refine r_dpI hd2 zd ?_
     left
     exact f
    |false=>
     rw [hs] at fin
     have hboH:=hbo
     rw [hs] at hboH
     have hboH:H' b.o=some (.ins d.w0t db [("number",.int b.R.n),("house",.str (nmF P b.R.i)),("amounts",.ref b.m),("rank",.int b.R.r),("turns",.int k)]):=hboH
     refine r_alt2 ?_
     left
     refine⟨_,rfl,?_⟩
     clear hboH
     left
     refine⟨b,P,b.m,b.R.k,some (k - 1),false,rfl,hb',amt,fun x m H2 s2 hx hm2 ex em=>?_⟩
     have f:=fin x m H2 s2 hx hm2 ex em
     have ho2:=s2 _ _ ho'
     have hbo2:=s2 _ _ hbo
     have hd2:=s2 _ _ hds
     left
     refine r_dpI hd2 zd ?_
     left
     exact f
 rintro σ H' ⟨us,xs,w,rfl,st,hu,hn,sb,el',ell,hxl⟩
 have e:(bsV bs).length=bs.length:=zB _
 rw [e,List.drop_length,yA] at st
 rw [e,zZ] at hu
 left
 exact q us _ _ st hu hn sb
def upT (x:T3):T3:=⟨⟨x.c.n,x.c.i,x.c.f,true⟩,x.u,x.v⟩
def lnT (h:Nat) (x:T3):Bool:=decide (x.c.i=h) && !x.c.s
def ftB (ws:List Str) (g G:Str->Int) (f:Str->Option Int):Bool:=ws.all fun z=>(f z).isNone || decide (g z+gN f z<=G z)
def lfS (ws:List Str) (h:Nat) (G:Str->Int) (st:List T3 × (Str->Int)) (x:T3):List T3 × (Str->Int):=if (lnT h x && ftB ws st.2 G x.c.f)=true then (st.1++ [upT x],fun z=>st.2 z+gN x.c.f z) else (st.1++ [x],st.2)
def lfL (ws:List Str) (h:Nat) (G g0:Str->Int) (xs:List T3):List T3 × (Str->Int):=xs.foldl (lfS ws h G) ([],g0)
theorem qer {ws:List Str} {h:Nat} {G g0:Str->Int} (xs:List T3) (x:T3):lfL ws h G g0 (xs++ [x])=lfS ws h G (lfL ws h G g0 xs) x:=by unfold lfL;rw [List.foldl_append];rfl
theorem lfL_no {ws:List Str} {h:Nat} {G g0:Str->Int}:∀(ys xs:List T3),(∀x∈ys,lnT h x=false)->lfL ws h G g0 (xs++ys)=((lfL ws h G g0 xs).1++ys,(lfL ws h G g0 xs).2)
 | [],xs,_=>by rw [yA,yA]
 |y :: ys,xs,hn=>by
  rw [show xs++y :: ys=(xs++ [y])++ys by rw [yC];rfl,lfL_no ys (xs++ [y]) (fun x hx=>hn x (zF _ hx)),qer]
  unfold lfS
  rw [hn y (zC ..),Bool.false_and,if_neg Bool.false_ne_true]
  show ((lfL ws h G g0 xs).1++ [y]++ys,_)=_
  rw [yC];rfl
theorem qgx {ws:List Str} {g G:Str->Int} {f:Str->Option Int} (hI:InW ws f):ftB ws g G f=true↔∀z,f z≠none->g z+gN f z<=G z:=by
 unfold ftB
 rw [yM]
 refine⟨fun h z hz=>?_,fun h z _=>?_⟩
 .have:=h z (hI z hz)
  rw [Bool.or_eq_true] at this
  rcases this with e|e
  .exact absurd (Option.isNone_iff_eq_none.mp e) hz
  .exact of_decide_eq_true e
 .cases e:f z with
  |none=>rfl
  |some v=>
   have:=h z (by rw [e];intro c;cases c)
   rw [decide_eq_true this,Bool.or_true]
def lnB (h:Nat) (b:Ob):Bool:=atH h b && !b.R.s
theorem lnB_T (h:Nat) (b:Ob):lnT h (b3 b)=lnB h b:=rfl
theorem no_loan {h:Nat} {ys:List Ob} (e:ys.filter (lnB h)=[]):∀x∈ys.map b3,lnT h x=false:=fun x hx=>by
 obtain⟨b,hb,rfl⟩:=zJ.mp hx
 have:=List.filter_eq_nil_iff.mp e b hb
 rw [lnB_T]
 cases c:lnB h b with
 |false=>rfl
 |true=>exact absurd c this
theorem ft_viol {ws:List Str} {pf cf fp:Str->Option Int} (hI:InW ws cf) (le:∀z,gN pf z<=gN fp z):(∀z,¬viol (qd7 pf cf) fp z)↔ftB ws (gN pf) (gN fp) cf=true:=by
 rw [qgx hI]
 refine⟨fun h z hz=>?_,fun h z hv=>?_⟩
 .apply Classical.byContradiction
  intro c
  refine h z ⟨fun e=>hz ?_,by rw [qdm];omega⟩
  unfold qd7 at e
  cases ef:cf z with
  |none=>rfl
  |some b=>rw [ef] at e;cases e
 .have h2:=hv.2
  rw [qdm] at h2
  cases ef:cf z with
  |none=>
   have:gN cf z=0:=by unfold gN;rw [ef];rfl
   have:=le z
   omega
  |some b=>
   have:=h z (by rw [ef];intro c;cases c)
   omega
def wcl (K:Frag) (d:Ad):Sp:=fun vs H Q _=>∃(so t hd:Addr) (S:Ts) (P:PL) (bs:List Ob) (L:Int) (n h:Nat),vs=[.ref so,.str (nmF P h)]/\StAt d H so t hd P bs L/\(∀x∈bs,x.m≠hd)/\WrAt K d H t S P n/\h < n/\(∀z,gN (qc1 ((bs.filter (qbj h)).map qcw)) z<=gN (fpO S P h) z)/\
 ∀bs' v H',StAt d H' so t hd P bs' L->bs'.map b3=(lfL P.ws h (gN (fpO S P h)) (gN (qc1 ((bs.filter (qbj h)).map qcw))) (bs.map b3)).1->(∀b∈bs',b∈bs\/(H b.o=none/\H b.m=none))->SB [hd] H H'->Q v H'
include T in
theorem wc7:FnOk P w K mg base (My.CX1 P w) 22 d.w6r d.w5m ["self","house"] (wcl K d):=by
 refine okX T.wdi w1b (fun vs H Q E h=>?_) (fun cdv A outer s H vs Q E hr h=>?_)
 .obtain⟨so,t,hd,S,P,bs,L,n,h,rfl,_⟩:=h;rfl
 obtain⟨so,t,hd,S,P,bs,L,n,h,rfl,hS,hm,hW,hn,le,q⟩:=h
 refine⟨_,(qa4 (qag (i:=2) w1b.nd rfl (Or.inl rfl) (qcb qa3))
  (qa4 (qag (i:=3) w1b.nd rfl (Or.inl rfl) (qai (pv 0) T.w01 T.w17 ((w8g T).mono (by decide)) hr T.w9s .nil qao (qa0 (pv 1) qa3)))
  (qa4 (qag (i:=4) w1b.nd rfl (Or.inl rfl) (qai (qaj (pv 0) rfl) T.w03 T.w0j ((w4d T).mono (by decide)) hr T.w4p .nil qao (qa0 (pv 1) qa3)))
  (qa4 (qbh (qed rfl rfl) rfl (qb6 (qcd (caps:=[]) (cn:=[]) (qbm rfl rfl (by rfl) (by rfl) rfl trivial (by rfl) rfl trivial (by decide)) rfl (qb6 (qai (pv 0) T.w01 T.w0q ((w4n T).mono (by decide)) hr T.w5o .nil qao (qa0 (pv 1) qa3))) (fun _ _ _ _=>(qej (qbd (qaz (pe_alt (qbi (pv 0) T.w42 T.w0i ((w2i T).mono (by decide)) hr T.w2s .nil qaf) (qbi (pv 0) T.w3z T.w0h ((w27 T).mono (by decide)) hr T.w2u .nil qaf)))))) (fun _ _ _ _=>(pv 0)))) (qau (i:=5) w1b.nd rfl (Or.inl rfl)) (qa4 (qag (i:=6) w1b.nd rfl (Or.inl rfl) (qab ((wa0 T).mono (by decide)) hr rfl T.wc8 T.wa5.kp T.wcd .nil qaf (qa0 (pv 3) (qa0 (qaj (pv 5) rfl) qa3))))
  (qa5 (qc0 (qay (qaz (qab ((wha T).mono (by decide)) hr rfl T.wia T.wg0.kp T.wi7 .nil qaf (qa0 (pv 6) (qa0 (pv 4) qa3)))) (qa4 (qag (i:=3) w1b.nd rfl (Or.inl rfl) (pv 6))
  (qa4 (qc4 (qb9 hr) (qaj (pv 0) rfl) (qaj (pv 5) rfl) (qab ((w8s T).mono (by decide)) hr rfl T.wa9 T.w7s.kp T.wao .nil qaf (qa0 (pv 5) (qa0 (qaj (pv 5) rfl) (qa0 (qaj (pv 5) rfl) (qa0 qcs qa3))))) rfl)
  (qa5 (qat (qdr PySem.F.plainAttrs_list PySem.F.slot_list_append PySem.F.type_list_append qbt (pv 2) (qa0 (qaj (pv 5) rfl) qa3)))))) qam)))))
  (qa5 (qae (pv 2))))))),?_⟩
 walk_at "d"
 try dsimp only [cxC]
 refine qac (σ:=[some (.ref so),some (.str (nmF P h)),none,none,none,none,none]) rfl ?_
 have cs:=T.w01
 have ct:=T.w03
 have n1:qak K d.w00 "tree":=T.w0a
 have n2:qak K d.w00 "holds":=T.w06
 obtain⟨dx,ho⟩:=hS.obj
 obtain⟨dt,ht⟩:=id hW.tr.1
 obtain⟨⟨eh,aeh⟩,_⟩:=hW.hs h hn
 have l60:=hS.l63
 have w3:=hW.w3
 left
 rename_i ll hll
 have s0:=qaa hll (.lst [])
 have e0:upd H ll (.lst []) ll=some (.lst []):=qa1
 generalize upd H ll (.lst [])=H0 at*
 have ho0:=s0 _ _ ho
 left
 refine⟨so,t,hd,S,P,bs,L,n,h,rfl,hS.same s0,hW.same s0,hn,fun l1 k1 H1 s1 hl1 e1 hA1=>?_⟩
 have sup1:=sumO_sup (bs:=bs.filter (qbj h)) fun b hb=>hS.ob b (zY.mp hb).1
 have t1:=s0.trans s1
 have ho1:=t1 _ _ ho
 have ht1:=t1 _ _ ht
 have ell1:=s1 _ _ e0
 have fl1:H l1=none:=s0.free hl1
 clear ho0 e0 hl1
 left
 refine⟨t,S,.str (nmF P h),rfl,hW.tr.same t1,.inl ⟨_,rfl⟩,fun e he p hp=>?_,fun wn=>absurd (show who S (.str (nmF P h))=some eh from aeh) (by rw [wn];intro z;cases z)⟩
 have he:S.at (nmF P h)=some e:=he
 have efp:fpO S P h=e.x.fp:=by unfold fpO;rw [he]
 obtain⟨_,hp0,hpA,_,_⟩:=(hW.tr.same t1).2.2.2.2.2 e (qcn he).1
 have s2:=qaa hp (.dK e.x.kp)
 have e2:upd H1 p (.dK e.x.kp) p=some (.dK e.x.kp):=qa1
 have e12:=qa8 (o':=.dK e.x.kp) e1 hp
 have ell2:=qa8 (o':=.dK e.x.kp) ell1 hp
 have t2:=t1.trans s2
 have fp0:H p=none:=t1.free hp
 generalize upd H1 p (.dK e.x.kp)=H2 at*
 have ho2:=t2 _ _ ho
 clear ho1 ht1 e1 ell1 s2 hp
 left
 refine⟨so,t,hd,S,P,bs,L,n,h,rfl,hS.same t2,hW.same t2,hn,fun la H3 s3 hla ela=>?_⟩
 have hB3:∀b∈bs.filter (atH h),ObAt d H3 P b:=fun b hb=>(hS.ob b (zY.mp hb).1).same (t2.trans s3)
 have l1le:(bs.filter (atH h)).length<=60:=Nat.le_trans (zW ..) l60
 have efl:(bs.filter (atH h)).filter (fun b=>!b.R.s)=bs.filter (lnB h):=by
  rw [List.filter_filter]
  refine yS fun b _=>?_
  unfold lnB
  rw [Bool.and_comm]
 have e13:=s3 _ _ e12
 have e23:=s3 _ _ e2
 have ell3:=s3 _ _ ell2
 have t3:=t2.trans s3
 generalize bs.filter (atH h)=cs1 at*
 clear ho2 e12 e2 ell2 s3 hla
 left
 intro C s0' H0' fp' acc hacc
 refine c_by cs1.length (fun i H'=>H'=upd H3 acc (.lst (bsV ((cs1.take i).filter fun b=>!b.R.s)))) rfl ?_ ?_ ?_ ?_
 .rintro i H' hi rfl
  exact⟨_,.ref cs1[i].o,SqL.of (qa8 ela hacc),by unfold bsV;rw [zD,zA hi];rfl⟩
 .rintro H' rfl
  exact⟨_,SqL.of (qa8 ela hacc),by unfold bsV;rw [zB];exact Nat.le_refl _⟩
 .rintro i H' v H'' hi rfl ⟨rfl,hy⟩
  have hv:=hy _ (SqL.of (qa8 ela hacc))
  unfold bsV at hv
  rw [zD,zA hi] at hv
  cases hv
  have hb:=hB3 _ (zQ hi)
  have tk:cs1.take (i+1)=cs1.take i++ [cs1[i]]:=by rw [zT,zA hi];rfl
  generalize cs1[i]=b at*
  obtain⟨dx,hbo⟩:=hb.obj
  have hbo':=qa8 (o':=.lst (bsV ((cs1.take i).filter fun b=>!b.R.s))) hbo hacc
  have zl:(bsV ((cs1.take i).filter fun b=>!b.R.s)).length < sizeLine:=by
   unfold bsV
   rw [zB]
   have h1:=zW (fun b:Ob=>!b.R.s) (cs1.take i)
   rw [zS] at h1
   show _ < 16777216
   omega
  cases hs:b.R.s with
  |true=>
   rw [hs,show qe8 d true=d.w0n from rfl] at hbo'
   left
   refine r_alt1 ?_
   left
   refine⟨_,rfl,?_⟩
   left
   rw [tk,yB,zU,if_neg (by rw [hs];exact Bool.false_ne_true),yT,yA]
  |false=>
   rw [hs,show qe8 d false=d.w0t from rfl] at hbo'
   left
   refine r_alt2 ?_
   left
   refine⟨_,rfl,?_⟩
   left
   rw [qbe,tk,yB,zU,if_pos (by rw [hs];rfl)]
   unfold bsV
   rw [zG];rfl
 rintro H' rfl
 rw [zZ,efl]
 have s4:=qaa hacc (.lst (bsV (bs.filter (lnB h))))
 have e4:upd H3 acc (.lst (bsV (bs.filter (lnB h)))) acc=some (.lst (bsV (bs.filter (lnB h)))):=qa1
 have t4:=t3.trans s4
 have facc:H acc=none:=t3.free hacc
 have e14:=s4 _ _ e13
 have e24:=s4 _ _ e23
 have ell4:=s4 _ _ ell3
 have nal:acc≠ll:=(qa2 ell3 hacc).symm
 have ll60:(bs.filter (lnB h)).length<=60:=Nat.le_trans (zW ..) l60
 generalize upd H3 acc (.lst (bsV (bs.filter (lnB h))))=H4 at*
 clear hB3 l1le efl e13 e23 ell3 s4 hacc ela
 have nllh:ll≠hd:=(qa2 hS.hds hll).symm
 have nah:acc≠hd:=(qa2 hS.hds facc).symm
 have nph:p≠hd:=(qa2 hS.hds fp0).symm
 rw [efp] at le q
 left
 refine qdn (xs:=bsV (bs.filter (lnB h))) (fun i σ H'=>∃(pre post us:List Ob) (pm:Addr) (kp:List (Key × V)) (pf:Str->Option Int) (xs:List V) (w5 w6:Option V),σ=[some (V.ref so),some (.str (nmF P h)),some (V.ref ll),some (V.ref pm),some (V.ref p),w5,w6]/\bs=pre++post/\post.filter (lnB h)=(bs.filter (lnB h)).drop i/\StAt d H' so t hd P (us++post) L/\us.map b3=(lfL P.ws h (gN e.x.fp) (gN (qc1 ((bs.filter (qbj h)).map qcw))) (pre.map b3)).1/\
  H' pm=some (.dK kp)/\H pm=none/\AD kp pf/\InW P.ws pf/\gN pf=(lfL P.ws h (gN e.x.fp) (gN (qc1 ((bs.filter (qbj h)).map qcw))) (pre.map b3)).2/\(∀z,gN pf z<=gN e.x.fp z)/\(∀b∈us,b∈bs\/(H b.o=none/\H b.m=none))/\SB [hd] H H'/\H' acc=some (.lst (bsV (bs.filter (lnB h))))/\H' ll=some (.lst xs)/\xs.length<=i/\H' p=some (.dK e.x.kp))
  ⟨[],bs, [],l1,k1,_, [],_,_,rfl,rfl,rfl,hS.same t4,rfl,e14,fl1,hA1,sup1,rfl,le,fun b hb=>by simp at hb,SB.of t4,e4,ell4,Nat.le_refl _,e24⟩ ?_ ?_ ?_
 .rintro i σ H' _ ⟨pre,post,us,pm,kp,pf,xs,w5,w6,_,_,_,_,_,_,_,_,_,_,_,_,_,ea,_⟩;exact SqL.of ea
 .rintro i v σ H' hv ⟨pre,post,us,pm,kp,pf,xs,w5,w6,rfl,ebs,efp2,st,hu,epm,fpm,hAp,hIp,hg,hle,hnw,sb,ea,el,hxl,ep⟩
  have hi:i <(bs.filter (lnB h)).length:=by have:=(List.getElem?_eq_some_iff.mp hv).1;unfold bsV at this;rw [zB] at this;exact this
  have er:=zA hi
  rw [yH hi] at efp2
  generalize (bs.filter (lnB h))[i]=b at*
  have hv:V.ref b.o=v:=by
   unfold bsV at hv
   rw [zD,er] at hv
   exact Option.some.inj hv
  subst hv
  obtain⟨mid,post2,epost,hmid,hlb,hrest⟩:=List.filter_eq_cons_iff.mp efp2
  have hmid:mid.filter (lnB h)=[]:=List.filter_eq_nil_iff.mpr hmid
  subst epost
  have hln:b.R.i=h/\b.R.s=false:=by
   unfold lnB atH at hlb
   rw [Bool.and_eq_true] at hlb
   exact⟨of_decide_eq_true hlb.1,by have:=hlb.2;cases e:b.R.s with
    |false=>rfl
    |true=>rw [e] at this;cases this⟩
  have hb':=st.ob b (zI _ (zI _ (zC ..)))
  obtain⟨db,hbo⟩:=hb'.obj
  obtain⟨cl,m1,m2,m3,m4,m5⟩:=qfp T b.R.s
  unfold fsB at hbo
  have amt:=hb'.amt
  have had:=hb'.ad
  have kl:=hAp.le hIp
  have kl2:=had.le hb'.inw
  have zx:xs.length < sizeLine:=by show _ < 16777216;omega
  left
  refine⟨pm,b.m,kp,b.R.k,pf,b.R.f,rfl,.inl epm,amt,hAp,had,by omega,by omega,fun l2 k2 H5 s5 hl2 el2 hA2=>?_⟩
  have kl3:=hA2.le (qdj hIp hb'.inw)
  have ep5:=s5 _ _ ep
  have lfm:lfL P.ws h (gN e.x.fp) (gN (qc1 ((bs.filter (qbj h)).map qcw))) ((pre++mid).map b3)=(us.map b3++mid.map b3,gN pf):=by
   rw [zG,lfL_no _ _ (no_loan hmid),<-hu,<-hg]
  have lfb:lfL P.ws h (gN e.x.fp) (gN (qc1 ((bs.filter (qbj h)).map qcw))) ((pre++mid++ [b]).map b3)=lfS P.ws h (gN e.x.fp) (us.map b3++mid.map b3,gN pf) (b3 b):=by
   rw [zG,<-lfm]
   exact qer _ _
  have ftv:=ft_viol (pf:=pf) (fp:=e.x.fp) hb'.inw hle
  have hds:=st.hds
  have fre:∀y,H' y=none->H y=none:=fun y hy=>by
   cases e:H y with
   |none=>rfl
   |some o=>
    by_cases c:y=hd
    .rw [c,hds] at hy;cases hy
    .rw [sb y o e (qan c)] at hy;cases hy
  have mh':∀x∈us++(mid++b :: post2),x.m≠hd:=fun x hx=>by
   rcases zN.mp hx with hx|hx
   .rcases hnw x hx with h|h
    .exact hm x h
    .exact(qa2 hS.hds h.2).symm
   .exact hm x (by rw [ebs];exact zI _ hx)
  have hbm:b∈bs:=by rw [ebs];exact zI _ (zI _ (zC ..))
  have hmm:∀x∈mid,x∈bs:=fun x hx=>by rw [ebs];exact zI _ (yF _ hx)
  have eb2:bs=pre++mid++ [b]++post2:=by rw [ebs];simp
  left
  refine qbz ?_
  left
  refine⟨l2,p,k2,e.x.kp,qd7 pf b.R.f,e.x.fp,rfl,.inl el2,.inl ep5,hA2,hpA,by omega,fun H6 s6 hv=>?_,fun z H6 s6 hv=>?_⟩
  .have hft:=ftv.mp hv
   have lfb2:lfL P.ws h (gN e.x.fp) (gN (qc1 ((bs.filter (qbj h)).map qcw))) ((pre++mid++ [b]).map b3)=(us.map b3++mid.map b3++ [upT (b3 b)],fun z=>gN pf z+gN b.R.f z):=by
    rw [lfb]
    unfold lfS
    rw [if_pos (by rw [lnB_T,hlb];exact hft)];rfl
   have s56:=s5.trans s6
   have hb6:=hb'.same s56
   have hbo6:=s56 _ _ hbo
   have st6:=st.same s56
   obtain⟨dx6,ho6⟩:=st6.obj
   have amt6:=hb6.amt
   left
   refine⟨b,P,b.m,b.R.k,b.t,true,rfl,hb6,amt6,fun x m H7 s7 hx hm2 ⟨dx7,ex⟩ em=>?_⟩
   have ho7:=s7 _ _ ho6
   have hd7:=s7 _ _ st6.hds
   have hbo7:=s7 _ _ hbo6
   have nxd:x≠hd:=(qa2 st6.hds hx).symm
   have nmd:m≠hd:=(qa2 st6.hds hm2).symm
   have s67:=s56.trans s7
   have ll7:=s67 _ _ el
   have e27:=s7 _ _ (s6 _ _ el2)
   have p7:=s7 _ _ (s6 _ _ ep5)
   have acc7:=s67 _ _ ea
   have sb7:SB [hd] H H7:=sb.trans (SB.of s67)
   have fx:H x=none:=fre x (s56.free hx)
   have fm:H m=none:=fre m (s56.free hm2)
   have fl2:H l2=none:=fre l2 hl2
   have nl2h:l2≠hd:=(qa2 hS.hds fl2).symm
   have nl2l:l2≠ll:=(qa2 el hl2).symm
   have ell6:=s56 _ _ el
   have npl:p≠ll:=fun z=>by rw [z,el] at ep;cases ep
   have ek:=qgg st.nu (zI us (zI mid (zC (a:=b) (l:=post2)))) (b':=⟨rOf b.R.n b.R.i b.R.k b.R.f b.R.r true,x,m,b.t⟩) rfl
   have er2:=repl_mid st.nu (cs:=us++mid) (b:=b) (ds:=post2) (b':=⟨rOf b.R.n b.R.i b.R.k b.R.f b.R.r true,x,m,b.t⟩) (yC ..).symm rfl
   have nu2:=st.nu.repl (zI us (zI mid (zC (a:=b) (l:=post2)))) (b':=⟨rOf b.R.n b.R.i b.R.k b.R.f b.R.r true,x,m,b.t⟩) rfl
   have l60s:=st.l63
   have zd:(stK (us++(mid++b :: post2))).length < 16777216:=by unfold stK;rw [zB];omega
   rw [er2] at ek nu2
   have ek:qco (stK (us++(mid++b :: post2))) (Sum.inl b.R.n) (.ref x)=stK (us++mid++⟨rOf b.R.n b.R.i b.R.k b.R.f b.R.r true,x,m,b.t⟩ :: post2):=ek
   have st8:=(st6.same s7).swap mh' (bs':=us++mid++⟨rOf b.R.n b.R.i b.R.k b.R.f b.R.r true,x,m,b.t⟩ :: post2) (fun y hy=>by
    rcases mem_mid2 (b:=b) hy with h|h
    .rw [h];exact .inr ⟨⟨⟨dx7,ex⟩,em,had,hb'.inw,hb'.il⟩,nxd,nmd⟩
    .rw [yC] at h;exact .inl h) nu2 (by rw [zL,zL,zR] at*;omega)
   clear ho6 hbo6 amt6
   left
   refine r_dpI hd7 zd ?_
   rw [ek]
   have hbo8:upd H7 hd (.dK (stK (us++mid++⟨rOf b.R.n b.R.i b.R.k b.R.f b.R.r true,x,m,b.t⟩ :: post2))) b.o=_:=(qa6 (fun z=>by rw [z,hd7] at hbo7;cases hbo7)).trans hbo7
   have ll8:upd H7 hd (.dK (stK (us++mid++⟨rOf b.R.n b.R.i b.R.k b.R.f b.R.r true,x,m,b.t⟩ :: post2))) ll=_:=(qa6 nllh).trans ll7
   have e28:upd H7 hd (.dK (stK (us++mid++⟨rOf b.R.n b.R.i b.R.k b.R.f b.R.r true,x,m,b.t⟩ :: post2))) l2=_:=(qa6 nl2h).trans e27
   have p8:upd H7 hd (.dK (stK (us++mid++⟨rOf b.R.n b.R.i b.R.k b.R.f b.R.r true,x,m,b.t⟩ :: post2))) p=_:=(qa6 nph).trans p7
   have acc8:upd H7 hd (.dK (stK (us++mid++⟨rOf b.R.n b.R.i b.R.k b.R.f b.R.r true,x,m,b.t⟩ :: post2))) acc=_:=(qa6 nah).trans acc7
   have sb8:SB [hd] H (upd H7 hd (.dK (stK (us++mid++⟨rOf b.R.n b.R.i b.R.k b.R.f b.R.r true,x,m,b.t⟩ :: post2)))):=sb7.at (zC ..)
   generalize upd H7 hd (.dK (stK (us++mid++⟨rOf b.R.n b.R.i b.R.k b.R.f b.R.r true,x,m,b.t⟩ :: post2)))=H8 at*
   clear ho7 hd7 hbo7 ll7 e27 p7 acc7 sb7
   left
   have sbl:=(SB.of (A:=[ll]) (qas.refl H8)).at (o:=.lst (xs++ [V.int b.R.n])) (zC ..)
   refine⟨pre++mid++ [b],post2,us++mid++ [⟨rOf b.R.n b.R.i b.R.k b.R.f b.R.r true,x,m,b.t⟩],l2,k2,qd7 pf b.R.f,xs++ [V.int b.R.n],_,_,rfl,eb2,hrest,?_,?_,by rw [qa6 nl2l];exact e28,fl2,hA2,qdj hIp hb'.inw,?_,fun z=>?_,fun y hy=>?_,fun y o e nn=>?_,by rw [qa6 nal];exact acc8,qa1,by rw [zL,yE];omega,by rw [qa6 npl];exact p8⟩
   .rw [yC (us++mid)]
    refine st8.sbl sbl (qan (qa2 ho hll)) (qan nllh.symm) fun y hy=>?_
    have g:=(st8.ob y hy).nl ll8
    exact⟨qan g.1,qan g.2⟩
   .rw [lfb2,zG,zG];rfl
   .rw [lfb2]
    funext z
    rw [qdm]
   .rw [qdm]
    cases ef:b.R.f z with
    |none=>
     have:gN b.R.f z=0:=by unfold gN;rw [ef];rfl
     have:=hle z
     omega
    |some v=>exact(qgx hb'.inw).mp hft z (by rw [ef];intro c;cases c)
   .rcases zN.mp hy with hy|hy
    .rcases zN.mp hy with hy|hy
     .exact hnw y hy
     .exact .inl (hmm y hy)
    .rw [zH.mp hy];exact .inr ⟨fx,fm⟩
   .rw [qa6 (qa2 e hll)];exact sb8 y o e nn
  .have hft:¬ftB P.ws (gN pf) (gN e.x.fp) b.R.f=true:=fun hf=>ftv.mpr hf z hv
   have lfb2:lfL P.ws h (gN e.x.fp) (gN (qc1 ((bs.filter (qbj h)).map qcw))) ((pre++mid++ [b]).map b3)=(us.map b3++mid.map b3++ [b3 b],gN pf):=by
    rw [lfb]
    unfold lfS
    rw [if_neg (by rw [Bool.and_eq_true];exact fun c=>hft c.2)]
   have s56:=s5.trans s6
   have st6:=st.same s56
   left
   refine⟨pre++mid++ [b],post2,us++mid++ [b],pm,kp,pf,xs,_,_,rfl,eb2,hrest,?_,?_,s56 _ _ epm,fpm,hAp,hIp,by rw [lfb2],hle,fun y hy=>?_,sb.trans (SB.of s56),s56 _ _ ea,s56 _ _ el,by omega,s56 _ _ ep⟩
   .rw [yC (us++mid),yC us];exact st6
   .rw [lfb2,zG,zG];rfl
   .rcases zN.mp hy with hy|hy
    .rcases zN.mp hy with hy|hy
     .exact hnw y hy
     .exact .inl (hmm y hy)
    .rw [zH.mp hy];exact .inl hbm
 rintro σ H' ⟨pre,post,us,pm,kp,pf,xs,w5,w6,rfl,ebs,efp2,st,hu,epm,fpm,hAp,hIp,hg,hle,hnw,sb,ea,el,hxl,ep⟩
 have ez:(bsV (bs.filter (lnB h))).length=(bs.filter (lnB h)).length:=zB _
 rw [ez,List.drop_length] at efp2
 left
 refine q (us++post) _ _ st ?_ (fun b hb=>?_) sb
 .rw [zG,hu]
  conv=>rhs;rw [ebs,zG,<-ebs,lfL_no _ _ (no_loan efp2)]
 .rcases zN.mp hb with hb|hb
  .exact hnw b hb
  .exact .inl (by rw [ebs];exact zI _ hb)
structure S28 (d:Ad) (H6 H:Hp) (so t hd lr:Addr) (P:PL) (bs:List Ob) (rs:List Lr) (L:Int):Prop where
 w:W23 d H6 H so t hd lr P bs rs L
 ng:NgOk P bs
 tl:TlOk bs rs
 pt:PosT bs
theorem S28.same {d:Ad} {H6 H H':Hp} {so t hd lr:Addr} {P:PL} {bs:List Ob} {rs:List Lr} {L:Int} (h:S28 d H6 H so t hd lr P bs rs L) (s:qas H H'):S28 d H6 H' so t hd lr P bs rs L:=⟨h.w.same s,h.ng,h.tl,h.pt⟩
def InF (bs:List Ob) (rs:List Lr) (x:Addr):Prop:=(∃b∈bs,x=b.o\/x=b.m)\/∃r∈rs,x=r.a\/x=r.m
def Fr (H:Hp) (bs:List Ob) (rs:List Lr) (bs':List Ob) (rs':List Lr):Prop:=∀x,InF bs' rs' x->InF bs rs x\/H x=none
theorem Fr.of {H:Hp} {bs bs':List Ob} {rs rs':List Lr} (hb:∀b∈bs',b∈bs\/(H b.o=none/\H b.m=none)) (hr:∀r∈rs',r∈rs\/(H r.a=none/\(H r.m=none\/∃r0∈rs,r0.m=r.m))):Fr H bs rs bs' rs':=fun x hx=>by
 rcases hx with ⟨b,h,e⟩ |⟨r,h,e⟩
 .rcases hb b h with g|g
  .exact .inl (.inl ⟨b,g,e⟩)
  .rcases e with rfl|rfl
   .exact .inr g.1
   .exact .inr g.2
 .rcases hr r h with g|⟨g1,g2⟩
  .exact .inl (.inr ⟨r,g,e⟩)
  .rcases e with rfl|rfl
   .exact .inr g1
   .rcases g2 with g2|⟨r0,h0,e0⟩
    .exact .inr g2
    .exact .inl (.inr ⟨r0,h0,.inr e0.symm⟩)
theorem in3a {a b c:Addr}:a∈ [a,b,c]:=zC ..
theorem in3b {a b c:Addr}:b∈ [a,b,c]:=zF _ (zC ..)
theorem in3c {a b c:Addr}:c∈ [a,b,c]:=zF _ (zF _ (zC ..))
theorem tl_snoc {bs:List Ob} {rs:List Lr} {b:Ob} {r:Lr} (tl:TlOk bs rs) (hl:bs.length=rs.length) (hu:r.u=.int b.R.r) (hv:r.v=tV b.t):TlOk (bs++ [b]) (rs++ [r]):=fun i x y hx hy=>by
 by_cases c:i < bs.length
 .rw [List.getElem?_append_left c] at hx
  rw [List.getElem?_append_left (by omega)] at hy
  exact tl i x y hx hy
 .have h1:=(List.getElem?_eq_some_iff.mp hx).1
  rw [zL,yE] at h1
  have ei:i=bs.length:=by omega
  rw [yJ (by omega),ei,Nat.sub_self] at hx
  rw [yJ (by omega),ei,hl,Nat.sub_self] at hy
  have hx:b=x:=by simpa using hx
  have hy:r=y:=by simpa using hy
  subst hx hy
  exact⟨hu,hv⟩
def wk3 (K:Frag) (d:Ad):Sp:=fun vs H Q _=>∃(c:Int) (H6:Hp) (so t hd lr tg ln lw de dp:Addr) (sc:Int) (nm:List Str) (n:Nat) (qs:List Pq2) (S:Ts) (P:PL) (wt:Nat->Int) (bs:List Ob) (rs:List Lr) (L:Int),vs=[.ref so,.ref lr,.int c,.ref tg,.int L]/\Ev K d H6 tg ln lw de dp sc nm n qs t S P wt/\C23 H6 so hd lr/\S28 d H6 H so t hd lr P bs rs L/\0<=L/\rs.length < 40/\
 ∀bs' rs' H',S28 d H6 H' so t hd lr P bs' rs' (L+1)->SB [so,hd,lr] H H'->Fr H bs rs bs' rs'->rs'.length=rs.length+1->Q (.bl true) H'
include T in
theorem wir:FnOk P w K mg base CX0 24 d.wjc d.wh5 ["_law_store","_law_rows","_law_cell_here","_law_grove_here","_law_last"] (wk3 K d):=by
 refine T.wjd.ok w5n (fun vs H Q E h=>?_) (fun cdv A outer s H vs Q E hr h=>?_)
 .obtain⟨c,H6,so,t,hd,lr,tg,ln,lw,de,dp,sc,nm,n,qs,S,P,wt,bs,rs,L,rfl,_⟩:=h;rfl
 obtain⟨c,H6,so,t,hd,lr,tg,ln,lw,de,dp,sc,nm,n,qs,S,P,wt,bs,rs,L,rfl,ev,C,⟨v,ng,tl,pt⟩,L0,r20,q⟩:=h
 refine⟨_,(qa4 (ps_asg (pv 3) (pg_tup rfl (qdx (qau (i:=5) w5n.nd rfl (Or.inl rfl)) (qdx (qau (i:=6) w5n.nd rfl (Or.inl rfl)) (qdx (qau (i:=7) w5n.nd rfl (Or.inl rfl)) (qdx (qau (i:=8) w5n.nd rfl (Or.inl rfl)) (qdx (qau (i:=9) w5n.nd rfl (Or.inl rfl)) pgs_nil)))))))
  (qa4 (qag (i:=10) w5n.nd rfl (Or.inl rfl) (qaq qaw (pv 5) (qab ((w0l T).mono (by decide)) hr rfl T.w1f T.w18.kp T.w1e .nil qaf (qa0 (pv 2) (qa0 qa7 (qa0 (qad qdi rfl T.w34 PySem.boot_len (qa0 (pv 8) qa3)) qa3)))) (fun _ _=>rfl)))
  (qa4 (qag (i:=11) w5n.nd rfl (Or.inl rfl) (qab ((w7w T).mono (by decide)) hr rfl T.w9i T.w63.kp T.w9c .nil qaf (qa0 (pv 2) (qa0 (pv 6) (qa0 (pv 7) qa3)))))
  (qa4 (qag (i:=12) w5n.nd rfl (Or.inl rfl) (pe_cut (qe0 (qd4 qf6 (qab ((w0l T).mono (by decide)) hr rfl T.w1f T.w18.kp T.w1e .nil qaf (qa0 (pv 2) (qa0 qa7 (qa0 qa7 qa3)))) qa7 (qap _)) (qdl (qd4 (op_eqD (hu8 hr)) (qab ((wg4 T).mono (by decide)) hr rfl T.wgg T.wfj.kp T.wh2 .nil qaf (qa0 (pv 1) (qa0 (pv 10) (qa0 (pv 11) (qa0 (qb3 (qb9 hr) (pv 9) (pv 10) (fun _ _=>rfl)) (qa0 qa7 qa3)))))) (qcb qa3) (qap _))))))
  (qa4 (qag (i:=13) w5n.nd rfl (Or.inl rfl) (qg0 (qa0 (qar qb8 (pv 4) qa7) (qa0 (pv 10) (qa0 (pv 11) (qa0 (qab ((w0l T).mono (by decide)) hr rfl T.w1f T.w18.kp T.w1e .nil qaf (qa0 (pv 2) (qa0 qa7 (qa0 qa7 qa3)))) (qa0 (qab ((whu T).mono (by decide)) hr rfl T.wjf T.wgk.kp T.wj6 .nil qaf (qa0 (pv 2) qa3)) (qa0 (pv 12) qa3))))))))
  (qa4 (qag (i:=14) w5n.nd rfl (Or.inl rfl) (qbs qc5 rfl T.w7q PyProof.Rows.boot_dict (qa0 (pv 11) qa3)))
  (qa4 (qag (i:=15) w5n.nd rfl (Or.inl rfl) (qai (W:=fun _ _ _ _=>False) (pv 0) T.w01 T.w35 ((we7 T).mono (by decide)) hr T.wf6 .nil qdk (qa0 (pv 10) (qa0 (pv 14) (qa0 (qaq qav (pv 13) qa7 (fun _ _=>rfl)) (qa0 (qaq qav (pv 13) qa7 (fun _ _=>rfl)) (qa0 (pv 12) qa3)))))))
  (qa4 (qat (pe_bm0 PySem.F.plainAttrs_dict PySem.F.slot_dict_clear PySem.F.type_dict_clear mt_dclear (pv 14)))
  (qa4 (qat (qdr PySem.F.plainAttrs_list PySem.F.slot_list_append PySem.F.type_list_append qbt (pv 1) (qa0 (pv 13) qa3)))
  (qa5 (qae (qd4 qee (pv 15) (qar qb8 (pv 4) qa7) (qap _))))))))))))),?_⟩
 walk_at "d"
 refine qac (σ:=[some (.ref so),some (.ref lr),some (.int c),some (.ref tg),some (.int L),none,none,none,none,none,none,none,none,none,none,none]) rfl ?_
 have cs:=T.w01
 have nl:=ev.nl
 have n1:=ev.gv.n1
 have n5:=ev.gv.n5
 have hbl:bs.length=rs.length:=by have:=congrArg List.length v.co;rw [zB,zB] at this;exact this
 have lkE:(kvZ nm ((List.range n).map (elV nm (elN P.es)))).length=n:=by rw [qdg (by rw [zB,yG];have:=ev.gv.nl.len;omega),zB,yG]
 have zl:(rwV rs).length < sizeLine:=by unfold rwV;rw [zB];show _ < 16777216;omega
 have etg:=v.s0 _ _ ev.tg
 left
 refine r_lenD (v.s0 _ _ ev.gv.de) ?_
 rw [lkE]
 generalize hni:((n:Nat):Int)=ni
 left
 refine qbl (by decide) (by decide) (by omega) (by omega) fun r r0 r1=>?_
 obtain⟨h,rfl⟩:=Int.eq_ofNat_of_zero_le r0
 have hh:h < n:=by omega
 have xn:atI (nm.map V.str) ((h:Nat):Int)=some (.str (nmF P h)):=qbn (by rw [zD,ev.at hh];rfl)
 clear r0 r1 hni
 refine qbk (SqL.of (v.s0 _ _ ev.gv.ln)) xn ?_
 generalize ((h:Nat):Int)=hi
 left
 refine⟨c,sc,lw,P.ws,rfl,v.s0 _ _ ev.gv.lw,ev.gv.w1,ev.gv.w3,ev.gv.wl.nd,ev.sc,fun m k f H1 s1 hm em hA hok ck=>?_⟩
 have v1:=v.same s1
 have hIn:InW P.ws f:=fun z hz=>by
  cases e:f z with
  |none=>exact absurd e hz
  |some x=>exact(hok.ok z x e).1
 obtain⟨qi,hqm,xq,etf,eqi,inq⟩:=ev.pr hh
 have nn:NnB bs:=NnB.of v.co v.rw
 have edp1:=v1.s0 _ _ ev.gv.dp
 clear etg
 left
 refine r_cutE (fun x H'=>∃s:Bool,x=.bl s/\qas H1 H'/\(s=true->Fits S P bs h .non f)) ?_ ?_
 .left
  refine qbl (by decide) (by decide) (by decide) (by decide) fun r2 _ _=>?_
  left
  refine i_2 (fun c=>?_) (fun c=>?_)
  .left
   refine qgj (.inl edp1) xq ?_
   left
   refine⟨lr,m,qi.1,P,rs,h,.int 0,k,tdK (P.ws.zip qi.2),f,tdF (P.ws.zip qi.2),rfl,.inl ⟨_,rfl⟩,v1.hl,v1.rw,by omega,ev.gv.w3,ev.inj,by omega,em,hA,hIn,v1.s0 _ _ eqi,td_ad _,fun l ss H2 s2 hl el hsrt hss=>?_⟩
   left
   rename_i pe hpe
   have ne:=qa2 el hpe
   refine r_eqD ne (by decide) (qe7 (n:=0) (SqL.of (qa8 el hpe)) (SqL.of qa1) ne) ?_
   refine⟨_,rfl,s2.trans (qaa hpe _),fun e z hz=>?_⟩
   have e:=of_decide_eq_true e
   have hm:=(hss z).mpr (by rw [<-etf,sh_zero v.st.nu v.co];exact(viol_sh ev.ti ev.pf (by omega) hh v.co nn ng .non z).mp hz)
   have:ss=[]:=by simpa using e
   rw [this] at hm
   simp at hm
  .left
   exact⟨qas.refl _,fun e=>by cases e⟩
 rintro x H2 ⟨s,rfl,s2,hF⟩
 have v2:=v1.same s2
 have em2:=s2 _ _ em
 have nm3:=v.new hm
 have nmh:m≠hd:=fun e=>nm3 (by rw [e];exact zF _ (zC ..))
 have nms:m≠so:=fun e=>nm3 (by rw [e];exact zC ..)
 have nml:m≠lr:=fun e=>nm3 (by rw [e];exact zF _ (zF _ (zC ..)))
 clear edp1 xq
 left
 refine qbl (by decide) (by decide) (by decide) (by decide) fun rk _ _=>?_
 left
 refine⟨c,rfl,fun tn htn=>?_⟩
 left
 rename_i rr hrr hp hhp
 have sr:=qaa hrr (.tup [V.int (L+1),V.str (nmF P h),V.ref m,V.int rk,tV tn,V.bl s])
 have er3:upd H2 rr (.tup [V.int (L+1),V.str (nmF P h),V.ref m,V.int rk,tV tn,V.bl s]) rr=some (.tup [V.int (L+1),V.str (nmF P h),V.ref m,V.int rk,tV tn,V.bl s]):=qa1
 have v3:=v2.same sr
 have em3:=sr _ _ em2
 have t3:=(s1.trans s2).trans sr
 have frr:H rr=none:=(s1.trans s2).free hrr
 generalize upd H2 rr (.tup [V.int (L+1),V.str (nmF P h),V.ref m,V.int rk,tV tn,V.bl s])=H3 at*
 have nr3:=v.new frr
 have nrh:rr≠hd:=fun e=>nr3 (by rw [e];exact zF _ (zC ..))
 have nrs:rr≠so:=fun e=>nr3 (by rw [e];exact zC ..)
 have nrl:rr≠lr:=fun e=>nr3 (by rw [e];exact zF _ (zF _ (zC ..)))
 obtain⟨dx3,eso3⟩:=v3.st.obj
 clear v1 v2 em em2 hrr sr s1 s2
 have le:∀y,s=true->gN (qc1 ((bs.filter (qbj h)).map qcw)) y+gN f y<=gN (tfF P.tp h) y:=fun y e=>by
  have hv:=hF e y
  have eg:gN (mF bs h .non f) y=gN (qc1 ((bs.filter (qbj h)).map qcw)) y+gN f y:=by unfold mF;rw [qdm,qgb]
  rw [<-eg,<-fp_eq ev.ti ev.pf (by omega) hh]
  cases em:mF bs h .non f y with
  |none=>
   have g0:gN (mF bs h .non f) y=0:=by unfold gN;rw [em];rfl
   rw [g0,fp_eq ev.ti ev.pf (by omega) hh]
   exact pr_nn ev.pf (by omega) y
  |some x=>
   apply Classical.byContradiction
   intro hc
   exact hv ⟨(by rw [em];intro z;cases z),by omega⟩
 have s4:=qaa hhp (.dK k)
 have ehp:upd H3 hp (.dK k) hp=some (.dK k):=qa1
 have v4:=v3.same s4
 have er4:=s4 _ _ er3
 have em4:=s4 _ _ em3
 have fhp:H hp=none:=t3.free hhp
 have nhr:hp≠rr:=(qa2 er3 hhp).symm
 have nhm:hp≠m:=(qa2 em3 hhp).symm
 have np3:=v.new fhp
 have nph:hp≠hd:=fun e=>np3 (by rw [e];exact in3b)
 have nps:hp≠so:=fun e=>np3 (by rw [e];exact in3a)
 have npl:hp≠lr:=fun e=>np3 (by rw [e];exact in3c)
 have t4:=t3.trans s4
 generalize upd H3 hp (.dK k)=H4 at*
 clear eso3 er3 em3
 obtain⟨dx4,eso4⟩:=v4.st.obj
 left
 refine⟨so,t,hd,hp,S,P,bs,L,n,h,k,f,rk,tn,s,rfl,v4.st,v4.mh,nph,L0,by omega,ev.wr.same v4.s0,hh,ehp,hA,hIn,hF,fun b H5 st5 mh5 sb5 fo fm et eR=>?_⟩
 have elr5:=sb5 _ _ v4.hl (two_no C.sl.symm C.hl.symm)
 have er5:=sb5 _ _ er4 (two_no nrs nrh)
 have em5:=sb5 _ _ em4 (two_no nms nmh)
 have ehp5:=sb5 _ _ ehp (two_no nps nph)
 have fol:b.o≠lr:=(qa2 v4.hl fo).symm
 have fml:b.m≠lr:=(qa2 v4.hl fm).symm
 have nbo:b.o≠hp:=(qa2 ehp fo).symm
 have nbm:b.m≠hp:=(qa2 ehp fm).symm
 left
 have st6:=st5.sbl (H':=upd H5 hp (.dK [])) (A:=[hp]) ((SB.of (qas.refl _)).at (zC ..)) (qan nps.symm) (qan nph.symm) fun y hy=>by
  rcases zN.mp hy with hy|hy
  .have g:=v.st.ob y hy
   obtain⟨_,e⟩:=g.obj
   exact⟨qan (qa2 e fhp),qan (qa2 g.amt fhp)⟩
  .rw [zH.mp hy];exact⟨qan nbo,qan nbm⟩
 have elr6:upd H5 hp (.dK []) lr=some (.lst (rwV rs)):=by rw [qa6 npl.symm];exact elr5
 have er6:upd H5 hp (.dK []) rr=some (.tup [V.int (L+1),V.str (nmF P h),V.ref m,V.int rk,tV tn,V.bl s]):=by rw [qa6 nhr.symm];exact er5
 have em6:upd H5 hp (.dK []) m=some (.dK k):=by rw [qa6 nhm.symm];exact em5
 have sb6:SB [so,hd,lr] H (upd H5 hp (.dK [])):=fun y o e nn=>by
  rw [qa6 (qa2 e fhp)]
  refine sb5 y o (t4 _ _ e) (fun hm2=>nn ?_)
  rcases zV.mp hm2 with h|h
  .rw [h];exact in3a
  .rw [zH.mp h];exact in3b
 generalize upd H5 hp (.dK [])=H6' at*
 clear elr5 er5 em5 ehp5 st5 sb5
 left
 have sb7:SB [so,hd,lr] H (upd H6' lr (.lst (rwV rs++ [V.ref rr]))):=sb6.at in3c
 have w9:W23 d H6 (upd H6' lr (.lst (rwV rs++ [V.ref rr]))) so t hd lr P (bs++ [b]) (rs++ [⟨rr,m,L+1,h,k,f,.int rk,tV tn,s⟩]) (L+1):=by
  refine W23.mv v C sb7 ?_ mh5 ?_ (fun q hq=>?_) (fun x hx=>?_) ?_
  .refine st6.sbl (A:=[lr]) ((SB.of (qas.refl _)).at (zC ..)) (qan C.sl) (qan C.hl) fun x hx=>?_
   rcases zN.mp hx with hx|hx
   .exact⟨qan (v.ab x hx).1,qan (v.ab x hx).2⟩
   .rw [zH.mp hx];exact⟨qan fol,qan fml⟩
  .rw [qa1]
   unfold rwV
   rw [zG];rfl
  .rcases zN.mp hq with hq|hq
   .exact .inl hq
   .rw [zH.mp hq]
    exact .inr ⟨⟨by show upd _ _ _ rr=_;rw [qa6 nrl];exact er6,by show upd _ _ _ m=_;rw [qa6 nml];exact em6,hA,hIn,fun z x e=>(hok.ok z x e).2.1,by show h < _;omega⟩,frr,hm⟩
  .rcases zN.mp hx with hx|hx
   .exact .inl hx
   .rw [zH.mp hx];exact .inr ⟨fol,fml⟩
  .rw [zG,zG,v.co]
   show _++ [bCo b]=_++ [rCo _]
   unfold bCo rCo
   rw [eR];rfl
 rw [decide_eq_true rfl]
 refine q (bs++ [b]) _ _ ⟨w9,ng_put ng fun e y=>?_,tl_snoc tl hbl (by show V.int rk=_;rw [eR];rfl) (by show tV tn=_;rw [et]),fun x hx k' ek'=>?_⟩ sb7 (Fr.of (fun x hx=>?_) fun x hx=>?_) (by rw [zL];rfl)
 .rw [show b.R.i=h by rw [eR];rfl,show b.R.f=f by rw [eR];rfl]
  exact le y ((show b.R.s=s by rw [eR];rfl).symm.trans e)
 .rcases zN.mp hx with hx|hx
  .exact pt x hx k' ek'
  .rw [zH.mp hx,et] at ek'
   exact htn k' ek'
 .rcases zN.mp hx with hx|hx
  .exact .inl hx
  .rw [zH.mp hx];exact .inr ⟨t4.free fo,t4.free fm⟩
 .rcases zN.mp hx with hx|hx
  .exact .inl hx
  .rw [zH.mp hx];exact .inr ⟨frr,.inl hm⟩
theorem InF.alive {d:Ad} {H6 H:Hp} {so t hd lr:Addr} {P:PL} {bs:List Ob} {rs:List Lr} {L:Int} (v:W23 d H6 H so t hd lr P bs rs L) {x:Addr} (h:InF bs rs x):H x≠none:=fun hx=>by
 rcases h with ⟨b,hb,rfl|rfl⟩ |⟨r,hr,rfl|rfl⟩
 .obtain⟨_,e⟩:=(v.st.ob b hb).obj
  rw [e] at hx;cases hx
 .have:=(v.st.ob b hb).amt
  rw [this] at hx;cases hx
 .have:=(v.rw r hr).tup
  rw [this] at hx;cases hx
 .have:=(v.rw r hr).dic
  rw [this] at hx;cases hx
theorem S28.sb {d:Ad} {H6 H H':Hp} {so t hd lr:Addr} {P:PL} {bs:List Ob} {rs:List Lr} {L:Int} {A:List Addr} (v:S28 d H6 H so t hd lr P bs rs L) (s:SB A H H') (hA:∀x∈A,x∉ [so,hd,lr]/\¬InF bs rs x/\H6 x=none):S28 d H6 H' so t hd lr P bs rs L:=by
 have nso:so∉A:=fun h=>(hA so h).1 in3a
 have nhd:hd∉A:=fun h=>(hA hd h).1 in3b
 have nlr:lr∉A:=fun h=>(hA lr h).1 in3c
 refine⟨⟨fun x o e=>s x o (v.w.s0 x o e) fun m=>(by rw [(hA x m).2.2] at e;cases e),v.w.st.sbl s nso nhd fun b hb=>⟨fun h=>(hA _ h).2.1 (.inl ⟨b,hb,.inl rfl⟩),fun h=>(hA _ h).2.1 (.inl ⟨b,hb,.inr rfl⟩)⟩,v.w.mh,s _ _ v.w.hl nlr,fun r hr=>?_,v.w.co,v.w.ar,v.w.ab⟩,v.ng,v.tl,v.pt⟩
 have g:=v.w.rw r hr
 exact⟨s _ _ g.tup fun h=>(hA _ h).2.1 (.inr ⟨r,hr,.inl rfl⟩),s _ _ g.dic fun h=>(hA _ h).2.1 (.inr ⟨r,hr,.inr rfl⟩),g.ad,g.inw,g.pos,g.il⟩
structure Sx where
 so:Addr
 hd:Addr
 lr:Addr
 bs:List Ob
 rs:List Lr
 L:Int
def Sx.A (x:Sx):List Addr:=[x.so,x.hd,x.lr]
structure Tw (d:Ad) (H6 H:Hp) (t:Addr) (P:PL) (A0:List Addr) (x y:Sx):Prop where
 vx:S28 d H6 H x.so t x.hd x.lr P x.bs x.rs x.L
 vy:S28 d H6 H y.so t y.hd y.lr P y.bs y.rs y.L
 cx:C23 H6 x.so x.hd x.lr
 cy:C23 H6 y.so y.hd y.lr
 xy:∀a∈x.A,a∉y.A/\¬InF y.bs y.rs a
 yx:∀a∈y.A,a∉x.A/\¬InF x.bs x.rs a
 z:∀a∈A0,a∉x.A/\a∉y.A/\¬InF x.bs x.rs a/\¬InF y.bs y.rs a/\H6 a=none/\H a≠none
section
variable {d: Ad} {H6 H H': Hp} {t: Addr} {P: PL} {A0: List Addr} {x y: Sx}
theorem Tw.swap (h:Tw d H6 H t P A0 x y):Tw d H6 H t P A0 y x:=⟨h.vy,h.vx,h.cy,h.cx,h.yx,h.xy,fun a ha=>let ⟨p,q,r,s,u⟩:=h.z a ha;⟨q,p,s,r,u⟩⟩
theorem qas.up (s:qas H H') {a:Addr} (h:H a≠none):H' a≠none:=by
 cases e:H a with
 |none=>exact absurd e h
 |some o=>rw [s _ _ e];intro c;cases c
theorem SB.live {A:List Addr} (s:SB A H H') {a:Addr} (n:a∉A) (h:H a≠none):H' a≠none:=by
 cases e:H a with
 |none=>exact absurd e h
 |some o=>rw [s _ _ e n];intro c;cases c
theorem Tw.same (h:Tw d H6 H t P A0 x y) (s:qas H H'):Tw d H6 H' t P A0 x y:=⟨h.vx.same s,h.vy.same s,h.cx,h.cy,h.xy,h.yx,fun a ha=>let ⟨p,q,r,u,w,l⟩:=h.z a ha;⟨p,q,r,u,w,qas.up s l⟩⟩
theorem S28.live {so hd lr:Addr} {bs:List Ob} {rs:List Lr} {L:Int} (v:S28 d H6 H so t hd lr P bs rs L) {a:Addr} (h:a∈ [so,hd,lr]):H a≠none:=fun e=>v.w.new e h
theorem Tw.step (h:Tw d H6 H t P A0 x y) {lr':Addr} {bs':List Ob} {rs':List Lr} {L':Int} (v':S28 d H6 H' x.so t x.hd lr' P bs' rs' L') (C':C23 H6 x.so x.hd lr') (hl:lr'=x.lr\/H lr'=none) (sb:SB [x.so,x.hd,x.lr] H H') (fr:Fr H x.bs x.rs bs' rs'):Tw d H6 H' t P A0 ⟨x.so,x.hd,lr',bs',rs',L'⟩ y:=by
 have key:∀a,H a≠none->a∉x.A->a∉ [x.so,x.hd,lr']:=fun a ha na hm=>by
  rcases qbw hm with e|e|e
  .exact na (by rw [e];exact in3a)
  .exact na (by rw [e];exact in3b)
  .rcases hl with hl|hl
   .exact na (by rw [e,hl];exact in3c)
   .rw [e] at ha;exact ha hl
 have keyF:∀a,H a≠none->¬InF x.bs x.rs a->¬InF bs' rs' a:=fun a ha na hm=>(fr a hm).elim na ha
 refine⟨v',h.vy.sb sb fun a ha=>⟨(h.xy a ha).1,(h.xy a ha).2,h.cx.n6 a ha⟩,C',h.cy,fun a ha=>?_,fun a ha=>?_,fun a ha=>?_⟩
 .have ha:a∈ [x.so,x.hd,lr']:=ha
  rcases qbw ha with e|e|e
  .rw [e];exact h.xy _ in3a
  .rw [e];exact h.xy _ in3b
  .rcases hl with hl|hl
   .rw [e,hl];exact h.xy _ in3c
   .rw [e]
    exact⟨fun hm=>h.vy.live hm hl,fun hm=>InF.alive h.vy.w hm hl⟩
 .have l:=h.vy.live ha
  exact⟨key a l (h.yx a ha).1,keyF a l (h.yx a ha).2⟩
 .obtain⟨p,q,r,u,w,l⟩:=h.z a ha
  exact⟨key a l p,q,keyF a l r,u,w,sb.live p l⟩
theorem Tw.zup (h:Tw d H6 H t P A0 x y) {a:Addr} {o:HO} (ha:a∈A0):Tw d H6 (upd H a o) t P A0 x y:=by
 have s:SB [a] H (upd H a o):=(SB.of (qas.refl _)).at (zC ..)
 obtain⟨p,q,r,u,w,_⟩:=h.z a ha
 refine⟨h.vx.sb s fun b hb=>?_,h.vy.sb s fun b hb=>?_,h.cx,h.cy,h.xy,h.yx,fun b hb=>?_⟩
 .rw [zH.mp hb];exact⟨p,r,w⟩
 .rw [zH.mp hb];exact⟨q,u,w⟩
 .obtain⟨p,q,r,u,w,l⟩:=h.z b hb
  refine⟨p,q,r,u,w,?_⟩
  by_cases c:b=a
  .rw [c,qa1];intro e;cases e
  .rw [qa6 c];exact l
end
theorem erase_b {bs:List Ob} {L:Int} (nu:Nus bs L) {i:Nat} {b:Ob} (hb:bs[i]?=some b):bs.filter (notN b.R.n)=bs.eraseIdx i:=by
 have key:∀{l:List Ob} {i:Nat} {b:Ob},(l.map fun b=>b.R.n).Nodup->l[i]?=some b->l.filter (notN b.R.n)=l.eraseIdx i:=by
  intro l
  induction l with
  |nil=>intro i b _ h;simp at h
  |cons x l ih=>
   intro i b nd h
   rw [zM,zX] at nd
   cases i with
   |zero=>
    have e:x=b:=by simpa using h
    subst e
    rw [zU,if_neg (by unfold notN;rw [decide_eq_false (not_not_intro rfl)];exact Bool.false_ne_true)]
    show _=l
    refine yN.mpr fun y hy=>decide_eq_true fun e=>nd.1 ?_
    rw [<-e]
    exact zJ.mpr ⟨y,hy,rfl⟩
   |succ i=>
    have h:l[i]?=some b:=by simpa using h
    have ne:x.R.n≠b.R.n:=fun e=>nd.1 (by rw [e];exact zJ.mpr ⟨b,zK h,rfl⟩)
    rw [zU,if_pos (show notN b.R.n x=true from decide_eq_true ne),ih nd.2 h]
    rfl
 exact key nu.nd hb
theorem tl_erase {bs:List Ob} {rs:List Lr} (tl:TlOk bs rs) (i:Nat):TlOk (bs.eraseIdx i) (rs.eraseIdx i):=fun j x y hx hy=>by
 rw [List.getElem?_eraseIdx] at hx hy
 by_cases c:j < i
 .rw [if_pos c] at hx hy;exact tl j x y hx hy
 .rw [if_neg c] at hx hy;exact tl (j+1) x y hx hy
theorem repl_set {bs:List Ob} {L:Int} (nu:Nus bs L) {i:Nat} {b b':Ob} (hb:bs[i]?=some b) (en:b.R.n=b'.R.n):qcj bs b'=bs.set i b':=by
 have key:∀{l:List Ob} {i:Nat} {b:Ob},(l.map fun b=>b.R.n).Nodup->l[i]?=some b->b.R.n=b'.R.n->qcj l b'=l.set i b':=by
  intro l
  induction l with
  |nil=>intro i b _ h;simp at h
  |cons x l ih=>
   intro i b nd h e
   rw [zM,zX] at nd
   cases i with
   |zero=>
    have ex:x=b:=by simpa using h
    subst ex
    show (if x.R.n=b'.R.n then b' else x) :: qcj l b'=b' :: l
    rw [if_pos e]
    congr 1
    unfold qcj
    refine(yO fun y hy=>?_).trans (List.map_id l)
    rw [if_neg (fun e2=>nd.1 (by rw [e,<-e2];exact zJ.mpr ⟨y,hy,rfl⟩))]
    rfl
   |succ i=>
    have h:l[i]?=some b:=by simpa using h
    have ne:x.R.n≠b'.R.n:=fun e2=>nd.1 (by rw [e2,<-e];exact zJ.mpr ⟨b,zK h,rfl⟩)
    show (if x.R.n=b'.R.n then b' else x) :: qcj l b'=x :: l.set i b'
    rw [if_neg ne,ih nd.2 h e]
 exact key nu.nd hb en
theorem tl_set {bs:List Ob} {rs:List Lr} (tl:TlOk bs rs) {i:Nat} {b:Ob} {r:Lr} (hu:r.u=.int b.R.r) (hv:r.v=tV b.t):TlOk (bs.set i b) (rs.set i r):=fun j x y hx hy=>by
 rw [List.getElem?_set] at hx hy
 by_cases c:i=j
 .rw [if_pos c] at hx hy
  by_cases c1:i < bs.length
  .rw [if_pos c1] at hx
   by_cases c2:i < rs.length
   .rw [if_pos c2] at hy
    have hx:b=x:=Option.some.inj hx
    have hy:r=y:=Option.some.inj hy
    subst hx hy
    exact⟨hu,hv⟩
   .rw [if_neg c2] at hy;cases hy
  .rw [if_neg c1] at hx;cases hx
 .rw [if_neg c] at hx hy
  exact tl j x y hx hy
def gS (v:Str) (l:List Ob):Int:=((l.map qcw).map fun t=>gN t.f v).sum
theorem gS_eq (v:Str) (l:List Ob):gN (qc1 (l.map qcw)) v=gS v l:=by
 unfold qc1 gS
 rw [qe6]
 have:gN noF v=0:=rfl
 omega
theorem qgw (v:Str) (b:Ob) (l:List Ob):gS v (b :: l)=gN b.R.f v+gS v l:=by unfold gS;rw [zM,zM,yZ];rfl
theorem ng_repl {P:PL} {bs:List Ob} {L:Int} (ng:NgOk P bs) (nn:NnB bs) (nu:Nus bs L) {b b':Ob} (hb:b∈bs) (en:b'.R.n=b.R.n) (ei:b'.R.i=b.R.i) (h:b'.R.s=true->∀y,gN (qc1 ((bs.filter (surB b.R.i (.int b.R.n))).map qcw)) y+gN b'.R.f y<=gN (tfF P.tp b.R.i) y):NgOk P (qcj bs b'):=fun j v=>by
 rw [gS_eq]
 have key:∀l:List Ob,(l.map fun b=>b.R.n).Nodup->NnB l->gS v ((qcj l b').filter (qbj j))<=gS v (l.filter (surB j (.int b.R.n)))+(if qbj j b'=true then (if (l.map fun b=>b.R.n).contains b.R.n then gN b'.R.f v else 0) else 0):=fun l=>by
  induction l with
  |nil=>
   intro _ _
   show (0:Int)<=0+_
   split
   .show (0:Int)<=0+(if false=true then _ else 0);simp
   .simp
  |cons x l ih=>
   intro nd hn
   rw [zM,zX] at nd
   have ih:=ih nd.2 fun a ha=>hn a (zF _ ha)
   have er:qcj (x :: l) b'=(if x.R.n=b'.R.n then b' else x) :: qcj l b':=rfl
   rw [er,zU,zU,zM,List.contains_cons]
   by_cases c:x.R.n=b.R.n
   .have nl:(l.map fun b=>b.R.n).contains b.R.n=false:=by
     rw [<-c]
     cases e:(l.map fun b=>b.R.n).contains x.R.n with
     |false=>rfl
     |true=>exact absurd (List.contains_iff_mem.mp e) nd.1
    have ns:surB j (.int b.R.n) x=false:=by
     show (qbj j x && decide (x.R.n≠b.R.n))=false
     rw [decide_eq_false (not_not_intro c),Bool.and_false]
    have ec:(b.R.n==x.R.n ||(l.map fun b=>b.R.n).contains b.R.n)=true:=by rw [c];simp
    rw [show (if x.R.n=b'.R.n then b' else x)=b' from if_pos (c.trans en.symm),ns,if_neg Bool.false_ne_true,ec]
    rw [nl] at ih
    by_cases cs:qbj j b'=true
    .rw [if_pos cs,qgw]
     rw [if_pos cs] at ih ⊢
     have e0:(if false=true then gN b'.R.f v else (0:Int))=0:=if_neg Bool.false_ne_true
     rw [e0] at ih
     rw [if_pos rfl]
     omega
    .rw [if_neg cs]
     rw [if_neg cs] at ih ⊢
     exact ih
   .have ec:(b.R.n==x.R.n ||(l.map fun b=>b.R.n).contains b.R.n)=(l.map fun b=>b.R.n).contains b.R.n:=by
     have:(b.R.n==x.R.n)=false:=by simpa using fun e=>c e.symm
     rw [this,Bool.false_or]
    have es:surB j (.int b.R.n) x=qbj j x:=by
     show (qbj j x && decide (x.R.n≠b.R.n))=_
     rw [decide_eq_true c,Bool.and_true]
    rw [show (if x.R.n=b'.R.n then b' else x)=x from if_neg (fun e=>c (e.trans en)),es,ec]
    by_cases cs:qbj j x=true
    .rw [if_pos cs,if_pos cs,qgw,qgw];omega
    .rw [if_neg cs,if_neg cs];exact ih
 have k:=key bs nu.nd nn
 by_cases cs:qbj j b'=true
 .rw [if_pos cs] at k
  have hs:b'.R.s=true/\b'.R.i=j:=by
   unfold qbj atH at cs
   rw [Bool.and_eq_true] at cs
   exact⟨cs.2,of_decide_eq_true cs.1⟩
  have ej:j=b.R.i:=hs.2.symm.trans ei
  have hh:=h hs.1 v
  rw [gS_eq,<-ej] at hh
  have ht:(bs.map fun b=>b.R.n).contains b.R.n=true:=List.contains_iff_mem.mpr (zJ.mpr ⟨b,hb,rfl⟩)
  rw [ht,if_pos rfl] at k
  omega
 .rw [if_neg cs] at k
  have h1:=gN_sub nn j (.int b.R.n) v
  have h2:=ng j v
  rw [gS_eq] at h1
  omega
theorem T3.eq {x y:T3} (h1:x.c=y.c) (h2:x.u=y.u) (h3:x.v=y.v):x=y:=by cases x;cases y;cases h1;cases h2;cases h3;rfl
theorem b3_r3 {bs:List Ob} {rs:List Lr} (co:bs.map bCo=rs.map rCo) (tl:TlOk bs rs):bs.map b3=rs.map r3:=by
 refine List.ext_getElem? fun i=>?_
 rw [zD,zD]
 have e:=congrArg (fun l:List Co=>l[i]?) co
 try dsimp only at e
 rw [zD,zD] at e
 cases hb:bs[i]? with
 |none=>
  rw [hb] at e
  cases hr:rs[i]? with
  |none=>rfl
  |some r=>rw [hr] at e;cases e
 |some b=>
  rw [hb] at e
  cases hr:rs[i]? with
  |none=>rw [hr] at e;cases e
  |some r=>
   rw [hr] at e
   have g:=tl i b r hb hr
   exact congrArg some (T3.eq (Option.some.inj e) g.1.symm g.2.symm)
theorem of_b3 {bs:List Ob} {rs:List Lr} (h:bs.map b3=rs.map r3):bs.map bCo=rs.map rCo/\TlOk bs rs:=by
 refine⟨?_,fun i b r hb hr=>?_⟩
 .have e:=congrArg (List.map fun x:T3=>x.c) h
  rw [yQ,yQ] at e
  exact e
 .have e:=congrArg (fun l:List T3=>l[i]?) h
  try dsimp only at e
  rw [zD,zD,hb,hr] at e
  have e:=Option.some.inj e
  exact⟨(congrArg T3.u e).symm,(congrArg T3.v e).symm⟩
def gT (z:Str) (j:Nat) (xs:List T3):Int:=(xs.map fun x=>if (decide (x.c.i=j) && x.c.s)=true then gN x.c.f z else 0).sum
theorem qcm (z:Str) (j:Nat) (x:T3) (xs:List T3):gT z j (x :: xs)=(if (decide (x.c.i=j) && x.c.s)=true then gN x.c.f z else 0)+gT z j xs:=by unfold gT;rw [zM,yZ]
theorem gT_eq (z:Str) (j:Nat):∀bs:List Ob,gN (qc1 ((bs.filter (qbj j)).map qcw)) z=gT z j (bs.map b3):=fun bs=>by
 rw [gS_eq]
 induction bs with
 |nil=>rfl
 |cons b bs ih=>
  rw [zM,qcm,zU]
  show gS z (if (atH j b && b.R.s)=true then _ else _)=(if (atH j b && b.R.s)=true then gN b.R.f z else 0)+_
  by_cases c:(atH j b && b.R.s)=true
  .rw [if_pos c,if_pos c,qgw,ih]
  .rw [if_neg c,if_neg c,ih];omega
theorem ng_iff {P:PL} {bs:List Ob}:NgOk P bs↔∀j z,gT z j (bs.map b3)<=gN (tfF P.tp j) z:=⟨fun h j z=>by rw [<-gT_eq];exact h j z,fun h j z=>by rw [gT_eq];exact h j z⟩
theorem lf_keep {ws:List Str} {h:Nat} {G:Str->Int}:∀(xs acc:List T3) (g:Str->Int),∃ys,(xs.foldl (lfS ws h G) (acc,g)).1=acc++ys/\ys.map (fun x=>x.v)=xs.map (fun x=>x.v)/\(∀z j,j≠h->gT z j ys=gT z j xs)/\(∀z,gT z h ys=gT z h xs+((xs.foldl (lfS ws h G) (acc,g)).2 z - g z))
 | [],acc,g=>⟨[],by rw [yA];rfl,rfl,fun z j _=>rfl,fun z=>by show gT z h []=gT z h []+(g z - g z);omega⟩
 |x :: xs,acc,g=>by
  rw [yP]
  by_cases c:(lnT h x && ftB ws g G x.c.f)=true
  .have e:lfS ws h G (acc,g) x=(acc++ [upT x],fun z=>g z+gN x.c.f z):=by unfold lfS;rw [if_pos c]
   rw [e]
   obtain⟨ys,e1,e2,e3,e4⟩:=lf_keep (ws:=ws) (h:=h) (G:=G) xs (acc++ [upT x]) fun z=>g z+gN x.c.f z
   rw [Bool.and_eq_true] at c
   have hx:x.c.i=h/\x.c.s=false:=by
    have c1:=c.1
    unfold lnT at c1
    rw [Bool.and_eq_true] at c1
    exact⟨of_decide_eq_true c1.1,by cases es:x.c.s with
     |false=>rfl
     |true=>have:=c1.2;rw [es] at this;cases this⟩
   refine⟨upT x :: ys,by rw [e1,yC];rfl,by rw [zM,zM,e2];rfl,fun z j hj=>?_,fun z=>?_⟩
   .rw [qcm,qcm,e3 z j hj]
    have:decide (x.c.i=j)=false:=decide_eq_false fun e=>hj (e.symm.trans hx.1)
    show (if (decide (x.c.i=j) && true)=true then gN x.c.f z else 0)+_=_
    rw [this,Bool.false_and,Bool.false_and]
   .rw [qcm,qcm,e4 z]
    show (if (decide (x.c.i=h) && true)=true then gN x.c.f z else 0)+_=(if (decide (x.c.i=h) && x.c.s)=true then gN x.c.f z else 0)+_+_
    rw [decide_eq_true hx.1,hx.2,Bool.and_true,Bool.and_false,if_pos rfl,if_neg Bool.false_ne_true]
    omega
  .have e:lfS ws h G (acc,g) x=(acc++ [x],g):=by unfold lfS;rw [if_neg c]
   rw [e]
   obtain⟨ys,e1,e2,e3,e4⟩:=lf_keep (ws:=ws) (h:=h) (G:=G) xs (acc++ [x]) g
   refine⟨x :: ys,by rw [e1,yC];rfl,by rw [zM,zM,e2],fun z j hj=>?_,fun z=>?_⟩
   .rw [qcm,qcm,e3 z j hj]
   .rw [qcm,qcm,e4 z];omega
theorem lf_le {ws:List Str} {h:Nat} {G:Str->Int}:∀(xs acc:List T3) (g:Str->Int),(∀z,g z<=G z)->(∀x∈xs,InW ws x.c.f)->∀z,(xs.foldl (lfS ws h G) (acc,g)).2 z<=G z
 | [],_,_,hg,_=>hg
 |x :: xs,acc,g,hg,hI=>by
  rw [yP]
  by_cases c:(lnT h x && ftB ws g G x.c.f)=true
  .have e:lfS ws h G (acc,g) x=(acc++ [upT x],fun z=>g z+gN x.c.f z):=by unfold lfS;rw [if_pos c]
   rw [e]
   rw [Bool.and_eq_true] at c
   have hf:=(qgx (hI x (zC ..))).mp c.2
   refine lf_le xs _ _ (fun z=>?_) fun y hy=>hI y (zF _ hy)
   show g z+gN x.c.f z<=G z
   cases ef:x.c.f z with
   |none=>
    have:gN x.c.f z=0:=by unfold gN;rw [ef];rfl
    have:=hg z
    omega
   |some b=>exact hf z (by rw [ef];intro c;cases c)
  .have e:lfS ws h G (acc,g) x=(acc++ [x],g):=by unfold lfS;rw [if_neg c]
   rw [e]
   exact lf_le xs _ _ hg fun y hy=>hI y (zF _ hy)
theorem tV_int {t:Option Int} {k:Int} (h:tV t=.int k):t=some k:=by
 cases t with
 |none=>cases h
 |some n=>cases h;rfl
theorem pos_iff {bs:List Ob}:PosT bs↔∀k,V.int k∈(bs.map b3).map (fun x=>x.v)->1<=k:=by
 refine⟨fun h k hk=>?_,fun h b hb k e=>h k ?_⟩
 .obtain⟨x,hx,ex⟩:=zJ.mp hk
  obtain⟨b,hb,rfl⟩:=zJ.mp hx
  exact h b hb k (tV_int ex)
 .refine zJ.mpr ⟨b3 b,zJ.mpr ⟨b,hb,rfl⟩,?_⟩
  show tV b.t=.int k
  rw [e];rfl
theorem lf_inv {P:PL} {h:Nat} {bs bs':List Ob} {G g0:Str->Int} (e:bs'.map b3=(lfL P.ws h G g0 (bs.map b3)).1) (hI:∀b∈bs,InW P.ws b.R.f) (hG:∀z,G z=gN (tfF P.tp h) z) (h0:∀z,g0 z=gT z h (bs.map b3)) (ng:NgOk P bs) (pt:PosT bs):NgOk P bs'/\PosT bs'/\bs'.length=bs.length:=by
 obtain⟨ys,e1,e2,e3,e4⟩:=lf_keep (ws:=P.ws) (h:=h) (G:=G) (bs.map b3) [] g0
 have ey:bs'.map b3=ys:=by rw [e];unfold lfL;rw [e1];rfl
 refine⟨ng_iff.mpr fun j z=>?_,pos_iff.mpr ?_,?_⟩
 .rw [ey]
  by_cases c:j=h
  .subst c
   rw [e4 z,<-h0 z,<-hG z]
   have:=lf_le (ws:=P.ws) (h:=j) (G:=G) (bs.map b3) [] g0 (fun z=>by rw [h0 z,hG z];exact ng_iff.mp ng j z) (fun x hx=>by
    obtain⟨b,hb,rfl⟩:=zJ.mp hx
    exact hI b hb) z
   omega
  .rw [e3 z j c];exact ng_iff.mp ng j z
 .rw [ey,e2];exact pos_iff.mp pt
 .have:=congrArg List.length (show (bs'.map b3).map (fun x=>x.v)=(bs.map b3).map (fun x=>x.v) by rw [ey,e2])
  rw [zB,zB,zB,zB] at this
  exact this
theorem have_mid {X Y:List Lr} {r r':Lr} {h:Nat} {m:V} (h0:qfk h m r=false) (h1:qfk h m r'=true) (ef:r'.f=r.f) (z:Str):gN (qcc (X++r' :: Y) h m) z=gN (qcc (X++r :: Y) h m) z+gN r.f z:=by
 unfold qcc qc1
 rw [qe6,qe6,yB,yB,zU,zU,if_pos h1,if_neg (by rw [h0];exact Bool.false_ne_true)]
 simp only [zG,zM,List.sum_append,yZ]
 have:gN (lrPt r').f z=gN r.f z:=by show gN r'.f z=_;rw [ef]
 omega
theorem W23.mv2 {d:Ad} {H6 H H3:Hp} {so t hd lr lr':Addr} {P:PL} {bs bs':List Ob} {rs rs':List Lr} {L L':Int} (v:W23 d H6 H so t hd lr P bs rs L) (C:C23 H6 so hd lr) (sb:SB [so,hd,lr] H H3) (st3:StAt d H3 so t hd P bs' L') (mh3:∀b∈bs',b.m≠hd) (hl3:H3 lr'=some (.lst (rwV rs')))
  (hr:∀r∈rs',LrAt H3 P r/\r.a∉ [so,hd,lr']/\r.m∉ [so,hd,lr']) (co:bs'.map bCo=rs'.map rCo):W23 d H6 H3 so t hd lr' P bs' rs' L':=
 ⟨fun x o e=>sb x o (v.s0 x o e) fun m=>(by rw [C.n6 x m] at e;cases e),st3,mh3,hl3,fun r h=>(hr r h).1,co,fun r h=>(hr r h).2,fun b h=>(st3.ob b h).nl hl3⟩
theorem LrAt.nl {H:Hp} {P:PL} {r:Lr} {x:Addr} {xs:List V} (g:LrAt H P r) (e:H x=some (.lst xs)):r.a≠x/\r.m≠x:=by
 refine⟨fun z=>?_,fun z=>?_⟩
 .have:=g.tup
  rw [z,e] at this;cases this
 .have:=g.dic
  rw [z,e] at this;cases this
theorem LrAt.put {H:Hp} {P:PL} {r:Lr} {x:Addr} {o:HO} (g:LrAt H P r) (n1:r.a≠x) (n2:r.m≠x):LrAt (upd H x o) P r:=⟨by rw [qa6 n1];exact g.tup,by rw [qa6 n2];exact g.dic,g.ad,g.inw,g.pos,g.il⟩
structure LfI (H H':Hp) (lr:Addr) (P:PL) (rs X:List Lr) (h i:Nat) (G g0:Str->Int):Prop where
 sb:SB [lr] H H'
 hl:H' lr=some (.lst (rwV (X++rs.drop i)))
 rw:∀r∈X,LrAt H' P r/\r.a≠lr/\r.m≠lr/\(r∈rs\/(H r.a=none/\∃r0∈rs,r0.m=r.m))
 x3:X.map r3=(lfL P.ws h G g0 ((rs.take i).map r3)).1
 hg:∀z,gN (qcc (X++rs.drop i) h (.int 0)) z=(lfL P.ws h G g0 ((rs.take i).map r3)).2 z
 xl:X.length=i
theorem LfI.same {H H' H2:Hp} {lr:Addr} {P:PL} {rs X:List Lr} {h i:Nat} {G g0:Str->Int} (I:LfI H H' lr P rs X h i G g0) (s:qas H' H2):LfI H H2 lr P rs X h i G g0:=⟨I.sb.trans (SB.of s),s _ _ I.hl,fun r hr=>⟨(I.rw r hr).1.same s,(I.rw r hr).2⟩,I.x3,I.hg,I.xl⟩
theorem set_mid {α:Type} {X Y:List α} {x y:α} {i:Nat} (h:X.length=i):(X++x :: Y).set i y=X++y :: Y:=by
 rw [List.set_append_right _ _ (by omega),h,Nat.sub_self];rfl
def wjl (K:Frag) (d:Ad):Sp:=fun vs H Q _=>∃(H6:Hp) (so t hd lr tg ln lw de dp pd:Addr) (sc:Int) (nm:List Str) (n:Nat) (qs:List Pq2) (S:Ts) (P:PL) (wt:Nat->Int) (bs:List Ob) (rs:List Lr) (L:Int) (h:Nat) (kp:List (Key × V)),vs=[.ref so,.ref lr,.str (nmF P h),.ref pd]/\Ev K d H6 tg ln lw de dp sc nm n qs t S P wt/\C23 H6 so hd lr/\S28 d H6 H so t hd lr P bs rs L/\rs.length<=40/\h < n/\H6 pd=some (.dK kp)/\AD kp (tfF P.tp h)/\
 ∀bs' rs' H',S28 d H6 H' so t hd lr P bs' rs' L->SB [so,hd,lr] H H'->Fr H bs rs bs' rs'->rs'.length<=rs.length->Q .non H'
include T in
theorem wit:FnOk P w K mg base CX0 23 d.wgp d.wer ["_law_store","_law_rows","_law_name","_law_promise"] (wjl K d):=by
 refine T.wil.ok wfo (fun vs H Q E h=>?_) (fun cdv A outer s H vs Q E hr h=>?_)
 .obtain⟨H6,so,t,hd,lr,tg,ln,lw,de,dp,pd,sc,nm,n,qs,S,P,wt,bs,rs,L,h,kp,rfl,_⟩:=h;rfl
 obtain⟨H6,so,t,hd,lr,tg,ln,lw,de,dp,pd,sc,nm,n,qs,S,P,wt,bs,rs,L,h,kp,rfl,ev,C,⟨v,ng,tl,pt⟩,r40,hh,epd,hpA,q⟩:=h
 refine⟨_,(qa4 (qbh PassesOwn.never rfl (qca rfl T.w6d (qa0 (qad qax rfl T.w34 PySem.boot_len (qa0 (pv 1) qa3)) qa3)) (qau (i:=4) wfo.nd rfl (Or.inl rfl)) (qa4 (qag (i:=5) wfo.nd rfl (Or.inl rfl) (qaq qaw (pv 1) (pv 4) (fun _ _=>rfl)))
  (qa5 (qc0 (qay (PW.pt (qez (qal qee (qaq qav (pv 5) qa7 (fun _ _=>rfl)) (pv 2) (qap _)) (qez (qbd (qaz (qaq qav (pv 5) qa7 (fun _ _=>rfl)))) (qey (qal (op_eqD (hu8 hr)) (qab ((wg4 T).mono (by decide)) hr rfl T.wgg T.wfj.kp T.wh2 .nil qaf (qa0 (pv 1) (qa0 (pv 2) (qa0 (qaq qav (pv 5) qa7 (fun _ _=>rfl)) (qa0 (pv 3) (qa0 qa7 qa3)))))) (qcb qa3) (qap _)))))) (qa5 (qf1 (pv 1) (pv 4) (qar op_catT (qde sl_tup (pv 5) qf3 (qdq qa7)) (qg0 (qa0 qcs qa3))) rfl)) qam)))))
  (qa5 (qat (qai (W:=fun _ _ _ _=>False) (pv 0) T.w01 T.w24 ((wc7 T).mono (by decide)) hr T.wed .nil qdk (qa0 (pv 2) qa3))))),?_⟩
 walk_at "d"
 refine qac (σ:=[some (.ref so),some (.ref lr),some (.str (nmF P h)),some (.ref pd),none,none]) rfl ?_
 have cs:=T.w01
 have nl:=ev.nl
 have elr:=v.hl
 have lr0:((rwV rs).length:Int)=((rs.length:Nat):Int):=by unfold rwV;rw [zB]
 have en:((rs.length:Nat):Int).toNat=rs.length:=by omega
 have al:∀r∈rs,r.a≠lr/\r.m≠lr:=fun r hr=>⟨fun e=>(v.ar r hr).1 (by rw [e];exact in3c),fun e=>(v.ar r hr).2 (by rw [e];exact in3c)⟩
 have epd0:=v.s0 _ _ epd
 have npd:pd≠lr:=fun e=>by rw [e,C.n6 lr in3c] at epd;cases epd
 have n0:∀r∈rs,r.n≠0:=fun r hr e=>by
  have hc:rCo r∈bs.map bCo:=by rw [v.co];exact zJ.mpr ⟨r,hr,rfl⟩
  obtain⟨b,hb,eb⟩:=zJ.mp hc
  have en:b.R.n=r.n:=congrArg (fun c:Co=>c.n) eb
  have:=v.st.nu.bd b hb
  omega
 left
 rw [lr0]
 generalize hni:((rs.length:Nat):Int)=ni at*
 left
 rw [en]
 refine qdu (fun i σ H'=>∃(X:List Lr) (w4 w5:Option V),σ=[some (V.ref so),some (V.ref lr),some (V.str (nmF P h)),some (V.ref pd),w4,w5]/\LfI H H' lr P rs X h i (gN (tfF P.tp h)) (gN (qcc rs h (.int 0)))) ⟨[],_,_,rfl,SB.of (qas.refl _),elr,fun r hr=>by simp at hr,rfl,fun z=>rfl,rfl⟩ ?_ ?_
 .rintro i σ H' hi ⟨X,w4,w5,rfl,I⟩
  rw [Int.zero_add]
  have hi:i < rs.length:=by omega
  have er:=zA hi
  have hrm:=zQ hi
  have tk:rs.take (i+1)=rs.take i++ [rs[i]]:=by rw [zT,er];rfl
  have dk:rs.drop i=rs[i] :: rs.drop (i+1):=yH hi
  generalize rs[i]=r at*
  obtain⟨sb,hl,hrw,x3,hg,xl⟩:=I
  rw [dk] at hl hg
  have hrd:∀y∈rs,LrAt H' P y:=fun y hy=>by
   have g:=v.rw y hy
   exact⟨sb _ _ g.tup (qan (al y hy).1),sb _ _ g.dic (qan (al y hy).2),g.ad,g.inw,g.pos,g.il⟩
  have hall:∀y∈X++r :: rs.drop (i+1),LrAt H' P y:=fun y hy=>by
   rcases zN.mp hy with hy|hy
   .exact(hrw y hy).1
   .rw [<-dk] at hy;exact hrd y (List.mem_of_mem_drop hy)
  have hrr:=hrd r hrm
  have hr1:=hrr.tup
  have epd':=sb _ _ epd0 (qan npd)
  have xk:atI (rwV (X++r :: rs.drop (i+1))) ((i:Nat):Int)=some (.ref r.a):=qbn (by unfold rwV;rw [zG,yJ (by rw [zB];omega),zB,xl,Nat.sub_self];rfl)
  have l60:(X++r :: rs.drop (i+1)).length<=60:=by rw [zL,zR,List.length_drop];omega
  have ein:(nmF P r.i=nmF P h)=(r.i=h):=propext ⟨fun e=>ev.inj _ _ (v.rw r hrm).il (by omega) e,fun e=>by rw [e]⟩
  have ern:r.n≠0:=n0 r hrm
  have keep:(lnT h (r3 r) && ftB P.ws (lfL P.ws h (gN (tfF P.tp h)) (gN (qcc rs h (.int 0))) ((rs.take i).map r3)).2 (gN (tfF P.tp h)) r.f)=false->LfI H H' lr P rs (X++ [r]) h (i+1) (gN (tfF P.tp h)) (gN (qcc rs h (.int 0))):=fun e=>by
   have ez:lfL P.ws h (gN (tfF P.tp h)) (gN (qcc rs h (.int 0))) ((rs.take (i+1)).map r3)=((lfL P.ws h (gN (tfF P.tp h)) (gN (qcc rs h (.int 0))) ((rs.take i).map r3)).1++ [r3 r],(lfL P.ws h (gN (tfF P.tp h)) (gN (qcc rs h (.int 0))) ((rs.take i).map r3)).2):=by
    rw [tk,zG]
    show lfL _ _ _ _ (_++ [r3 r])=_
    rw [qer]
    unfold lfS
    rw [if_neg (by show ¬(lnT h (r3 r) && ftB P.ws _ _ r.f)=true;rw [e];exact Bool.false_ne_true)]
   refine⟨sb,by rw [yC];exact hl,fun y hy=>?_,by rw [ez,zG,x3];rfl,fun z=>by rw [ez,yC];exact hg z,by rw [zL,xl];rfl⟩
   rcases zN.mp hy with hy|hy
   .exact hrw y hy
   .rw [zH.mp hy];exact⟨hrr,(al r hrm).1,(al r hrm).2,.inl hrm⟩
  generalize hki:((i:Nat):Int)=ki at*
  left
  refine qbk (SqL.of hl) xk ?_
  left
  refine qbz ?_
  left
  simp only [ein]
  by_cases c1:r.i=h
  .rw [decide_eq_true c1]
   left
   cases c2:r.s with
   |true=>
    rw [c2] at hr1
    left
    exact⟨X++ [r],_,_,rfl,keep (by unfold lnT;show (decide (r.i=h) && !r.s && _)=false;rw [c2];simp)⟩
   |false=>
    rw [c2] at hr1
    have hln:lnT h (r3 r)=true:=by show (decide (r.i=h) && !r.s)=true;rw [c1,c2];simp
    left
    refine⟨lr,r.m,pd,P,_,h,.int 0,r.k,kp,r.f,tfF P.tp h,rfl,.inl ⟨_,rfl⟩,hl,hall,l60,ev.gv.w3,ev.inj,by omega,hrr.dic,hrr.ad,hrr.inw,epd',hpA,fun l ss H2 s2 hl2 el hsrt hss=>?_⟩
    have hfe:ss=[]↔ftB P.ws (lfL P.ws h (gN (tfF P.tp h)) (gN (qcc rs h (.int 0))) ((rs.take i).map r3)).2 (gN (tfF P.tp h)) r.f=true:=by
     rw [qgx hrr.inw]
     refine⟨fun e z hz=>?_,fun e=>?_⟩
     .apply Classical.byContradiction
      intro hc
      have:=(hss z).mpr ⟨hz,by rw [hg z];omega⟩
      rw [e] at this;simp at this
     .cases ss with
      |nil=>rfl
      |cons z zs=>
       have:=(hss z).mp (zC ..)
       have h1:=e z this.1
       have h2:=this.2
       rw [hg z] at h2
       omega
    have em2e:(ss.map V.str=[])=(ss=[]):=propext ⟨fun e=>by simpa using e,fun e=>by rw [e];rfl⟩
    left
    rename_i pe hpe
    have ne:=qa2 el hpe
    refine r_eqD ne (by decide) (qe7 (n:=0) (SqL.of (qa8 el hpe)) (SqL.of qa1) ne) ?_
    have t2:=s2.trans (qaa hpe (.lst []))
    generalize upd H2 pe (.lst [])=H3 at*
    have hl3:=t2 _ _ hl
    have hr3:=t2 _ _ hr1
    simp only [em2e]
    clear hl2 el hpe ne s2
    by_cases ce:ss=[]
    .rw [decide_eq_true ce]
     left
     refine r_slT (SqT.of hr3) (fun h=>absurd (show HT.sIx 6 6 (some 5)=6 from h.2) (by decide)) fun p1 hp1=>?_
     have ec:cutV [.int r.n,.str (nmF P r.i),.ref r.m,r.u,r.v,.bl false] none (some 5)=[.int r.n,.str (nmF P r.i),.ref r.m,r.u,r.v]:=rfl
     rw [ec]
     have u1:=qaa hp1 (.tup [.int r.n,.str (nmF P r.i),.ref r.m,r.u,r.v])
     have e1:upd H3 p1 (.tup [.int r.n,.str (nmF P r.i),.ref r.m,r.u,r.v]) p1=some (.tup [.int r.n,.str (nmF P r.i),.ref r.m,r.u,r.v]):=qa1
     generalize upd H3 p1 (.tup [.int r.n,.str (nmF P r.i),.ref r.m,r.u,r.v])=H4 at*
     left
     rename_i p2 hp2
     have u2:=qaa hp2 (.tup [.bl true])
     have e12:=u2 _ _ e1
     have e2:upd H4 p2 (.tup [.bl true]) p2=some (.tup [.bl true]):=qa1
     generalize upd H4 p2 (.tup [.bl true])=H5 at*
     refine⟨p1,p2,_,_,rfl,rfl,SqT.of e12,SqT.of e2,(fun z=>by cases z),(by show (6:Nat)<=16777216;decide),(fun z=>by cases z),fun _ p3 hp3=>?_⟩
     have ecc: [.int r.n,.str (nmF P r.i),.ref r.m,r.u,r.v]++ [.bl true]=[.int r.n,.str (nmF P r.i),.ref r.m,r.u,r.v,.bl true]:=rfl
     rw [ecc]
     have t5:=(t2.trans u1).trans u2
     have u3:=qaa hp3 (.tup [.int r.n,.str (nmF P r.i),.ref r.m,r.u,r.v,.bl true])
     have e3:upd H5 p3 (.tup [.int r.n,.str (nmF P r.i),.ref r.m,r.u,r.v,.bl true]) p3=some (.tup [.int r.n,.str (nmF P r.i),.ref r.m,r.u,r.v,.bl true]):=qa1
     have fp3:H' p3=none:=t5.free hp3
     have t6:=t5.trans u3
     generalize upd H5 p3 (.tup [.int r.n,.str (nmF P r.i),.ref r.m,r.u,r.v,.bl true])=H6' at*
     have hl6:=t6 _ _ hl
     clear hr3 hl3 e1 e12 e2 u1 u2 u3 hp1 hp2 hp3 t2 t5
     have gn:LrAt H6' P ⟨p3,r.m,r.n,r.i,r.k,r.f,r.u,r.v,true⟩:=⟨e3,t6 _ _ hrr.dic,hrr.ad,hrr.inw,hrr.pos,hrr.il⟩
     have fpH:H p3=none:=by
      cases e:H p3 with
      |none=>rfl
      |some o=>
       by_cases z:p3=lr
       .rw [z,hl] at fp3;cases fp3
       .rw [sb p3 o e (qan z)] at fp3;cases fp3
     have hft:=hfe.mp ce
     have ez:lfL P.ws h (gN (tfF P.tp h)) (gN (qcc rs h (.int 0))) ((rs.take (i+1)).map r3)=((lfL P.ws h (gN (tfF P.tp h)) (gN (qcc rs h (.int 0))) ((rs.take i).map r3)).1++ [upT (r3 r)],fun z=>(lfL P.ws h (gN (tfF P.tp h)) (gN (qcc rs h (.int 0))) ((rs.take i).map r3)).2 z+gN r.f z):=by
      rw [tk,zG]
      show lfL _ _ _ _ (_++ [r3 r])=_
      rw [qer]
      unfold lfS
      rw [if_pos (by rw [hln];exact hft)];rfl
     have ndone:LfI H (upd H6' lr (.lst (rwV (X++⟨p3,r.m,r.n,r.i,r.k,r.f,r.u,r.v,true⟩ :: rs.drop (i+1))))) lr P rs (X++ [⟨p3,r.m,r.n,r.i,r.k,r.f,r.u,r.v,true⟩]) h (i+1) (gN (tfF P.tp h)) (gN (qcc rs h (.int 0))):=by
      refine⟨(sb.trans (SB.of t6)).at (zC ..),by rw [qa1,yC];rfl,fun y hy=>?_,?_,fun z=>?_,by rw [zL,xl];rfl⟩
      .rcases zN.mp hy with hy|hy
       .obtain⟨g1,g2,g3,g4⟩:=hrw y hy
        exact⟨(g1.same t6).put g2 g3,g2,g3,g4⟩
       .rw [zH.mp hy]
        have g:=gn.nl hl6
        exact⟨gn.put g.1 g.2,g.1,g.2,.inr ⟨fpH,r,hrm,rfl⟩⟩
      .rw [ez,zG,x3];rfl
      .rw [ez,yC]
       show gN (qcc (X++_ :: rs.drop (i+1)) h (.int 0)) z=_
       have hmd:=have_mid (X:=X) (Y:=rs.drop (i+1)) (r:=r) (r':=⟨p3,r.m,r.n,r.i,r.k,r.f,r.u,r.v,true⟩) (h:=h) (m:=.int 0) (by unfold qfk;rw [c2];simp) (by show (decide (r.i=h) && (true && decide (r.n≠0)))=true;rw [decide_eq_true c1,decide_eq_true ern];rfl) rfl z
       rw [hmd,hg z]
     left
     refine r_lpk hl6 (k:=i) (by unfold rwV;rw [zB,zL,zR];omega) ?_ hki.symm
     have es:(rwV (X++r :: rs.drop (i+1))).set i (V.ref p3)=rwV (X++⟨p3,r.m,r.n,r.i,r.k,r.f,r.u,r.v,true⟩ :: rs.drop (i+1)):=by
      unfold rwV
      rw [zG,zM,set_mid (by rw [zB];exact xl),zG,zM]
     rw [es]
     exact⟨_,_,_,rfl,ndone⟩
    .rw [decide_eq_false ce]
     left
     exact⟨X++ [r],_,_,rfl,(keep (by rw [hln,Bool.true_and];cases e:ftB P.ws (lfL P.ws h (gN (tfF P.tp h)) (gN (qcc rs h (.int 0))) ((rs.take i).map r3)).2 (gN (tfF P.tp h)) r.f with
      |false=>rfl
      |true=>exact absurd (hfe.mpr e) ce)).same t2⟩
  .rw [decide_eq_false c1]
   left
   exact⟨X++ [r],_,_,rfl,keep (by unfold lnT;show (decide (r.i=h) && !r.s && _)=false;rw [decide_eq_false c1];simp)⟩
 rintro σ H' ⟨X,w4,w5,rfl,I⟩
 obtain⟨sb,hl,hrw,x3,hg,xl⟩:=I
 rw [List.drop_length,yA] at hl
 rw [zZ] at x3
 have st1:=v.st.sbl sb (qan C.sl) (qan C.hl) fun x hx=>⟨qan (v.ab x hx).1,qan (v.ab x hx).2⟩
 have s01:qas H6 H':=fun x o e=>sb x o (v.s0 x o e) (qan fun z=>by rw [z,C.n6 lr in3c] at e;cases e)
 have g0e:∀z,gN (qcc rs h (.int 0)) z=gT z h (bs.map b3):=fun z=>by rw [have_nn v.st.nu v.co,have_eq v.co,qgb,gT_eq]
 have fpe:∀z,gN (fpO S P h) z=gN (tfF P.tp h) z:=fun z=>fp_eq ev.ti ev.pf (by omega) hh z
 obtain⟨dx1,ho1⟩:=st1.obj
 clear epd0 elr
 left
 refine⟨so,t,hd,S,P,bs,L,n,h,rfl,st1,v.mh,ev.wr.same s01,hh,fun z=>by rw [fpe z];exact ng h z,fun bs' y H2 st2 eb nb sb2=>?_⟩
 have eg1:gN (fpO S P h)=gN (tfF P.tp h):=funext fpe
 have eg2:gN (qc1 ((bs.filter (qbj h)).map qcw))=gN (qcc rs h (.int 0)):=funext fun z=>by rw [g0e,gT_eq]
 rw [eg1,eg2] at eb
 have exb:bs'.map b3=X.map r3:=by rw [eb,x3,b3_r3 v.co tl]
 obtain⟨ng2,pt2,bl2⟩:=lf_inv eb (fun b hb=>(v.st.ob b hb).inw) (fun z=>rfl) g0e ng pt
 have hl2:=sb2 _ _ hl (qan C.hl.symm)
 have sbA:SB [so,hd,lr] H H2:=(sb.up fun x hx=>by rw [zH.mp hx];exact in3c).trans (sb2.up fun x hx=>by rw [zH.mp hx];exact in3b)
 have nbH:∀b∈bs',b∈bs\/(H b.o=none/\H b.m=none):=fun b hb=>by
  have back:∀y,H' y=none->H y=none:=fun y hy=>by
   cases e:H y with
   |none=>rfl
   |some o=>
    by_cases z:y=lr
    .rw [z,hl] at hy;cases hy
    .rw [sb y o e (qan z)] at hy;cases hy
  exact(nb b hb).imp id fun g=>⟨back _ g.1,back _ g.2⟩
 have hX:∀r∈X,r∈rs\/(H r.a=none/\∃r0∈rs,r0.m=r.m):=fun r hr=>(hrw r hr).2.2.2
 have no3:∀r∈X,r.a∉ [so,hd,lr]/\r.m∉ [so,hd,lr]:=fun r hr=>by
  rcases hX r hr with g|⟨g,r0,h0,e0⟩
  .exact v.ar r g
  .exact⟨v.new g,by rw [<-e0];exact(v.ar r0 h0).2⟩
 have w2:W23 d H6 H2 so t hd lr P bs' X L:=W23.mv2 v C sbA st2 (fun b hb=>by
  rcases nbH b hb with g|g
  .exact v.mh b g
  .exact(qa2 v.st.hds g.2).symm) hl2 (fun r hr=>⟨(by
   have g:=(hrw r hr).1
   have n3:=no3 r hr
   exact⟨sb2 _ _ g.tup (qan fun z=>n3.1 (by rw [z];exact in3b)),sb2 _ _ g.dic (qan fun z=>n3.2 (by rw [z];exact in3b)),g.ad,g.inw,g.pos,g.il⟩),no3 r hr⟩) (of_b3 exb).1
 left
 refine q bs' X H2 ⟨w2,ng2,(of_b3 exb).2,pt2⟩ sbA (Fr.of nbH fun r hr=>(hX r hr).imp id fun g=>⟨g.1,.inr g.2⟩) (by omega)
def TnV (x:V):Prop:=x=.non\/∃k:Int,x=.int k
def wgw (K:Frag) (d:Ad):Sp:=fun vs H Q _=>∃(lr:Addr) (P:PL) (rs:List Lr),vs=[.ref lr]/\H lr=some (.lst (rwV rs))/\(∀r∈rs,LrAt H P r)/\rs.length<=40/\(∀r∈rs,TnV r.v)/\
 ∀l rs' H',qas H H'->H l=none->H' l=some (.lst (rwV rs'))->(∀r∈rs',LrAt H' P r/\(r∈rs\/(H r.a=none/\∃r0∈rs,r0.m=r.m)))->rs'.map r3=(rs.map r3).filterMap tn3->rs'.length<=rs.length->Q (.ref l) H'
include T in
theorem wgl:FnOk P w K mg base CX0 1 d.wcv d.wak ["_law_rows"] (wgw K d):=by
 refine T.wg1.ok wb5 (fun vs H Q E h=>?_) (fun cdv A outer s H vs Q E hr h=>?_)
 .obtain⟨lr,P,rs,rfl,_⟩:=h;rfl
 obtain⟨lr,P,rs,rfl,elr,hrw,r40,hv,q⟩:=h
 refine⟨_,(qa4 (qag (i:=1) wb5.nd rfl (Or.inl rfl) (qcb qa3))
  (qa4 (qbh PassesOwn.never rfl (qb6 (pv 0)) (qau (i:=2) wb5.nd rfl (Or.inl rfl)) (qa5 (qc0 (qay (qal qgn (qaq qav (pv 2) qa7 (fun _ _=>rfl)) qck (qap _)) (qa5 (qat (qdr PySem.F.plainAttrs_list PySem.F.slot_list_append PySem.F.type_list_append qbt (pv 1) (qa0 (pv 2) qa3)))) (qa5 (qc0 (qay (qal qf6 (qaq qav (pv 2) qa7 (fun _ _=>rfl)) qa7 (qap _)) (qa5 (qat (qdr PySem.F.plainAttrs_list PySem.F.slot_list_append PySem.F.type_list_append qbt (pv 1) (qa0 (qar op_catT (qar op_catT (qde sl_tup (pv 2) qf3 (qdq qa7)) (qg0 (qa0 (qar op_sub (qaq qav (pv 2) qa7 (fun _ _=>rfl)) qa7) qa3))) (qde sl_tup (pv 2) (qdq qa7) qf3)) qa3)))) qam)))))))
  (qa5 (qae (pv 1))))),?_⟩
 walk_at "d"
 refine qac (σ:=[some (.ref lr),none,none]) rfl ?_
 left
 rename_i l hl
 have s0:=qaa hl (.lst [])
 have e0:upd H l (.lst []) l=some (.lst []):=qa1
 generalize upd H l (.lst [])=H0 at*
 have elr0:=s0 _ _ elr
 left
 refine qdn (xs:=rwV rs) (fun i σ H'=>∃(X:List Lr) (w:Option V),σ=[some (V.ref lr),some (V.ref l),w]/\qas H H'/\H' l=some (.lst (rwV X))/\(∀r∈X,LrAt H' P r/\(r∈rs\/(H r.a=none/\∃r0∈rs,r0.m=r.m)))/\X.map r3=((rs.take i).map r3).filterMap tn3/\X.length<=i) ⟨[],_,rfl,s0,e0,fun r hr=>by simp at hr,rfl,Nat.le_refl _⟩ ?_ ?_ ?_
 .rintro i σ H' _ ⟨X,w,_,sm,_⟩;exact SqL.of (sm _ _ elr)
 .rintro i x σ H' hx ⟨X,w,rfl,sm,el,hX,x3,xl⟩
  have hi:i < rs.length:=by have:=(List.getElem?_eq_some_iff.mp hx).1;unfold rwV at this;rw [zB] at this;exact this
  have er:=zA hi
  have hrm:=zQ hi
  have tk:rs.take (i+1)=rs.take i++ [rs[i]]:=by rw [zT,er];rfl
  generalize rs[i]=r at*
  have hx:V.ref r.a=x:=by
   unfold rwV at hx
   rw [zD,er] at hx
   exact Option.some.inj hx
  subst hx
  have hrr:=(hrw r hrm).same sm
  have hr1:=hrr.tup
  have zx:(rwV X).length < sizeLine:=by unfold rwV;rw [zB];show _ < 16777216;omega
  have hvr:=hv r hrm
  have t3:∀y,((rs.take (i+1)).map r3).filterMap tn3=((rs.take i).map r3).filterMap tn3++y↔List.filterMap tn3 [r3 r]=y:=fun y=>by
   rw [tk,zG,List.filterMap_append]
   exact List.append_right_inj _
  clear elr0 e0 s0
  rcases hvr with ev|⟨k,ev⟩
  .rw [ev] at hr1
   left
   refine qbz ?_
   left
   have nl:=hrr.nl el
   refine⟨X++ [r],_,rfl,qbf sm hl,by rw [qa1];unfold rwV;rw [zG];rfl,fun y hy=>?_,?_,by rw [zL,yE];omega⟩
   .rcases zN.mp hy with hy|hy
    .have g:=(hX y hy).1.nl el
     exact⟨(hX y hy).1.put g.1 g.2,(hX y hy).2⟩
    .rw [zH.mp hy];exact⟨hrr.put nl.1 nl.2,.inl hrm⟩
   .rw [zG,x3]
    refine((t3 _).mpr ?_).symm
    have e:tn3 (r3 r)=some (r3 r):=by unfold tn3 r3;rw [ev];rfl
    rw [List.filterMap_cons_some e];rfl
  .rw [ev] at hr1
   left
   refine qbz ?_
   left
   refine qbz ?_
   left
   refine i_2 (fun c=>?_) (fun c=>?_)
   .left
    refine r_slT (SqT.of hr1) (fun h=>absurd (show HT.sIx 6 6 (some 4)=6 from h.2) (by decide)) fun p1 hp1=>?_
    have ec:cutV [.int r.n,.str (nmF P r.i),.ref r.m,r.u,.int k,.bl r.s] none (some 4)=[.int r.n,.str (nmF P r.i),.ref r.m,r.u]:=rfl
    rw [ec]
    have u1:=qaa hp1 (.tup [.int r.n,.str (nmF P r.i),.ref r.m,r.u])
    have e1:upd H' p1 (.tup [.int r.n,.str (nmF P r.i),.ref r.m,r.u]) p1=some (.tup [.int r.n,.str (nmF P r.i),.ref r.m,r.u]):=qa1
    have hr2:=u1 _ _ hr1
    generalize upd H' p1 (.tup [.int r.n,.str (nmF P r.i),.ref r.m,r.u])=H1 at*
    left
    rename_i p2 hp2
    have u2:=qaa hp2 (.tup [.int (k - 1)])
    have e12:=u2 _ _ e1
    have e2:upd H1 p2 (.tup [.int (k - 1)]) p2=some (.tup [.int (k - 1)]):=qa1
    have hr3:=u2 _ _ hr2
    generalize upd H1 p2 (.tup [.int (k - 1)])=H2 at*
    refine⟨p1,p2,_,_,rfl,rfl,SqT.of e12,SqT.of e2,(fun z=>by cases z),(by show (5:Nat)<=16777216;decide),(fun z=>by cases z),fun _ p3 hp3=>?_⟩
    have u3:=qaa hp3 (.tup ([.int r.n,.str (nmF P r.i),.ref r.m,r.u]++ [.int (k - 1)]))
    have e3:upd H2 p3 (.tup ([.int r.n,.str (nmF P r.i),.ref r.m,r.u]++ [.int (k - 1)])) p3=some (.tup ([.int r.n,.str (nmF P r.i),.ref r.m,r.u]++ [.int (k - 1)])):=qa1
    have hr4:=u3 _ _ hr3
    generalize upd H2 p3 (.tup ([.int r.n,.str (nmF P r.i),.ref r.m,r.u]++ [.int (k - 1)]))=H3 at*
    left
    refine r_slT (SqT.of hr4) (fun h=>absurd (show HT.sIx 6 0 (some 5)=0 from h.1) (by decide)) fun p4 hp4=>?_
    have ec4:cutV [.int r.n,.str (nmF P r.i),.ref r.m,r.u,.int k,.bl r.s] (some 5) none=[.bl r.s]:=rfl
    rw [ec4]
    have u4:=qaa hp4 (.tup [.bl r.s])
    have e34:=u4 _ _ e3
    have e4:upd H3 p4 (.tup [.bl r.s]) p4=some (.tup [.bl r.s]):=qa1
    generalize upd H3 p4 (.tup [.bl r.s])=H4 at*
    refine⟨p3,p4,_,_,rfl,rfl,SqT.of e34,SqT.of e4,(fun z=>by cases z),(by show (6:Nat)<=16777216;decide),(fun z=>by cases z),fun _ p5 hp5=>?_⟩
    have ecc: [.int r.n,.str (nmF P r.i),.ref r.m,r.u]++ [.int (k - 1)]++ [.bl r.s]=[.int r.n,.str (nmF P r.i),.ref r.m,r.u,.int (k - 1),.bl r.s]:=rfl
    rw [ecc]
    have t4:=((u1.trans u2).trans u3).trans u4
    have u5:=qaa hp5 (.tup [.int r.n,.str (nmF P r.i),.ref r.m,r.u,.int (k - 1),.bl r.s])
    have e5:upd H4 p5 (.tup [.int r.n,.str (nmF P r.i),.ref r.m,r.u,.int (k - 1),.bl r.s]) p5=some (.tup [.int r.n,.str (nmF P r.i),.ref r.m,r.u,.int (k - 1),.bl r.s]):=qa1
    have t5:=t4.trans u5
    have fp5:H p5=none:=sm.free (t4.free hp5)
    generalize upd H4 p5 (.tup [.int r.n,.str (nmF P r.i),.ref r.m,r.u,.int (k - 1),.bl r.s])=H5 at*
    have el5:=t5 _ _ el
    clear hr1 hr2 hr3 hr4 e1 e12 e2 e3 e34 e4 u1 u2 u3 u4 u5 hp1 hp2 hp3 hp4 hp5
    have gn:LrAt H5 P ⟨p5,r.m,r.n,r.i,r.k,r.f,r.u,.int (k - 1),r.s⟩:=⟨e5,t5 _ _ hrr.dic,hrr.ad,hrr.inw,hrr.pos,hrr.il⟩
    have nl:=gn.nl el5
    left
    refine⟨X++ [⟨p5,r.m,r.n,r.i,r.k,r.f,r.u,.int (k - 1),r.s⟩],_,rfl,qbf (sm.trans t5) hl,by rw [qa1];unfold rwV;rw [zG];rfl,fun y hy=>?_,?_,by rw [zL,yE];omega⟩
    .rcases zN.mp hy with hy|hy
     .have g1:=(hX y hy).1.same t5
      have g:=g1.nl el5
      exact⟨g1.put g.1 g.2,(hX y hy).2⟩
     .rw [zH.mp hy];exact⟨gn.put nl.1 nl.2,.inr ⟨fp5,r,hrm,rfl⟩⟩
    .rw [zG,x3]
     refine((t3 _).mpr ?_).symm
     have e:tn3 (r3 r)=some (r3 ⟨p5,r.m,r.n,r.i,r.k,r.f,r.u,.int (k - 1),r.s⟩):=by unfold tn3 r3;rw [ev];show (match (if 1 < k then some (V.int (k - 1)) else none) with|some v=>_|none=>_)=_;rw [if_pos (by omega)];rfl
     rw [List.filterMap_cons_some e];rfl
   .left
    refine⟨X,_,rfl,sm,el,hX,?_,by omega⟩
    rw [x3]
    have e:tn3 (r3 r)=none:=by unfold tn3 r3;rw [ev];show (match (if 1 < k then some (V.int (k - 1)) else none) with|some v=>_|none=>_)=_;rw [if_neg (by omega)]
    have:=(t3 []).mpr (by rw [List.filterMap_cons_none e];rfl)
    rw [yA] at this
    exact this.symm
 rintro σ H' ⟨X,w,rfl,sm,el,hX,x3,xl⟩
 have e:(rwV rs).length=rs.length:=zB _
 rw [e] at x3 xl
 rw [zZ] at x3
 left
 exact q l X H' sm hl el hX x3 xl
theorem zero_line {el:Nat->Nat} {n:Nat} (lo:Low el n):∀k,k < n->0∈qb5 el k:=by
 intro k
 induction k using Nat.strongRecOn with
 |_ k ih=>
  intro hk
  by_cases c:k=0
  .rw [c,qcx];exact zC ..
  .rw [qc9 lo (by omega) hk]
   exact zF _ (ih (el k) (lo k (by omega) hk) (by have:=lo k (by omega) hk;omega))
def wjy (K:Frag) (d:Ad):Sp:=fun vs H Q _=>∃(H6:Hp) (so t hd lr tg ln lw de dp:Addr) (sc:Int) (nm:List Str) (n:Nat) (qs:List Pq2) (S:Ts) (P:PL) (wt:Nat->Int) (bs:List Ob) (rs:List Lr) (L:Int),vs=[.ref so,.ref lr,.ref tg]/\Ev K d H6 tg ln lw de dp sc nm n qs t S P wt/\W23 d H6 H so t hd lr P bs rs L/\∀H',qas H H'->Q (.bl true) H'
include T in
theorem wk5:FnOk P w K mg base CX0 21 d.wja d.whm ["_law_store","_law_rows","_law_grove_here"] (wjy K d):=by
 refine T.wju.ok wip (fun vs H Q E h=>?_) (fun cdv A outer s H vs Q E hr h=>?_)
 .obtain⟨H6,so,t,hd,lr,tg,ln,lw,de,dp,sc,nm,n,qs,S,P,wt,bs,rs,L,rfl,_⟩:=h;rfl
 obtain⟨H6,so,t,hd,lr,tg,ln,lw,de,dp,sc,nm,n,qs,S,P,wt,bs,rs,L,rfl,ev,v,q⟩:=h
 refine⟨_,(qa4 (qag (i:=3) wip.nd rfl (Or.inl rfl) (qaq qaw (qaq qav (pv 2) qa7 (fun _ _=>rfl)) qa7 (fun _ _=>rfl)))
  (qa5 (qae (qd4 (op_eqD (hu8 hr)) (qai (W:=fun _ _ _ _=>False) (pv 0) T.w01 T.w33 ((wd9 T).mono (by decide)) hr T.weu .nil qdk (qa0 (pv 3) qa3)) (qab ((wik T).mono (by decide)) hr rfl T.wk6 T.wji.kp T.wjp .nil qaf (qa0 (pv 1) qa3)) (qap _))))),?_⟩
 walk_at "d"
 refine qac (σ:=[some (.ref so),some (.ref lr),some (.ref tg),none]) rfl ?_
 have cs:=T.w01
 obtain⟨dx,ho⟩:=v.st.obj
 have n1:=ev.gv.n1
 have nl:=ev.nl
 have etg:=v.s0 _ _ ev.tg
 have xn:atI (nm.map V.str) ((0:Nat):Int)=some (.str (nmF P 0)):=qbn (by rw [zD,ev.at (show 0 < n by omega)];rfl)
 have xn:atI (nm.map V.str) 0=some (.str (nmF P 0)):=xn
 left
 refine qbk (SqL.of (v.s0 _ _ ev.gv.ln)) xn ?_
 left
 refine⟨so,t,hd,S,P,bs,L,n,0,rfl,v.st,ev.wr.same v.s0,by omega,fun l1 k1 H1 s1 hl1 e1 hA1=>?_⟩
 left
 refine⟨lr,P,rs,rfl,s1 _ _ v.hl,fun r hr=>(v.rw r hr).same s1,ev.gv.w3,fun l2 k2 H2 s2 hl2 e2 hA2=>?_⟩
 have ef:bs.filter (lineH P 0)=bs:=yN.mpr fun b hb=>decide_eq_true (zero_line ev.ti.pl.low _ (by have:=(v.st.ob b hb).il;omega))
 have es:qc1 ((bs.filter (lineH P 0)).map qcw)=qc1 (rs.map lrPt):=by
  have:=sum_eq v.co fun _=>true
  rw [yN.mpr (fun _ _=>rfl),yN.mpr (fun _ _=>rfl)] at this
  rw [ef];exact this
 rw [es] at hA1
 have e12:=s2 _ _ e1
 have ne:l1≠l2:=qa2 e1 hl2
 have dd:=DEq.dd (K:=K) (n:=1) (.inl e12) (.inl e2) ne hA1.flat hA2.flat
 rw [hA1.eq hA2] at dd
 refine r_eqD ne (by decide) dd ?_
 left
 exact q _ (s1.trans s2)
theorem gT_tn (z:Str) (j:Nat):∀xs:List T3,(∀x∈xs,0<=gN x.c.f z)->gT z j (xs.filterMap tn3)<=gT z j xs
 | [],_=>Int.le_refl _
 |x :: xs,h=>by
  have ih:=gT_tn z j xs fun y hy=>h y (zF _ hy)
  have hx:=h x (zC ..)
  have p0:(0:Int)<=(if (decide (x.c.i=j) && x.c.s)=true then gN x.c.f z else 0):=by split <;> omega
  rw [qcm]
  cases e:tnV x.v with
  |none=>
   have e2:tn3 x=none:=by unfold tn3;rw [e]
   rw [List.filterMap_cons_none e2];omega
  |some w=>
   have e2:tn3 x=some ⟨x.c,x.u,w⟩:=by unfold tn3;rw [e]
   rw [List.filterMap_cons_some e2,qcm]
   show (if (decide (x.c.i=j) && x.c.s)=true then gN x.c.f z else 0)+_<=_
   omega
theorem tn_inv {P:PL} {bs bs':List Ob} (e:bs'.map b3=(bs.map b3).filterMap tn3) (nn:NnB bs) (ng:NgOk P bs) (pt:PosT bs):NgOk P bs'/\PosT bs':=by
 refine⟨ng_iff.mpr fun j z=>?_,pos_iff.mpr fun k hk=>?_⟩
 .rw [e]
  refine Int.le_trans (gT_tn z j _ fun x hx=>?_) (ng_iff.mp ng j z)
  obtain⟨b,hb,rfl⟩:=zJ.mp hx
  exact nn b hb z
 .rw [e] at hk
  obtain⟨y,hy,ey⟩:=zJ.mp hk
  obtain⟨x,hx,ex⟩:=List.mem_filterMap.mp hy
  obtain⟨b,hb,rfl⟩:=zJ.mp hx
  unfold tn3 at ex
  have eb:(b3 b).v=tV b.t:=rfl
  rw [eb] at ex
  cases et:b.t with
  |none=>
   rw [et] at ex
   have ex:some (⟨(b3 b).c,(b3 b).u,.non⟩:T3)=some y:=ex
   rw [<-Option.some.inj ex] at ey
   cases ey
  |some m=>
   rw [et] at ex
   by_cases c:1 < m
   .have e1:tnV (tV (some m))=some (.int (m - 1)):=if_pos c
    rw [e1] at ex
    have ex:some (⟨(b3 b).c,(b3 b).u,.int (m - 1)⟩:T3)=some y:=ex
    rw [<-Option.some.inj ex] at ey
    have ey:V.int (m - 1)=V.int k:=ey
    have:=V.int.inj ey
    omega
   .have e1:tnV (tV (some m))=none:=if_neg c
    rw [e1] at ex
    cases ex
theorem S28.dropped {d:Ad} {H6 H H2:Hp} {so t hd lr:Addr} {P:PL} {bs:List Ob} {rs:List Lr} {L:Int} (V0:S28 d H6 H so t hd lr P bs rs L) (C:C23 H6 so hd lr) {k:Nat} {b:Ob} (hb:bs[k]?=some b) (sb:SB [hd] (upd H lr (.lst ((rwV rs).eraseIdx k))) H2) (st2:StAt d H2 so t hd P (bs.filter (notN b.R.n)) L):S28 d H6 H2 so t hd lr P (bs.filter (notN b.R.n)) (rs.eraseIdx k) L/\SB [so,hd,lr] H H2/\Fr H bs rs (bs.filter (notN b.R.n)) (rs.eraseIdx k):=by
 have v:=V0.w
 have sb2:SB [so,hd,lr] H H2:=fun y o e nn=>sb y o (by rw [qa6 (fun z=>nn (by rw [z];exact in3c))];exact e) (qan fun z=>nn (by rw [z];exact in3b))
 have er:=erase_b v.st.nu hb
 refine⟨⟨W23.mv v C sb2 st2 (fun y hy=>v.mh y (zY.mp hy).1) ?_ (fun y hy=> .inl (List.mem_of_mem_eraseIdx hy)) (fun y hy=> .inl (zY.mp hy).1) (by rw [er,qe3,qe3,v.co]),ng_filter V0.ng (NnB.of v.co v.rw) _,by rw [er];exact tl_erase V0.tl k,fun y hy=>V0.pt y (zY.mp hy).1⟩,sb2,Fr.of (fun y hy=> .inl (zY.mp hy).1) fun y hy=> .inl (List.mem_of_mem_eraseIdx hy)⟩
 rw [sb lr _ qa1 (qan C.hl.symm)]
 unfold rwV
 rw [qe3]
theorem Fr.pre {H H1:Hp} {bs bs':List Ob} {rs rs':List Lr} (h:Fr H1 bs rs bs' rs') (s:qas H H1):Fr H bs rs bs' rs':=fun x hx=>(h x hx).imp id fun e=>s.free e
def wj0 (K:Frag) (d:Ad):Sp:=fun vs H Q _=>∃(c:Int) (H6:Hp) (so t hd lr tg ln lw de dp:Addr) (sc:Int) (nm:List Str) (n:Nat) (qs:List Pq2) (S:Ts) (P:PL) (wt:Nat->Int) (bs:List Ob) (rs:List Lr) (L:Int),vs=[.ref so,.ref lr,.int c,.ref tg]/\Ev K d H6 tg ln lw de dp sc nm n qs t S P wt/\C23 H6 so hd lr/\S28 d H6 H so t hd lr P bs rs L/\rs.length<=40/\
 ∀lr' bs' rs' H',S28 d H6 H' so t hd lr' P bs' rs' L->C23 H6 so hd lr'->(lr'=lr\/H lr'=none)->SB [so,hd,lr] H H'->Fr H bs rs bs' rs'->rs'.length<=rs.length->Q (.ref lr') H'
include T in
theorem wj9:FnOk P w K mg base CX0 24 d.wgy d.wfp ["_law_store","_law_rows","_law_cell_here","_law_grove_here"] (wj0 K d):=by
 refine T.wij.ok w8k (fun vs H Q E h=>?_) (fun cdv A outer s H vs Q E hr h=>?_)
 .obtain⟨c,H6,so,t,hd,lr,tg,ln,lw,de,dp,sc,nm,n,qs,S,P,wt,bs,rs,L,rfl,_⟩:=h;rfl
 obtain⟨c,H6,so,t,hd,lr,tg,ln,lw,de,dp,sc,nm,n,qs,S,P,wt,bs,rs,L,rfl,ev,C,V0,r40,q⟩:=h
 refine⟨_,(qa4 (qag (i:=4) w8k.nd rfl (Or.inl rfl) (qab ((w0l T).mono (by decide)) hr rfl T.w1f T.w18.kp T.w1e .nil qaf (qa0 (pv 2) (qa0 qa7 (qa0 qa7 qa3)))))
  (qa4 (qag (i:=5) w8k.nd rfl (Or.inl rfl) (qab ((w0l T).mono (by decide)) hr rfl T.w1f T.w18.kp T.w1e .nil qaf (qa0 (pv 2) (qa0 qa7 (qa0 qa7 qa3)))))
  (qa4 (qc0 (qay (PW.pt (qez (qal qee (pv 4) qa7 (qap _)) (qey (qal (op_neD (hu8 hr)) (pv 1) (qcb qa3) (qap _))))) (qa5 (qat (pe_bm0 PySem.F.plainAttrs_dict PySem.F.slot_dict_clear PySem.F.type_dict_clear mt_dclear (qaq qav (qai (W:=fun _ _ _ _=>False) (pv 0) T.w01 T.w1t ((w85 T).mono (by decide)) hr T.w97 .nil qdk (qa0 (qaq qav (qdr PySem.F.plainAttrs_list PySem.F.slot_list_pop PySem.F.type_list_pop mt_popAt (pv 1) (qa0 (qar qcl (pv 5) (qad qax rfl T.w34 PySem.boot_len (qa0 (pv 1) qa3))) qa3)) qa7 (fun _ _=>rfl)) qa3)) qa7 (fun _ _=>rfl))))) (qa5 (qc0 (qay (PW.pt (qez (qal qee (pv 4) qa7 (qap _)) (qey (qal (op_neD (hu8 hr)) (pv 1) (qcb qa3) (qap _))))) (qa4 (qag (i:=6) w8k.nd rfl (Or.inl rfl) (qaq qaw (pv 1) (qar qcl (pv 5) (qad qax rfl T.w34 PySem.boot_len (qa0 (pv 1) qa3))) (fun _ _=>rfl)))
  (qa4 (qag (i:=7) w8k.nd rfl (Or.inl rfl) (qab ((w7w T).mono (by decide)) hr rfl T.w9i T.w63.kp T.w9c .nil qaf (qa0 (pv 2) (qa0 (qaq qav (pv 3) qa7 (fun _ _=>rfl)) (qa0 (qaq qav (pv 3) qa7 (fun _ _=>rfl)) qa3)))))
  (qa4 (qat (qai (W:=fun _ _ _ _=>False) (pv 0) T.w01 T.w1o ((waq T).mono (by decide)) hr T.wbg .nil qdk (qa0 (qaq qav (pv 6) qa7 (fun _ _=>rfl)) (qa0 (pv 7) (qa0 qcs qa3)))))
  (qa5 (qf1 (pv 1) (qar qcl (pv 5) (qad qax rfl T.w34 PySem.boot_len (qa0 (pv 1) qa3))) (qg0 (qa0 (qaq qav (pv 6) qa7 (fun _ _=>rfl)) (qa0 (qaq qav (pv 6) qa7 (fun _ _=>rfl)) (qa0 (pv 7) (qa0 (qaq qav (pv 6) qa7 (fun _ _=>rfl)) (qa0 (qaq qav (pv 6) qa7 (fun _ _=>rfl)) (qa0 qcs qa3))))))) rfl))))) (qa5 (qc0 (qay (qal qee (pv 4) qa7 (qap _)) (qa4 (qag (i:=8) w8k.nd rfl (Or.inl rfl) (qaq qaw (qaq qav (pv 3) qa7 (fun _ _=>rfl)) (qar qcl (pv 5) (qad qdi rfl T.w34 PySem.boot_len (qa0 (qaq qav (pv 3) qa7 (fun _ _=>rfl)) qa3))) (fun _ _=>rfl)))
  (qa5 (qat (qab ((wit T).mono (by decide)) hr rfl T.wjw T.wil.kp T.wjv .nil qaf (qa0 (pv 0) (qa0 (pv 1) (qa0 (pv 8) (qa0 (qb3 (qb9 hr) (qaq qav (pv 3) qa7 (fun _ _=>rfl)) (pv 8) (fun _ _=>rfl)) qa3)))))))) (qa5 (qay (qal qee (pv 4) qa7 (qap _)) (qa4 (qat (qbi (pv 0) T.w01 T.w2g ((wd6 T).mono (by decide)) hr T.wdg .nil qaf))
  (qa5 (qae (qab ((wgl T).mono (by decide)) hr rfl T.whq T.wg1.kp T.why .nil qaf (qa0 (pv 1) qa3))))) qam))))))))))
  (qa5 (qae (pv 1)))))),?_⟩
 walk_at "d"
 refine qac (σ:=[some (.ref so),some (.ref lr),some (.int c),some (.ref tg),none,none,none,none,none]) rfl ?_
 have cs:=T.w01
 have nl:=ev.nl
 have n1:=ev.gv.n1
 have n5:=ev.gv.n5
 have lr0:((rwV rs).length:Int)=((rs.length:Nat):Int):=by unfold rwV;rw [zB]
 have nil_e:(rwV rs=[])=(rs=[]):=propext ⟨fun e=>by unfold rwV at e;simpa using e,fun e=>by rw [e];rfl⟩
 have bh:∀(H':Hp),S28 d H6 H' so t hd lr P bs rs L->SB [so,hd,lr] H H'->Q (.ref lr) H':=fun H' v' sb'=>q lr bs rs H' v' C (.inl rfl) sb' (Fr.of (fun b hb=> .inl hb) fun r hr=> .inl hr) (Nat.le_refl _)
 have lkE:(kvZ nm ((List.range n).map (elV nm (elN P.es)))).length=n:=by rw [qdg (by rw [zB,yG];have:=ev.gv.nl.len;omega),zB,yG]
 have idx:∀a:Int,0<=a->rs≠ []->∃(k:Nat) (r:Lr) (b:Ob),a%((rs.length:Nat):Int)=(k:Int)/\k < rs.length/\rs[k]?=some r/\bs[k]?=some b/\BrOk b r:=fun a a0 ne=>by
  have l0:0 < rs.length:=List.length_pos_iff.mpr ne
  have m0:=Int.emod_nonneg a (show ((rs.length:Nat):Int)≠0 by omega)
  have m1:=Int.emod_lt_of_pos a (show 0 <((rs.length:Nat):Int) by omega)
  obtain⟨k,hk⟩:=Int.eq_ofNat_of_zero_le m0
  have hkl:k < rs.length:=by omega
  obtain⟨b,hb,hbr⟩:=br_at V0.w.co V0.tl (zA hkl)
  exact⟨k,_,b,hk,hkl,zA hkl,hb,hbr⟩
 left
 refine qbl (by decide) (by decide) (by decide) (by decide) fun r r0 r1=>?_
 left
 refine qbl (by decide) (by decide) (by decide) (by decide) fun a a0 a1=>?_
 have elr:=V0.w.hl
 left
 refine qbz ?_
 left
 refine i_2 (fun c1=>?_) (fun c1=>?_)
 .left
  rename_i pe hpe
  have ne:=qa2 elr hpe
  refine r_neD ne (by decide) (qe7 (n:=0) (SqL.of (qa8 elr hpe)) (SqL.of qa1) ne) ?_
  have t1:=qaa hpe (.lst [])
  have v1:=V0.same t1
  generalize upd H pe (.lst [])=H1 at*
  clear elr hpe ne
  have elr:=v1.w.hl
  simp only [nil_e]
  by_cases ce:rs=[]
  .rw [decide_eq_true ce]
   left
   refine qbz ?_
   left
   refine qbz ?_
   left
   exact bh _ v1 (SB.of t1)
  .rw [decide_eq_false ce]
   obtain⟨k,rw,b,hk,hkl,hrk,hbk,hbr⟩:=idx a a0 ce
   have hbm:=zK hbk
   have hrm:=zK hrk
   have en:b.R.n=rw.n:=congrArg (fun c:Co=>c.n) hbr.co
   have grw:=v1.w.rw rw hrm
   have nra:rw.a≠lr:=(grw.nl elr).1
   have lpos:0 <((rs.length:Nat):Int):=by omega
   obtain⟨dx1,ho1⟩:=v1.w.st.obj
   left
   rw [lr0]
   left
   rw [hk]
   refine r_popAt (k:=k) elr (by unfold rwV;rw [zD,hrk];rfl) (by unfold rwV;rw [zB];exact Nat.lt_of_le_of_lt r40 (by decide)) ?_
   have st2:=v1.w.st.sbl (H':=upd H1 lr (.lst ((rwV rs).eraseIdx k))) (A:=[lr]) ((SB.of (qas.refl _)).at (zC ..)) (qan C.sl) (qan C.hl) fun x hx=>⟨qan (v1.w.ab x hx).1,qan (v1.w.ab x hx).2⟩
   have er2:upd H1 lr (.lst ((rwV rs).eraseIdx k)) rw.a=_:=(qa6 nra).trans grw.tup
   have free2:∀x,upd H1 lr (.lst ((rwV rs).eraseIdx k)) x=none->H1 x=none:=fun x hx=>by
    by_cases z:x=lr
    .rw [z,qa1] at hx;cases hx
    .rw [qa6 z] at hx;exact hx
   have dropped:=fun H2 sb2 st2=>v1.dropped (H2:=H2) C hbk sb2 st2
   generalize upd H1 lr (.lst ((rwV rs).eraseIdx k))=H2 at*
   obtain⟨dx2,ho2⟩:=st2.obj
   left
   refine⟨so,t,hd,P,bs,L,b,by rw [en];rfl,st2,hbm,v1.w.mh,fun p md H3 sb3 hp hmd ep em st3=>?_⟩
   obtain⟨v3,sbx,frx⟩:=dropped H3 sb3 st3
   have fmd:=free2 md hmd
   left
   have v4:=v3.sb (H':=upd H3 md (.dK [])) (A:=[md]) ((SB.of (qas.refl _)).at (zC ..)) fun x hx=>by
    rw [zH.mp hx]
    refine⟨v1.w.new fmd,fun hF=>?_,v1.w.s0.free fmd⟩
    rcases hF with ⟨y,hy,e⟩ |⟨y,hy,e⟩
    .exact InF.alive v1.w (.inl ⟨y,(zY.mp hy).1,e⟩) fmd
    .exact InF.alive v1.w (.inr ⟨y,List.mem_of_mem_eraseIdx hy,e⟩) fmd
   exact q lr _ _ _ v4 C (.inl rfl) (fun y o e nn=>by rw [qa6 (qa2 (t1 _ _ e) fmd)];exact sbx y o (t1 _ _ e) nn) (frx.pre t1) (List.length_eraseIdx_le ..)
 left
 refine qbz ?_
 left
 refine i_2 (fun c2=>?_) (fun c2=>?_)
 .left
  rename_i pe hpe
  have ne:=qa2 elr hpe
  refine r_neD ne (by decide) (qe7 (n:=0) (SqL.of (qa8 elr hpe)) (SqL.of qa1) ne) ?_
  have t1:=qaa hpe (.lst [])
  have v1:=V0.same t1
  generalize upd H pe (.lst [])=H1 at*
  clear elr hpe ne
  have elr:=v1.w.hl
  simp only [nil_e]
  by_cases ce:rs=[]
  .rw [decide_eq_true ce]
   left
   refine qbz ?_
   left
   exact bh _ v1 (SB.of t1)
  .rw [decide_eq_false ce]
   obtain⟨k,rw,b,hk,hkl,hrk,hbk,hbr⟩:=idx a a0 ce
   have hbm:=zK hbk
   have hrm:=zK hrk
   have en:b.R.n=rw.n:=congrArg (fun c:Co=>c.n) hbr.co
   have ei:b.R.i=rw.i:=congrArg (fun c:Co=>c.i) hbr.co
   have lpos:0 <((rs.length:Nat):Int):=by omega
   have xk:atI (rwV rs) ((k:Nat):Int)=some (.ref rw.a):=qbn (by unfold rwV;rw [zD,hrk];rfl)
   have etg:=v1.w.s0 _ _ ev.tg
   have grw:=v1.w.rw rw hrm
   have hr1:=grw.tup
   left
   rw [lr0]
   left
   rw [hk]
   refine qbk (SqL.of elr) xk ?_
   left
   refine⟨c,sc,lw,P.ws,rfl,v1.w.s0 _ _ ev.gv.lw,ev.gv.w1,ev.gv.w3,ev.gv.wl.nd,ev.sc,fun m kk f H2 s2 hm em hA hok ck=>?_⟩
   have v2:=v1.same s2
   have hIn:InW P.ws f:=fun z hz=>by
    cases e:f z with
    |none=>exact absurd e hz
    |some x=>exact(hok.ok z x e).1
   have hr2:=s2 _ _ hr1
   have nmh:m≠hd:=(qa2 v1.w.st.hds hm).symm
   have nml:m≠lr:=(qa2 elr hm).symm
   have nms:m∉ [so,hd,lr]:=v1.w.new hm
   clear etg hr1 elr
   obtain⟨dx2,ho2⟩:=v2.w.st.obj
   have nn:NnB bs:=NnB.of v2.w.co v2.w.rw
   left
   refine⟨so,t,hd,m,P,bs,L,b,kk,f,by rw [en];rfl,v2.w.st,v2.w.mh,nmh,em,hA,hIn,hbm,fun b' H3 st3 mh3 sb3 fo fm et eR=>?_⟩
   have nra:rw.a≠hd:=fun z=>(v2.w.ar rw hrm).1 (by rw [z];exact in3b)
   have hr3:=sb3 _ _ hr2 (qan nra)
   have elr3:=sb3 _ _ v2.w.hl (qan C.hl.symm)
   have em3:=sb3 _ _ em (qan nmh)
   have fol:b'.o≠lr:=(qa2 v2.w.hl fo).symm
   have fml:b'.m≠lr:=(qa2 v2.w.hl fm).symm
   clear hr2 ho2
   left
   rename_i rr hrr
   have sr:=qaa hrr (.tup [V.int rw.n,V.str (nmF P rw.i),V.ref m,rw.u,rw.v,V.bl false])
   have er4:upd H3 rr (.tup [V.int rw.n,V.str (nmF P rw.i),V.ref m,rw.u,rw.v,V.bl false]) rr=some (.tup [V.int rw.n,V.str (nmF P rw.i),V.ref m,rw.u,rw.v,V.bl false]):=qa1
   have elr4:=sr _ _ elr3
   have em4:=sr _ _ em3
   have st4:=st3.same sr
   have frr:H2 rr=none:=by
    cases e:H2 rr with
    |none=>rfl
    |some o=>
     by_cases z:rr=hd
     .rw [z,st3.hds] at hrr;cases hrr
     .rw [sb3 rr o e (qan z)] at hrr;cases hrr
   have nrl:rr≠lr:=(qa2 elr3 hrr).symm
   generalize upd H3 rr (.tup [V.int rw.n,V.str (nmF P rw.i),V.ref m,rw.u,rw.v,V.bl false])=H4 at*
   clear hr3 elr3 em3
   left
   rw [lr0]
   left
   rw [hk]
   refine r_lpk elr4 (k:=k) (by unfold rwV;rw [zB];exact hkl) ?_ rfl
   have ers:=repl_set v2.w.st.nu hbk (b':=b') (by rw [eR];rfl)
   have esv:(rwV rs).set k (V.ref rr)=rwV (rs.set k ⟨rr,m,rw.n,rw.i,kk,f,rw.u,rw.v,false⟩):=by unfold rwV;rw [xG]
   rw [esv]
   have sb5:SB [so,hd,lr] H2 (upd H4 lr (.lst (rwV (rs.set k ⟨rr,m,rw.n,rw.i,kk,f,rw.u,rw.v,false⟩)))):=((sb3.up fun x hx=>by rw [zH.mp hx];exact in3b).trans (SB.of sr)).at in3c
   have w5:W23 d H6 (upd H4 lr (.lst (rwV (rs.set k ⟨rr,m,rw.n,rw.i,kk,f,rw.u,rw.v,false⟩)))) so t hd lr P (qcj bs b') (rs.set k ⟨rr,m,rw.n,rw.i,kk,f,rw.u,rw.v,false⟩) L:=by
    refine W23.mv v1.w C (fun y o e nn=>sb5 y o (s2 _ _ e) nn) (st4.sbl (A:=[lr]) ((SB.of (qas.refl _)).at (zC ..)) (qan C.sl) (qan C.hl) fun y hy=>?_) mh3 qa1 (fun y hy=>?_) (fun y hy=>?_) ?_
    .rcases qd2 hy with h|h
     .rw [h];exact⟨qan fol,qan fml⟩
     .exact⟨qan (v2.w.ab y h).1,qan (v2.w.ab y h).2⟩
    .rcases List.mem_or_eq_of_mem_set hy with h|h
     .exact .inl h
     .rw [h]
      exact .inr ⟨⟨(qa6 nrl).trans er4,(qa6 nml).trans em4,hA,hIn,fun z x e=>(hok.ok z x e).2.1,grw.il⟩,s2.free frr,hm⟩
    .rcases qd2 hy with h|h
     .rw [h];exact .inr ⟨fol,fml⟩
     .exact .inl h
    .rw [ers,xG,xG,v2.w.co]
     congr 1
     show bCo b'=rCo _
     unfold bCo rCo
     rw [eR,<-en,<-ei];rfl
   have eu:rw.u=V.int b'.R.r:=by rw [hbr.u,eR];rfl
   have ev2:rw.v=tV b'.t:=by rw [hbr.v,et]
   left
   refine q lr (qcj bs b') _ _ ⟨w5,ng_repl v2.ng nn v2.w.st.nu hbm (by rw [eR];rfl) (by rw [eR];rfl) (fun e y=>by rw [eR] at e;cases e),by rw [ers];exact tl_set v2.tl eu ev2,fun y hy kz ez=>?_⟩ C (.inl rfl) (fun y o e nn=>sb5 y o (s2 _ _ (t1 _ _ e)) nn) (Fr.of (fun y hy=>?_) fun y hy=>?_) (by rw [xB];exact Nat.le_refl _)
   .rcases qd2 hy with h|h
    .rw [h,et] at ez;exact v2.pt b hbm kz ez
    .exact v2.pt y h kz ez
   .rcases qd2 hy with h|h
    .rw [h];exact .inr ⟨t1.free (s2.free fo),t1.free (s2.free fm)⟩
    .exact .inl h
   .rcases List.mem_or_eq_of_mem_set hy with h|h
    .exact .inl h
    .rw [h];exact .inr ⟨t1.free (s2.free frr),.inl (t1.free hm)⟩
 left
 refine qbz ?_
 left
 refine i_2 (fun c3=>?_) (fun c3=>?_)
 .have etg:=V0.w.s0 _ _ ev.tg
  have npos:0 <((n:Nat):Int):=by omega
  have m0:=Int.emod_nonneg a (show ((n:Nat):Int)≠0 by omega)
  have m1:=Int.emod_lt_of_pos a npos
  obtain⟨h,hk⟩:=Int.eq_ofNat_of_zero_le m0
  have hh:h < n:=by omega
  have xn:atI (nm.map V.str) ((h:Nat):Int)=some (.str (nmF P h)):=qbn (by rw [zD,ev.at hh];rfl)
  obtain⟨qi,hqm,xq,etf,eqi,inq⟩:=ev.pr hh
  have edp:=V0.w.s0 _ _ ev.gv.dp
  clear m0 m1
  left
  refine r_lenD (V0.w.s0 _ _ ev.gv.de) ?_
  rw [lkE]
  left
  rw [hk]
  refine qbk (SqL.of (V0.w.s0 _ _ ev.gv.ln)) xn ?_
  left
  refine qgj (.inl edp) xq ?_
  left
  refine⟨H6,so,t,hd,lr,tg,ln,lw,de,dp,qi.1,sc,nm,n,qs,S,P,wt,bs,rs,L,h,_,rfl,ev,C,V0,r40,hh,eqi,by rw [etf];exact td_ad _,fun bs' rs' H1 v1 sb1 fr1 l1=>?_⟩
  left
  exact q lr bs' rs' H1 v1 C (.inl rfl) sb1 fr1 l1
 left
 refine i_2 (fun c4=>?_) (fun c4=>?_)
 .obtain⟨dx,ho⟩:=V0.w.st.obj
  left
  refine⟨so,t,hd,P,bs,L,rfl,V0.w.st,V0.pt,V0.w.mh,fun bs' y H1 st1 eb nb sb1=>?_⟩
  have hl1:=sb1 _ _ V0.w.hl (qan C.hl.symm)
  have rw1:∀r∈rs,LrAt H1 P r:=fun r hr=>by
   have g:=V0.w.rw r hr
   have n3:=V0.w.ar r hr
   exact⟨sb1 _ _ g.tup (qan fun z=>n3.1 (by rw [z];exact in3b)),sb1 _ _ g.dic (qan fun z=>n3.2 (by rw [z];exact in3b)),g.ad,g.inw,g.pos,g.il⟩
  have back:∀y,H1 y=none->H y=none:=fun y hy=>by
   cases e:H y with
   |none=>rfl
   |some o=>
    by_cases z:y=hd
    .rw [z,st1.hds] at hy;cases hy
    .rw [sb1 y o e (qan z)] at hy;cases hy
  left
  refine⟨lr,P,rs,rfl,hl1,rw1,r40,fun r hr=>?_,fun l rs' H2 s2 hl el hrs x3 len=>?_⟩
  .obtain⟨k,hk,ek⟩:=yD.mp hr
   obtain⟨b,hb,hbr⟩:=br_at V0.w.co V0.tl (show rs[k]?=some r by rw [<-ek];exact zA hk)
   rw [hbr.v]
   cases b.t with
   |none=>exact .inl rfl
   |some j=>exact .inr ⟨j,rfl⟩
  have fl:=back l hl
  have exb:bs'.map b3=rs'.map r3:=by rw [eb,x3,b3_r3 V0.w.co V0.tl]
  have st2:=st1.same s2
  obtain⟨ng2,pt2⟩:=tn_inv eb (NnB.of V0.w.co V0.w.rw) V0.ng V0.pt
  have sbA:SB [so,hd,lr] H H2:=(sb1.up fun x hx=>by rw [zH.mp hx];exact in3b).trans (SB.of s2)
  have n3:=V0.w.new fl
  have C2:C23 H6 so hd l:=⟨fun x hx=>by
   rcases qbw hx with e|e|e
   .rw [e];exact C.n6 so in3a
   .rw [e];exact C.n6 hd in3b
   .rw [e];exact V0.w.s0.free fl,fun z=>n3 (by rw [<-z];exact in3a),fun z=>n3 (by rw [<-z];exact in3b)⟩
  have hX:∀r∈rs',r∈rs\/(H r.a=none/\∃r0∈rs,r0.m=r.m):=fun r hr=>(hrs r hr).2.imp id fun g=>⟨back _ g.1,g.2⟩
  have w2:W23 d H6 H2 so t hd l P bs' rs' L:=W23.mv2 V0.w C sbA st2 (fun b hb=>by
   rcases nb b hb with g|g
   .exact V0.w.mh b g
   .exact(qa2 V0.w.st.hds g.2).symm) el (fun r hr=>⟨(hrs r hr).1,by
    have g:=(hrs r hr).1.nl el
    have o3:r.a∉ [so,hd,lr]/\r.m∉ [so,hd,lr]:=by
     rcases hX r hr with g|⟨g,r0,h0,e0⟩
     .exact V0.w.ar r g
     .exact⟨V0.w.new g,by rw [<-e0];exact(V0.w.ar r0 h0).2⟩
    refine⟨fun hm=>?_,fun hm=>?_⟩
    .rcases qbw hm with e|e|e
     .exact o3.1 (by rw [e];exact in3a)
     .exact o3.1 (by rw [e];exact in3b)
     .exact g.1 e
    .rcases qbw hm with e|e|e
     .exact o3.2 (by rw [e];exact in3a)
     .exact o3.2 (by rw [e];exact in3b)
     .exact g.2 e⟩) (of_b3 exb).1
  left
  exact q l bs' rs' H2 ⟨w2,ng2,(of_b3 exb).2,pt2⟩ C2 (.inr fl) sbA (Fr.of nb fun r hr=>(hX r hr).imp id fun g=>⟨g.1,.inr g.2⟩) len
 left
 exact bh _ V0 (SB.of (qas.refl _))
theorem S28.own {d:Ad} {H6 H:Hp} {so t hd lr:Addr} {P:PL} {bs:List Ob} {rs:List Lr} {L:Int} (v:S28 d H6 H so t hd lr P bs rs L):∀a∈ [so,hd,lr],¬InF bs rs a:=fun a ha hF=>by
 rcases hF with ⟨b,hb,e⟩ |⟨r,hr,e⟩
 .obtain⟨_,g1⟩:=(v.w.st.ob b hb).obj
  have g2:=(v.w.st.ob b hb).amt
  obtain⟨_,g3⟩:=v.w.st.obj
  have g4:=v.w.st.hds
  have g5:=v.w.mh b hb
  have g6:=v.w.ab b hb
  rcases qbw ha with z|z|z <;> subst z <;> rcases e with e|e <;> subst e
  .rw [g1] at g3
   have g3:=Option.some.inj g3
   injection g3 with _ _ g3
   unfold fsB at g3
   injection g3 with _ g3
   injection g3 with _ g3
   injection g3 with _ g3
   cases g3
  .rw [g2] at g3;cases g3
  .rw [g1] at g4;cases g4
  .exact g5 rfl
  .exact g6.1 rfl
  .exact g6.2 rfl
 .rcases e with e|e
  .exact(v.w.ar r hr).1 (by rw [<-e];exact ha)
  .exact(v.w.ar r hr).2 (by rw [<-e];exact ha)
def sp_law0 (K:Frag):Sp:=fun vs H Q _=>∃(a:Addr) (ns:List Int),vs=[.ref a]/\SqL K H a (ns.map V.int)/\ns.length<=63/\∀H',Q (.bl true) H'
def sp_law (K:Frag) (d:Ad):Sp:=sp_law0 K
include T in
theorem ok_law:FnOk P w K mg base CX0 26 d.wes d.wee ["_law_script"] (sp_law K d):=by
 refine T.wkc.ok w4r (fun vs H Q E h=>?_) (fun cdv A outer s H vs Q E hr h=>?_)
 .obtain⟨a,ns,rfl,_⟩:=h;rfl
 obtain⟨a,ns,rfl,hS,h63,q⟩:=h
 refine⟨_,(qa4 (qag (i:=1) w4r.nd rfl (Or.inl rfl) (qab ((wi9 T).mono (by decide)) hr rfl T.wje T.wgq.kp T.wix .nil qaf (qa0 (pv 0) qa3)))
  (qa4 (qag (i:=2) w4r.nd rfl (Or.inl rfl) (qf4 T.w6w ((w7y T).mono (by decide)) hr rfl T.whh T.w9e .nil qaf (qa0 (qab ((wj4 T).mono (by decide)) hr rfl T.wjq T.wis.kp T.wk2 .nil qaf (qa0 (qaq qav (pv 1) qa7 (fun _ _=>rfl)) (qa0 (qaq qav (pv 1) qa7 (fun _ _=>rfl)) (qa0 (qaq qav (pv 1) qa7 (fun _ _=>rfl)) (qa0 (qaq qav (pv 1) qa7 (fun _ _=>rfl)) qa3))))) qa3)))
  (qa4 (qag (i:=3) w4r.nd rfl (Or.inl rfl) (qcb qa3))
  (qa4 (qag (i:=4) w4r.nd rfl (Or.inl rfl) (qad (call_minR rfl) rfl T.wjr PyProof.Rows.boot_min (qa0 qa7 (qa0 (qad (call_maxR rfl) rfl T.wkd PyProof.Rows.boot_max (qa0 (qar op_sub (qad qax rfl T.w34 PySem.boot_len (qa0 (pv 0) qa3)) qa7) (qa0 (qar qb8 qa7 (qab ((w0l T).mono (by decide)) hr rfl T.w1f T.w18.kp T.w1e .nil qaf (qa0 (qab ((w57 T).mono (by decide)) hr rfl T.w83 T.w74.kp T.w7u .nil qaf (qa0 (pv 0) (qa0 qa7 qa3))) (qa0 qa7 (qa0 qa7 qa3))))) qa3))) qa3))))
  (qa4 (qbh PassesOwn.never rfl (qca rfl T.w6d (qa0 (qad (call_minR rfl) rfl T.wjr PyProof.Rows.boot_min (qa0 qa7 (qa0 (pv 4) qa3))) qa3)) (qau (i:=5) w4r.nd rfl (Or.inl rfl)) (qa5 (qay (qbd (qaz (qab ((wir T).mono (by decide)) hr rfl T.wjz T.wjd.kp T.wk4 .nil qaf (qa0 (pv 2) (qa0 (pv 3) (qa0 (qab ((w57 T).mono (by decide)) hr rfl T.w83 T.w74.kp T.w7u .nil qaf (qa0 (pv 0) (qa0 (qar qb8 qa7 (pv 5)) qa3))) (qa0 (pv 1) (qa0 (pv 5) qa3)))))))) (qa5 (qae qcs)) qam)))
  (qa4 (qag (i:=6) w4r.nd rfl (Or.inl rfl) (qcb (qa0 (qad qax rfl T.w34 PySem.boot_len (qa0 (pv 3) qa3)) (qa0 (qad qax rfl T.w34 PySem.boot_len (qa0 (pv 3) qa3)) qa3))))
  (qa4 (qc0 (qay (PW.pt (qez (qal (op_neD (hu8 hr)) (pv 3) (qcb qa3) (qap _)) (qey (qal qf6 (qab ((w0l T).mono (by decide)) hr rfl T.w1f T.w18.kp T.w1e .nil qaf (qa0 (qab ((w57 T).mono (by decide)) hr rfl T.w83 T.w74.kp T.w7u .nil qaf (qa0 (pv 0) (qa0 qa7 qa3))) (qa0 qa7 (qa0 qa7 qa3)))) qa7 (qap _))))) (qa5 (qat (qai (W:=fun _ _ _ _=>False) (pv 2) T.w01 T.w1t ((w85 T).mono (by decide)) hr T.w97 .nil qdk (qa0 (qaq qav (qdr PySem.F.plainAttrs_list PySem.F.slot_list_pop PySem.F.type_list_pop mt_popAt (pv 3) (qa0 (qar op_sub (qar op_sub (qad qax rfl T.w34 PySem.boot_len (qa0 (pv 3) qa3)) qa7) (qar qep (qab ((w0l T).mono (by decide)) hr rfl T.w1f T.w18.kp T.w1e .nil qaf (qa0 (qab ((w57 T).mono (by decide)) hr rfl T.w83 T.w74.kp T.w7u .nil qaf (qa0 (pv 0) (qa0 qa7 qa3))) (qa0 qa7 (qa0 (qad qax rfl T.w34 PySem.boot_len (qa0 (pv 3) qa3)) qa3)))) qa7)) qa3)) qa7 (fun _ _=>rfl)) qa3)))) qam))
  (qa4 (qag (i:=7) w4r.nd rfl (Or.inl rfl) (qcb (qa0 (pv 2) (qa0 (qbi (pv 2) T.w01 T.w2e ((wcq T).mono (by decide)) hr T.wdh .nil qaf) qa3))))
  (qa4 (qag (i:=8) w4r.nd rfl (Or.inl rfl) (qcb (qa0 (pv 3) (qa0 (qbs qg6 rfl T.whf PyProof.Rows.boot_list (qa0 (pv 3) qa3)) qa3))))
  (qa4 (qbh PassesOwn.never rfl (qca rfl T.w6d (qa0 (pv 4) qa3)) (qau (i:=5) w4r.nd rfl (Or.inl rfl)) (qa4 (qag (i:=9) w4r.nd rfl (Or.inl rfl) (qab ((w57 T).mono (by decide)) hr rfl T.w83 T.w74.kp T.w7u .nil qaf (qa0 (pv 0) (qa0 (qar qb8 qa7 (pv 5)) qa3))))
  (qa4 (qag (i:=10) w4r.nd rfl (Or.inl rfl) (qar qcl (qar qb8 (pv 5) (qar qep (qab ((w0l T).mono (by decide)) hr rfl T.w1f T.w18.kp T.w1e .nil qaf (qa0 (pv 9) (qa0 qa7 (qa0 qa7 qa3)))) qa7)) qa7))
  (qa4 (qc0 (qay (qal qee (qab ((w0l T).mono (by decide)) hr rfl T.w1f T.w18.kp T.w1e .nil qaf (qa0 (pv 9) (qa0 qa7 (qa0 qa7 qa3)))) qa7 (qap _)) (qa4 (qay (qbd (qaz (qab ((wir T).mono (by decide)) hr rfl T.wjz T.wjd.kp T.wk4 .nil qaf (qa0 (qaq qaw (pv 7) (pv 10) (fun _ _=>rfl)) (qa0 (qaq qaw (pv 8) (pv 10) (fun _ _=>rfl)) (qa0 (pv 9) (qa0 (pv 1) (qa0 (qaq qaw (pv 6) (pv 10) (fun _ _=>rfl)) qa3)))))))) (qa5 (qae qcs)) qam)
  (qa5 (qf1 (pv 6) (pv 10) (qar qb8 (qaq qaw (pv 6) (pv 10) (fun _ _=>rfl)) qa7) rfl))) (qa5 (qf1 (pv 8) (pv 10) (qab ((wj9 T).mono (by decide)) hr rfl T.wjn T.wij.kp T.wk1 .nil qaf (qa0 (qaq qaw (pv 7) (pv 10) (fun _ _=>rfl)) (qa0 (qaq qaw (pv 8) (pv 10) (fun _ _=>rfl)) (qa0 (pv 9) (qa0 (pv 1) qa3))))) rfl))))
  (qa5 (qbh PassesOwn.never rfl (qca rfl T.w6d (qa0 qa7 qa3)) (qau (i:=11) w4r.nd rfl (Or.inl rfl)) (qa5 (qay (PW.pt (qem (qbd (qaz (qab ((wjk T).mono (by decide)) hr rfl T.wjo T.wid.kp T.wjt .nil qaf (qa0 (qaq qaw (pv 7) (pv 11) (fun _ _=>rfl)) (qa0 (qaq qaw (pv 8) (pv 11) (fun _ _=>rfl)) qa3))))) (qex (qbd (qaz (qab ((wk5 T).mono (by decide)) hr rfl T.wke T.wju.kp T.wkb .nil qaf (qa0 (qaq qaw (pv 7) (pv 11) (fun _ _=>rfl)) (qa0 (qaq qaw (pv 8) (pv 11) (fun _ _=>rfl)) (qa0 (pv 1) qa3))))))))) (qa5 (qae qcs)) qam))))))))
  (qa5 (qae qcs)))))))))))),?_⟩
 walk_at "d"
 try dsimp only [cxC]
 refine qac (σ:=[some (.ref a),none,none,none,none,none,none,none,none,none,none,none]) rfl ?_
 have cs:=T.w01
 left
 refine⟨a,ns,rfl,hS,h63,fun tg ln lw de dp sc nm ws n el qs H1 s1 etg hsc hG0=>?_⟩
 obtain⟨es,hes,hG⟩:=hG0.es
 clear hG0
 have hS1:=s1.seq hS
 left
 refine⟨ln,lw,de,dp,nm,ws,n,es,qs,rfl,hG.re,hes,fun t S P wt H6 s6 enm ews ees etp pf hT hsf hI=>?_⟩
 subst ews ees
 have hS6:=s6.seq hS1
 have etg6:=s6 _ _ etg
 have hG6:GvAt H6 H6 ln lw de dp nm P.ws n (elN P.es) qs:=(hG.same s6).re
 have nln:=hG.nl.len
 have ndn:=hG.nl.nd
 have n1:=hG.n1
 have n5:=hG.n5
 have pnl:P.nm.length=n:=by rw [enm,zS];omega
 have hhs:∀j,j < n->(∃e,S.at (nmF P j)=some e)/\Dep S 12 (nmF P j):=fun j hj=>by
  obtain⟨e,ae,_,_⟩:=hI.pl.at hj
  exact⟨⟨e,ae⟩,hI.pl.dep 12 j hj (by omega)⟩
 have hW6:WrAt K d H6 t S P n:=⟨hT,hI.pl.wf,hI.pl,pnl,hhs,hG.w3⟩
 clear hS1 etg hG s6 s1 hS hsf hT hhs
 have ev:Ev K d H6 tg ln lw de dp sc nm n qs t S P wt:=⟨etg6,hsc,hG6,hW6,hI,pf,enm,etp⟩
 have lkE:(kvZ nm ((List.range n).map (elV nm (elN P.es)))).length=n:=by rw [qdg (by rw [zB,yG];omega),zB,yG]
 left
 intro so dx hso hdx ne
 refine⟨so,dx,t,rfl,qa1,fun hd H7 hhd ex7 ed7 sb7=>⟨rfl,?_⟩⟩
 have nds:hd≠so:=fun z=>by subst z;rw [qa1] at hhd;cases hhd
 rw [qa6 nds] at hhd
 have hd6:H6 hd=none:=by
  by_cases e:hd=dx
  .subst e;exact hdx
  .rw [qa6 e] at hhd;exact hhd
 have s7:qas H6 H7:=fun b o hb=>sb7 b o (qa2 hb hso) (by rw [qa6 (qa2 hb hso),qa6 (qa2 hb hdx)];exact hb)
 have st7:StAt d H7 so t hd P [] 0:=⟨⟨dx,ex7⟩,ed7,fun b hb=>by simp at hb,⟨List.Pairwise.nil,fun b hb=>by simp at hb⟩,by show 0<=60;decide⟩
 clear sb7 ex7 ed7 hhd hdx ne
 left
 rename_i lr hlr
 obtain⟨dx7,eso7⟩:=st7.obj
 have C:C23 H6 so hd lr:=⟨fun x hx=>by
  rcases qbw hx with h|h|h
  .rw [h];exact hso
  .rw [h];exact hd6
  .rw [h];exact s7.free hlr,qa2 eso7 hlr,qa2 st7.hds hlr⟩
 have s8:=qaa hlr (.lst [])
 have v0:W23 d H6 (upd H7 lr (.lst [])) so t hd lr P [] [] 0:=⟨s7.trans s8,st7.same s8,fun b hb=>by simp at hb,qa1,fun r hr=>by simp at hr,rfl,fun r hr=>by simp at hr,fun b hb=>by simp at hb⟩
 generalize upd H7 lr (.lst [])=H8 at*
 have ng0:NgOk P []:=fun h v=>by
  show (0:Int)<=_
  by_cases c:h < P.nm.length
  .exact pr_nn pf c v
  .have:P.tp[h]?=none:=List.getElem?_eq_none (by have:=pf.pl;omega)
   unfold tfF
   rw [this];exact Int.le_refl _
 clear s7 s8 st7 eso7 hlr hso hd6 nds
 have hS8:=v0.s0.seq hS6
 have lns:(((ns.map V.int).length:Nat):Int)=((ns.length:Nat):Int):=by rw [zB]
 have ln63:((ns.length:Nat):Int)<=63:=by omega
 left
 rw [lns]
 generalize hnsi:((ns.length:Nat):Int)=nsi at*
 left
 refine⟨a,ns,4,rfl,hS8,by decide,by decide,h63,fun c4 _ _=>?_⟩
 left
 refine qbl (by decide) (by decide) (by decide) (by decide) fun r r0 r1=>?_
 left
 generalize hmn:(if (if 2+r > nsi - 5 then 2+r else nsi - 5) < 16 then if 2+r > nsi - 5 then 2+r else nsi - 5 else 16)=mn
 have m16:mn<=16:=by rw [<-hmn];split <;> split <;> omega
 have m0:2<=mn:=by rw [<-hmn];split <;> split <;> omega
 clear hmn r0 r1
 have u0:S28 d H6 H8 so t hd lr P [] [] 0:=⟨v0,ng0,fun i b r h=>by simp at h,fun b hb=>by simp at hb⟩
 clear v0 ng0
 left
 have e8:∃m8:Nat,(if mn < 8 then mn else 8).toNat=m8/\m8<=8:=⟨_,rfl,by split <;> omega⟩
 obtain⟨m8,e8,m88⟩:=e8
 rw [e8]
 refine qdu (fun i σ H'=>∃(bs:List Ob) (rs:List Lr) (w5 w6 w7 w8 w9 w10 w11:Option V),σ=[some (V.ref a),some (V.ref tg),some (V.ref so),some (V.ref lr),some (V.int mn),w5,w6,w7,w8,w9,w10,w11]/\S28 d H6 H' so t hd lr P bs rs ((i:Nat):Int)/\rs.length=i) ⟨[], [],_,_,_,_,_,_,_,rfl,u0,rfl⟩ ?_ ?_
 .clear u0
  rintro i σ H' hi ⟨bs,rs,w5,w6,w7,w8,w9,w10,w11,rfl,v,hrs⟩
  rw [Int.zero_add]
  have ei:(((i+1:Nat)):Int)=((i:Nat):Int)+1:=by omega
  rw [ei]
  generalize hii:((i:Nat):Int)=ii at*
  have ii0:0<=ii:=by omega
  have ii1:ii < 16:=by omega
  left
  refine⟨a,ns,5+ii,rfl,v.w.s0.seq hS6,by omega,by omega,h63,fun ci _ _=>?_⟩
  left
  refine⟨ci,H6,so,t,hd,lr,tg,ln,lw,de,dp,sc,nm,n,qs,S,P,wt,bs,rs,ii,rfl,ev,C,v,ii0,by omega,fun bs' rs' H3 v3 sb3 fr3 h3=>?_⟩
  left
  exact⟨bs',rs',_,_,_,_,_,_,_,rfl,v3,by omega⟩
 rintro σ H' ⟨bs,rs,w5,w6,w7,w8,w9,w10,w11,rfl,v,hrs⟩
 clear u0
 have lr0:((rwV rs).length:Int)=((rs.length:Nat):Int):=by unfold rwV;rw [zB]
 have elr:=v.w.hl
 have em8:((m8:Nat):Int)=((rs.length:Nat):Int):=by rw [hrs]
 rw [em8] at v
 left
 rw [lr0]
 generalize hni:((rs.length:Nat):Int)=ni at*
 left
 rename_i ll hll
 have s1:=qaa hll (.lst [V.int ni,V.int ni])
 have ell:upd H' ll (.lst [V.int ni,V.int ni]) ll=some (.lst [V.int ni,V.int ni]):=qa1
 have v1:=v.same s1
 generalize upd H' ll (.lst [V.int ni,V.int ni])=H1 at*
 have zll:ll∉ [so,hd,lr]/\¬InF bs rs ll/\H6 ll=none:=⟨v.w.new hll,fun h=>InF.alive v.w h hll,v.w.s0.free hll⟩
 clear v elr s1 hll em8
 have elr:=v1.w.hl
 left
 refine r_cut (fun σ' H2=>∃(bs':List Ob) (rs':List Lr),σ'=[some (V.ref a),some (V.ref tg),some (V.ref so),some (V.ref lr),some (V.int mn),w5,some (V.ref ll),w7,w8,w9,w10,w11]/\S28 d H6 H2 so t hd lr P bs' rs' ni/\rs'.length<=rs.length/\H2 ll=some (.lst [V.int ni,V.int ni])/\¬InF bs' rs' ll) ?_ ?_
 .have nil_e:(rwV rs=[])=(rs=[]):=propext ⟨fun e=>by unfold rwV at e;simpa using e,fun e=>by rw [e];rfl⟩
  left
  rename_i pe hpe
  have ne:=qa2 elr hpe
  refine r_neD ne (by decide) (qe7 (n:=0) (SqL.of (qa8 elr hpe)) (SqL.of qa1) ne) ?_
  have t2:=qaa hpe (.lst [])
  have v2:=v1.same t2
  have ell2:=t2 _ _ ell
  generalize upd H1 pe (.lst [])=H2 at*
  clear elr hpe ne ell
  have elr:=v2.w.hl
  simp only [nil_e]
  by_cases ce:rs=[]
  .rw [decide_eq_true ce]
   left
   exact⟨bs,rs,rfl,v2,Nat.le_refl _,ell2,zll.2.1⟩
  .rw [decide_eq_false ce]
   have l0:0 < rs.length:=List.length_pos_iff.mpr ce
   have ni0:1<=ni:=by omega
   have ni8:ni<=8:=by omega
   have hS2:=v2.w.s0.seq hS6
   left
   refine⟨a,ns,4,rfl,hS2,by decide,by decide,h63,fun c5 _ _=>?_⟩
   left
   refine qbl (by decide) (by decide) (by decide) (by decide) fun r3 _ _=>?_
   left
   refine i_2 (fun cz=>?_) (fun cz=>?_)
   .obtain⟨dx2,ho2⟩:=v2.w.st.obj
    left
    rw [lr0]
    left
    refine⟨a,ns,4,rfl,hS2,by decide,by decide,h63,fun c6 _ _=>?_⟩
    left
    rw [lr0]
    left
    refine qbl (by decide) (by decide) (by omega) (by omega) fun r5 r50 r51=>?_
    left
    obtain⟨k,hk⟩:=Int.eq_ofNat_of_zero_le (show 0<=ni - 1 - r5 / 2 by omega)
    have hkl:k < rs.length:=by omega
    rw [show r5.fdiv 2=r5 / 2 from Int.fdiv_eq_ediv_of_nonneg r5 (by decide),hk]
    have hrk:=zA hkl
    obtain⟨b,hbk,hbr⟩:=br_at v2.w.co v2.tl hrk
    generalize rs[k]=rw at*
    have hbm:=zK hbk
    have hrm:=zK hrk
    have en:b.R.n=rw.n:=congrArg (fun c:Co=>c.n) hbr.co
    have grw:=v2.w.rw rw hrm
    have nra:rw.a≠lr:=(grw.nl elr).1
    refine r_popAt (k:=k) elr (by unfold rwV;rw [zD,hrk];rfl) (by unfold rwV;rw [zB];exact Nat.lt_of_le_of_lt (show rs.length<=8 by omega) (by decide)) ?_
    have st2:=v2.w.st.sbl (H':=upd H2 lr (.lst ((rwV rs).eraseIdx k))) (A:=[lr]) ((SB.of (qas.refl _)).at (zC ..)) (qan C.sl) (qan C.hl) fun x hx=>⟨qan (v2.w.ab x hx).1,qan (v2.w.ab x hx).2⟩
    have er2:upd H2 lr (.lst ((rwV rs).eraseIdx k)) rw.a=_:=(qa6 nra).trans grw.tup
    have dropped:=fun H3 sb3 st3=>v2.dropped (H2:=H3) C hbk sb3 st3
    generalize upd H2 lr (.lst ((rwV rs).eraseIdx k))=H3 at*
    obtain⟨dx3,ho3⟩:=st2.obj
    clear r50 r51 hk ho2 hS2 elr
    left
    refine⟨so,t,hd,P,bs,ni,b,by rw [en];rfl,st2,hbm,v2.w.mh,fun p md H4 sb4 hp hmd ep em st4=>?_⟩
    obtain⟨v4,sbx,frx⟩:=dropped H4 sb4 st4
    left
    refine⟨_,_,rfl,v4,List.length_eraseIdx_le ..,sbx _ _ ell2 zll.1,fun hF=>?_⟩
    rcases hF with ⟨y,hy,e⟩ |⟨y,hy,e⟩
    .exact zll.2.1 (.inl ⟨y,(zY.mp hy).1,e⟩)
    .exact zll.2.1 (.inr ⟨y,List.mem_of_mem_eraseIdx hy,e⟩)
   .left
    exact⟨bs,rs,rfl,v2,Nat.le_refl _,ell2,zll.2.1⟩
 rintro σ' H2 ⟨bs2,rs2,rfl,v2,l2,ell2,zl2⟩
 obtain⟨dx2,eso2⟩:=v2.w.st.obj
 clear v1 elr ell lr0
 have elr:=v2.w.hl
 left
 refine⟨so,t,hd,P,bs2,ni,rfl,v2.w.st,fun so2 hd2 H3 s3 fso fhd nsh st3=>?_⟩
 have v3:=v2.same s3
 have elr3:=v3.w.hl
 have ell3:=s3 _ _ ell2
 have hls3:SqL K H3 lr (rwV rs2):=SqL.of elr3
 clear eso2 elr
 left
 rename_i lb hlb
 have s4:=qaa hlb (.lst [V.ref so,V.ref so2])
 have elb:upd H3 lb (.lst [V.ref so,V.ref so2]) lb=some (.lst [V.ref so,V.ref so2]):=qa1
 have v4:=v3.same s4
 have st4:=st3.same s4
 have ell4:=s4 _ _ ell3
 generalize upd H3 lb (.lst [V.ref so,V.ref so2])=H4 at*
 refine⟨lr,rwV rs2,rfl,.inl (SqL.of v4.w.hl),fun lr2 hlr2=>?_⟩
 have s5:=qaa hlr2 (.lst (rwV rs2))
 have elr2:upd H4 lr2 (.lst (rwV rs2)) lr2=some (.lst (rwV rs2)):=qa1
 generalize upd H4 lr2 (.lst (rwV rs2))=H5 at*
 clear elr3 hls3
 left
 rename_i lk hlk
 have s6:=qaa hlk (.lst [V.ref lr,V.ref lr2])
 have elk:upd H5 lk (.lst [V.ref lr,V.ref lr2]) lk=some (.lst [V.ref lr,V.ref lr2]):=qa1
 generalize upd H5 lk (.lst [V.ref lr,V.ref lr2])=H7 at*
 obtain⟨dy,eso⟩:=st3.obj
 have f1:H2 lb=none:=s3.free hlb
 have f2:H2 lr2=none:=s3.free (s4.free hlr2)
 have f3:H2 lk=none:=s3.free (s4.free (s5.free hlk))
 have nsl:so2≠lr2:=qa2 (s4 _ _ eso) hlr2
 have nhl:hd2≠lr2:=qa2 st4.hds hlr2
 have nob:∀x,H2 x=none->x∉ [so,hd,lr]/\¬InF bs2 rs2 x/\H6 x=none:=fun x hx=>⟨v2.w.new hx,fun hF=>InF.alive v2.w hF hx,v2.w.s0.free hx⟩
 have f3s:∀x∈ [so2,hd2,lr2],H2 x=none:=fun x hx=>by
  rcases qbw hx with e|e|e
  .rw [e];exact fso
  .rw [e];exact fhd
  .rw [e];exact f2
 have t37:=(s4.trans s5).trans s6
 have t27:=s3.trans t37
 have v7:=v2.same t27
 have vy:S28 d H6 H7 so2 t hd2 lr2 P bs2 rs2 ni:=⟨⟨v7.w.s0,st3.same t37,fun b hb e=>(nob hd2 fhd).2.1 (.inl ⟨b,hb,.inr e.symm⟩),s6 _ _ elr2,v7.w.rw,v7.w.co,fun r hr=>⟨fun hm=>(nob _ (f3s _ hm)).2.1 (.inr ⟨r,hr,.inl rfl⟩),fun hm=>(nob _ (f3s _ hm)).2.1 (.inr ⟨r,hr,.inr rfl⟩)⟩,fun b hb=>⟨fun e=>(nob lr2 f2).2.1 (.inl ⟨b,hb,.inl e.symm⟩),fun e=>(nob lr2 f2).2.1 (.inl ⟨b,hb,.inr e.symm⟩)⟩⟩,v7.ng,v7.tl,v7.pt⟩
 have cy:C23 H6 so2 hd2 lr2:=⟨fun x hx=>(nob x (f3s x hx)).2.2,nsl,nhl⟩
 have elb7:=s6 _ _ (s5 _ _ elb)
 have nbk0:lb≠lk:=qa2 (s5 _ _ elb) hlk
 have ell7:=s6 _ _ (s5 _ _ ell4)
 have tw:Tw d H6 H7 t P [lb,lk,ll] ⟨so,hd,lr,bs2,rs2,ni⟩ ⟨so2,hd2,lr2,bs2,rs2,ni⟩:=by
  refine⟨v7,vy,C,cy,fun x hx=>⟨fun hm=>v2.live hx (f3s x hm),v2.own x hx⟩,fun x hx=>⟨(nob x (f3s x hx)).1,(nob x (f3s x hx)).2.1⟩,fun x hx=>?_⟩
  rcases qbw hx with e|e|e
  .subst e
   refine⟨(nob _ f1).1,fun hm=>?_,(nob _ f1).2.1,(nob _ f1).2.1,(nob _ f1).2.2,by rw [elb7];intro c;cases c⟩
   have hm:x∈ [so2,hd2,lr2]:=hm
   rcases qbw hm with e|e|e
   .exact qa2 eso hlb e.symm
   .exact qa2 st3.hds hlb e.symm
   .exact qa2 elb hlr2 e
  .subst e
   refine⟨(nob _ f3).1,fun hm=>?_,(nob _ f3).2.1,(nob _ f3).2.1,(nob _ f3).2.2,by rw [elk];intro c;cases c⟩
   have hm:x∈ [so2,hd2,lr2]:=hm
   rcases qbw hm with e|e|e
   .exact qa2 (s5 _ _ (s4 _ _ eso)) hlk e.symm
   .exact qa2 (s5 _ _ st4.hds) hlk e.symm
   .exact qa2 elr2 hlk e.symm
  .subst e
   refine⟨zll.1,fun hm=>?_,zl2,zl2,zll.2.2,by rw [ell7];intro c;cases c⟩
   rw [f3s x hm] at ell2;cases ell2
 clear f1 f2 f3 nsl nhl nob f3s t37 t27 v7 vy cy v4 st4 ell4 v3 st3 ell3 v2 ell2 s3 s4 s5 s6 hlb hlr2 hlk eso zl2 elb zll fso fhd nsh elr2
 have ni0:0<=ni:=by omega
 have l28:rs2.length<=8:=by omega
 clear hni hrs m88 e8 l2
 left
 refine qdu (fun i σ H'=>∃(x y:Sx) (w5 w9 w10 w11:Option V),σ=[some (V.ref a),some (V.ref tg),some (V.ref so),some (V.ref lr),some (V.int mn),w5,some (V.ref ll),some (V.ref lb),some (V.ref lk),w9,w10,w11]/\Tw d H6 H' t P [lb,lk,ll] x y/\H' lb=some (.lst [.ref x.so,.ref y.so])/\H' lk=some (.lst [.ref x.lr,.ref y.lr])/\H' ll=some (.lst [.int x.L,.int y.L])/\0<=x.L/\0<=y.L/\x.rs.length<=8+i/\y.rs.length<=8+i) ⟨_,_,_,_,_,_,rfl,tw,elb7,elk,ell7,ni0,ni0,l28,l28⟩ ?_ ?_
 .clear tw elb7 elk ell7 l28 ni0
  rintro i σ H' hi ⟨x,y,w5',w9',w10',w11',rfl,tw,elb,elk,ell,xL,yL,xr,yr⟩
  rw [Int.zero_add]
  have i16:i < 16:=by omega
  generalize hii:((i:Nat):Int)=ii at*
  have ii0:0<=ii:=by omega
  have ii1:ii < 16:=by omega
  have zb:=tw.z lb (zC ..)
  have zk:=tw.z lk (zF _ (zC ..))
  have zl:=tw.z ll (zF _ (zF _ (zC ..)))
  left
  refine⟨a,ns,5+ii,rfl,tw.vx.w.s0.seq hS6,by omega,by omega,h63,fun ci _ _=>?_⟩
  left
  refine qbl (by decide) (by decide) (by decide) (by decide) fun r3 _ _=>?_
  left
  have hw:(ii+r3.fdiv 2)%2=0\/(ii+r3.fdiv 2)%2=1:=by omega
  generalize (ii+r3.fdiv 2)%2=who at*
  have nbl:lb≠ll:=fun z=>by rw [z,ell] at elb;cases elb
  have nkl:lk≠ll:=fun z=>by rw [z,ell] at elk;cases elk
  have nbk:lb≠lk:=nbk0
  refine r_cut (fun σ' H2=>∃(x y:Sx),σ'=[some (V.ref a),some (V.ref tg),some (V.ref so),some (V.ref lr),some (V.int mn),some (V.int ii),some (V.ref ll),some (V.ref lb),some (V.ref lk),some (V.int ci),some (V.int who),w11']/\Tw d H6 H2 t P [lb,lk,ll] x y/\H2 lb=some (.lst [.ref x.so,.ref y.so])/\H2 lk=some (.lst [.ref x.lr,.ref y.lr])/\H2 ll=some (.lst [.int x.L,.int y.L])/\0<=x.L/\0<=y.L/\x.rs.length<=8+(i+1)/\y.rs.length<=8+(i+1)) ?_ ?_
  .left
   refine qbl (by decide) (by decide) (by decide) (by decide) fun r8 _ _=>?_
   left
   refine i_2 (fun c=>?_) (fun c=>?_)
   .rcases hw with rfl|rfl
    .left
     refine⟨ci,H6,x.so,t,x.hd,x.lr,tg,ln,lw,de,dp,sc,nm,n,qs,S,P,wt,x.bs,x.rs,x.L,rfl,ev,tw.cx,tw.vx,xL,by omega,fun bs' rs' H3 v3 sb3 fr3 h3=>?_⟩
     have tw3:=tw.step v3 tw.cx (.inl rfl) sb3 fr3
     have elb3:=sb3 _ _ elb zb.1
     have elk3:=sb3 _ _ elk zk.1
     have ell3:=sb3 _ _ ell zl.1
     clear elb elk ell
     left
     try refine qbk (SqL.of ell3) at0 ?_
     left
     refine r_lpk ell3 (k:=0) (by show (0:Nat) < 2;decide) ?_ rfl
     have tw4:=tw3.zup (a:=ll) (o:=.lst ([V.int x.L,V.int y.L].set 0 (V.int (x.L+1)))) (zF _ (zF _ (zC ..)))
     left
     exact⟨_,y,rfl,tw4,(qa6 nbl).trans elb3,(qa6 nkl).trans elk3,qa1,(by show 0<=x.L+1;omega),yL,(by show rs'.length<=_;omega),by omega⟩
    .left
     try refine qbk (SqL.of elb) at1 ?_
     left
     try refine qbk (SqL.of elk) at1 ?_
     left
     try refine qbk (SqL.of ell) at1 ?_
     left
     refine⟨ci,H6,y.so,t,y.hd,y.lr,tg,ln,lw,de,dp,sc,nm,n,qs,S,P,wt,y.bs,y.rs,y.L,rfl,ev,tw.cy,tw.vy,yL,by omega,fun bs' rs' H3 v3 sb3 fr3 h3=>?_⟩
     have tw3:=tw.swap.step v3 tw.cy (.inl rfl) sb3 fr3
     have elb3:=sb3 _ _ elb zb.2.1
     have elk3:=sb3 _ _ elk zk.2.1
     have ell3:=sb3 _ _ ell zl.2.1
     clear elb elk ell
     left
     try refine qbk (SqL.of ell3) at1 ?_
     left
     refine r_lpk ell3 (k:=1) (by show (1:Nat) < 2;decide) ?_ rfl
     have tw4:=tw3.zup (a:=ll) (o:=.lst ([V.int x.L,V.int y.L].set 1 (V.int (y.L+1)))) (zF _ (zF _ (zC ..)))
     left
     exact⟨x,_,rfl,tw4.swap,(qa6 nbl).trans elb3,(qa6 nkl).trans elk3,qa1,xL,(by show 0<=y.L+1;omega),by omega,(by show rs'.length<=_;omega)⟩
   .rcases hw with rfl|rfl
    .left
     try refine qbk (SqL.of elb) at0 ?_
     left
     try refine qbk (SqL.of elk) at0 ?_
     left
     refine⟨ci,H6,x.so,t,x.hd,x.lr,tg,ln,lw,de,dp,sc,nm,n,qs,S,P,wt,x.bs,x.rs,x.L,rfl,ev,tw.cx,tw.vx,by omega,fun lr' bs' rs' H3 v3 C3 hl3 sb3 fr3 h3=>?_⟩
     have tw3:=tw.step v3 C3 hl3 sb3 fr3
     have elb3:=sb3 _ _ elb zb.1
     have elk3:=sb3 _ _ elk zk.1
     have ell3:=sb3 _ _ ell zl.1
     clear elb elk ell
     left
     refine r_lpk elk3 (k:=0) (by show (0:Nat) < 2;decide) ?_ rfl
     have tw4:=tw3.zup (a:=lk) (o:=.lst ([V.ref x.lr,V.ref y.lr].set 0 (V.ref lr'))) (zF _ (zC ..))
     left
     exact⟨_,y,rfl,tw4,(qa6 nbk).trans elb3,qa1,(qa6 nkl.symm).trans ell3,xL,yL,(by show rs'.length<=_;omega),by omega⟩
    .left
     try refine qbk (SqL.of elb) at1 ?_
     left
     try refine qbk (SqL.of elk) at1 ?_
     left
     refine⟨ci,H6,y.so,t,y.hd,y.lr,tg,ln,lw,de,dp,sc,nm,n,qs,S,P,wt,y.bs,y.rs,y.L,rfl,ev,tw.cy,tw.vy,by omega,fun lr' bs' rs' H3 v3 C3 hl3 sb3 fr3 h3=>?_⟩
     have tw3:=tw.swap.step v3 C3 hl3 sb3 fr3
     have elb3:=sb3 _ _ elb zb.2.1
     have elk3:=sb3 _ _ elk zk.2.1
     have ell3:=sb3 _ _ ell zl.2.1
     clear elb elk ell
     left
     refine r_lpk elk3 (k:=1) (by show (1:Nat) < 2;decide) ?_ rfl
     have tw4:=tw3.zup (a:=lk) (o:=.lst ([V.ref x.lr,V.ref y.lr].set 1 (V.ref lr'))) (zF _ (zC ..))
     left
     exact⟨x,_,rfl,tw4.swap,(qa6 nbk).trans elb3,qa1,(qa6 nkl.symm).trans ell3,xL,yL,by omega,(by show rs'.length<=_;omega)⟩
  rintro σ' H2 ⟨x2,y2,rfl,tw2,elb2,elk2,ell2,xL2,yL2,xr2,yr2⟩
  clear tw elb elk ell xL yL xr yr zb zk zl
  left
  refine qdu (fun j σ H'=>∃w:Option V,σ=[some (V.ref a),some (V.ref tg),some (V.ref so),some (V.ref lr),some (V.int mn),some (V.int ii),some (V.ref ll),some (V.ref lb),some (V.ref lk),some (V.int ci),some (V.int who),w]/\qas H2 H') ⟨_,rfl,qas.refl _⟩ ?_ ?_
  .rintro j σ H3 hj ⟨w,rfl,s3⟩
   rw [Int.zero_add]
   have hj2:j=0\/j=1:=by
    have:j < 2:=hj
    omega
   have tw3:=tw2.same s3
   have elb3:=s3 _ _ elb2
   have elk3:=s3 _ _ elk2
   rcases hj2 with rfl|rfl
   .left
    try refine qbk (SqL.of elb3) at0n ?_
    left
    try refine qbk (SqL.of elk3) at0n ?_
    left
    refine⟨H6,x2.so,t,x2.hd,x2.lr,P,x2.bs,x2.rs,x2.L,rfl,tw3.vx.w,tw3.vx.tl,by omega,fun H4 s4=>?_⟩
    have elb4:=s4 _ _ elb3
    have elk4:=s4 _ _ elk3
    left
    try refine qbk (SqL.of elb4) at0n ?_
    left
    try refine qbk (SqL.of elk4) at0n ?_
    left
    refine⟨H6,x2.so,t,x2.hd,x2.lr,tg,ln,lw,de,dp,sc,nm,n,qs,S,P,wt,x2.bs,x2.rs,x2.L,rfl,ev,(tw3.vx.same s4).w,fun H5 s5=>?_⟩
    left
    exact⟨_,rfl,s3.trans (s4.trans s5)⟩
   .left
    try refine qbk (SqL.of elb3) at1n ?_
    left
    try refine qbk (SqL.of elk3) at1n ?_
    left
    refine⟨H6,y2.so,t,y2.hd,y2.lr,P,y2.bs,y2.rs,y2.L,rfl,tw3.vy.w,tw3.vy.tl,by omega,fun H4 s4=>?_⟩
    have elb4:=s4 _ _ elb3
    have elk4:=s4 _ _ elk3
    left
    try refine qbk (SqL.of elb4) at1n ?_
    left
    try refine qbk (SqL.of elk4) at1n ?_
    left
    refine⟨H6,y2.so,t,y2.hd,y2.lr,tg,ln,lw,de,dp,sc,nm,n,qs,S,P,wt,y2.bs,y2.rs,y2.L,rfl,ev,(tw3.vy.same s4).w,fun H5 s5=>?_⟩
    left
    exact⟨_,rfl,s3.trans (s4.trans s5)⟩
  rintro σ H3 ⟨w,rfl,s3⟩
  left
  exact⟨x2,y2,_,_,_,_,rfl,tw2.same s3,s3 _ _ elb2,s3 _ _ elk2,s3 _ _ ell2,xL2,yL2,by omega,by omega⟩
 rintro σ H' ⟨x,y,w5',w9',w10',w11',rfl,tw,elb,elk,ell,xL,yL,xr,yr⟩
 left
 exact q _
structure Fz (K:Frag) (n:Str) (s:Stmt) (f:Addr) (fd:FuncData):Prop where
 a:nsIn K mainGlobals n=some (some (.ref f))
 F:Fun K n n s f fd
structure Fm (K:Frag) (c:Addr) (n q:Str) (s:Stmt) (f:Addr) (fd:FuncData):Prop where
 a:findIn K (.ref c) n=some (some (.ref f))
 F:Fun K n q s f fd
theorem Fz.m {K:Frag} {n:Str} {s:Stmt} {f:Addr} {fd:FuncData} {h:Heap} {mg:Str->Option Value} (g:Fz K n s f fd) (X:K.In h) (G:h.Ns mainGlobals mg):mg n=some (.ref f):=PySem.W.mg_of X G g.a
theorem ln1 {p:List Value->Prop} (h:∀x0:Value,p [x0]) (us:List Value) (e:us.length=1):p us:=by
 match us,e with
 | [x0],_=>exact h x0
theorem ln2 {p:List Value->Prop} (h:∀x0 x1:Value,p [x0,x1]) (us:List Value) (e:us.length=2):p us:=by
 match us,e with
 | [x0,x1],_=>exact h x0 x1
theorem ln3 {p:List Value->Prop} (h:∀x0 x1 x2:Value,p [x0,x1,x2]) (us:List Value) (e:us.length=3):p us:=by
 match us,e with
 | [x0,x1,x2],_=>exact h x0 x1 x2
theorem ln4 {p:List Value->Prop} (h:∀x0 x1 x2 x3:Value,p [x0,x1,x2,x3]) (us:List Value) (e:us.length=4):p us:=by
 match us,e with
 | [x0,x1,x2,x3],_=>exact h x0 x1 x2 x3
theorem ln5 {p:List Value->Prop} (h:∀x0 x1 x2 x3 x4:Value,p [x0,x1,x2,x3,x4]) (us:List Value) (e:us.length=5):p us:=by
 match us,e with
 | [x0,x1,x2,x3,x4],_=>exact h x0 x1 x2 x3 x4
theorem ln6 {p:List Value->Prop} (h:∀x0 x1 x2 x3 x4 x5:Value,p [x0,x1,x2,x3,x4,x5]) (us:List Value) (e:us.length=6):p us:=by
 match us,e with
 | [x0,x1,x2,x3,x4,x5],_=>exact h x0 x1 x2 x3 x4 x5
theorem txt_mk {K:Frag} {h:Heap} {mg:Str->Option Value} {fa:Addr} {f_z0 f_z1 f_z2 f_z3 f_z4 f_z5 f_z6 f_z7 f_z8 f_z9 f_z10 f_z11 f_z12 f_z13 f_z14 f_z15 f_z16 f_z17 f_z18 f_z19 f_z20 f_z21 f_z22 f_z23 f_z24 f_z25 f_z26 f_z27 f_z28 f_z29 f_z30 f_z31 f_z32 f_z33 f_z34 f_z35 f_z36 f_z37 f_z38 wes f_z40 f_z41 f_z42 f_z43 f_z44 f_z45 f_z46 f_z47 f_z48 f_z49 f_z50 f_z51 f_z52 f_z53 f_z54 f_z55 f_z56 f_z57 f_z58 f_z59 f_z60 f_z61 f_z62 f_z63 f_z64 f_z65 f_z66 f_z67 f_z68 f_z69 f_z70 f_z71 f_z72 f_z73 f_z74 f_z75 f_z76 f_z77 w09 w02 w0n w0t w00 w2m w6u w8v w0s w05 w6v w3o w3p w4w w4u w1k:Addr} {d_z0 d_z1 d_z2 d_z3 d_z4 d_z5 d_z6 d_z7 d_z8 d_z9 d_z10 d_z11 d_z12 d_z13 d_z14 d_z15 d_z16 d_z17 d_z18 d_z19 d_z20 d_z21 d_z22 d_z23 d_z24 d_z25 d_z26 d_z27 d_z28 d_z29 d_z30 d_z31 d_z32 d_z33 d_z34 d_z35 d_z36 d_z37 d_z38 d_law d_z40 d_z43 d_z44 d_z45 d_z46 d_z47 d_z48 d_z49 d_z50 d_z51 d_z52 d_z53 d_z54 d_z55 d_z56 d_z57 d_z58 d_z59 d_z60 d_z61 d_z62 d_z63 d_z64 d_z66 d_z67 d_z68 d_z69 d_z70 d_z71 d_z72 d_z73 d_z74 d_z75 d_z76 d_z77:FuncData} (X:K.In h) (G:h.Ns mainGlobals mg) (hfa:mg "law" =some (.ref fa))
  (g_z0:Fz K "is_whole" s_is_whole f_z0 d_z0)
  (g_z1:Fz K "is_name" s_is_name f_z1 d_z1)
  (g_z2:Fz K "is_whole_from" s_is_whole_from f_z2 d_z2)
  (g_z3:Fz K "is_amount" s_is_amount f_z3 d_z3)
  (g_z4:Fz K "amounts_of" s_amounts_of f_z4 d_z4)
  (g_z5:Fz K "above_nought" s_above_nought f_z5 d_z5)
  (g_z6:Fz K "amount_of" s_amount_of f_z6 d_z6)
  (g_z7:Fz K "added" s_added f_z7 d_z7)
  (g_z8:Fz K "within" s_within f_z8 d_z8)
  (g_z9:Fz K "beyond" s_beyond f_z9 d_z9)
  (g_z10:Fz K "total_of" s_total_of f_z10 d_z10)
  (g_z11:Fz K "made" s_made f_z11 d_z11)
  (g_z12:Fz K "changed" s_changed f_z12 d_z12)
  (g_z13:Fz K "holds_beneath" s_holds_beneath f_z13 d_z13)
  (g_z14:Fz K "held_by" s_held_by f_z14 d_z14)
  (g_z15:Fz K "are_wares" s_are_wares f_z15 d_z15)
  (g_z16:Fz K "check_name" s_check_name f_z16 d_z16)
  (g_z17:Fz K "read_house" s_read_house f_z17 d_z17)
  (g_z18:Fz K "check_promises" s_check_promises f_z18 d_z18)
  (g_z19:Fz K "_law_cell" s_cell f_z19 d_z19)
  (g_z20:Fz K "_law_pick" s_pick f_z20 d_z20)
  (g_z21:Fz K "_law_whole" s_whole f_z21 d_z21)
  (g_z22:Fz K "_law_names" s_names f_z22 d_z22)
  (g_z23:Fz K "_law_parts" s_parts f_z23 d_z23)
  (g_z24:Fz K "_law_hold_parts" s_hold_parts f_z24 d_z24)
  (g_z25:Fz K "_law_grove" s_grove f_z25 d_z25)
  (g_z26:Fz K "_law_both" s_both f_z26 d_z26)
  (g_z27:Fz K "_law_tree" s_tree f_z27 d_z27)
  (g_z28:Fz K "_law_amounts" s_amounts f_z28 d_z28)
  (g_z29:Fz K "_law_alike" s_alike f_z29 d_z29)
  (g_z30:Fz K "_law_turns" s_turns f_z30 d_z30)
  (g_z31:Fz K "_law_sum" s_sum f_z31 d_z31)
  (g_z32:Fz K "_law_short" s_short f_z32 d_z32)
  (g_z33:Fz K "_law_same" s_same f_z33 d_z33)
  (g_z34:Fz K "_law_put" s_put f_z34 d_z34)
  (g_z35:Fz K "_law_lift" s_lift f_z35 d_z35)
  (g_z36:Fz K "_law_turned" s_turned f_z36 d_z36)
  (g_z37:Fz K "_law_deed" s_deed f_z37 d_z37)
  (g_z38:Fz K "_law_use" s_use f_z38 d_z38)
  (g_law:Fz K "law" s_law wes d_law)
  (g_z40:Fm K w09 "__init__" "House.__init__" s_House_init f_z40 d_z40)
  {od_z41 an_z41:Option Addr} {sl_z41:Array (Option Value)} {oc_z41 kV_z41 dc_z41 pm_z41 cd_z41 ct_z41 w1a:Value} {t_z41:Addr}
  (a_z41:findIn K (.ref w02) "__init__" =some (some (.ref f_z41))) (l_z41:K.lookup f_z41=some ⟨oc_z41,od_z41,.func (fnOf "__init__" "Tree.__init__" (qcf s_Tree_init) (qby s_Tree_init) (qa9 s_Tree_init) (.ref t_z41) kV_z41 dc_z41 pm_z41 an_z41 cd_z41 ct_z41),sl_z41⟩) (c_z41:codeIn K cd_z41 "Tree.__init__" =true) (k_z41:keepIn K (.ref f_z41)=true)
  {ob_z41:Obj} {nn_z41:Nat} (tt_z41:K.lookup t_z41=some ob_z41) (td_z41:ob_z41.data=.seq #[w1a] nn_z41) (rd_z41:qb7 [.int 1] [w1a])
  {od_z42 an_z42:Option Addr} {sl_z42:Array (Option Value)} {oc_z42 kV_z42 dc_z42 pm_z42 cd_z42 ct_z42 w0x:Value} {t_z42:Addr}
  (a_z42:findIn K (.ref w02) "found" =some (some (.ref f_z42))) (l_z42:K.lookup f_z42=some ⟨oc_z42,od_z42,.func (fnOf "found" "Tree.found" (qcf s_Tree_found) (qby s_Tree_found) (qa9 s_Tree_found) (.ref t_z42) kV_z42 dc_z42 pm_z42 an_z42 cd_z42 ct_z42),sl_z42⟩) (c_z42:codeIn K cd_z42 "Tree.found" =true) (k_z42:keepIn K (.ref f_z42)=true)
  {ob_z42:Obj} {nn_z42:Nat} (tt_z42:K.lookup t_z42=some ob_z42) (td_z42:ob_z42.data=.seq #[w0x] nn_z42) (rd_z42:qb7 [.int 1] [w0x])
  (g_z43:Fm K w02 "wares" "Tree.wares" s_Tree_wares f_z43 d_z43)
  (g_z44:Fm K w02 "names" "Tree.names" s_Tree_names f_z44 d_z44)
  (g_z45:Fm K w02 "has" "Tree.has" s_Tree_has f_z45 d_z45)
  (g_z46:Fm K w02 "check_house" "Tree.check_house" s_Tree_check_house f_z46 d_z46)
  (g_z47:Fm K w02 "house_of" "Tree.house_of" s_Tree_house_of f_z47 d_z47)
  (g_z48:Fm K w02 "elder_of" "Tree.elder_of" s_Tree_elder_of f_z48 d_z48)
  (g_z49:Fm K w02 "promise_of" "Tree.promise_of" s_Tree_promise_of f_z49 d_z49)
  (g_z50:Fm K w02 "kids" "Tree.kids" s_Tree_kids f_z50 d_z50)
  (g_z51:Fm K w02 "line" "Tree.line" s_Tree_line f_z51 d_z51)
  (g_z52:Fm K w02 "beneath" "Tree.beneath" s_Tree_beneath f_z52 d_z52)
  (g_z53:Fm K w02 "promised_beneath" "Tree.promised_beneath" s_Tree_promised_beneath f_z53 d_z53)
  (g_z54:Fm K w02 "check_more" "Tree.check_more" s_Tree_check_more f_z54 d_z54)
  (g_z55:Fm K w0n "__init__" "Hold.__init__" s_Hold_init f_z55 d_z55)
  (g_z56:Fm K w0n "is_sure" "Hold.is_sure" s_Hold_is_sure f_z56 d_z56)
  (g_z57:Fm K w0n "told" "Hold.told" s_Hold_told f_z57 d_z57)
  (g_z58:Fm K w0t "is_sure" "Loan.is_sure" s_Loan_is_sure f_z58 d_z58)
  (g_z59:Fm K w00 "__init__" "Store.__init__" s_Store_init f_z59 d_z59)
  (g_z60:Fm K w00 "put" "Store.put" s_Store_put f_z60 d_z60)
  (g_z61:Fm K w00 "keeps" "Store.keeps" s_Store_keeps f_z61 d_z61)
  (g_z62:Fm K w00 "hold_at" "Store.hold_at" s_Store_hold_at f_z62 d_z62)
  (g_z63:Fm K w00 "tell" "Store.tell" s_Store_tell f_z63 d_z63)
  (g_z64:Fm K w00 "numbers" "Store.numbers" s_Store_numbers f_z64 d_z64)
  {od_z65 an_z65:Option Addr} {sl_z65:Array (Option Value)} {oc_z65 kV_z65 dc_z65 pm_z65 cd_z65 ct_z65 w0o:Value} {t_z65:Addr}
  (a_z65:findIn K (.ref w00) "under" =some (some (.ref f_z65))) (l_z65:K.lookup f_z65=some ⟨oc_z65,od_z65,.func (fnOf "under" "Store.under" (qcf s_Store_under) (qby s_Store_under) (qa9 s_Store_under) (.ref t_z65) kV_z65 dc_z65 pm_z65 an_z65 cd_z65 ct_z65),sl_z65⟩) (c_z65:codeIn K cd_z65 "Store.under" =true) (k_z65:keepIn K (.ref f_z65)=true)
  {ob_z65:Obj} {nn_z65:Nat} (tt_z65:K.lookup t_z65=some ob_z65) (td_z65:ob_z65.data=.seq #[w0o] nn_z65) (rd_z65:qb7 [.non] [w0o])
  (g_z66:Fm K w00 "at_house" "Store.at_house" s_Store_at_house f_z66 d_z66)
  (g_z67:Fm K w00 "promised" "Store.promised" s_Store_promised f_z67 d_z67)
  (g_z68:Fm K w00 "promised_but" "Store.promised_but" s_Store_promised_but f_z68 d_z68)
  (g_z69:Fm K w00 "use" "Store.use" s_Store_use f_z69 d_z69)
  (g_z70:Fm K w00 "too_much" "Store.too_much" s_Store_too_much f_z70 d_z70)
  (g_z71:Fm K w00 "check_fits" "Store.check_fits" s_Store_check_fits f_z71 d_z71)
  (g_z72:Fm K w00 "drop" "Store.drop" s_Store_drop f_z72 d_z72)
  (g_z73:Fm K w00 "change" "Store.change" s_Store_change f_z73 d_z73)
  (g_z74:Fm K w00 "lift" "Store.lift" s_Store_lift f_z74 d_z74)
  (g_z75:Fm K w00 "turn" "Store.turn" s_Store_turn f_z75 d_z75)
  (g_z76:Fm K w00 "twin" "Store.twin" s_Store_twin f_z76 d_z76)
  (g_z77:Fm K w05 "__init__" "NoPromise.__init__" s_i_NoPromise f_z77 d_z77)
  (qi_z77:initIn K w05 f_z77=true) (hi_z77:isFn K (.ref f_z77)=true)
  (a_House:nsIn K mainGlobals "House" =some (some (.ref w09)))
  (a_Tree:nsIn K mainGlobals "Tree" =some (some (.ref w02)))
  (a_Hold:nsIn K mainGlobals "Hold" =some (some (.ref w0n)))
  (a_Loan:nsIn K mainGlobals "Loan" =some (some (.ref w0t)))
  (a_Store:nsIn K mainGlobals "Store" =some (some (.ref w00)))
  (a_TreeError:nsIn K mainGlobals "TreeError" =some (some (.ref w2m)))
  (a_NoName:nsIn K mainGlobals "NoName" =some (some (.ref w6u)))
  (a_Taken:nsIn K mainGlobals "Taken" =some (some (.ref w8v)))
  (a_NoHouse:nsIn K mainGlobals "NoHouse" =some (some (.ref w0s)))
  (a_NoPromise:nsIn K mainGlobals "NoPromise" =some (some (.ref w05)))
  (a_NoWare:nsIn K mainGlobals "NoWare" =some (some (.ref w6v)))
  (a_NoAmount:nsIn K mainGlobals "NoAmount" =some (some (.ref w3o)))
  (a_NoNumber:nsIn K mainGlobals "NoNumber" =some (some (.ref w3p)))
  (a_TooMany:nsIn K mainGlobals "TooMany" =some (some (.ref w4w)))
  (a_TooDeep:nsIn K mainGlobals "TooDeep" =some (some (.ref w4u)))
  (a_NoHold:nsIn K mainGlobals "NoHold" =some (some (.ref w1k)))
  {w4v:Value} (a_LETTERS:nsIn K mainGlobals "LETTERS" =some (some w4v)) (w6n:qba (.str "abcdefghijklmnopqrstuvwxyz") w4v)
  {w1j:Value} (a_LONGEST_NAME:nsIn K mainGlobals "LONGEST_NAME" =some (some w1j)) (w1v:qba (.int 8) w1j)
  {w23:Value} (a_MOST_WARES:nsIn K mainGlobals "MOST_WARES" =some (some w23)) (w30:qba (.int 6) w23)
  {w1s:Value} (a_MOST_HOUSES:nsIn K mainGlobals "MOST_HOUSES" =some (some w1s)) (w25:qba (.int 40) w1s)
  {w1h:Value} (a_LONGEST_LINE:nsIn K mainGlobals "LONGEST_LINE" =some (some w1h)) (w1x:qba (.int 12) w1h)
  {w0p:Value} (a_GREATEST_WEIGHT:nsIn K mainGlobals "GREATEST_WEIGHT" =some (some w0p)) (w13:qba (.int 1000) w0p)
  (q_NoHouse:excIn K w0s [.type "ValueError",.type "Exception",.type "BaseException",.type "object"] "ValueError.__new__" =true)
  (q_NoAmount:excIn K w3o [.type "ValueError",.type "Exception",.type "BaseException",.type "object"] "ValueError.__new__" =true)
  (q_NoWare:excIn K w6v [.type "ValueError",.type "Exception",.type "BaseException",.type "object"] "ValueError.__new__" =true)
  (q_NoName:excIn K w6u [.type "ValueError",.type "Exception",.type "BaseException",.type "object"] "ValueError.__new__" =true)
  (q_NoNumber:excIn K w3p [.type "ValueError",.type "Exception",.type "BaseException",.type "object"] "ValueError.__new__" =true)
  (q_Taken:excIn K w8v [.type "ValueError",.type "Exception",.type "BaseException",.type "object"] "ValueError.__new__" =true)
  (q_TooMany:excIn K w4w [.type "ValueError",.type "Exception",.type "BaseException",.type "object"] "ValueError.__new__" =true)
  (q_TooDeep:excIn K w4u [.type "ValueError",.type "Exception",.type "BaseException",.type "object"] "ValueError.__new__" =true)
  (q_NoHold:excIn K w1k [.type "ValueError",.type "Exception",.type "BaseException",.type "object"] "ValueError.__new__" =true)
  (w4y:kitCls K (.ref w05) (.type "BaseException")=some true)
  (wa4:kitCls K (.ref w1k) (.type "BaseException")=some true)
  (w0i:Meth K w0n "is_sure" f_z56)
  (w0h:Meth K w0t "is_sure" f_z58)
  (w01:Cls K w00)
  (w6w:Mk K w00 f_z59)
  (w2z:Meth K w0n "told" f_z57)
  (w32:Meth K w0t "told" f_z57)
  (kcN:kitCls K (.ref w05) (.ref w05)=some true)
  (kcH:kitCls K (.ref w1k) (.ref w1k)=some true)
  (kcP:kitCls K (.ref w05) (.ref w1k)=some false)
  (w4x:My.XBase K w2m)
  (w4b:My.XAt K w05)
  (wk9:findIn K (.ref w05) "house" =some none)
  (wka:findIn K (.ref w05) "ware" =some none)
  (w1z:Cls K w09)
  (w03:Cls K w02)
  (w8a:Mk K w09 f_z40)
  (wah:Mk K w02 f_z41)
  (w42:Cls K w0n)
  (w3z:Cls K w0t)
  (wa6:Mk K w0n f_z55)
  (wav:Mk K w0t f_z55)
  (w2b:Meth K w02 "found" f_z42)
  (w3k:Meth K w02 "wares" f_z43)
  (w3l:Meth K w02 "names" f_z44)
  (w2k:Meth K w02 "has" f_z45)
  (w04:Meth K w02 "check_house" f_z46)
  (w0u:Meth K w02 "house_of" f_z47)
  (w0w:Meth K w02 "elder_of" f_z48)
  (w0j:Meth K w02 "promise_of" f_z49)
  (w31:Meth K w02 "kids" f_z50)
  (w2y:Meth K w02 "line" f_z51)
  (w0r:Meth K w02 "beneath" f_z52)
  (w0c:Meth K w02 "promised_beneath" f_z53)
  (w0y:Meth K w02 "check_more" f_z54)
  (w35:Meth K w00 "put" f_z60)
  (w1i:Meth K w00 "keeps" f_z61)
  (w0v:Meth K w00 "numbers" f_z64)
  (w12:Meth K w00 "under" f_z65)
  (w0q:Meth K w00 "at_house" f_z66)
  (w0d:Meth K w00 "promised_but" f_z68)
  (w14:Meth K w00 "too_much" f_z70)
  (w0g:Meth K w00 "check_fits" f_z71)
  (w0m:Meth K w00 "hold_at" f_z62)
  (w1r:Meth K w00 "tell" f_z63)
  (w17:Meth K w00 "promised" f_z67)
  (w33:Meth K w00 "use" f_z69)
  (w1t:Meth K w00 "drop" f_z72)
  (w1o:Meth K w00 "change" f_z73)
  (w24:Meth K w00 "lift" f_z74)
  (w2g:Meth K w00 "turn" f_z75)
  (w2e:Meth K w00 "twin" f_z76)
  (w0a:findIn K (.ref w00) "tree" =some none)
  (w06:findIn K (.ref w00) "holds" =some none)
  (w1d:findIn K (.ref w00) "last" =some none)
  (w0z:findIn K (.ref w09) "elder" =some none)
  (w0b:findIn K (.ref w09) "promise" =some none)
  (w19:findIn K (.ref w09) "cap" =some none)
  (w1n:findIn K (.ref w09) "weight" =some none)
  (w0e:findIn K (.ref w02) "sorted_wares" =some none)
  (w07:findIn K (.ref w02) "houses" =some none)
  (w1y:findIn K (.ref w0n) "number" =some none)
  (w2a:findIn K (.ref w0n) "house" =some none)
  (w1l:findIn K (.ref w0n) "amounts" =some none)
  (w2v:findIn K (.ref w0n) "rank" =some none)
  (w2f:findIn K (.ref w0n) "turns" =some none)
  (w1w:findIn K (.ref w0t) "number" =some none)
  (w26:findIn K (.ref w0t) "house" =some none)
  (w1q:findIn K (.ref w0t) "amounts" =some none)
  (w2x:findIn K (.ref w0t) "rank" =some none)
  (w2c:findIn K (.ref w0t) "turns" =some none)
  (y_all:nsIn K mainGlobals "all" =some none)
  (y_bool:nsIn K mainGlobals "bool" =some none)
  (y_dict:nsIn K mainGlobals "dict" =some none)
  (y_int:nsIn K mainGlobals "int" =some none)
  (y_isinstance:nsIn K mainGlobals "isinstance" =some none)
  (y_len:nsIn K mainGlobals "len" =some none)
  (y_list:nsIn K mainGlobals "list" =some none)
  (y_max:nsIn K mainGlobals "max" =some none)
  (y_min:nsIn K mainGlobals "min" =some none)
  (y_range:nsIn K mainGlobals "range" =some none)
  (y_set:nsIn K mainGlobals "set" =some none)
  (y_sorted:nsIn K mainGlobals "sorted" =some none)
  (y_str:nsIn K mainGlobals "str" =some none)
  (y_tuple:nsIn K mainGlobals "tuple" =some none)
  :∃d:Ad,Tx K mg d/\fa=d.wes/\∀(s:Shared) (v:Value),BindsTo s d.wee ⟨[v], []⟩ [("_law_script",v)]:=by
 have e:=hfa.symm.trans (g_law.m X G)
 cases e
 have Fl:=g_law.F
 obtain⟨_,_,_,_,_,_,_,_,_,rfl,_,_⟩:=Fl.ex
 have F_z41:=funD_mk (st:=s_Tree_init) l_z41 c_z41 k_z41 tt_z41 td_z41
 have b_z41:qah K _ ["self","wares","name","promise","cap","weight"] []:=F_z41.binds (ps:=["self","wares","name","promise","cap","weight"]) fun _ _ _ _ _ _ us hl=>by have e:us.length=6:=(by simpa using hl);clear hl;revert us e;exact ln6 fun _ _ _ _ _ _=>by first|exact .inl rfl|exact .inr ⟨_,rfl,rfl⟩
 have b1_z41:qah K _ ["self","wares","name","promise","cap","weight"] [w1a]:=F_z41.binds (ps:=["self","wares","name","promise","cap","weight"]) fun _ _ _ _ _ _ us hl=>by have e:us.length=5:=(by simpa using hl);clear hl;revert us e;exact ln5 fun _ _ _ _ _=>by first|exact .inl rfl|exact .inr ⟨_,rfl,rfl⟩
 have F_z42:=funD_mk (st:=s_Tree_found) l_z42 c_z42 k_z42 tt_z42 td_z42
 have b_z42:qah K _ ["self","name","elder","promise","cap","weight"] []:=F_z42.binds (ps:=["self","name","elder","promise","cap","weight"]) fun _ _ _ _ _ _ us hl=>by have e:us.length=6:=(by simpa using hl);clear hl;revert us e;exact ln6 fun _ _ _ _ _ _=>by first|exact .inl rfl|exact .inr ⟨_,rfl,rfl⟩
 have b1_z42:qah K _ ["self","name","elder","promise","cap","weight"] [w0x]:=F_z42.binds (ps:=["self","name","elder","promise","cap","weight"]) fun _ _ _ _ _ _ us hl=>by have e:us.length=5:=(by simpa using hl);clear hl;revert us e;exact ln5 fun _ _ _ _ _=>by first|exact .inl rfl|exact .inr ⟨_,rfl,rfl⟩
 have F_z65:=funD_mk (st:=s_Store_under) l_z65 c_z65 k_z65 tt_z65 td_z65
 have b_z65:qah K _ ["self","house"] []:=F_z65.binds (ps:=["self","house"]) fun _ _ _ _ _ _ us hl=>by have e:us.length=2:=(by simpa using hl);clear hl;revert us e;exact ln2 fun _ _=>by first|exact .inl rfl|exact .inr ⟨_,rfl,rfl⟩
 have b1_z65:qah K _ ["self","house"] [w0o]:=F_z65.binds (ps:=["self","house"]) fun _ _ _ _ _ _ us hl=>by have e:us.length=1:=(by simpa using hl);clear hl;revert us e;exact ln1 fun _=>by first|exact .inl rfl|exact .inr ⟨_,rfl,rfl⟩
 refine⟨⟨_,_,_,_,_,_,_,_,_,_,_,_,_,_,_,_,_,_,_,_,_,_,_,_,_,_,_,_,_,_,_,_,_,_,_,_,_,_,_,_,_,_,_,_,_,_,_,_,_,_,_,_,_,_,_,_,_,_,_,_,_,_,_,_,_,_,_,_,_,_,_,_,_,_,_,_,_,_,_,_,_,_,_,_,t_z41,w1a,_,_,t_z42,w0x,_,_,_,_,_,_,_,_,_,_,_,_,_,_,_,_,_,_,_,_,_,_,_,_,_,_,_,_,_,_,_,_,_,_,_,_,_,_,_,_,_,_,_,_,_,_,t_z65,w0o,_,_,_,_,_,_,_,_,_,_,_,_,_,_,_,_,_,_,_,_,_,_,_,_,w09,w02,w0n,w0t,w00,w2m,w6u,w8v,w0s,w05,w6v,w3o,w3p,w4w,w4u,w1k,w4v,w1j,w23,w1s,w1h,w0p⟩,⟨g_z0.F,g_z0.m X G,g_z0.F.binds fun _ _ _ _ _ _=>ln1 fun _=>rfl,g_z1.F,g_z1.m X G,g_z1.F.binds fun _ _ _ _ _ _=>ln1 fun _=>rfl,g_z2.F,g_z2.m X G,g_z2.F.binds fun _ _ _ _ _ _=>ln3 fun _ _ _=>rfl,g_z3.F,g_z3.m X G,g_z3.F.binds fun _ _ _ _ _ _=>ln1 fun _=>rfl,g_z4.F,g_z4.m X G,g_z4.F.binds fun _ _ _ _ _ _=>ln2 fun _ _=>rfl,g_z5.F,g_z5.m X G,g_z5.F.binds fun _ _ _ _ _ _=>ln1 fun _=>rfl,g_z6.F,g_z6.m X G,g_z6.F.binds fun _ _ _ _ _ _=>ln2 fun _ _=>rfl,g_z7.F,g_z7.m X G,g_z7.F.binds fun _ _ _ _ _ _=>ln2 fun _ _=>rfl,g_z8.F,g_z8.m X G,g_z8.F.binds fun _ _ _ _ _ _=>ln2 fun _ _=>rfl,g_z9.F,g_z9.m X G,g_z9.F.binds fun _ _ _ _ _ _=>ln2 fun _ _=>rfl,g_z10.F,g_z10.m X G,g_z10.F.binds fun _ _ _ _ _ _=>ln1 fun _=>rfl,g_z11.F,g_z11.m X G,g_z11.F.binds fun _ _ _ _ _ _=>ln6 fun _ _ _ _ _ _=>rfl,g_z12.F,g_z12.m X G,g_z12.F.binds fun _ _ _ _ _ _=>ln4 fun _ _ _ _=>rfl,g_z13.F,g_z13.m X G,g_z13.F.binds fun _ _ _ _ _ _=>ln3 fun _ _ _=>rfl,g_z14.F,g_z14.m X G,g_z14.F.binds fun _ _ _ _ _ _=>ln1 fun _=>rfl,g_z15.F,g_z15.m X G,g_z15.F.binds fun _ _ _ _ _ _=>ln1 fun _=>rfl,g_z16.F,g_z16.m X G,g_z16.F.binds fun _ _ _ _ _ _=>ln1 fun _=>rfl,g_z17.F,g_z17.m X G,g_z17.F.binds fun _ _ _ _ _ _=>ln5 fun _ _ _ _ _=>rfl,g_z18.F,g_z18.m X G,g_z18.F.binds fun _ _ _ _ _ _=>ln3 fun _ _ _=>rfl,g_z19.F,g_z19.m X G,g_z19.F.binds fun _ _ _ _ _ _=>ln2 fun _ _=>rfl,g_z20.F,g_z20.m X G,g_z20.F.binds fun _ _ _ _ _ _=>ln3 fun _ _ _=>rfl,g_z21.F,g_z21.m X G,g_z21.F.binds fun _ _ _ _ _ _=>ln1 fun _=>rfl,g_z22.F,g_z22.m X G,g_z22.F.binds fun _ _ _ _ _ _=>ln2 fun _ _=>rfl,g_z23.F,g_z23.m X G,g_z23.F.binds fun _ _ _ _ _ _=>ln5 fun _ _ _ _ _=>rfl,g_z24.F,g_z24.m X G,g_z24.F.binds fun _ _ _ _ _ _=>ln3 fun _ _ _=>rfl,g_z25.F,g_z25.m X G,g_z25.F.binds fun _ _ _ _ _ _=>ln1 fun _=>rfl,g_z26.F,g_z26.m X G,g_z26.F.binds fun _ _ _ _ _ _=>ln2 fun _ _=>rfl,g_z27.F,g_z27.m X G,g_z27.F.binds fun _ _ _ _ _ _=>ln4 fun _ _ _ _=>rfl,g_z28.F,g_z28.m X G,g_z28.F.binds fun _ _ _ _ _ _=>ln1 fun _=>rfl,g_z29.F,g_z29.m X G,g_z29.F.binds fun _ _ _ _ _ _=>ln2 fun _ _=>rfl,g_z30.F,g_z30.m X G,g_z30.F.binds fun _ _ _ _ _ _=>ln1 fun _=>rfl,g_z31.F,g_z31.m X G,g_z31.F.binds fun _ _ _ _ _ _=>ln1 fun _=>rfl,g_z32.F,g_z32.m X G,g_z32.F.binds fun _ _ _ _ _ _=>ln5 fun _ _ _ _ _=>rfl,g_z33.F,g_z33.m X G,g_z33.F.binds fun _ _ _ _ _ _=>ln2 fun _ _=>rfl,g_z34.F,g_z34.m X G,g_z34.F.binds fun _ _ _ _ _ _=>ln5 fun _ _ _ _ _=>rfl,g_z35.F,g_z35.m X G,g_z35.F.binds fun _ _ _ _ _ _=>ln4 fun _ _ _ _=>rfl,g_z36.F,g_z36.m X G,g_z36.F.binds fun _ _ _ _ _ _=>ln1 fun _=>rfl,g_z37.F,g_z37.m X G,g_z37.F.binds fun _ _ _ _ _ _=>ln4 fun _ _ _ _=>rfl,g_z38.F,g_z38.m X G,g_z38.F.binds fun _ _ _ _ _ _=>ln3 fun _ _ _=>rfl,Fl,g_law.m X G,g_z40.F,g_z40.F.binds fun _ _ _ _ _ _=>ln5 fun _ _ _ _ _=>rfl,F_z41,b_z41,b1_z41,rd_z41,F_z42,b_z42,b1_z42,rd_z42,g_z43.F,g_z43.F.binds fun _ _ _ _ _ _=>ln1 fun _=>rfl,g_z44.F,g_z44.F.binds fun _ _ _ _ _ _=>ln1 fun _=>rfl,g_z45.F,g_z45.F.binds fun _ _ _ _ _ _=>ln2 fun _ _=>rfl,g_z46.F,g_z46.F.binds fun _ _ _ _ _ _=>ln2 fun _ _=>rfl,g_z47.F,g_z47.F.binds fun _ _ _ _ _ _=>ln2 fun _ _=>rfl,g_z48.F,g_z48.F.binds fun _ _ _ _ _ _=>ln2 fun _ _=>rfl,g_z49.F,g_z49.F.binds fun _ _ _ _ _ _=>ln2 fun _ _=>rfl,g_z50.F,g_z50.F.binds fun _ _ _ _ _ _=>ln2 fun _ _=>rfl,g_z51.F,g_z51.F.binds fun _ _ _ _ _ _=>ln2 fun _ _=>rfl,g_z52.F,g_z52.F.binds fun _ _ _ _ _ _=>ln2 fun _ _=>rfl,g_z53.F,g_z53.F.binds fun _ _ _ _ _ _=>ln2 fun _ _=>rfl,g_z54.F,g_z54.F.binds fun _ _ _ _ _ _=>ln3 fun _ _ _=>rfl,g_z55.F,g_z55.F.binds fun _ _ _ _ _ _=>ln6 fun _ _ _ _ _ _=>rfl,g_z56.F,g_z56.F.binds fun _ _ _ _ _ _=>ln1 fun _=>rfl,g_z57.F,g_z57.F.binds fun _ _ _ _ _ _=>ln1 fun _=>rfl,g_z58.F,g_z58.F.binds fun _ _ _ _ _ _=>ln1 fun _=>rfl,g_z59.F,g_z59.F.binds fun _ _ _ _ _ _=>ln2 fun _ _=>rfl,g_z60.F,g_z60.F.binds fun _ _ _ _ _ _=>ln6 fun _ _ _ _ _ _=>rfl,g_z61.F,g_z61.F.binds fun _ _ _ _ _ _=>ln2 fun _ _=>rfl,g_z62.F,g_z62.F.binds fun _ _ _ _ _ _=>ln2 fun _ _=>rfl,g_z63.F,g_z63.F.binds fun _ _ _ _ _ _=>ln2 fun _ _=>rfl,g_z64.F,g_z64.F.binds fun _ _ _ _ _ _=>ln1 fun _=>rfl,F_z65,b_z65,b1_z65,rd_z65,g_z66.F,g_z66.F.binds fun _ _ _ _ _ _=>ln2 fun _ _=>rfl,g_z67.F,g_z67.F.binds fun _ _ _ _ _ _=>ln2 fun _ _=>rfl,g_z68.F,g_z68.F.binds fun _ _ _ _ _ _=>ln3 fun _ _ _=>rfl,g_z69.F,g_z69.F.binds fun _ _ _ _ _ _=>ln2 fun _ _=>rfl,g_z70.F,g_z70.F.binds fun _ _ _ _ _ _=>ln4 fun _ _ _ _=>rfl,g_z71.F,g_z71.F.binds fun _ _ _ _ _ _=>ln4 fun _ _ _ _=>rfl,g_z72.F,g_z72.F.binds fun _ _ _ _ _ _=>ln2 fun _ _=>rfl,g_z73.F,g_z73.F.binds fun _ _ _ _ _ _=>ln4 fun _ _ _ _=>rfl,g_z74.F,g_z74.F.binds fun _ _ _ _ _ _=>ln2 fun _ _=>rfl,g_z75.F,g_z75.F.binds fun _ _ _ _ _ _=>ln1 fun _=>rfl,g_z76.F,g_z76.F.binds fun _ _ _ _ _ _=>ln1 fun _=>rfl,g_z77.F,xcli_of qi_z77 hi_z77,g_z77.F.binds fun _ _ _ _ _ _=>ln3 fun _ _ _=>rfl,PySem.W.mg_of X G a_House,PySem.W.mg_of X G a_Tree,PySem.W.mg_of X G a_Hold,PySem.W.mg_of X G a_Loan,PySem.W.mg_of X G a_Store,PySem.W.mg_of X G a_TreeError,PySem.W.mg_of X G a_NoName,PySem.W.mg_of X G a_Taken,PySem.W.mg_of X G a_NoHouse,PySem.W.mg_of X G a_NoPromise,PySem.W.mg_of X G a_NoWare,PySem.W.mg_of X G a_NoAmount,PySem.W.mg_of X G a_NoNumber,PySem.W.mg_of X G a_TooMany,PySem.W.mg_of X G a_TooDeep,PySem.W.mg_of X G a_NoHold,PySem.W.mg_of X G a_LETTERS,w6n,PySem.W.mg_of X G a_LONGEST_NAME,w1v,PySem.W.mg_of X G a_MOST_WARES,w30,PySem.W.mg_of X G a_MOST_HOUSES,w25,PySem.W.mg_of X G a_LONGEST_LINE,w1x,PySem.W.mg_of X G a_GREATEST_WEIGHT,w13,PySem.W.mg_none_of X G y_all,PySem.W.mg_none_of X G y_bool,PySem.W.mg_none_of X G y_dict,PySem.W.mg_none_of X G y_int,PySem.W.mg_none_of X G y_isinstance,PySem.W.mg_none_of X G y_len,PySem.W.mg_none_of X G y_list,PySem.W.mg_none_of X G y_max,PySem.W.mg_none_of X G y_min,PySem.W.mg_none_of X G y_range,PySem.W.mg_none_of X G y_set,PySem.W.mg_none_of X G y_sorted,PySem.W.mg_none_of X G y_str,PySem.W.mg_none_of X G y_tuple,w0i,w0h,w01,w6w,w2z,w32,kcN,kcH,kcP,w4x,w4b,wk9,wka,w1z,w03,w8a,wah,w42,w3z,wa6,wav,w2b,w3k,w3l,w2k,w04,w0u,w0w,w0j,w31,w2y,w0r,w0c,w0y,w35,w1i,w0v,w12,w0q,w0d,w14,w0g,w0m,w1r,w17,w33,w1t,w1o,w24,w2g,w2e,w0a,w06,w1d,w0z,w0b,w19,w1n,w0e,w07,w1y,w2a,w1l,w2v,w2f,w1w,w26,w1q,w2x,w2c,qd1 q_NoHouse,qd1 q_NoAmount,qd1 q_NoWare,qd1 q_NoName,qd1 q_NoNumber,qd1 q_Taken,qd1 q_TooMany,qd1 q_TooDeep,qd1 q_NoHold,w4y,wa4⟩,rfl,fun s v=> .of_eq rfl⟩
theorem walk {l:PySem.W.OpenLaw} {q:Program} {loose:List Str} {XP:(Str->Option Value)->Heap->Prop} {YP:World->Heap->Prop} {e:DefRec} {K:Params->Frag} (hn:l.most=some 63) (hdf:e.params.defaults=[]) (hlaw:e.name= "law")
  (hY:∀(w:World) (h:Heap),YP w h->(K w.params).In h)
  (F:∀(w:World) (mg:Str->Option Value) (fa:Addr) (h:Heap),(K w.params).In h->h.Ns mainGlobals mg->mg "law" =some (.ref fa)->∃d:Ad,Tx (K w.params) mg d/\fa=d.wes/\∀(s:Shared) (v:Value),BindsTo s d.wee ⟨[v], []⟩ [("_law_script",v)]):
  PySem.W.WalkO q loose XP YP l.row.toRowW e [] (fun f vs=>PySem.call f vs):=by
 refine L2.walk_of (n:=63) (k:=26) (x:="_law_script") (CX:=fun _=>CX0) (sp:=fun w=>sp_law0 (K w.params)) hn (by decide) hdf ⟨rfl,by decide,by decide⟩ hY (fun w mg fa h KX G hm=>?_) (fun _ _ a ns hl _ hS=>⟨a,ns,rfl,hS,hl,fun _=>rfl⟩) fun _ _ _ _ _ z=>z
 rw [hlaw] at hm
 obtain⟨d,T,rfl,hb⟩:=F w mg fa h KX G hm
 exact⟨d.wee,hb,fun base _ _=>(ok_law (P:=l.prog) (w:=w) (base:=base) T).imp fun vs H Q E q=>q⟩
end Our
namespace PySem.W.Fast
def tw11662046441348492640:=0
def tw954860425644126001:=0
def tw13508613986355733294:=0
def tw3726678656787071341:=0
def tw15282325900102218803:=0
def tw10928563096374147704:=0
def tw4711445030319002689:=0
def tw12053197945273753874:=0
def tw18115600237039613907:=0
def tw16452164863296288948:=0
def tw9244615777574843190:=0
def tw12514023451295600689:=0
def tw1595045031779614250:=0
def tw1864771750589160340:=0
def tw3129672336360462266:=0
def tw15093909249481859804:=0
def tw6742726204288028556:=0
def tw9993548107120573743:=0
def tw12565666032198213020:=0
def tw745634176626852151:=0
def tw13176717708451968074:=0
def tw13893938035861317158:=0
def tw9503703640998012722:=0
def tw4455789976452300280:=0
def tw3907754362939324636:=0
def tw7597672107299280159:=0
def tw10432959643048484992:=0
def tw6305424280529971934:=0
def tw4663562590380783500:=0
def tw7626982425115279712:=0
def tw9457889629054887594:=0
def tw2402962697685448067:=0
def tw2335006837724105304:=0
def tw13843206118765249947:=0
def tw16119203075985616798:=0
def tw4000003001536850890:=0
def tw9894477374910263692:=0
def tw4042491492231220250:=0
def tw10388916204041483940:=0
def tw16978482315755066613:=0
def tw3983591557942166302:=0
def tw15308857221530530669:=0
def tw13751834091752536973:=0
def tw10593748320725307197:=0
def tw14088967992641002912:=0
def tw4260543496272946620:=0
def tw17001845351121898688:=0
def tw11787275365455165642:=0
def tw13102136050841396022:=0
def tw15655845439270825973:=0
def tw2926246166356259950:=0
def tw10153984402185809927:=0
def tw12443952795947167125:=0
def tw16472598953450495485:=0
def tw12726297656751120837:=0
def tw9401365430356841808:=0
def tw17614585307420851608:=0
def tw1394574447742479360:=0
def tw1272407419067335168:=0
def tw10858955941372091406:=0
def tw17023206930064552820:=0
def tw9606357071150887209:=0
def tw11217238235553183148:=0
def tw9270251497521895563:=0
def tw13285726860062364855:=0
def tw5070387655247696958:=0
def tw10035993526808697912:=0
def tw1680064652377693622:=0
def tw12770504642789988193:=0
def tw8084500386206233640:=0
def tw4358829775707498715:=0
def tw3759629760218899452:=0
def tw17366148519426298734:=0
def tw6545759001056766576:=0
def tw959206745075619589:=0
def tw989750672445048549:=0
def tw2350846680128279961:=0
def tw5052328981244392845:=0
def tw1267096908612303016:=0
def tw12016153857522565210:=0
def tw16685736894188266149:=0
def tw5700873875034160496:=0
def tw1859412962424889812:=0
def tw1646166165239485216:=0
def tw16154602618388991583:=0
def tw3011359555180939057:=0
def tw18380572288574705179:=0
def tw8009641447830097959:=0
def tw11854835640319204063:=0
def tw8404361200063561651:=0
def tw81322808072741356:=0
def tw16075687582938200441:=0
def tw7502808953456295006:=0
def tw4934914309755894964:=0
def tw8591151050682306641:=0
def tw4466936531725116098:=0
def tw6555687942174552551:=0
def tw15147906995963228207:=0
def tw13309624195778425142:=0
def tw9511782678864768227:=0
def tw7102357464661103562:=0
def tw681377830466048353:=0
def tw708744843638844865:=0
def tw6330959311495702007:=0
def tw3031505900986571805:=0
def tw5792075515021827871:=0
def tw6287938442550450324:=0
def tw18234424412750542375:=0
def tw2037775620169476796:=0
def tw6850029080408582545:=0
def tw4344687262913049617:=0
def tw11944840795465867942:=0
def tw9058136111427054423:=0
def tw16502715633492279475:=0
def tw11445248249765619335:=0
def tw12845372919806923281:=0
def tw126545290498217752:=0
def tw14733812240293607098:=0
def tw5104184968266566807:=0
def tw18225528538502267773:=0
def tw11875890332089076102:=0
def tw15414332543596200040:=0
def tw3296351465858915746:=0
def tw10101143741559262557:=0
def tw8589198076641421541:=0
def tw1823852085495178570:=0
def tw5135410974724857293:=0
def tw6531912571787989819:=0
def tw5012643350515511470:=0
def tw3463003627047304684:=0
def tw8910496944309827354:=0
def tw12965308706136040356:=0
def tw1366404657865040395:=0
def tw8353561614736405008:=0
def tw15437618417984186216:=0
def tw9460040450932053138:=0
def tw12715993433497787845:=0
def tw12909542537730537062:=0
def tw17889676950292283790:=0
def tw11539345318436251235:=0
def tw12254647505827843523:=0
def tw12931290780482615729:=0
def tw233101600486513946:=0
def tw10312354222644293555:=0
def tw12919513544446614138:=0
def tw9057341098705650011:=0
def tw15237766787748086835:=0
def tw13304941092023334133:=0
def tw16658163895701536739:=0
def tw4374759427738380320:=0
def tw15291269825125558993:=0
def tw7966597907954829489:=0
def tw3325100790015488090:=0
def tw8690328811337878026:=0
def tw10288693475575683555:=0
def tw9452074524589956787:=0
def tw13814639753538863671:=0
def tw11281074419426654464:=0
def tw11843838791525584018:=0
def tw1428770786168276142:=0
def tw3811690025582110768:=0
def tw1021570422217859534:=0
def tw4530678206809807525:=0
def tw7427119261513327418:=0
def tw16486601403018412206:=0
def tw12299234035614220028:=0
def tw7287583947883764745:=0
def tw16750297303305314987:=0
def tw17482498844754663381:=0
def tw14898740462825314504:=0
def tw5127801629261245077:=0
def tw16354803025328311134:=0
def tw7465960877685831895:=0
def tw17351580503956548467:=0
def tw6197880333325692538:=0
def tw18406688440795769968:=0
def tw8100947976135615372:=0
def tw10523467028479441429:=0
def tw16970872885271915889:=0
def tw7151298562445002908:=0
def tw17175190710230991614:=0
def tw10160966229202320583:=0
def tw17877930488175230496:=0
def tw17524444846703708944:=0
def tw13803345482898782099:=0
def tw9778836735879005931:=0
def tw7056435117840830735:=0
def tw3752376858454562268:=0
def tw10322803345780572462:=0
def tw12428031139847021531:=0
def tw17619264779249493782:=0
def tw3728960825571624188:=0
def tw2762967867593697388:=0
def tw15639679821872938009:=0
def tw13337019701947187234:=0
def tw1178973481141097842:=0
def tw15945045959030674808:=0
def tw4788872556293037463:=0
def tw13000816891286531384:=0
def tw9329182191201673054:=0
def tw1308887546624036721:=0
def tw17910137411224256298:=0
def tw782481927182854915:=0
def tw2792569737573945683:=0
def tw700921844322612539:=0
def tw3814438230217809423:=0
def tw7936791317390118754:=0
def tw17570434500653789083:=0
def tw9643392140565947331:=0
def tw4641024497209141541:=0
def tw8851942738600173962:=0
def tw15120408332279888941:=0
def tw360574082358901040:=0
def tw9084381215616353576:=0
def tw11405238344057673973:=0
def tw14437273977195906121:=0
def tw90937629786011501:=0
def tw6294664890013298425:=0
def tw16965673195251212818:=0
def tw11430104017078638000:=0
def tw5837206570134365543:=0
def tw6657287762521698880:=0
def tw9538869329549724037:=0
def tw5401071088888238790:=0
def tw6329210537952633606:=0
def tw5778918222791205952:=0
def tw2463287901233865093:=0
def tw13897387021898598330:=0
def tw15056001229518598974:=0
def tw11669973209312980384:=0
def tw14906650349424136844:=0
def tw17829150171738911296:=0
def tw5928438621704580087:=0
def tw10724163131263678619:=0
def tw4289321815404938055:=0
def tw6754345168974616702:=0
def tw17206786220561697982:=0
def tw16895795019138151697:=0
def tw5763808474012822700:=0
def tw11869892781621318428:=0
def tw16023142414351646835:=0
def tw9970062181472160778:=0
def tw14324348441330896705:=0
def tw7070567213632900823:=0
def tw17906553582414328656:=0
def tw12363539200678142130:=0
def tw3379935533136909537:=0
def tw2002145827754113179:=0
def tw5307394260314366324:=0
def tw18035190831423604295:=0
def tw9040754943107417253:=0
def tw16415447421041534561:=0
def tw11999900750909064325:=0
def tw17201463069082857411:=0
def tw14769447205455381537:=0
def tw14172471769289385158:=0
def tw1918377921924158660:=0
def tw14251266323872683203:=0
def tw3093357389010677601:=0
def tw13859258923966569861:=0
def tw286883930086356349:=0
def tw9663445106061394753:=0
def tw4514687785383489114:=0
def tw13190536192770040209:=0
def tw16885355535422508174:=0
def tw12367737280754322416:=0
def tw2562901638739941684:=0
def tw2174217170314392899:=0
def tw17706385704940848812:=0
def tw13610348779424613685:=0
def tw11853978610111264949:=0
def tw1713088968185401199:=0
def tw11490332883619013491:=0
def tw8786038932560126713:=0
def tw16592862555501587356:=0
def tw5239509690192768256:=0
def tw17949418141985423901:=0
def tw759426555618788613:=0
def tw4821650072838618648:=0
def tw18117267616652707962:=0
def tw7633995172967811347:=0
def tw374369148805347299:=0
def tw1733103266580420826:=0
def tw6802479874892248484:=0
def tw2428729232060320225:=0
def tw678763943166943326:=0
def tw18357769126244289594:=0
def tw13831046760673914139:=0
def tw17285775133159594661:=0
def tw6311072077142405155:=0
def tw12887411356580412371:=0
def tw7487326456340928450:=0
def tw2604408577794470062:=0
def tw15934271224130648225:=0
def tw11664665868427310111:=0
def tw11776581117957901361:=0
def tw9812880767767676328:=0
def tw2496825239058292318:=0
def tw2070331614981571192:=0
def tw11600821693411972062:=0
def tw12216119663768976167:=0
def tw13075932385177140146:=0
def tw17492703353666526727:=0
def tw14213463699156702579:=0
def tw5733758380657764493:=0
def tw8892233124459504429:=0
def tw6389951755786497323:=0
def tw17519569163914806181:=0
def tw14573219625494647855:=0
def tw13920822123572352527:=0
def tw11735494443316199643:=0
def tw10406425198003821270:=0
def tw16460562450765397848:=0
def tw1173100359404593175:=0
def tw5765450797112827053:=0
def tw18072538931112441618:=0
def tw5163913256259949500:=0
def tw14045769813985120680:=0
def tw11923456022347436925:=0
def tw12466627389348230048:=0
def tw4242938958414112306:=0
def tw18381840500359629646:=0
def tw13998687505112556888:=0
def tw17294038519886300566:=0
def tw15847427936092546788:=0
def tw3631675089216228509:=0
def tw7330822305729938921:=0
def tw4041373482393284832:=0
def tw8369300782031192707:=0
def tw9684610902561381021:=0
def tw16998472803168544474:=0
def tw10769977626102048204:=0
def tw7406743784595805292:=0
def tw12438059308426928354:=0
def tw11886564566184806656:=0
def tw10622363481737542329:=0
def tw1786589719808093178:=0
def tw5990792494572912506:=0
def tw17190839714909769997:=0
def tw550344574246924711:=0
def tw12371836559344442907:=0
def tw12139511372844227510:=0
def tw13079291954862286939:=0
def tw1033944597571306568:=0
def tw9662439648487719751:=0
def tw14716771567607037933:=0
def tw745719343915361433:=0
def tw18382787690585976315:=0
def tw17457512788315993386:=0
def tw15495513657378706140:=0
def tw12770949488130592916:=0
def tw15082180325866704380:=0
def tw7209929688976448860:=0
def tw7170187914578386433:=0
def tw4094638713415368538:=0
def tw18354397379641622979:=0
def tw6369606282512372072:=0
def tw9901428909011892803:=0
def tw7838280011878662408:=0
def tw7492239551042719769:=0
def tw2248886026006748031:=0
def tw17402962023550248852:=0
def tw13857205914377870577:=0
def tw9507033161655597690:=0
def tw12353842809223039889:=0
def tw9173537409378112331:=0
def tw9138819523296128884:=0
def tw8456609570195577922:=0
def tw5252494720964971126:=0
def tw4400980041235861006:=0
def tw16009311663110455554:=0
def tw11517664771339827882:=0
def tw6404757425534858062:=0
def tw3100188528760215033:=0
def tw15500495902574982449:=0
def tw6909283749141726526:=0
def tw13792361889614135575:=0
def tw9125370967817827781:=0
def tw3176102155531162118:=0
def tw15160312998327178620:=0
end PySem.W.Fast
open PySem PySem.W PyProof.Rows
set_option maxRecDepth 100000 in
set_option maxHeartbeats 0 in
theorem PySem.Challenge.cw_quotatree_k28_twins_holds : PySem.Challenge.rw_quotatree_k28_twins.Holds := by
 w_on;o_law;k_head;(case hw=>w_witness2)
 k_fill
 refine Our.walk (l:=PySem.Challenge.rw_quotatree_k28_twins) rfl rfl rfl (fun w h Y=>PySem.W.kIn_of Y) ?F
 case F=>
  intro w mg fa h KX G hmg
  refine' Our.txt_mk KX G hmg ?g_z0 ?g_z1 ?g_z2 ?g_z3 ?g_z4 ?g_z5 ?g_z6 ?g_z7 ?g_z8 ?g_z9 ?g_z10 ?g_z11 ?g_z12 ?g_z13 ?g_z14 ?g_z15 ?g_z16 ?g_z17 ?g_z18 ?g_z19 ?g_z20 ?g_z21 ?g_z22 ?g_z23 ?g_z24 ?g_z25 ?g_z26 ?g_z27 ?g_z28 ?g_z29 ?g_z30 ?g_z31 ?g_z32 ?g_z33 ?g_z34 ?g_z35 ?g_z36 ?g_z37 ?g_z38 ?g_law ?g_z40 ?a_z41 ?l_z41 ?c_z41 ?k_z41 ?tt_z41 ?td_z41 ?rd_z41 ?a_z42 ?l_z42 ?c_z42 ?k_z42 ?tt_z42 ?td_z42 ?rd_z42 ?g_z43 ?g_z44 ?g_z45 ?g_z46 ?g_z47 ?g_z48 ?g_z49 ?g_z50 ?g_z51 ?g_z52 ?g_z53 ?g_z54 ?g_z55 ?g_z56 ?g_z57 ?g_z58 ?g_z59 ?g_z60 ?g_z61 ?g_z62 ?g_z63 ?g_z64 ?a_z65 ?l_z65 ?c_z65 ?k_z65 ?tt_z65 ?td_z65 ?rd_z65 ?g_z66 ?g_z67 ?g_z68 ?g_z69 ?g_z70 ?g_z71 ?g_z72 ?g_z73 ?g_z74 ?g_z75 ?g_z76 ?g_z77 ?qi_z77 ?hi_z77 ?a_House ?a_Tree ?a_Hold ?a_Loan ?a_Store ?a_TreeError ?a_NoName ?a_Taken ?a_NoHouse ?a_NoPromise ?a_NoWare ?a_NoAmount ?a_NoNumber ?a_TooMany ?a_TooDeep ?a_NoHold ?a_LETTERS ?w6n ?a_LONGEST_NAME ?w1v ?a_MOST_WARES ?w30 ?a_MOST_HOUSES ?w25 ?a_LONGEST_LINE ?w1x ?a_GREATEST_WEIGHT ?w13 ?q_NoHouse ?q_NoAmount ?q_NoWare ?q_NoName ?q_NoNumber ?q_Taken ?q_TooMany ?q_TooDeep ?q_NoHold ?w4y ?wa4 ?w0i ?w0h ?w01 ?w6w ?w2z ?w32 ?kcN ?kcH ?kcP ?w4x ?w4b ?wk9 ?wka ?w1z ?w03 ?w8a ?wah ?w42 ?w3z ?wa6 ?wav ?w2b ?w3k ?w3l ?w2k ?w04 ?w0u ?w0w ?w0j ?w31 ?w2y ?w0r ?w0c ?w0y ?w35 ?w1i ?w0v ?w12 ?w0q ?w0d ?w14 ?w0g ?w0m ?w1r ?w17 ?w33 ?w1t ?w1o ?w24 ?w2g ?w2e ?w0a ?w06 ?w1d ?w0z ?w0b ?w19 ?w1n ?w0e ?w07 ?w1y ?w2a ?w1l ?w2v ?w2f ?w1w ?w26 ?w1q ?w2x ?w2c ?y_all ?y_bool ?y_dict ?y_int ?y_isinstance ?y_len ?y_list ?y_max ?y_min ?y_range ?y_set ?y_sorted ?y_str ?y_tuple
  (case a_House=>k_is)
  (case a_Tree=>k_is)
  (case a_Hold=>k_is)
  (case a_Loan=>k_is)
  (case a_Store=>k_is)
  (case a_TreeError=>k_is)
  (case a_NoName=>k_is)
  (case a_Taken=>k_is)
  (case a_NoHouse=>k_is)
  (case a_NoPromise=>k_is)
  (case a_NoWare=>k_is)
  (case a_NoAmount=>k_is)
  (case a_NoNumber=>k_is)
  (case a_TooMany=>k_is)
  (case a_TooDeep=>k_is)
  (case a_NoHold=>k_is)
  all_goals try (refine' ⟨?a,L2.fun_mk ?l ?c ?k⟩;(case a=>k_is);(case l=>k_is);(case c=>k_is);(case k=>k_is))
  (case a_z41=>k_is);(case l_z41=>k_is);(case c_z41=>k_is);(case k_z41=>k_is)
  (case tt_z41=>k_is);(case td_z41=>first|rfl|k_is);(case rd_z41=>first|exact .cons ⟨_,rfl⟩ .nil|exact .cons rfl .nil)
  (case a_z42=>k_is);(case l_z42=>k_is);(case c_z42=>k_is);(case k_z42=>k_is)
  (case tt_z42=>k_is);(case td_z42=>first|rfl|k_is);(case rd_z42=>first|exact .cons ⟨_,rfl⟩ .nil|exact .cons rfl .nil)
  (case a_z65=>k_is);(case l_z65=>k_is);(case c_z65=>k_is);(case k_z65=>k_is)
  (case tt_z65=>k_is);(case td_z65=>first|rfl|k_is);(case rd_z65=>first|exact .cons ⟨_,rfl⟩ .nil|exact .cons rfl .nil)
  (case qi_z77=>kernel_rfl);(case hi_z77=>k_is)
  (case a_LETTERS=>k_is)
  (case w6n=>exact⟨_,rfl⟩)
  (case a_LONGEST_NAME=>k_is)
  (case w1v=>exact⟨_,rfl⟩)
  (case a_MOST_WARES=>k_is)
  (case w30=>exact⟨_,rfl⟩)
  (case a_MOST_HOUSES=>k_is)
  (case w25=>exact⟨_,rfl⟩)
  (case a_LONGEST_LINE=>k_is)
  (case w1x=>exact⟨_,rfl⟩)
  (case a_GREATEST_WEIGHT=>k_is)
  (case w13=>exact⟨_,rfl⟩)
  (case q_NoHouse=>k_exc)
  (case q_NoAmount=>k_exc)
  (case q_NoWare=>k_exc)
  (case q_NoName=>k_exc)
  (case q_NoNumber=>k_exc)
  (case q_Taken=>k_exc)
  (case q_TooMany=>k_exc)
  (case q_TooDeep=>k_exc)
  (case q_NoHold=>k_exc)
  (case w4y=>kernel_rfl)
  (case wa4=>kernel_rfl)
  (case w0i=>(constructor <;> first|k_is|kernel_rfl))
  (case w0h=>(constructor <;> first|k_is|kernel_rfl))
  (case w01=>(constructor <;> first|k_is|kernel_rfl))
  (case w6w=>(constructor <;> first|k_is|kernel_rfl))
  (case w2z=>(constructor <;> first|k_is|kernel_rfl))
  (case w32=>(constructor <;> first|k_is|kernel_rfl))
  (case kcN=>kernel_rfl)
  (case kcH=>kernel_rfl)
  (case kcP=>kernel_rfl)
  (case w4x=>(constructor <;> first|k_is|kernel_rfl))
  (case w4b=>(constructor <;> first|k_is|kernel_rfl))
  (case wk9=>k_is)
  (case wka=>k_is)
  (case w1z=>(constructor <;> first|k_is|kernel_rfl))
  (case w03=>(constructor <;> first|k_is|kernel_rfl))
  (case w8a=>(constructor <;> first|k_is|kernel_rfl))
  (case wah=>(constructor <;> first|k_is|kernel_rfl))
  (case w42=>(constructor <;> first|k_is|kernel_rfl))
  (case w3z=>(constructor <;> first|k_is|kernel_rfl))
  (case wa6=>(constructor <;> first|k_is|kernel_rfl))
  (case wav=>(constructor <;> first|k_is|kernel_rfl))
  (case w2b=>(constructor <;> first|k_is|kernel_rfl))
  (case w3k=>(constructor <;> first|k_is|kernel_rfl))
  (case w3l=>(constructor <;> first|k_is|kernel_rfl))
  (case w2k=>(constructor <;> first|k_is|kernel_rfl))
  (case w04=>(constructor <;> first|k_is|kernel_rfl))
  (case w0u=>(constructor <;> first|k_is|kernel_rfl))
  (case w0w=>(constructor <;> first|k_is|kernel_rfl))
  (case w0j=>(constructor <;> first|k_is|kernel_rfl))
  (case w31=>(constructor <;> first|k_is|kernel_rfl))
  (case w2y=>(constructor <;> first|k_is|kernel_rfl))
  (case w0r=>(constructor <;> first|k_is|kernel_rfl))
  (case w0c=>(constructor <;> first|k_is|kernel_rfl))
  (case w0y=>(constructor <;> first|k_is|kernel_rfl))
  (case w35=>(constructor <;> first|k_is|kernel_rfl))
  (case w1i=>(constructor <;> first|k_is|kernel_rfl))
  (case w0v=>(constructor <;> first|k_is|kernel_rfl))
  (case w12=>(constructor <;> first|k_is|kernel_rfl))
  (case w0q=>(constructor <;> first|k_is|kernel_rfl))
  (case w0d=>(constructor <;> first|k_is|kernel_rfl))
  (case w14=>(constructor <;> first|k_is|kernel_rfl))
  (case w0g=>(constructor <;> first|k_is|kernel_rfl))
  (case w0m=>(constructor <;> first|k_is|kernel_rfl))
  (case w1r=>(constructor <;> first|k_is|kernel_rfl))
  (case w17=>(constructor <;> first|k_is|kernel_rfl))
  (case w33=>(constructor <;> first|k_is|kernel_rfl))
  (case w1t=>(constructor <;> first|k_is|kernel_rfl))
  (case w1o=>(constructor <;> first|k_is|kernel_rfl))
  (case w24=>(constructor <;> first|k_is|kernel_rfl))
  (case w2g=>(constructor <;> first|k_is|kernel_rfl))
  (case w2e=>(constructor <;> first|k_is|kernel_rfl))
  (case w0a=>k_is)
  (case w06=>k_is)
  (case w1d=>k_is)
  (case w0z=>k_is)
  (case w0b=>k_is)
  (case w19=>k_is)
  (case w1n=>k_is)
  (case w0e=>k_is)
  (case w07=>k_is)
  (case w1y=>k_is)
  (case w2a=>k_is)
  (case w1l=>k_is)
  (case w2v=>k_is)
  (case w2f=>k_is)
  (case w1w=>k_is)
  (case w26=>k_is)
  (case w1q=>k_is)
  (case w2x=>k_is)
  (case w2c=>k_is)
  (case y_all=>k_is)
  (case y_bool=>k_is)
  (case y_dict=>k_is)
  (case y_int=>k_is)
  (case y_isinstance=>k_is)
  (case y_len=>k_is)
  (case y_list=>k_is)
  (case y_max=>k_is)
  (case y_min=>k_is)
  (case y_range=>k_is)
  (case y_set=>k_is)
  (case y_sorted=>k_is)
  (case y_str=>k_is)
  (case y_tuple=>k_is)