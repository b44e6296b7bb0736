import PyProof.Rows.All
import Wide.All
import OpenK.AllK
import Wide.FinOn
import Lean
import PyProof.EqAt
import PyProof.EqKinds
import PyProof.TupleCall
import PyProof.NeKinds
import KE.KEqDict
import KE.KRevIter
import PyProof.FactsAll.range_2
import PyProof.ZipIter
import PyProof.FitsReplace
import PyProof.MeetsStr
import PyProof.ListRange
import PyProof.CollectWalk
import PyProof.DictItems
import PyProof.DictItemsLoops
import PyProof.DictValues
import PyProof.DictWalks
import PyProof.StrCalls
import KE.KIsAll
import PyProof.Rows.Range3
import PyProof.Rows.MinMaxN
import PyProof.SumWalkG
import PyProof.MeetsStr2
import PyProof.StrBlockL
import PyProof.Rows.StrNews2
import PyProof.StrLawsOccR
import KE.KIntText
import PyProof.StrLawsIn
import PyProof.Rows.SeqMore2
import PyProof.ListOps
import PyProof.Rows.SeqMore
import PyProof.Rows.SeqGen
import PyProof.EnumFor
import PyProof.EnumMake
import PySem.Challenge.RW_quotatree_k17_moves_refused
open PySem.W (Frag instObj lookIn plainGet hasDictIn isFn emptyDict keepIn kitOne fnOf codeIn kitCls excIn nsIn)
open List (all_cons all_eq_true any_cons append_nil filter_cons find?_cons getElem?_cons_succ getElem?_eq_getElem getElem?_map getElem_map getElem_mem length_append length_cons length_map length_nil length_range length_singleton length_take map_append map_cons map_map mem_append mem_append_left mem_append_right mem_cons mem_cons_of_mem mem_cons_self mem_filter mem_flatten mem_iff_getElem mem_map mem_of_getElem? mem_range mem_singleton nodup_append nodup_cons nodup_nil pairwise_iff_getElem size_toArray take_add_one take_length)
set_option compiler.extract_closed false
set_option Elab.async false
set_option linter.all false
set_option maxRecDepth 100000
namespace L2
open PySem PySem.Spec PyProof.Rows
abbrev Key:=Sum Int Str
def keyIs:Key->Value->Bool
 | .inl k,v=>Value.isInt k v
 | .inr x,v=>Value.isStrOf x v
def keyH (w:World):Key->Int
 | .inl k=>hashInt k
 | .inr x=>hashStr w x
theorem qb4:∀{k:Key} {v:Value},keyIs k v=true->(∃i t,k=Sum.inl i/\v=Value.int i t)\/(∃x t,k=Sum.inr x/\v=Value.str x t)
 | .inl i,v,h=>by
  obtain⟨t,e⟩:=Value.isInt_shape (k:=i) (v:=v) h
  exact .inl ⟨i,t,rfl,e⟩
 | .inr x,v,h=>by
  obtain⟨t,e⟩:=Value.isStrOf_shape (x:=x) (v:=v) h
  exact .inr ⟨x,t,rfl,e⟩
theorem keyIs_int (i:Int) (t:Tok):keyIs (.inl i) (.int i t)=true:=by simp [keyIs,Value.isInt]
theorem keyIs_str (x:Str) (t:Tok):keyIs (.inr x) (.str x t)=true:=by simp [keyIs,Value.isStrOf]
theorem key_ll (a b:Int):decide ((Sum.inl a:Key)=Sum.inl b)=(a==b):=by
 by_cases e:a=b
 .subst e;simp
 .have h:¬(Sum.inl a:Key)=Sum.inl b:=fun q=>e (Sum.inl.inj q)
  rw [decide_eq_false h]
  exact(beq_eq_false_iff_ne.mpr e).symm
theorem key_rr (a b:Str):decide ((Sum.inr a:Key)=Sum.inr b)=decide (a=b):=by
 by_cases e:a=b
 .subst e;simp
 .have h:¬(Sum.inr a:Key)=Sum.inr b:=fun q=>e (Sum.inr.inj q)
  rw [decide_eq_false h,decide_eq_false e]
theorem key_lr (a:Int) (b:Str):decide ((Sum.inl a:Key)=Sum.inr b)=false:=decide_eq_false (fun q=>nomatch q)
theorem key_rl (a:Str) (b:Int):decide ((Sum.inr a:Key)=Sum.inl b)=false:=decide_eq_false (fun q=>nomatch q)
def qb7 (prog:Program) (w:World):PySem.KeyKind prog w Key where
 is:=keyIs
 hash:=keyH w
 inj:=fun v a b ha hb=>by
  rcases qb4 ha with ⟨i,t,rfl,rfl⟩ |⟨x,t,rfl,rfl⟩
  .rcases qb4 hb with ⟨j,u,rfl,e⟩ |⟨y,u,rfl,e⟩
   .injection e with e1 _;rw [e1]
   .exact nomatch e
  .rcases qb4 hb with ⟨j,u,rfl,e⟩ |⟨y,u,rfl,e⟩
   .exact nomatch e
   .injection e with e1 _;rw [e1]
 byValue:=fun k v h=>by
  rcases qb4 h with ⟨i,t,rfl,rfl⟩ |⟨x,t,rfl,rfl⟩ <;> rfl
 pyHash:=fun hv h=>by
  rcases qb4 hv with ⟨i,t,rfl,rfl⟩ |⟨x,t,rfl,rfl⟩
  .exact wpAny_pyHash_int h
  .exact wpAny_pyHash_str h
 eqBool:=fun hu hv h=>by
  rcases qb4 hu with ⟨i,t,rfl,rfl⟩ |⟨x,t,rfl,rfl⟩
  .rcases qb4 hv with ⟨j,u,rfl,rfl⟩ |⟨y,u,rfl,rfl⟩
   .rw [key_ll] at h;exact wpAny_eqBool_int h
   .rw [key_lr] at h;exact SeqAt.EqAt.int_str i t y u _ _ _ _ h
  .rcases qb4 hv with ⟨j,u,rfl,rfl⟩ |⟨y,u,rfl,rfl⟩
   .rw [key_rl] at h;exact SeqAt.EqAt.str_int x t j u _ _ _ _ h
   .rw [key_rr] at h;exact wpAny_eqBool_str h
 «strs»:=fun k x t v h=>by
  rcases qb4 h with ⟨i,u,rfl,e⟩ |⟨y,u,rfl,e⟩
  .exact nomatch e
  .injection e with e1 _
   subst e1
   cases v <;> rfl
theorem mixKind_int (prog:Program) (w:World) (i:Int) (t:Tok):(qb7 prog w).is (.inl i) (.int i t)=true:=keyIs_int i t
theorem mixKind_str (prog:Program) (w:World) (x:Str) (t:Tok):(qb7 prog w).is (.inr x) (.str x t)=true:=keyIs_str x t
end L2
namespace L2
open PySem PySem.Spec PyProof.Rows
inductive V where
 |non|bl (b:Bool) |int (i:Int) |str (x:Str) |byt (b:Array UInt8) |flt (b:UInt64) |ref (a:Addr) |ty (n:String)
 deriving DecidableEq
def qb6:V->Value->Prop
 | .non,u=>u=Value.none
 | .bl b,u=>u=Value.bool b
 | .int i,u=>∃t,u=Value.int i t
 | .str x,u=>∃t,u=Value.str x t
 | .byt b,u=>∃t,u=Value.bytes b t
 | .flt b,u=>∃t,u=Value.float b t
 | .ref a,u=>u=Value.ref a
 | .ty n,u=>u=Value.type n
abbrev qbb:List V->List Value->Prop:=Paired qb6
theorem qbb.length {xs:List V} {us:List Value} (r:qbb xs us):xs.length=us.length:=Paired.length r
theorem qbb.get:∀{xs:List V} {us:List Value} {i:Nat} {x:V},qbb xs us->xs[i]?=some x->∃u,us[i]?=some u/\qb6 x u
 |_,_,_,_,.nil,e=>by simp at e
 |_,_,0,_,.cons r _,e=>by simp at e;subst e;exact⟨_,rfl,r⟩
 |_,_,i+1,x,.cons _ t,e=>by
  obtain⟨u,h1,h2⟩:=qbb.get (i:=i) (x:=x) t (by simpa using e)
  exact⟨u,by simpa using h1,h2⟩
theorem qbb.set {x:V} {u:Value} (r:qb6 x u):∀{xs:List V} {us:List Value} (i:Nat),qbb xs us->qbb (xs.set i x) (us.set i u)
 |_,_,_,.nil=> .nil
 |_,_,0,.cons _ t=> .cons r t
 |_,_,i+1,.cons q t=> .cons q (qbb.set r i t)
theorem qbb.append:∀{xs ys:List V} {us ws:List Value},qbb xs us->qbb ys ws->qbb (xs++ys) (us++ws)
 |_,_,_,_,.nil,s=>s
 |_,_,_,_,.cons r t,s=> .cons r (qbb.append t s)
def qe5:Option V->Option Value->Prop
 |some v,some u=>qb6 v u
 |none,none=>True
 |_,_=>False
def KV {κ:Type}:List (κ × V)->List (κ × Value)->Prop:=Paired fun(p:κ × V) (q:κ × Value)=>p.1=q.1/\qb6 p.2 q.2
def kV:Key->V
 | .inl i=> .int i
 | .inr x=> .str x
inductive HO where
 |lst (xs:List V)
 |tup (xs:List V)
 |dK (kvs:List (Key × V)) |dT (kvs:List (List Key × V))
 |set (S:Int->Bool) (n:Nat)
 |ins (C dx:Addr) (fs:List (Str × V))
 |own (x:Addr)
 |xd (fs:List (Str × V))
 |met (f x:Addr)
 |rng (lo hi:Int)
 |frz (o:Obj) (u:HO)
 |tbl (ps:Array Value)
 |ext (φ:Heap->Prop)
abbrev Hp:=Addr->Option HO
def upd (H:Hp) (a:Addr) (o:HO):Hp:=fun b=>if b=a then some o else H b
theorem qa1 {H:Hp} {a:Addr} {o:HO}:upd H a o a=some o:=by unfold upd;rw [if_pos rfl]
theorem qa9 {H:Hp} {a b:Addr} {o:HO} (h:b≠a):upd H a o b=H b:=by unfold upd;rw [if_neg h]
theorem qbq {H:Hp} {a:Addr} {o u:HO}:upd (upd H a o) a u=upd H a u:=by
 funext b;unfold upd;split <;> rfl
theorem ne_of {H:Hp} {a b:Addr} {o u:HO} (h:H a=some o) (h':H b=some u) (d:o≠u):a≠b:=by
 intro e;subst e;rw [h] at h';exact d (Option.some.inj h')
theorem qa8 {H:Hp} {a b:Addr} {o:HO} (h:H a=some o) (h':H b=none):a≠b:=by
 intro e;subst e;rw [h] at h';cases h'
section
variable (P: Program) (w: World)
def qbg (H:Hp) (h:Heap) (a:Addr):HO->Prop
 | .lst xs=>xs.length<=sizeLine/\∃(its:List Value) (n:Nat),qbb xs its/\h.get? a=some {cls:=.type "list",data:=.seq its.toArray n}
 | .tup xs=>xs.length<=sizeLine/\∃its:List Value,qbb xs its/\IsTup h a its.toArray
 | .dK kvs=>kvs.length<=sizeLine/\(a==sysModules)=false/\∃vs,KV kvs vs/\h.DictOf (qb7 P w) a vs
 | .dT kvs=>kvs.length<=sizeLine/\(a==sysModules)=false/\∃xs:List (List Key × Addr × Value),
   Paired (fun(p:List Key × V) (q:List Key × Addr × Value)=>p.1=q.1/\H q.2.1=some (.tup (p.1.map kV))/\qb6 p.2 q.2.2) kvs xs/\
   ∃o es ep,h.get? a=some o/\o.ExactDict/\o.data=.dict es ep/\es.toList=xs.map (entryOfKey (tupleKind (qb7 P w)))/\(xs.map (·.1)).Nodup
 | .set S n=>h.SetOf (intKind P w) a S n
 | .ins C dx fs=>H dx=some (.own a)/\fs.length<=1000/\dx≠a/\h.get? a=some (instObj C dx)/\
   ∃mA,h.Ns1 dx mA/\(∀f,qe5 (fs.lookup f) (mA f))/\PySem.Within mA (fs.map (·.1))
 | .own _=>∃o,h.get? a=some o
 | .xd fs=>∃mA,h.Ns1 a mA/\∀f,qe5 (fs.lookup f) (mA f)
 | .rng lo hi=>∃t u v,h.get? a=some {cls:=.type "range",data:=.fields #[.int lo t,.int hi u,.int 1 v]}
 | .frz o u=>h.get? a=some o/\qbg H h a u
 | .tbl ps=>h.get? a=some {cls:=.none,data:=.fields ps}
 | .met f x=>h.get? a=some (PySem.W.methodObj (.ref f) (.ref x))
 | .ext φ=>φ h/\(∃o,h.get? a=some o)/\∀h1 h2:Heap,φ h1->(∀o,h1.get? a=some o->h2.get? a=some o)->φ h2
def HOk (H:Hp) (h:Heap):Prop:=∀a o,H a=some o->qbg P w H h a o
end
section
variable {P: Program} {w: World} {H H': Hp} {h h': Heap} {a: Addr} {o: HO}
theorem qbg.lt (x:qbg P w H h a o):a < h.objs.size:=by
 cases o with
 |lst xs=>obtain⟨_,_,_,_,e⟩:=x;exact Heap.lt_size e
 |tup xs=>obtain⟨_,_,_,p⟩:=x;exact p.lt
 |dK kvs=>obtain⟨_,_,_,_,o,_,_,e,_⟩:=x;exact Heap.lt_size e
 |dT kvs=>obtain⟨_,_,_,_,o,_,_,e,_⟩:=x;exact Heap.lt_size e
 |set S n=>obtain⟨o,_,_,_,e,_⟩:=x;exact Heap.lt_size e
 |ins C dx fs=>obtain⟨_,_,_,e,_⟩:=x;exact Heap.lt_size e
 |own y=>obtain⟨_,e⟩:=x;exact Heap.lt_size e
 |xd fs=>obtain⟨_,⟨_,_,_,e,_⟩,_⟩:=x;exact Heap.lt_size e
 |rng lo hi=>obtain⟨_,_,_,e⟩:=x;exact Heap.lt_size e
 |frz ob u=>obtain⟨e,_⟩:=x;exact Heap.lt_size e
 |tbl ps=>exact Heap.lt_size (show h.get? a=some _ from x)
 |met f y=>exact Heap.lt_size (show h.get? a=some _ from x)
 |ext φ=>obtain⟨_,⟨_,e⟩,_⟩:=x;exact Heap.lt_size e
theorem Paired.mapP {α β:Type} {F G:α->β->Prop}:∀{l₁:List α} {l₂:List β},Paired F l₁ l₂->(∀a b,F a b->G a b)->Paired G l₁ l₂
 |_,_,.nil,_=> .nil
 |_,_,.cons r t,f=> .cons (f _ _ r) (Paired.mapP t f)
theorem qbg.stay (x:qbg P w H h a o) (k:∀b u,(b=a\/H b=some (.own a))->h.get? b=some u->h'.get? b=some u)
  (ho:∀b,H b=some (.own a)->H' b=some (.own a)) (ht:∀b xs,H b=some (.tup xs)->H' b=some (.tup xs)):qbg P w H' h' a o:=by
 induction o with
 |lst xs=>obtain⟨z,its,n,r,e⟩:=x;exact⟨z,its,n,r,k _ _ (.inl rfl) e⟩
 |tup xs=>obtain⟨z,its,r,ob,e,c⟩:=x;exact⟨z,its,r,ob,k _ _ (.inl rfl) e,c⟩
 |dK kvs=>obtain⟨z,y,vs,r,ob,es,ep,e,c⟩:=x;exact⟨z,y,vs,r,ob,es,ep,k _ _ (.inl rfl) e,c⟩
 |dT kvs=>
  obtain⟨z,y,xs,r,ob,es,ep,e,c⟩:=x
  exact⟨z,y,xs,Paired.mapP r fun p q z=>⟨z.1,ht _ _ z.2.1,z.2.2⟩,ob,es,ep,k _ _ (.inl rfl) e,c⟩
 |set S n=>obtain⟨ob,es,ep,t,e,c⟩:=x;exact⟨ob,es,ep,t,k _ _ (.inl rfl) e,c⟩
 |ins C dx fs=>
  obtain⟨d,z,ne,e,mA,⟨od,es,ep,e2,c⟩,r⟩:=x
  exact⟨ho _ d,z,ne,k _ _ (.inl rfl) e,mA,⟨od,es,ep,k _ _ (.inr d) e2,c⟩,r⟩
 |own y=>obtain⟨ob,e⟩:=x;exact⟨ob,k _ _ (.inl rfl) e⟩
 |xd fs=>obtain⟨mA,⟨od,es,ep,e,c⟩,r⟩:=x;exact⟨mA,⟨od,es,ep,k _ _ (.inl rfl) e,c⟩,r⟩
 |rng lo hi=>obtain⟨t,u,v,e⟩:=x;exact⟨t,u,v,k _ _ (.inl rfl) e⟩
 |frz ob u ih=>obtain⟨e,q⟩:=x;exact⟨k _ _ (.inl rfl) e,ih q⟩
 |tbl ps=>
  have e:h.get? a=some {cls:=.none,data:=.fields ps}:=x
  show h'.get? a=some {cls:=.none,data:=.fields ps}
  exact k a _ (.inl rfl) e
 |met f y=>
  have e:h.get? a=some (PySem.W.methodObj (.ref f) (.ref y)):=x
  show h'.get? a=some (PySem.W.methodObj (.ref f) (.ref y))
  exact k a _ (.inl rfl) e
 |ext φ=>obtain⟨p,⟨o,e⟩,st⟩:=x;exact⟨st _ _ p fun o q=>k _ _ (.inl rfl) q,⟨o,k _ _ (.inl rfl) e⟩,st⟩
theorem HOk.lt (x:HOk P w H h) (e:H a=some o):a < h.objs.size:=(x a o e).lt
theorem HOk.fresh (x:HOk P w H h) (e:h.objs.size<=a):H a=none:=by
 cases q:H a with
 |none=>rfl
 |some u=>exact absurd (Nat.lt_of_lt_of_le (x.lt q) e) (Nat.lt_irrefl _)
theorem HOk.kept (x:HOk P w H h) (k:∀b u,h.get? b=some u->h'.get? b=some u):HOk P w H h':=fun a o e=>
 (x a o e).stay (fun b u _ q=>k b u q) (fun _ q=>q) fun _ _ q=>q
theorem HOk.laid (x:HOk P w H h) (k:∀b u,h.get? b=some u->h'.get? b=some u) (hp:h.objs.size<=a) (new:qbg P w (upd H a o) h' a o):HOk P w (upd H a o) h':=fun b u e=>by
 have hn:=x.fresh hp
 by_cases hb:b=a
 .subst hb;rw [qa1] at e;cases e;exact new
 .rw [qa9 hb] at e
  exact(x b u e).stay (fun c v _ q=>k c v q) (fun c q=>by rw [qa9 (qa8 q hn)];exact q) fun c xs q=>by rw [qa9 (qa8 q hn)];exact q
end
def Rd (H:Hp) (a:Addr) (u:HO):Prop:=H a=some u\/∃o,H a=some (.frz o u)
theorem Rd.of {H:Hp} {a:Addr} {u:HO} (h:H a=some u):Rd H a u:=.inl h
theorem Rd.ok {P:Program} {w:World} {H:Hp} {h:Heap} {a:Addr} {u:HO} (r:Rd H a u) (x:HOk P w H h):qbg P w H h a u:=by
 rcases r with r|⟨o,r⟩
 .exact x a u r
 .obtain⟨_,q⟩:=x a _ r
  exact q
def Mut:Option HO->Prop
 |some (.lst _)=>True
 |some (.dK _)=>True
 |some (.dT _)=>True
 |some (.set _ _)=>True
 |some (.ins _ _ _)=>True
 |some (.ext _)=>True
 |_=>False
section
variable {P: Program} {w: World} {H: Hp} {h h': Heap} {x e: Addr} {o': HO}
theorem HOk.write (ok:HOk P w H h) (mu:Mut (H x)) (he:e=x\/H e=some (.own x)) (k:∀b u,b≠e->h.get? b=some u->h'.get? b=some u) (heo:∃u,h'.get? e=some u)
  (new:qbg P w (upd H x o') h' x o'):HOk P w (upd H x o') h':=fun b u q=>by
 have nown:∀c y,H c=some (.own y)->c≠x:=fun c y r z=>by subst z;rw [r] at mu;exact mu
 have ntup:∀c xs,H c=some (.tup xs)->c≠x:=fun c xs r z=>by subst z;rw [r] at mu;exact mu
 by_cases hb:b=x
 .subst hb;rw [qa1] at q;cases q;exact new
 .rw [qa9 hb] at q
  by_cases hbe:b=e
  .have q':H b=some (.own x):=by
    rcases he with z|z
    .exact absurd (hbe.trans z) hb
    .rw [hbe];exact z
   rw [q] at q';cases q'
   obtain⟨v,hv⟩:=heo
   exact⟨v,by rw [hbe];exact hv⟩
  .refine(ok b u q).stay (fun c v hc r=>k c v ?_ r) (fun c r=>by rw [qa9 (nown c b r)];exact r) fun c xs r=>by rw [qa9 (ntup c xs r)];exact r
   rcases hc with rfl|hc
   .exact hbe
   .rintro rfl
    rcases he with z|z
    .exact nown c b hc z
    .rw [hc] at z;cases z;exact hb rfl
end
structure Un (fs ex:List Addr) (H H':Hp) (h h':Heap):Prop where
 keep:∀b o,h.get? b=some o->H b=none->b∉fs->b∉ex->h'.get? b=some o
 slot:∀b o,h.get? b=some o->H b=none->b∈fs->b∉ex->∃sl,h'.get? b=some {o with slots:=sl}
 free:∀b o,h.get? b=some o->H b=none->b∉ex->H' b=none
 there:∀b o,h.get? b=some o->b∉ex->∃o',h'.get? b=some o'
 tups:∀b xs,H b=some (.tup xs)->H' b=some (.tup xs)
 frzs:∀b o u,H b=some (.frz o u)->H' b=some (.frz o u)
 tbls:∀b ps,H b=some (.tbl ps)->∃more,H' b=some (.tbl (ps++more))
section
variable {fs ex: List Addr} {H H1: Hp} {h h1 h': Heap} {a x e: Addr} {o: HO}
theorem Un.any (u:Un fs ex H H1 h h1) {b:Addr} {ob:Obj} (q:h.get? b=some ob) (n:H b=none) (hx:b∉ex):∃sl,h1.get? b=some {ob with slots:=sl}:=by
 by_cases hb:b∈fs
 .exact u.slot b ob q n hb hx
 .exact⟨ob.slots,u.keep b ob q n hb hx⟩
theorem Un.kept (k:∀b u,h.get? b=some u->h'.get? b=some u):Un fs ex H H h h':=
 ⟨fun b ob q _ _ _=>k b ob q,fun b ob q _ _ _=>⟨ob.slots,k b ob q⟩,fun _ _ _ n _=>n,fun b ob q _=>⟨ob,k b ob q⟩,fun _ _ q=>q,fun _ _ _ q=>q,fun _ ps q=>⟨#[],by rw [q];simp⟩⟩
theorem Un.refl:Un fs ex H H h h:=Un.kept fun _ _ q=>q
theorem Un.laid (k:∀b u,h.get? b=some u->h'.get? b=some u) (hp:h.objs.size<=a) (hn:H a=none):Un fs ex H (upd H a o) h h' where
 keep:=fun b u q _ _ _=>k b u q
 slot:=fun b u q _ _ _=>⟨u.slots,k b u q⟩
 free:=fun b u q n _=>by rw [qa9 (Nat.ne_of_lt (Nat.lt_of_lt_of_le (Heap.lt_size q) hp))];exact n
 there:=fun b u q _=>⟨u,k b u q⟩
 tups:=fun b xs q=>by rw [qa9 (qa8 q hn)];exact q
 frzs:=fun b u xs q=>by rw [qa9 (qa8 q hn)];exact q
 tbls:=fun b ps q=>⟨#[],by rw [qa9 (qa8 q hn),q];simp⟩
theorem Un.write (mu:Mut (H x)) (he:e=x\/H e=some (.own x)) (k:∀b u,b≠e->h.get? b=some u->h'.get? b=some u) (heo:∃u,h'.get? e=some u):Un fs ex H (upd H x o) h h':=by
 have hx:∀b,H b=none->b≠x:=fun b n z=>by subst z;rw [n] at mu;exact mu
 have hb:∀b,H b=none->b≠e:=fun b n z=>by
  subst z
  rcases he with r|r
  .exact hx b n r
  .rw [n] at r;cases r
 have hm:∀b u,H b=some u->¬Mut (some u)->b≠x:=fun b u q nm z=>by subst z;rw [q] at mu;exact nm mu
 refine⟨fun b u q n _ _=>k b u (hb b n) q,fun b u q n _ _=>⟨u.slots,k b u (hb b n) q⟩,fun b u q n _=>by rw [qa9 (hx b n)];exact n,fun b u q _=>?_,
  fun b xs q=>by rw [qa9 (hm b _ q fun z=>z)];exact q,fun b u xs q=>by rw [qa9 (hm b _ q fun z=>z)];exact q,fun b ps q=>⟨#[],by rw [qa9 (hm b _ q fun z=>z),q];simp⟩⟩
 by_cases hbe:b=e
 .subst hbe;exact heo
 .exact⟨u,k b u hbe q⟩
end
def trk (h:Heap) (H:Hp):List Addr:=(List.range h.objs.size).filter fun a=>(H a).isSome
def hidT (h:Heap) (H:Hp):Heap:=PySem.W.hideAll h (trk h H)
theorem hidT_size (h:Heap) (H:Hp):(hidT h H).objs.size=h.objs.size:=PySem.W.hideAll_size _ _
theorem hidT_get {h:Heap} {H:Hp} {b:Addr} {o:Obj} (e:h.get? b=some o) (n:H b=none):(hidT h H).get? b=some o:=
 PySem.W.hideAll_get _ e fun hm=>by
  have q:(H b).isSome=true:=(mem_filter.mp hm).2
  rw [n] at q;simp at q
theorem of_hidT {h:Heap} {H:Hp} {b:Addr} {o:Obj} (e:(hidT h H).get? b=some o):h.get? b=some o/\H b=none:=by
 have e':h.get? b=some o:=PySem.W.of_hideAll (trk h H) e
 refine⟨e',?_⟩
 cases q:H b with
 |none=>rfl
 |some x=>
  have hm:b∈trk h H:=mem_filter.mpr ⟨mem_range.mpr (Heap.lt_size e'),by simp [q]⟩
  have z:(hidT h H).get? b=none:=PySem.W.hideAll_none (trk h H) hm
  rw [z] at e;cases e
def allNews (g h:Heap) (L:Addr):List (Addr × Obj):=(List.range h.objs.size).filterMap fun a=>if a=L\/(g.get? a).isSome=true then none else (h.get? a).map fun o=>(a,o)
def rest (g h:Heap) (L d:Addr):List (Addr × Obj):=(allNews g h L).filter fun p=>decide (p.1≠d)
end L2
namespace L2
open PySem PySem.Spec PyProof.Rows
structure Mod (K:Frag) (mg:Str->Option Value) (base:Heap):Prop where
 kin:K.In base
 glob:base.Ns mainGlobals mg
 blt:∃mb,base.Ns builtinsNs mb/\∀x:Str,x≠"__name__"->mb x=bootBuiltins x
 nolimit:base.NoLimit
structure Cx where
 prog:Program
 w:World
 K:Frag
 mg:Str->Option Value
 base:Heap
 A:Around
 N:List Str
 s₀:Shared
 H₀:Hp
 env:Env
 outer:List Env
 stack:List Env
 ex:List Addr
 fn:Str->Bool
 calm:Bool
 pn:List (Addr × Obj)
 xe:Value->Shared->Prop
def frs (l:List Env):List Addr:=l.filterMap (·.frame)
abbrev Cx.fs (X:Cx):List Addr:=frs X.outer
def Vis (sc:Scope) (x:Str):Prop:=sc.names.lookup x=some .local\/sc.names.lookup x=some .cell\/sc.names.lookup x=some .free
def Loc (sc:Scope) (x:Str):Prop:=sc.names.lookup x=some .local\/sc.names.lookup x=some .cell
def Look (env:Env) (h:Heap) (m:Str->Option Value) (x:Str) (u:Value):Prop:=
 (env.kindOf x=some .local/\m x=some u)\/((env.kindOf x=some .cell\/env.kindOf x=some .free)/\∃c,env.cells.lookup x=some c/\h.IsCell c (some u))
structure Cx.Ok (X:Cx):Prop where
 mod:Mod X.K X.mg X.base
 kind:X.env.scope.kind=.function
 glob:X.env.globals=mainGlobals
 blt:X.env.builtins=builtinsNs
 above:X.s₀.heap.objs.size<=X.env.locals
 inj:∀x y c,X.env.cells.lookup x=some c->X.env.cells.lookup y=some c->x=y
 has:∀x,(X.env.kindOf x=some .cell\/X.env.kindOf x=some .free)->∃c,X.env.cells.lookup x=some c
 cab:∀x c,X.fn x=true->X.env.cells.lookup x=some c->X.s₀.heap.objs.size<=c
 hd:X.calm=true->X.A.handled=none
 frames:X.A.frames=some X.stack
 stk:X.stack=X.outer\/(X.stack=X.env :: X.outer/\X.env.frame=some X.env.locals)
 exf:∀b∈X.ex,b≠X.env.locals/\∀x c,X.env.cells.lookup x=some c->c≠b
 bs:∀b o,X.base.get? b=some o->X.s₀.heap.get? b=some o/\X.H₀ b=none
 bsz:X.base.objs.size<=X.s₀.heap.objs.size
 noex:∀b o,X.base.get? b=some o->b∉X.ex
 exfs:∀b∈X.ex,b∉X.fs
 funs:X.s₀.heap.FunFrames X.base X.outer
 frf:∀b∈X.fs,X.H₀ b=none
structure Inv (X:Cx) (pins:List (Addr × Obj)) (σ:List (Option V)) (H:Hp) (s:Shared):Prop where
 ok:X.Ok
 os:s.os=X.s₀.os
 bare:AllBare s.gens
 base:Un X.fs X.ex X.H₀ H X.s₀.heap s.heap
 loc:∃m,s.heap.Ns X.env.locals m/\∀(i:Nat) (x:Str) (v:V),X.N[i]?=some x->σ[i]?=some (some v)->Vis X.env.scope x->∃u,qb6 v u/\Look X.env s.heap m x u
 cell:∀x c,X.env.cells.lookup x=some c->∃v,s.heap.IsCell c v
 free:H X.env.locals=none
 freeC:∀x c,X.env.cells.lookup x=some c->H c=none
 pin:∀p∈X.pn++pins,s.heap.get? p.1=some p.2/\H p.1=none/\p.1≠X.env.locals/\p.1∉X.fs/\∀v,p.2.data≠ .cell v
 hok:HOk X.prog X.w H s.heap
 len:σ.length=X.N.length
section
variable {X: Cx} {pins: List (Addr × Obj)} {σ: List (Option V)} {H H': Hp} {s: Shared} {h': Heap}
theorem Cx.Ok.nofr (ok:X.Ok) {b:Addr} {o:Obj} (e:X.base.get? b=some o):b∉X.fs:=fun hb=>by
 have:=(ok.funs.mem hb).1
 rw [e] at this;cases this
theorem Inv.bs (I:Inv X pins σ H s):∀b o,X.base.get? b=some o->s.heap.get? b=some o/\H b=none:=fun b o e=>
 ⟨I.base.keep b o (I.ok.bs b o e).1 (I.ok.bs b o e).2 (I.ok.nofr e) (I.ok.noex b o e),I.base.free b o (I.ok.bs b o e).1 (I.ok.bs b o e).2 (I.ok.noex b o e)⟩
theorem Inv.bk (I:Inv X pins σ H s):∀b o,X.base.get? b=some o->s.heap.get? b=some o:=fun b o e=>(I.bs b o e).1
theorem Inv.mod (I:Inv X pins σ H s):Mod X.K X.mg X.base:=I.ok.mod
theorem Inv.kIn (I:Inv X pins σ H s):X.K.In s.heap:=I.ok.mod.kin.keeps I.bk
theorem Inv.lt (I:Inv X pins σ H s):X.env.locals < s.heap.objs.size:=let ⟨_,hn,_⟩:=I.loc;hn.lt
theorem Inv.sz (I:Inv X pins σ H s):X.s₀.heap.objs.size<=s.heap.objs.size:=Nat.le_trans I.ok.above (Nat.le_of_lt I.lt)
theorem Inv.nofs (I:Inv X pins σ H s) {a:Addr} (h:s.heap.objs.size<=a):a∉X.fs:=fun hb=>by
 obtain⟨_,o,ho,_⟩:=I.ok.funs.mem hb
 exact absurd (Nat.lt_of_lt_of_le (Heap.lt_size ho) (Nat.le_trans I.sz h)) (Nat.lt_irrefl _)
theorem Inv.cne (I:Inv X pins σ H s):∀x c,X.env.cells.lookup x=some c->c≠X.env.locals:=fun x c e z=>by
 obtain⟨v,o,ho,hd⟩:=I.cell x c e
 obtain⟨m,⟨o',es,ep,ho',hd',_⟩,_⟩:=I.loc
 rw [z,ho'] at ho;cases ho;rw [hd'] at hd;cases hd
theorem Inv.funs (I:Inv X pins σ H s):s.heap.FunFrames X.base X.outer:=by
 have all:∀(l:List Env),(∀b∈frs l,b∈X.fs)->X.s₀.heap.FunFrames X.base l->s.heap.FunFrames X.base l:=by
  intro l
  induction l with
  |nil=>intro _ _;trivial
  |cons env r ih=>
   intro hs hl
   obtain⟨hk,⟨L,o,hf,hn,ho,hd⟩,hr⟩:=hl
   have hL:L∈X.fs:=hs L (by unfold frs;rw [List.filterMap_cons,hf];exact mem_cons_self)
   obtain⟨sl,e⟩:=I.base.slot L o ho (I.ok.frf L hL) hL fun z=>I.ok.exfs L z hL
   exact⟨hk,⟨L,_,hf,hn,e,hd⟩,ih (fun b hb=>hs b (by unfold frs;rw [List.filterMap_cons,hf];exact mem_cons_of_mem _ hb)) hr⟩
 exact all X.outer (fun _ hb=>hb) I.ok.funs
theorem Inv.stack (I:Inv X pins σ H s):s.heap.FunFrames X.base X.stack:=by
 rcases I.ok.stk with e|⟨e,hf⟩
 .rw [e];exact I.funs
 .rw [e]
  obtain⟨m,hn,_⟩:=I.loc
  refine .cons (by rw [I.ok.kind];decide) hf hn ?_ I.funs
  exact Heap.get?_none_of_le (Nat.le_trans I.ok.bsz I.ok.above)
theorem Inv.stkSub (I:Inv X pins σ H s):∀b∈frs X.stack,b∈X.env.locals :: X.fs:=fun b hb=>by
 rcases I.ok.stk with e|⟨e,hf⟩
 .rw [e] at hb;exact mem_cons_of_mem _ hb
 .rw [e] at hb
  unfold frs at hb
  rw [List.filterMap_cons,hf] at hb
  exact hb
theorem Inv.stkFree (I:Inv X pins σ H s):∀b∈frs X.stack,H b=none:=fun b hb=>by
 rcases mem_cons.mp (I.stkSub b hb) with e|hb
 .rw [e];exact I.free
 .obtain⟨_,o,ho,_⟩:=I.ok.funs.mem hb
  exact I.base.free b o ho (I.ok.frf b hb) fun z=>I.ok.exfs b z hb
theorem Inv.step {g':Array GenState} {t':Nat} {d':Drawn} {ch:List Addr} (I:Inv X pins σ H s)
  (hch:∀b∈ch,(b∈X.ex\/X.s₀.heap.objs.size<=b)/\b≠X.env.locals/\(∀x c,X.env.cells.lookup x=some c->c≠b)/\∀p∈X.pn++pins,p.1≠b)
  (keep:∀b o,b≠X.env.locals->b∉X.fs->b∉ch->s.heap.get? b=some o->H b=none->h'.get? b=some o)
  (slot:∀b o,b≠X.env.locals->b∈X.fs->b∉ch->s.heap.get? b=some o->H b=none->∃sl,h'.get? b=some {o with slots:=sl}) (free:∀b o,b∉ch->s.heap.get? b=some o->H b=none->H' b=none)
  (there:∀b o,b∉ch->s.heap.get? b=some o->∃o',h'.get? b=some o')
  (tups:∀b xs,H b=some (.tup xs)->H' b=some (.tup xs)) (frzs:∀b o u,H b=some (.frz o u)->H' b=some (.frz o u)) (tbls:∀b ps,H b=some (.tbl ps)->∃more,H' b=some (.tbl (ps++more)))
  (ns:∀m,s.heap.Ns X.env.locals m->h'.Ns X.env.locals m) (hok:HOk X.prog X.w H' h') (hg:AllBare g'):
  Inv X pins σ H' {s with heap:=h',gens:=g',drawn:=d',toks:=t'}:=by
 have neL:∀b o,X.s₀.heap.get? b=some o->b≠X.env.locals:=fun b o e=>Nat.ne_of_lt (Nat.lt_of_lt_of_le (Heap.lt_size e) I.ok.above)
 have neC:∀b o,X.s₀.heap.get? b=some o->b∉X.ex->b∉ch:=fun b o e hx hb=>by
  rcases(hch b hb).1 with z|z
  .exact hx z
  .exact absurd (Nat.lt_of_lt_of_le (Heap.lt_size e) z) (Nat.lt_irrefl _)
 have cellK:∀x c,X.env.cells.lookup x=some c->∀v,s.heap.IsCell c v->h'.IsCell c v:=fun x c e v ⟨o,ho,hd⟩=>by
  have nch:c∉ch:=fun z=>(hch c z).2.2.1 x c e rfl
  by_cases hc:c∈X.fs
  .obtain⟨sl,q⟩:=slot c o (I.cne x c e) hc nch ho (I.freeC x c e)
   exact⟨_,q,hd⟩
  .exact⟨o,keep c o (I.cne x c e) hc nch ho (I.freeC x c e),hd⟩
 refine⟨I.ok,I.os,hg,⟨fun b o e n hb hx=>?_,fun b o e n hb hx=>?_,fun b o e n hx=>?_,fun b o e hx=>?_,fun b xs e=>tups b xs (I.base.tups b xs e),fun b o xs e=>frzs b o xs (I.base.frzs b o xs e),fun b ps e=>?_⟩,?_,fun x c e=>?_,?_,fun x c e=>?_,fun p hp=>?_,hok,I.len⟩
 .exact keep b o (neL b o e) hb (neC b o e hx) (I.base.keep b o e n hb hx) (I.base.free b o e n hx)
 .obtain⟨sl,e1⟩:=I.base.slot b o e n hb hx
  obtain⟨sl',e2⟩:=slot b _ (neL b o e) hb (neC b o e hx) e1 (I.base.free b o e n hx)
  exact⟨sl',e2⟩
 .obtain⟨o',e1⟩:=I.base.there b o e hx
  exact free b o' (neC b o e hx) e1 (I.base.free b o e n hx)
 .obtain⟨o',e1⟩:=I.base.there b o e hx
  exact there b o' (neC b o e hx) e1
 .obtain⟨m1,e1⟩:=I.base.tbls b ps e
  obtain⟨m2,e2⟩:=tbls b _ e1
  exact⟨m1++m2,by rw [e2,Array.append_assoc]⟩
 .obtain⟨m,hn,hl⟩:=I.loc
  refine⟨m,ns m hn,fun i x v e1 e2 e3=>?_⟩
  obtain⟨u,r,l⟩:=hl i x v e1 e2 e3
  refine⟨u,r,?_⟩
  rcases l with l|⟨k,c,e,z⟩
  .exact .inl l
  .exact .inr ⟨k,c,e,cellK x c e _ z⟩
 .obtain⟨v,z⟩:=I.cell x c e
  exact⟨v,cellK x c e v z⟩
 .obtain⟨m,⟨o,_,_,ho,_⟩,_⟩:=I.loc
  exact free _ o (fun z=>(hch _ z).2.1 rfl) ho I.free
 .obtain⟨v,o,ho,hd⟩:=I.cell x c e
  exact free c o (fun z=>(hch c z).2.2.1 x c e rfl) ho (I.freeC x c e)
 .obtain⟨e,n,ne,nf,d⟩:=I.pin p hp
  have nch:p.1∉ch:=fun z=>(hch p.1 z).2.2.2 p hp rfl
  exact⟨keep p.1 p.2 ne nf nch e n,free p.1 p.2 nch e n,ne,nf,d⟩
theorem Inv.un {t':Nat} (I:Inv X pins σ H s) (u:Un X.fs [] H H' s.heap h') (hok:HOk X.prog X.w H' h'):Inv X pins σ H' {s with heap:=h',toks:=t'}:=by
 obtain⟨m,⟨o,es,ep,ho,r⟩,_⟩:=id I.loc
 obtain⟨sl,hL⟩:=u.any ho I.free (by simp)
 exact I.step (g':=s.gens) (d':=s.drawn) (ch:=[]) (fun _ z=>nomatch z) (fun b o _ hb _ e n=>u.keep b o e n hb (by simp)) (fun b o _ hb _ e n=>u.slot b o e n hb (by simp)) (fun b o _ e n=>u.free b o e n (by simp)) (fun b o _ e=>u.there b o e (by simp)) u.tups u.frzs u.tbls (fun m' hm=>by
  obtain⟨o',es',ep',ho',r'⟩:=hm
  rw [ho] at ho';cases ho'
  exact⟨_,es',ep',hL,r'⟩) hok I.bare
theorem Inv.call {g':Array GenState} {t':Nat} {d':Drawn} {ch:List Addr} (I:Inv X pins σ H s) (u:Un (frs X.stack) ch H H' s.heap h') (hok:HOk X.prog X.w H' h') (hg:AllBare g')
  (hch:∀b∈ch,(b∈X.ex\/X.s₀.heap.objs.size<=b)/\b≠X.env.locals/\(∀x c,X.env.cells.lookup x=some c->c≠b)/\∀p∈X.pn++pins,p.1≠b):
  Inv X pins σ H' {s with heap:=h',gens:=g',drawn:=d',toks:=t'}:=by
 obtain⟨m,⟨o,es,ep,ho,r⟩,_⟩:=id I.loc
 obtain⟨sl,hL⟩:=u.any ho I.free fun z=>(hch _ z).2.1 rfl
 exact I.step (ch:=ch) hch (fun b o hL hb hc e n=>u.keep b o e n (fun z=>(mem_cons.mp (I.stkSub b z)).elim hL hb) hc) (fun b o _ _ hc e n=>u.any e n hc) (fun b o hc e n=>u.free b o e n hc) (fun b o hc e=>u.there b o e hc) u.tups u.frzs u.tbls (fun m' hm=>by
  obtain⟨o',es',ep',ho',r'⟩:=hm
  rw [ho] at ho';cases ho'
  exact⟨_,es',ep',hL,r'⟩) hok hg
theorem Inv.turned {t':Nat} {it:Addr} (I:Inv X pins σ H s) (k:∀b o,b≠it->s.heap.get? b=some o->h'.get? b=some o) (hn:H it=none) (hL:it≠X.env.locals)
  (h1:it∈X.ex\/X.s₀.heap.objs.size<=it) (h2:∀x c,X.env.cells.lookup x=some c->c≠it) (h3:∀p∈X.pn++pins,p.1≠it):Inv X pins σ H {s with heap:=h',toks:=t'}:=by
 have nit:∀b u,H b=some u->b≠it:=fun b u e z=>by rw [z,hn] at e;cases e
 refine I.step (g':=s.gens) (d':=s.drawn) (ch:=[it]) (fun b hb=>?_) (fun b o _ _ hc e _=>k b o (fun z=>hc (by simp [z])) e) (fun b o _ _ hc e _=>⟨o.slots,k b o (fun z=>hc (by simp [z])) e⟩) (fun _ _ _ _ n=>n)
  (fun b o hc e=>⟨o,k b o (fun z=>hc (by simp [z])) e⟩) (fun _ _ e=>e) (fun _ _ _ e=>e) (fun b ps e=>⟨#[],by rw [e];simp⟩) (fun m hm=>?_) (fun b u e=>?_) I.bare
 .have e:b=it:=by simpa using hb
  subst e
  exact⟨h1,hL,h2,h3⟩
 .obtain⟨o,es,ep,ho,r⟩:=hm
  exact⟨o,es,ep,k _ o (Ne.symm hL) ho,r⟩
 .refine(I.hok b u e).stay (fun c v hc q=>k c v ?_ q) (fun _ q=>q) fun _ _ q=>q
  rcases hc with z|z
  .rw [z];exact nit b u e
  .exact nit c _ z
theorem Inv.tok (I:Inv X pins σ H s) (t:Nat):Inv X pins σ H {s with toks:=t}:=I.un (h':=s.heap) (t':=t) Un.refl I.hok
theorem Inv.kept {t':Nat} (I:Inv X pins σ H s) (k:∀b u,s.heap.get? b=some u->h'.get? b=some u):Inv X pins σ H {s with heap:=h',toks:=t'}:=I.un (Un.kept k) (I.hok.kept k)
theorem Inv.laid {a:Addr} {o:HO} {t':Nat} (I:Inv X pins σ H s) (k:∀b u,s.heap.get? b=some u->h'.get? b=some u) (hp:s.heap.objs.size<=a) (new:qbg X.prog X.w (upd H a o) h' a o):
  Inv X pins σ (upd H a o) {s with heap:=h',toks:=t'}:=I.un (Un.laid k hp (I.hok.fresh hp)) (I.hok.laid k hp new)
theorem Inv.write {x e:Addr} {o:HO} {t':Nat} (I:Inv X pins σ H s) (mu:Mut (H x)) (he:e=x\/H e=some (.own x)) (k:∀b u,b≠e->s.heap.get? b=some u->h'.get? b=some u) (heo:∃u,h'.get? e=some u)
  (new:qbg X.prog X.w (upd H x o) h' x o):Inv X pins σ (upd H x o) {s with heap:=h',toks:=t'}:=I.un (Un.write mu he k heo) (I.hok.write mu he k heo new)
theorem Inv.pins_of {pins':List (Addr × Obj)} (I:Inv X pins σ H s) (h:∀p∈pins',s.heap.get? p.1=some p.2/\H p.1=none/\p.1≠X.env.locals/\p.1∉X.fs/\∀v,p.2.data≠ .cell v):Inv X pins' σ H s:=
 ⟨I.ok,I.os,I.bare,I.base,I.loc,I.cell,I.free,I.freeC,fun p hp=>(mem_append.mp hp).elim (fun z=>I.pin p (mem_append_left _ z)) (h p),I.hok,I.len⟩
theorem qfo {N:List Str} (hN:N.Nodup) {i j:Nat} {x:Str} (a:N[i]?=some x) (b:N[j]?=some x):i=j:=by
 obtain⟨h1,e1⟩:=List.getElem?_eq_some_iff.mp a
 obtain⟨h2,e2⟩:=List.getElem?_eq_some_iff.mp b
 exact(List.getElem_inj hN).mp (e1.trans e2.symm)
theorem store_ok2 {M:Model} {A:Around} {E:Value->Shared->Prop} {i:Nat} {x:Str} {v:V} {u:Value} {Q:Unit->Shared->Prop} (I:Inv X pins σ H s) (hN:X.N.Nodup) (hi:X.N[i]?=some x) (hx:Loc X.env.scope x) (r:qb6 v u)
  (h:∀s',Inv X pins (σ.set i (some v)) H s'->(∃a,Heap.SameBut a s.heap s'.heap/\(a=X.env.locals\/X.env.cells.lookup x=some a))->Q () s') (hf:X.fn x=true\/X.env.scope.names.lookup x=some .local:=by first|exact .inl rfl|exact .inr rfl|assumption):wpAny M A (storeName X.env x u) Q E s:=by
 obtain⟨m,hn,hl⟩:=id I.loc
 have hcls:(X.env.scope.kind==.class ||(X.env.scope.kind==.module && X.env.locals !=X.env.globals))=false:=by rw [I.ok.kind];rfl
 have hiσ:i < σ.length:=by rw [I.len];exact(List.getElem?_eq_some_iff.mp hi).1
 have cne:=I.cne
 have tracked:∀{a:Addr} {h':Heap},(∃o,s.heap.get? a=some o/\H a=none)->Heap.SameBut a s.heap h'->HOk X.prog X.w H h':=fun {a h'} ha hs b ob e=>by
  obtain⟨_,_,hfree⟩:=ha
  refine(I.hok b ob e).stay (fun c w' hc q=>(hs.2 c ?_).trans q) (fun _ q=>q) fun _ _ q=>q
  rintro rfl
  rcases hc with rfl|hc
  .rw [hfree] at e;cases e
  .rw [hfree] at hc;cases hc
 rcases hx with hk|hk
 .refine wpAny_storeName_local hk hn (fun h' hn' hs=>?_) hcls
  obtain⟨oL,_,_,hoL,_⟩:=id hn
  refine h _ ⟨I.ok,I.os,I.bare,⟨fun b o e n hb hx=>?_,fun b o e n hb hx=>?_,I.base.free,fun b o e hx=>?_,I.base.tups,I.base.frzs,I.base.tbls⟩,⟨_,hn',fun j y v' e1 e2 e3=>?_⟩,fun y c e=>?_,I.free,I.freeC,fun p hp=>?_,tracked ⟨oL,hoL,I.free⟩ hs,by simpa using I.len⟩ ⟨_,hs,.inl rfl⟩
  .exact(hs.2 b (Nat.ne_of_lt (Nat.lt_of_lt_of_le (Heap.lt_size e) I.ok.above))).trans (I.base.keep b o e n hb hx)
  .obtain⟨sl,e1⟩:=I.base.slot b o e n hb hx
   exact⟨sl,(hs.2 b (Nat.ne_of_lt (Nat.lt_of_lt_of_le (Heap.lt_size e) I.ok.above))).trans e1⟩
  .obtain⟨o',e1⟩:=I.base.there b o e hx
   exact⟨o',(hs.2 b (Nat.ne_of_lt (Nat.lt_of_lt_of_le (Heap.lt_size e) I.ok.above))).trans e1⟩
  .by_cases hj:j=i
   .subst hj
    rw [hi] at e1;cases e1
    rw [List.getElem?_set_self hiσ] at e2
    cases e2
    exact⟨u,r,.inl ⟨hk,by simp⟩⟩
   .rw [List.getElem?_set_ne (Ne.symm hj)] at e2
    obtain⟨u',r',q⟩:=hl j y v' e1 e2 e3
    refine⟨u',r',?_⟩
    rcases q with ⟨k,e⟩ |⟨k,c,e,z⟩
    .refine .inl ⟨k,?_⟩
     have:y≠x:=fun e=>hj (qfo hN e1 (e ▸ hi))
     simp [this,e]
    .exact .inr ⟨k,c,e,z.sameBut hs (cne y c e)⟩
  .obtain⟨w',z⟩:=I.cell y c e
   exact⟨w',z.sameBut hs (cne y c e)⟩
  .obtain⟨e,n,ne,nf,d⟩:=I.pin p hp
   exact⟨(hs.2 p.1 ne).trans e,n,ne,nf,d⟩
 .have hfn:X.fn x=true:=by
   rcases hf with z|z
   .exact z
   .rw [z] at hk;cases hk
  obtain⟨c,hc⟩:=I.ok.has x (.inl hk)
  obtain⟨w',z⟩:=I.cell x c hc
  refine wpAny_storeName_cell I.ok.kind hk hc z (fun h' hc' hs=>?_)
  obtain⟨oc,hoc,hocd⟩:=id z
  refine h {s with heap:=h'} ⟨I.ok,I.os,I.bare,⟨fun b o e n hb hx=>?_,fun b o e n hb hx=>?_,I.base.free,fun b o e hx=>?_,I.base.tups,I.base.frzs,I.base.tbls⟩,⟨m,hn.sameBut hs (Ne.symm (cne x c hc)),fun j y v' e1 e2 e3=>?_⟩,fun y c' e=>?_,I.free,I.freeC,fun p hp=>?_,tracked ⟨oc,hoc,I.freeC x c hc⟩ hs,by simpa using I.len⟩ ⟨c,hs,.inr hc⟩
  .exact(hs.2 b (Nat.ne_of_lt (Nat.lt_of_lt_of_le (Heap.lt_size e) (I.ok.cab x c hfn hc)))).trans (I.base.keep b o e n hb hx)
  .obtain⟨sl,e1⟩:=I.base.slot b o e n hb hx
   exact⟨sl,(hs.2 b (Nat.ne_of_lt (Nat.lt_of_lt_of_le (Heap.lt_size e) (I.ok.cab x c hfn hc)))).trans e1⟩
  .obtain⟨o',e1⟩:=I.base.there b o e hx
   exact⟨o',(hs.2 b (Nat.ne_of_lt (Nat.lt_of_lt_of_le (Heap.lt_size e) (I.ok.cab x c hfn hc)))).trans e1⟩
  .by_cases hj:j=i
   .subst hj
    rw [hi] at e1;cases e1
    rw [List.getElem?_set_self hiσ] at e2
    cases e2
    exact⟨u,r,.inr ⟨.inl hk,c,hc,hc'⟩⟩
   .rw [List.getElem?_set_ne (Ne.symm hj)] at e2
    obtain⟨u',r',q⟩:=hl j y v' e1 e2 e3
    refine⟨u',r',?_⟩
    rcases q with q|⟨k,c',e,z'⟩
    .exact .inl q
    .refine .inr ⟨k,c',e,z'.sameBut hs ?_⟩
     rintro rfl
     exact hj (qfo hN e1 (I.ok.inj _ _ _ e hc ▸ hi))
  .by_cases hcc:c'=c
   .subst hcc;exact⟨_,hc'⟩
   .obtain⟨w2,z2⟩:=I.cell y c' e
    exact⟨w2,z2.sameBut hs hcc⟩
  .obtain⟨e,n,ne,nf,d⟩:=I.pin p hp
   refine⟨(hs.2 p.1 ?_).trans e,n,ne,nf,d⟩
   intro q
   rw [q,hoc] at e
   have q':oc=p.2:=Option.some.inj e
   exact d w' (by rw [<-q'];exact hocd)
theorem qd9 {M:Model} {A:Around} {E:Value->Shared->Prop} {i:Nat} {x:Str} {v:V} {u:Value} {Q:Unit->Shared->Prop} (I:Inv X pins σ H s) (hN:X.N.Nodup) (hi:X.N[i]?=some x) (hx:Loc X.env.scope x) (r:qb6 v u)
  (h:∀s',Inv X pins (σ.set i (some v)) H s'->Q () s') (hf:X.fn x=true\/X.env.scope.names.lookup x=some .local:=by first|exact .inl rfl|exact .inr rfl|assumption):wpAny M A (storeName X.env x u) Q E s:=
 store_ok2 I hN hi hx r (fun s' I' _=>h s' I') hf
theorem Inv.call' {s':Shared} {ch:List Addr} (I:Inv X pins σ H s) (ho:s'.os=s.os) (u:Un (frs X.stack) ch H H' s.heap s'.heap) (hok:HOk X.prog X.w H' s'.heap) (hg:AllBare s'.gens)
  (hch:∀b∈ch,(b∈X.ex\/X.s₀.heap.objs.size<=b)/\b≠X.env.locals/\(∀x c,X.env.cells.lookup x=some c->c≠b)/\∀p∈X.pn++pins,p.1≠b):Inv X pins σ H' s':=by
 obtain⟨h',g',d',t',o'⟩:=s'
 have e:o'=s.os:=ho
 subst e
 exact I.call (g':=g') (t':=t') (d':=d') u hok hg hch
end
abbrev XK:=Value->Option Addr->Hp->Prop
abbrev St:=List (Option V)
abbrev VK:=V->Hp->Prop
abbrev TE:=St->Hp->VK->Prop
abbrev TT:=St->Hp->(Bool->Hp->Prop)->Prop
abbrev TA:=St->Hp->(List V->Hp->Prop)->Prop
structure Ends where
 nx:St->Hp->Prop
 rt:VK
 bk:St->Hp->Prop:=fun _ _=>False
 ct:St->Hp->Prop:=fun _ _=>False
abbrev TS:=Ends->St->Hp->Prop
def EP (X:Cx) (pins:List (Addr × Obj)) (σ:St) (Q:VK) (u:Value) (s':Shared):Prop:=∃v H',Inv X pins σ H' s'/\qb6 v u/\Q v H'
def TP (X:Cx) (pins:List (Addr × Obj)) (σ:St) (Q:Bool->Hp->Prop) (b:Bool) (s':Shared):Prop:=∃H',Inv X pins σ H' s'/\Q b H'
def AP (X:Cx) (pins:List (Addr × Obj)) (σ:St) (Q:List V->Hp->Prop) (us:List Value) (s':Shared):Prop:=∃vs H',Inv X pins σ H' s'/\qbb vs us/\Q vs H'
def SP (X:Cx) (pins:List (Addr × Obj)) (D:Ends) (f:Flow) (s':Shared):Prop:=
 match f with
 | .next=>∃σ' H',Inv X pins σ' H' s'/\D.nx σ' H'
 | .brk=>∃σ' H',Inv X pins σ' H' s'/\D.bk σ' H'
 | .cont=>∃σ' H',Inv X pins σ' H' s'/\D.ct σ' H'
 | .ret u=>∃v σ' H',Inv X pins σ' H' s'/\qb6 v u/\D.rt v H'
def PE (X:Cx) (e:Expr) (t:TE):Prop:=
 ∀(pins:List (Addr × Obj)) (s:Shared) (σ:St) (H:Hp) (Q:VK),Inv X pins σ H s->t σ H Q->wpAny (model X.prog X.w) X.A (eval e X.env) (EP X pins σ Q) X.xe s
def PT (X:Cx) (e:Expr) (t:TT):Prop:=
 ∀(pins:List (Addr × Obj)) (s:Shared) (σ:St) (H:Hp) (Q:Bool->Hp->Prop),Inv X pins σ H s->t σ H Q->wpAny (model X.prog X.w) X.A (isTrue e X.env (eval e X.env)) (TP X pins σ Q) X.xe s
def PW (X:Cx) (e:Expr) (t:TT):Prop:=
 ∀(whole:Sem Value) (pins:List (Addr × Obj)) (s:Shared) (σ:St) (H:Hp) (Q:Bool->Hp->Prop),Inv X pins σ H s->t σ H Q->wpAny (model X.prog X.w) X.A (isTrue e X.env whole) (TP X pins σ Q) X.xe s
theorem PW.pt {X:Cx} {e:Expr} {t:TT} (h:PW X e t):PT X e t:=h _
def PA (X:Cx) (es:List Expr) (t:TA):Prop:=
 ∀(pos:Pos) (pins:List (Addr × Obj)) (s:Shared) (σ:St) (H:Hp) (Q:List V->Hp->Prop),Inv X pins σ H s->t σ H Q->wpAny (model X.prog X.w) X.A (spliced (backTo pos (starEach es X.env))) (AP X pins σ Q) X.xe s
def PS (X:Cx) (st:Stmt) (t:TS):Prop:=
 ∀(pins:List (Addr × Obj)) (s:Shared) (σ:St) (H:Hp) (D:Ends),Inv X pins σ H s->t D σ H->wpAny (model X.prog X.w) X.A (exec st X.env) (SP X pins D) X.xe s
def PSs (X:Cx) (st:List Stmt) (t:TS):Prop:=
 ∀(pins:List (Addr × Obj)) (s:Shared) (σ:St) (H:Hp) (D:Ends),Inv X pins σ H s->t D σ H->wpAny (model X.prog X.w) X.A (execs st X.env) (SP X pins D) X.xe s
theorem thn {α:Type} {t:Sem α} {Q Q':α->Shared->Prop} {M:Model} {A:Around} {E:Value->Shared->Prop} {s:Shared} (h:wpAny M A t Q E s) (hQ:∀a s,Q a s->Q' a s):wpAny M A t Q' E s:=wpAny_mono h hQ fun _ _ x=>x
end L2
namespace L2
open PySem PySem.Spec PyProof.Rows
section
variable {X: Cx}
theorem bin {a b:Expr} {ta tb:TE} (ha:PE X a ta) (hb:PE X b tb) {pins:List (Addr × Obj)} {s:Shared} {σ:St} {H:Hp} {R:V->V->Hp->Prop} (I:Inv X pins σ H s) (h:ta σ H fun x H1=>tb σ H1 fun y H2=>R x y H2)
  {α:Type} {Q:α->Shared->Prop} {f:Value->Value->Sem α}
  (hf:∀v u s2 x y H2,Inv X pins σ H2 s2->qb6 x v->qb6 y u->R x y H2->wpAny (model X.prog X.w) X.A (f v u) Q X.xe s2):
  wpAny (model X.prog X.w) X.A (eval a X.env) (fun v s₁=>wpAny (model X.prog X.w) X.A (eval b X.env) (fun u s₂=>wpAny (model X.prog X.w) X.A (f v u) Q X.xe s₂) X.xe s₁) X.xe s:=by
 refine thn (ha pins s σ H _ I h) fun v s1 ⟨x,H1,I1,r1,q1⟩=>?_
 refine thn (hb pins s1 σ H1 _ I1 q1) fun u s2 ⟨y,H2,I2,r2,q2⟩=>?_
 exact hf v u s2 x y H2 I2 r1 r2 q2
def tVar (i:Nat):TE:=fun σ H Q=>∃v,σ[i]?=some (some v)/\Q v H
def tC (v:V):TE:=fun _ H Q=>Q v H
theorem pe_var {i:Nat} {x:Str} {pos:Pos} (hN:X.N[i]?=some x) (hv:Vis X.env.scope x) (hd:(x==("__debug__" :Str))=false:=by decide) (hcd:(x==("__classdict__" :Str))=false:=by decide):PE X (.Name x pos) (tVar i):=by
 intro pins s σ H Q I h
 obtain⟨v,e,h⟩:=h
 obtain⟨m,hn,hl⟩:=I.loc
 obtain⟨u,r,l⟩:=hl i x v hN e hv
 have fin:EP X pins σ Q u s:=⟨v,H,I,r,h⟩
 rcases l with ⟨hk,hm⟩ |⟨hk,c,hc,hcell⟩
 .exact wpAny_Name (wpAny_loadName_local I.ok.kind hk hn hm fin) hd
 .rcases hk with hk|hk
  .exact wpAny_Name (wpAny_loadName_cell I.ok.kind hk hc hcell fin) hd
  .exact wpAny_Name (wpAny_loadName_free I.ok.kind hk hc hcell fin hcd) hd
theorem qaa {i j pos}:PE X (.Constant (.int i) j pos) (tC (.int i)):=fun _ _ _ H _ I h=>wpAny_Constant_int ⟨.int i,H,I.tok _,⟨_,rfl⟩,h⟩
theorem qej {b j pos}:PE X (.Constant (.bool b) j pos) (tC (.bl b)):=fun _ _ _ H _ I h=>Constant_bool ⟨.bl b,H,I,rfl,h⟩
theorem qdi {j pos}:PE X (.Constant .none j pos) (tC .non):=fun _ _ _ H _ I h=>Constant_none ⟨.non,H,I,rfl,h⟩
theorem qb1 {x j pos}:PE X (.Constant (.str x) j pos) (tC (.str x)):=fun _ _ _ H _ I h=>Calls.Constant_str ⟨.str x,H,I.tok _,⟨_,rfl⟩,h⟩
def Gl (X:Cx) (x:Str):Prop:=X.env.kindOf x=some .globalImplicit
theorem qcm {E:Value->Shared->Prop} {pins:List (Addr × Obj)} {s:Shared} {σ:St} {H:Hp} {x:Str} {u:Value} {pos:Pos} {Q:Value->Shared->Prop} (I:Inv X pins σ H s) (hg:Gl X x) (hm:X.mg x=some u) (h:Q u s)
  (hd:(x==("__debug__" :Str))=false:=by decide):wpAny (model X.prog X.w) X.A (eval (.Name x pos) X.env) Q E s:=
 Calls.Name_function_global I.ok.kind hg (Calls.loadGlobal_global (by rw [I.ok.glob];exact I.mod.glob.keeps I.bk) hm h) hd
theorem ld_blt {E:Value->Shared->Prop} {pins:List (Addr × Obj)} {s:Shared} {σ:St} {H:Hp} {x:Str} {u:Value} {pos:Pos} {Q:Value->Shared->Prop} (I:Inv X pins σ H s) (hg:Gl X x) (hm:X.mg x=none) (hv:bootBuiltins x=some u) (h:Q u s)
  (hn:x≠"__name__":=by decide) (hd:(x==("__debug__" :Str))=false:=by decide):wpAny (model X.prog X.w) X.A (eval (.Name x pos) X.env) Q E s:=by
 obtain⟨mb,h1,h2⟩:=I.mod.blt
 exact Calls.Name_function_global I.ok.kind hg (Calls.loadGlobal_builtin (by rw [I.ok.glob];exact I.mod.glob.keeps I.bk) hm (by rw [I.ok.blt];exact h1.keeps I.bk) ((h2 x hn).trans hv) h) hd
theorem qbi {x:Str} {v:V} {u:Value} {pos:Pos} (hg:Gl X x) (hm:X.mg x=some u) (r:qb6 v u) (hd:(x==("__debug__" :Str))=false:=by decide):PE X (.Name x pos) (tC v):=
 fun _ _ _ H _ I h=>qcm I hg hm ⟨v,H,I,r,h⟩ hd
theorem qcl {x:Str} {v:V} {u:Value} {pos:Pos} (hg:Gl X x) (hm:X.mg x=none) (hv:bootBuiltins x=some u) (r:qb6 v u) (hn:x≠"__name__":=by decide) (hd:(x==("__debug__" :Str))=false:=by decide):PE X (.Name x pos) (tC v):=
 fun _ _ _ H _ I h=>ld_blt I hg hm hv ⟨v,H,I,r,h⟩ hn hd
variable {a b: Expr} {ta tb: TE} {pos: Pos}
def PC (X:Cx) (op:CmpOp) (a b:Expr) (t:TE):Prop:=
 ∀(pins:List (Addr × Obj)) (s:Shared) (σ:St) (H:Hp) (Q:VK),Inv X pins σ H s->t σ H Q->
  wpAny (model X.prog X.w) X.A (eval a X.env) (fun v s₁=>wpAny (model X.prog X.w) X.A (eval b X.env) (fun u s₂=>wpAny (model X.prog X.w) X.A (compareOp op v u) (EP X pins σ Q) X.xe s₂) X.xe s₁) X.xe s
def tB (t:TE):TT:=fun σ H Q=>t σ H fun x H1=>∃c,x=.bl c/\Q c H1
theorem pe_cmp {op:CmpOp} {t:TE} (h:PC X op a b t) (h1:behindInMarks op b=false:=by first|exact nobehind _ (by decide) (by decide) |rfl):PE X (.Compare a [op] [b] pos) t:=fun pins s σ H Q I hw=>wpAny_Compare1 (h pins s σ H Q I hw) h1
theorem pt_cmp {op:CmpOp} {t:TE} (h:PC X op a b t) (h1:behindInMarks op b=false:=by first|exact nobehind _ (by decide) (by decide) |rfl):PT X (.Compare a [op] [b] pos) (tB t):=by
 intro pins s σ H Q I hw
 refine wpAny_isTrue_Compare1 (thn (h pins s σ H _ I hw) fun v s1 h1=>thn h1 fun u s2 h2=>thn h2 fun c s3 ⟨x,H1,I1,r1,q1⟩=>?_) h1
 obtain⟨d,rfl,q⟩:=q1
 cases r1
 exact wpAny_truthy_bool ⟨H1,I1,q⟩
theorem qbc {e:Expr} {t:TE} (h:PE X e t) (he:∀whole,isTrue e X.env whole=(do let v<-whole;standAt e.pos;holding [v] (truthy v)):=by intro _;rfl):PT X e (tB t):=by
 intro pins s σ H Q I hw
 refine isTrue_plain (thn (h pins s σ H _ I hw) fun v s1 ⟨x,H1,I1,r1,q1⟩=>?_) (he _)
 obtain⟨d,rfl,q⟩:=q1
 cases r1
 exact wpAny_truthy_bool ⟨H1,I1,q⟩
variable {tA tB': TT} {rest: List Expr}
def tAnd (t u:TT):TT:=fun σ H Q=>t σ H fun c H1=>if c=true then u σ H1 Q else Q false H1
def tOr (t u:TT):TT:=fun σ H Q=>t σ H fun c H1=>if c=true then Q true H1 else u σ H1 Q
def tNot (t:TT):TT:=fun σ H Q=>t σ H fun c H1=>Q (!c) H1
theorem pw_and1 (ha:PT X a tA):PW X (.BoolOp .And [a] pos) tA:=by
 intro wh pins s σ H Q I h
 refine isTrue_and (thn (ha pins s σ H Q I h) fun c s1 e=>?_)
 cases c with
 |true=>exact isTrue_and_nil e
 |false=>exact e
theorem qdg (ha:PT X a tA):PW X (.BoolOp .Or [a] pos) tA:=by
 intro wh pins s σ H Q I h
 refine isTrue_or (thn (ha pins s σ H Q I h) fun c s1 e=>?_)
 cases c with
 |false=>exact isTrue_or_nil e
 |true=>exact e
theorem pw_and (ha:PT X a tA) (hb:PW X (.BoolOp .And (b :: rest) pos) tB'):PW X (.BoolOp .And (a :: b :: rest) pos) (tAnd tA tB'):=by
 intro wh pins s σ H Q I h
 refine isTrue_and (thn (ha pins s σ H _ I h) fun c s1 ⟨H1,I1,q1⟩=>?_)
 cases c with
 |true=>exact hb wh pins s1 σ H1 Q I1 q1
 |false=>exact⟨H1,I1,q1⟩
theorem qe6 (ha:PT X a tA) (hb:PW X (.BoolOp .Or (b :: rest) pos) tB'):PW X (.BoolOp .Or (a :: b :: rest) pos) (tOr tA tB'):=by
 intro wh pins s σ H Q I h
 refine isTrue_or (thn (ha pins s σ H _ I h) fun c s1 ⟨H1,I1,q1⟩=>?_)
 cases c with
 |true=>exact⟨H1,I1,q1⟩
 |false=>exact hb wh pins s1 σ H1 Q I1 q1
theorem qcd (ha:PT X a tA):PT X (.UnaryOp .Not a pos) (tNot tA):=by
 intro pins s σ H Q I h
 exact isTrue_not (ha pins s σ H (fun c H1=>Q (!c) H1) I h)
def tAndV (ta tb:TE):TE:=fun σ H Q=>ta σ H fun x H1=>∃c,x=.bl c/\if c=true then tb σ H1 Q else Q (.bl false) H1
def tNotV (ta:TE):TE:=fun σ H Q=>ta σ H fun x H1=>∃c,x=.bl c/\Q (.bl (!c)) H1
theorem pe_one {op} {t:TE} (h:PE X a t):PE X (.BoolOp op [a] pos) t:=fun pins s σ H Q I hw=>BoolOp_one (h pins s σ H Q I hw)
theorem pe_and (ha:PE X a ta) (hb:PE X (.BoolOp .And (b :: rest) pos) tb):PE X (.BoolOp .And (a :: b :: rest) pos) (tAndV ta tb):=by
 intro pins s σ H Q I h
 refine BoolOp_and (thn (ha pins s σ H _ I h) fun v s1 ⟨x,H1,I1,r1,q1⟩=>?_)
 obtain⟨c,rfl,q1⟩:=q1
 cases r1
 refine wpAny_truthy_bool ?_
 cases c with
 |true=>exact hb pins s1 σ H1 Q I1 q1
 |false=>exact⟨.bl false,H1,I1,rfl,q1⟩
theorem pe_not (ha:PE X a ta):PE X (.UnaryOp .Not a pos) (tNotV ta):=by
 intro pins s σ H Q I h
 refine UnaryOp_ (thn (ha pins s σ H _ I h) fun v s1 ⟨x,H1,I1,r1,q1⟩=>?_)
 obtain⟨c,rfl,q1⟩:=q1
 cases r1
 exact not_of (wpAny_truthy_bool ⟨.bl (!c),H1,I1,rfl,q1⟩)
end
end L2
namespace L2
open PySem PySem.Spec PyProof.Rows
def SqL (K:Frag) (H:Hp) (a:Addr) (xs:List V):Prop:=
 Rd H a (.lst xs)\/
  ∃(o:Obj) (its:Array Value) (n:Nat),K.lookup a=some o/\o.cls=.type "list"/\o.dict=none/\o.data=.seq its n/\its.size<=sizeLine/\qbb xs its.toList
def SqT (K:Frag) (H:Hp) (a:Addr) (xs:List V):Prop:=
 Rd H a (.tup xs)\/
  ∃(o:Obj) (its:Array Value) (n:Nat),K.lookup a=some o/\o.cls=.type "tuple"/\o.data=.seq its n/\its.size<=sizeLine/\qbb xs its.toList
def absV:Value->Option V
 | .none=>some .non
 | .bool b=>some (.bl b)
 | .int i _=>some (.int i)
 | .str x _=>some (.str x)
 | .bytes b _=>some (.byt b)
 | .float b _=>some (.flt b)
 | .ref a=>some (.ref a)
 | .type n=>some (.ty n)
 |_=>none
theorem qb6.abs {x:V} {u:Value} (r:qb6 x u):absV u=some x:=by
 cases x with
 |non=>cases r;rfl
 |bl _=>cases r;rfl
 |int _=>obtain⟨t,rfl⟩:=r;rfl
 |str _=>obtain⟨t,rfl⟩:=r;rfl
 |byt _=>obtain⟨t,rfl⟩:=r;rfl
 |flt _=>obtain⟨t,rfl⟩:=r;rfl
 |ref _=>cases r;rfl
 |ty _=>cases r;rfl
theorem qb6.inj {x y:V} {u:Value} (r:qb6 x u) (q:qb6 y u):x=y:=Option.some.inj (r.abs.symm.trans q.abs)
theorem qbb.inj:∀{xs ys:List V} {us:List Value},qbb xs us->qbb ys us->xs=ys
 |_,_,_,.nil,.nil=>rfl
 |_,_,_,.cons r t,.cons r' t'=>by rw [r.inj r',qbb.inj t t']
section
variable {X: Cx} {pins: List (Addr × Obj)} {σ: St} {H: Hp} {s: Shared} {a: Addr} {xs ys: List V}
theorem SqL.of {K:Frag} (h:H a=some (.lst xs)):SqL K H a xs:=.inl (.inl h)
theorem SqT.of {K:Frag} (h:H a=some (.tup xs)):SqT K H a xs:=.inl (.inl h)
theorem Inv.list (I:Inv X pins σ H s) (h:SqL X.K H a xs):∃its:List Value,qbb xs its/\PlainL s.heap a its.toArray/\xs.length<=sizeLine:=by
 rcases h with h|⟨o,its,n,hk,hc,hd,hs,hz,r⟩
 .obtain⟨z,its,n,r,e⟩:=h.ok I.hok
  exact⟨its,r,⟨_,n,e,rfl,rfl,rfl⟩,z⟩
 .refine⟨its.toList,r,⟨o,n,I.kIn a o hk,hc,hd,by simpa using hs⟩,?_⟩
  have e:=r.length
  simp only [Array.length_toList] at e
  omega
theorem Inv.tuple (I:Inv X pins σ H s) (h:SqT X.K H a xs):∃its:List Value,qbb xs its/\IsTup s.heap a its.toArray/\xs.length<=sizeLine:=by
 rcases h with h|⟨o,its,n,hk,hc,hs,hz,r⟩
 .obtain⟨z,its,r,p⟩:=h.ok I.hok
  exact⟨its,r,p,z⟩
 .refine⟨its.toList,r,⟨o,I.kIn a o hk,hc,n,by simpa using hs⟩,?_⟩
  have e:=r.length
  simp only [Array.length_toList] at e
  omega
theorem Inv.list_inj (I:Inv X pins σ H s) (h:SqL X.K H a xs) (h':SqL X.K H a ys):xs=ys:=by
 obtain⟨its,r,⟨o,n,e,_,_,d⟩,_⟩:=I.list h
 obtain⟨its',r',⟨o',n',e',_,_,d'⟩,_⟩:=I.list h'
 rw [e] at e';cases e'
 rw [d] at d'
 injection d' with d1 _
 have:its=its':=by simpa using congrArg Array.toList d1
 subst this
 exact r.inj r'
end
abbrev Cx.wish (X:Cx) (E:Value->Shared->Prop):Cx:={X with xe:=E}
abbrev Cx.nox (X:Cx):Cx:=X.wish fun _ _=>False
theorem Cx.Ok.wish {X:Cx} (ok:X.Ok) (E:Value->Shared->Prop):(X.wish E).Ok:=
 ⟨ok.mod,ok.kind,ok.glob,ok.blt,ok.above,ok.inj,ok.has,ok.cab,ok.hd,ok.frames,ok.stk,ok.exf,ok.bs,ok.bsz,ok.noex,ok.exfs,ok.funs,ok.frf⟩
theorem Cx.Ok.unwish {X:Cx} {E:Value->Shared->Prop} (ok:(X.wish E).Ok):X.Ok:=
 ⟨ok.mod,ok.kind,ok.glob,ok.blt,ok.above,ok.inj,ok.has,ok.cab,ok.hd,ok.frames,ok.stk,ok.exf,ok.bs,ok.bsz,ok.noex,ok.exfs,ok.funs,ok.frf⟩
section
variable {X: Cx} {pins: List (Addr × Obj)} {σ: St} {H: Hp} {s: Shared} {E: Value -> Shared -> Prop}
theorem Inv.wish (I:Inv X pins σ H s) (E:Value->Shared->Prop):Inv (X.wish E) pins σ H s:=⟨I.ok.wish E,I.os,I.bare,I.base,I.loc,I.cell,I.free,I.freeC,I.pin,I.hok,I.len⟩
theorem Inv.unwish (I:Inv (X.wish E) pins σ H s):Inv X pins σ H s:=⟨I.ok.unwish,I.os,I.bare,I.base,I.loc,I.cell,I.free,I.freeC,I.pin,I.hok,I.len⟩
theorem SP.unwish {D:Ends} {f:Flow} {s':Shared} (h:SP (X.wish E) pins D f s'):SP X pins D f s':=by
 cases f with
 |next=>obtain⟨σ',H',I,q⟩:=h;exact⟨σ',H',I.unwish,q⟩
 |brk=>obtain⟨σ',H',I,q⟩:=h;exact⟨σ',H',I.unwish,q⟩
 |cont=>obtain⟨σ',H',I,q⟩:=h;exact⟨σ',H',I.unwish,q⟩
 |ret u=>obtain⟨v,σ',H',I,r,q⟩:=h;exact⟨v,σ',H',I.unwish,r,q⟩
theorem PSs.nox {st:List Stmt} {t:TS} (h:PSs X.nox st t):PSs X st t:=fun pins s σ H D I hw=>
 wpAny_mono (h pins s σ H D (I.wish _) hw) (fun _ _ q=>q.unwish) fun _ _ z=>False.elim z
end
section
variable {X: Cx} {st: Stmt} {rest: List Stmt} {t u: TS} {e: Expr} {te: TE} {pos: Pos}
def tNext:TS:=fun D σ H=>D.nx σ H
def tSeq (t u:TS):TS:=fun D σ H=>t {D with nx:=u D} σ H
theorem qag:PSs X [] tNext:=fun _ _ σ H _ I h=>wpAny_execs_nil ⟨σ,H,I,h⟩
theorem qa4 (h1:PS X st t) (h2:PSs X rest u):PSs X (st :: rest) (tSeq t u):=by
 intro pins s σ H D I h
 refine wpAny_execs_cons (thn (h1 pins s σ H {D with nx:=u D} I h) fun f s1 q=>?_)
 cases f with
 |next=>
  obtain⟨σ',H',I',q⟩:=q
  exact h2 pins s1 σ' H' D I' q
 |ret v=>exact q
 |brk=>exact q
 |cont=>exact q
theorem qa5 (h1:PS X st t):PSs X [st] t:=by
 intro pins s σ H D I h
 refine wpAny_execs_cons (thn (h1 pins s σ H D I h) fun f s1 q=>?_)
 cases f with
 |next=>exact wpAny_execs_nil q
 |ret v=>exact q
 |brk=>exact q
 |cont=>exact q
theorem Inv.quiet {pins:List (Addr × Obj)} {σ:St} {H:Hp} {s:Shared} (I:Inv X pins σ H s):interactive X.env=false:=by simp [interactive,I.ok.kind]
def tDrop (te:TE):TS:=fun D σ H=>te σ H fun _ H1=>D.nx σ H1
theorem qat (he:PE X e te) (hs:swapsWith e none pos.line X.env=pure false:=by rfl):PS X (.Expr e pos) (tDrop te):=by
 intro pins s σ H D I h
 exact wpAny_Expr_any (thn (he pins s σ H _ I h) fun v s1 ⟨x,H1,I1,r1,q1⟩=>⟨σ,H1,I1,q1⟩) I.quiet hs
def tRet (te:TE):TS:=fun D σ H=>te σ H D.rt
theorem qaj (he:PE X e te):PS X (.Return (some e) pos) (tRet te):=by
 intro pins s σ H D I h
 exact wpAny_Return_some (thn (he pins s σ H _ I h) fun v s1 ⟨x,H1,I1,r1,q1⟩=>⟨x,σ,H1,I1,r1,q1⟩)
def tIfS (c:TT) (t u:TS):TS:=fun D σ H=>c σ H fun b H1=>if b=true then t D σ H1 else u D σ H1
theorem qb2 {c:Expr} {a b:List Stmt} {tc:TT} (hc:PT X c tc) (ha:PSs X a t) (hb:PSs X b u):PS X (.If c a b pos) (tIfS tc t u):=by
 intro pins s σ H D I h
 refine wpAny_If (thn (hc pins s σ H _ I h) fun d s1 ⟨H1,I1,q1⟩=>?_)
 cases d with
 |true=>exact ha pins s1 σ H1 D I1 q1
 |false=>exact hb pins s1 σ H1 D I1 q1
end
abbrev TG:=V->St->Hp->(St->Hp->Prop)->Prop
abbrev TGs:=List V->St->Hp->(St->Hp->Prop)->Prop
def PG (X:Cx) (target:Expr) (t:TG):Prop:=
 ∀(pins:List (Addr × Obj)) (s:Shared) (σ:St) (H:Hp) (v:V) (u:Value) (Q:St->Hp->Prop),Inv X pins σ H s->qb6 v u->t v σ H Q->
  wpAny (model X.prog X.w) X.A (assign target X.env u) (fun _ s'=>∃σ' H',Inv X pins σ' H' s'/\Q σ' H') X.xe s
def PGs (X:Cx) (ts:List Expr) (t:TGs):Prop:=
 ∀(pins:List (Addr × Obj)) (s:Shared) (σ:St) (H:Hp) (vs:List V) (us:List Value) (Q:St->Hp->Prop),Inv X pins σ H s->qbb vs us->t vs σ H Q->
  wpAny (model X.prog X.w) X.A (assignInOrder ((assignEach ts X.env).map (·.2)) us) (fun _ s'=>∃σ' H',Inv X pins σ' H' s'/\Q σ' H') X.xe s
section
variable {X: Cx} {pos: Pos}
def gName (i:Nat):TG:=fun v σ H Q=>Q (σ.set i (some v)) H
theorem qam {i:Nat} {x:Str} (hN:X.N.Nodup) (hi:X.N[i]?=some x) (hx:Loc X.env.scope x) (hf:X.fn x=true\/X.env.scope.names.lookup x=some .local:=by first|exact .inl rfl|exact .inr rfl|assumption):PG X (.Name x pos) (gName i):=by
 intro pins s σ H v u Q I r h
 exact wpAny_assign_Name (qd9 I hN hi hx r (fun s' I'=>⟨_,H,I',h⟩) hf)
def gNil:TGs:=fun vs σ H Q=>vs=[]/\Q σ H
def gCons (t:TG) (u:TGs):TGs:=fun vs σ H Q=>∃v r,vs=v :: r/\t v σ H fun σ' H'=>u r σ' H' Q
theorem qei:PGs X [] gNil:=by
 intro pins s σ H vs us Q I r h
 obtain⟨e,h⟩:=h
 subst e
 cases r
 exact assignInOrder_nil ⟨σ,H,I,h⟩
theorem qax {e:Expr} {es:List Expr} {t:TG} {u:TGs} (h1:PG X e t) (h2:PGs X es u)
  (hs:(assignEach (e :: es) X.env).map (·.2)=assign e X.env ::(assignEach es X.env).map (·.2):=by rfl):PGs X (e :: es) (gCons t u):=by
 intro pins s σ H vs us Q I r h
 obtain⟨v,vr,e1,h⟩:=h
 subst e1
 cases r with
 |cons r rr=>
  rw [hs]
  refine assignInOrder_cons (thn (h1 pins s σ H _ _ _ I r h) fun _ s1 ⟨σ1,H1,I1,q1⟩=>?_)
  exact h2 pins s1 σ1 H1 _ _ Q I1 rr q1
def gTup (K:Frag) (n:Nat) (t:TGs):TG:=fun v σ H Q=>∃a xs,v=.ref a/\SqT K H a xs/\xs.length=n/\t xs σ H Q
theorem pg_tup {es:List Expr} {k:Nat} {t:TGs} {n:Nat} (hc:X.calm=true) (h:PGs X es t)
  (hn:(assignEach es X.env).length=n:=by rfl) (hst:(assignEach es X.env).findIdx? (·.1)=none:=by rfl):PG X (.Tuple es k pos) (gTup X.K n t):=by
 intro pins s σ H v u Q I r hw
 obtain⟨a,xs,e1,hq,hl,hw⟩:=hw
 subst e1
 cases r
 obtain⟨its,rv,ht,hz⟩:=I.tuple hq
 refine assign_Tuple_tuple (I.ok.hd hc) ht (by simp [hn,<-hl,rv.length]) hst fun h' hx=>?_
 have I1:Inv X pins σ H {s with heap:=h'}:=I.kept (t':=s.toks) fun b o e=>hx b o (Nat.ne_of_lt (Heap.lt_size e)) e
 exact h pins _ σ H xs _ Q I1 (by simpa using rv) hw
def tAsg (te:TE) (g:TG):TS:=fun D σ H=>te σ H fun x H1=>g x σ H1 D.nx
theorem ps_asg {tg e:Expr} {te:TE} {g:TG} (he:PE X e te) (hg:PG X tg g) (hs:swapsWithSole [tg] e pos.line X.env=pure false:=by rfl) (hw:swappedStores [tg] e X.env=pure none:=by rfl)
  (h1:(assignEach [tg] X.env).map (·.2)=[assign tg X.env]:=by rfl):PS X (.Assign [tg] e pos) (tAsg te g):=by
 intro pins s σ H D I h
 refine wpAny_Assign_stores (thn (he pins s σ H _ I h) fun v s1 ⟨x,H1,I1,r1,q1⟩=>?_) hs hw
 rw [h1]
 exact thn (hg pins s1 σ H1 x v _ I1 r1 q1) fun _ s2 q=>q
theorem qae {i:Nat} {x:Str} {e:Expr} {te:TE} {pos':Pos} (hN:X.N.Nodup) (hi:X.N[i]?=some x) (hx:Loc X.env.scope x) (he:PE X e te) (hs:swapsWith e (some (.Name x pos')) pos.line X.env=pure false:=by rfl) (hf:X.fn x=true\/X.env.scope.names.lookup x=some .local:=by first|exact .inl rfl|exact .inr rfl|assumption):
  PS X (.Assign [.Name x pos'] e pos) (tAsg te (gName i)):=by
 intro pins s σ H D I h
 refine wpAny_Assign_Name (thn (he pins s σ H _ I h) fun v s1 ⟨y,H1,I1,r1,q1⟩=>?_) hs
 exact qd9 I1 hN hi hx r1 (fun s2 I2=>⟨_,H1,I2,q1⟩) hf
end
section
variable {X: Cx} {pos: Pos}
def tWhile (c:TT) (tb:TS):TS:=fun D σ H=>∃W:Nat->St->Hp->Prop,(∃m,W m σ H)/\∀m σ H,W m σ H->
 c σ H fun b H1=>if b=true then ∃N:St->Hp->Prop,(∀σ' H',N σ' H'->∃m',m' < m/\W m' σ' H')/\tb {D with nx:=N,ct:=N,bk:=D.nx} σ H1 else D.nx σ H1
theorem qfl {c:Expr} {body:List Stmt} {tc:TT} {tb:TS} (hp:PassesOwn (model X.prog X.w) X.A X.env X.xe) (hc:PT X c tc) (hb:PSs X body tb):PS X (.While c body [] pos) (tWhile tc tb):=by
 intro pins s σ H D I h
 obtain⟨W,⟨m0,w0⟩,turn⟩:=h
 refine wpAny_While (codeAny_whileLoop (fun n s'=>∃σ' H',Inv X pins σ' H' s'/\W n σ' H') ?_ m0 ⟨σ,H,I,w0⟩)
 rintro n s1 ⟨σ1,H1,I1,w1⟩
 refine wpAny_passesOwn hp (thn (hc pins s1 σ1 H1 _ I1 (turn n σ1 H1 w1)) fun b s2 ⟨H2,I2,q2⟩=>?_)
 cases b with
 |true=>
  obtain⟨N,hN,q2⟩:=q2
  rw [if_pos rfl]
  refine wpAny_passesOwn hp (thn (hb pins s2 σ1 H2 _ I2 q2) fun f s3 q3=>?_)
  cases f with
  |next=>
   obtain⟨σ3,H3,I3,n3⟩:=q3
   obtain⟨m',hm,w3⟩:=hN σ3 H3 n3
   exact⟨m',hm,σ3,H3,I3,w3⟩
  |cont=>
   obtain⟨σ3,H3,I3,n3⟩:=q3
   obtain⟨m',hm,w3⟩:=hN σ3 H3 n3
   exact⟨m',hm,σ3,H3,I3,w3⟩
  |brk=>exact q3
  |ret v=>exact q3
 |false=>
  rw [if_neg Bool.false_ne_true]
  exact wpAny_execs_nil ⟨σ1,H2,I2,q2⟩
end
structure It where
 go:Nat->Hp->Prop
 yld:Nat->Hp->V->Hp->Prop
 stop:Nat->Hp->Prop
def qfy (X:Cx) (pins:List (Addr × Obj)) (H:Hp) (b:Addr):Prop:=
 H b=none/\b≠X.env.locals/\b∉X.fs/\(b∈X.ex\/X.s₀.heap.objs.size<=b)/\(∀x c,X.env.cells.lookup x=some c->c≠b)/\∀p∈X.pn++pins,p.1≠b
theorem Inv.fpOk {X:Cx} {pins:List (Addr × Obj)} {σ:St} {H H':Hp} {s:Shared} {b:Addr} (I:Inv X pins σ H s) (hb:s.heap.objs.size<=b) (hn:H' b=none):qfy X pins H' b:=by
 refine⟨hn,Nat.ne_of_gt (Nat.lt_of_lt_of_le I.lt hb),I.nofs hb,.inr (Nat.le_trans I.sz hb),fun x c e z=>?_,fun p hp z=>?_⟩
 .obtain⟨v,q⟩:=I.cell x c e
  exact absurd (Nat.lt_of_lt_of_le q.lt (by rw [z];exact hb)) (Nat.lt_irrefl _)
 .exact absurd (Nat.lt_of_lt_of_le (Heap.lt_size (I.pin p hp).1) (by rw [z];exact hb)) (Nat.lt_irrefl _)
structure Turn (P:Program) (w:World) (K:Frag) (tg:Expr) (J:It) (fp:List Addr) (it:Addr) (tn:Nat->Heap->Prop):Prop where
 mem:it∈fp
 obj:∀i h,tn i h->∀b∈fp,∃o,h.get? b=some o/\∀v,o.data≠ .cell v
 keep:∀i h h',tn i h->(∀b∈fp,∀o,h.get? b=some o->h'.get? b=some o)->tn i h'
 item:∀(X:Cx),X.prog=P->X.w=w->X.K=K->X.calm=true->∀(i:Nat) (pins:List (Addr × Obj)) (s:Shared) (σ:St) (H:Hp) (E:Value->Shared->Prop),Inv X pins σ H s->(∀b∈fp,qfy X pins H b)->tn i s.heap->J.go i H->
  wpAny (model P w) X.A (pyNext (.ref it)) (fun r s1=>∃u,r=some u/\
   wpAny (model P w) X.A (letOwnedTupleGo tg (.ref it) u) (fun _ s2=>∃x H',Inv X pins σ H' s2/\qb6 x u/\J.yld i H x H'/\tn (i+1) s2.heap/\∀b∈fp,H' b=none) E s1) E s
 done:∀(X:Cx),X.prog=P->X.w=w->X.K=K->X.calm=true->∀(i:Nat) (pins:List (Addr × Obj)) (s:Shared) (σ:St) (H:Hp) (E:Value->Shared->Prop),Inv X pins σ H s->(∀b∈fp,qfy X pins H b)->tn i s.heap->J.stop i H->
  wpAny (model P w) X.A (pyNext (.ref it)) (fun r s1=>r=none/\Inv X pins σ H s1) E s
 self:∀(A:Around) (i:Nat) (s:Shared) (Q:Value->Shared->Prop) (E:Value->Shared->Prop),tn i s.heap->Q (.ref it) s->wpAny (model P w) A (pyIter (.ref it)) Q E s
abbrev TI:=St->Hp->(It->Hp->Prop)->Prop
def PIE (X:Cx) (pins:List (Addr × Obj)) (σ:St) (tg:Expr) (R:It->Hp->Prop) (itv:Value) (s2:Shared):Prop:=
 ∃(it:Addr) (fp:List Addr) (tn:Nat->Heap->Prop) (J:It) (H':Hp),itv=.ref it/\Inv X pins σ H' s2/\Turn X.prog X.w X.K tg J fp it tn/\tn 0 s2.heap/\(∀b∈fp,qfy X pins H' b)/\R J H'
def PI (X:Cx) (tg iter:Expr) (wi:TI):Prop:=
 ∀(pins:List (Addr × Obj)) (s:Shared) (σ:St) (H:Hp) (R:It->Hp->Prop),Inv X pins σ H s->wi σ H R->
  wpAny (model X.prog X.w) X.A (eval iter X.env) (fun v s1=>wpAny (model X.prog X.w) X.A (pyIter v) (PIE X pins σ tg R) X.xe s1) X.xe s
theorem go_of {M:Model} {A:Around} {E:Value->Shared->Prop} {s:Shared} {tg:Expr} {it:Addr} {u:Value} {o:Obj} {n:String} {vs:Array Value} {Q:Unit->Shared->Prop} (ho:s.heap.get? it=some o) (hc:o.cls=.type n) (hd:o.data=.fields vs)
  (hn: ["enumerate","zip","dict_itemiterator","dict_reverseitemiterator","odict_iterator","itertools.zip_longest","itertools.pairwise"].contains n=false) (hQ:Q () s):wpAny M A (letOwnedTupleGo tg (.ref it) u) Q E s:=by
 unfold letOwnedTupleGo
 cases tg <;> first
  |exact wpAny_pure hQ
  |(cases u <;> first
    |exact wpAny_pure hQ
    |(refine wpAny_bind (wpAny_load ho ?_)
      rw [hc,hd]
      show wpAny M A (if (["enumerate","zip","dict_itemiterator","dict_reverseitemiterator","odict_iterator","itertools.zip_longest","itertools.pairwise"].contains n && vs[0]?==some (rawInt _))=true then _ else _) Q E s
      rw [if_neg (by intro h;rw [hn,Bool.false_and] at h;cases h)]
      exact wpAny_pure hQ))
def Itl (K:Frag) (a:Addr):It:=
 ⟨fun i H=>∃xs x,SqL K H a xs/\xs[i]?=some x,fun i H x H'=>H'=H/\∀xs,SqL K H a xs->xs[i]?=some x,fun i H=>∃xs,SqL K H a xs/\xs.length<=i⟩
def Itr (lo:Int) (n:Nat):It:=⟨fun i _=>i < n,fun i H x H'=>H'=H/\x=.int (lo+i),fun i _=>n<=i⟩
theorem turn_list {P:Program} {w:World} {K:Frag} {tg:Expr} (a it:Addr):Turn P w K tg (Itl K a) [it] it (fun i h=>h.IsListIter it a i) where
 mem:=by simp
 obj:=fun i h st b hb=>by
  have e:b=it:=by simpa using hb
  subst e
  obtain⟨o,e,c,d⟩:=st
  exact⟨o,e,fun v z=>by rw [d] at z;cases z⟩
 keep:=fun i h h' st k=>st.at fun o e=>k it (by simp) o e
 item:=by
  intro X hP hw hK hc i pins s σ H E I hf st hg
  subst hP hw hK
  obtain⟨xs,x,hq,hx⟩:=hg
  obtain⟨its,rv,p,hz⟩:=I.list hq
  obtain⟨u,hu,ru⟩:=rv.get hx
  obtain⟨f0,f1,f2,f3,f4,f5⟩:=hf it (by simp)
  refine wpAny_pyNext_list_item st p.isList (x:=u) (by simpa using hu) fun h' st' sb=>?_
  have I1:Inv X pins σ H {s with heap:=h'}:=I.turned (t':=s.toks) (fun b o hb e=>(sb.2 b hb).trans e) f0 f1 f3 f4 f5
  obtain⟨o,e,c,d⟩:=id st'
  exact⟨u,rfl,go_of (s:={s with heap:=h'}) e c d (by decide) ⟨x,H,I1,ru,⟨rfl,fun ys hy=>by rw [I.list_inj hy hq];exact hx⟩,st',fun b hb=>(hf b hb).1⟩⟩
 done:=by
  intro X hP hw hK hc i pins s σ H E I hf st hg
  subst hP hw hK
  obtain⟨xs,hq,hx⟩:=hg
  obtain⟨its,rv,p,hz⟩:=I.list hq
  obtain⟨f0,f1,f2,f3,f4,f5⟩:=hf it (by simp)
  have hl:=rv.length
  exact wpAny_pyNext_list_end (I.ok.hd hc) st p.isList (by simp;omega) fun h' eb=>⟨rfl,I.turned (t':=s.toks) (fun b o hb e=>eb b o hb e) f0 f1 f3 f4 f5⟩
 self:=fun _ _ _ _ _ st h=>wpAny_pyIter_listiter st h
theorem turn_range {P:Program} {w:World} {K:Frag} {tg:Expr} (it:Addr) (lo:Int) (n:Nat):Turn P w K tg (Itr lo n) [it] it (fun i h=>IsRangeIter h it (lo+(i:Nat)*1) ((n:Int) - (i:Nat)) 1) where
 mem:=by simp
 obj:=fun i h st b hb=>by
  have e:b=it:=by simpa using hb
  subst e
  exact⟨_,st,fun v z=>by
   have z':Data.fields _=Data.cell v:=z
   cases z'⟩
 keep:=fun i h h' st k=>k it (by simp) _ st
 item:=by
  intro X hP hw hK hc i pins s σ H E I hf st hg
  subst hP hw hK
  obtain⟨f0,f1,f2,f3,f4,f5⟩:=hf it (by simp)
  have W:=Walks.range (prog:=X.prog) (w:=X.w) (I.ok.hd hc) it lo 1 n
  refine W.item i s _ _ hg st fun v h' tk hv st' kk=>?_
  obtain⟨t,rfl⟩:=hv
  have I1:Inv X pins σ H {s with heap:=h',toks:=tk}:=I.turned (fun b o hb e=>kk b o (by simpa using hb) e) f0 f1 f3 f4 f5
  refine⟨_,rfl,go_of (s:={s with heap:=h',toks:=tk}) (n:="range_iterator") st' rfl rfl (by decide) ⟨.int (lo+i),H,I1,⟨t,?_⟩,⟨rfl,rfl⟩,st',fun b hb=>(hf b hb).1⟩⟩
  rw [Int.mul_one]
 done:=by
  intro X hP hw hK hc i pins s σ H E I hf st hg
  subst hP hw hK
  obtain⟨f0,f1,f2,f3,f4,f5⟩:=hf it (by simp)
  exact wpAny_pyNext_range_end (I.ok.hd hc) st (by have:n<=i:=hg;omega) fun h' eb=>⟨rfl,I.turned (t':=s.toks) (fun b o hb e=>eb b o hb e) f0 f1 f3 f4 f5⟩
 self:=fun _ _ _ _ _ st h=>wpAny_pyIter_rangeiter st h
end L2
namespace L2
open PySem PySem.Spec PyProof.Rows
section
variable {X: Cx} {tg: Expr}
def iList (K:Frag) (tl:TE):TI:=fun σ H R=>tl σ H fun x H1=>∃a,x=.ref a/\(∃xs,SqL K H1 a xs)/\R (Itl K a) H1
theorem qc4 {l:Expr} {tl:TE} (hl:PE X l tl):PI X tg l (iList X.K tl):=by
 intro pins s σ H R I h
 refine thn (hl pins s σ H _ I h) fun v s1 ⟨x,H1,I1,r1,q1⟩=>?_
 obtain⟨a,e,⟨xs,hq⟩,q⟩:=q1
 subst e
 cases r1
 obtain⟨its,rv,p,hz⟩:=I1.list hq
 refine wpAny_pyIter_list p.isList ?_
 refine⟨s1.heap.objs.size, [s1.heap.objs.size],_,_,H1,rfl,I1.kept (t':=s1.toks) fun b o e=>Heap.get?_push_of_some _ e,turn_list a _,⟨_,Heap.get?_push_size _ rfl,rfl,rfl⟩,fun b hb=>?_,q⟩
 have e:b=s1.heap.objs.size:=by simpa using hb
 subst e
 exact I1.fpOk (Nat.le_refl _) (I1.hok.fresh (Nat.le_refl _))
theorem range_it {pins:List (Addr × Obj)} {σ:St} {H:Hp} {s:Shared} {R:It->Hp->Prop} {E:Value->Shared->Prop} {lo hi:Int} {t u v:Tok} {tk:Nat} (I:Inv X pins σ H s) (h1: -(2^62)<=lo) (h2:lo < 2^62) (h3: -(2^62)<=hi) (h4:hi < 2^62)
  (q:R (Itr lo (hi - lo).toNat) H):wpAny (model X.prog X.w) X.A (pyIter (.ref s.heap.objs.size)) (PIE X pins σ tg R) E {s with heap:=s.heap.push {cls:=.type "range",data:=.fields #[.int lo t,.int hi u,.int 1 v]},toks:=tk}:=by
 refine wpAny_pyIter_range (IsRange.new ..) (small_one h1 h2 h3 h4) ?_
 have I1:Inv X pins σ H {s with heap:=s.heap.push {cls:=.type "range",data:=.fields #[.int lo t,.int hi u,.int 1 v]},toks:=tk}:=I.kept fun b o e=>Heap.get?_push_of_some _ e
 refine⟨(s.heap.push {cls:=.type "range",data:=.fields #[.int lo t,.int hi u,.int 1 v]}).objs.size, [(s.heap.push {cls:=.type "range",data:=.fields #[.int lo t,.int hi u,.int 1 v]}).objs.size],_,_,H,rfl,
  I1.kept (t':=tk) fun b o e=>Heap.get?_push_of_some _ e,turn_range _ lo (hi - lo).toNat,?_,fun b hb=>?_,q⟩
 .have e1:lo+((0:Nat):Int)*1=lo:=by simp
  have e2:(((hi - lo).toNat:Nat):Int) - ((0:Nat):Int)=Builtin.Range.rangeSize lo hi 1:=by rw [rangeSize_one];split <;> omega
  show IsRangeIter _ _ (lo+((0:Nat):Int)*1) ((((hi - lo).toNat:Nat):Int) - ((0:Nat):Int)) 1
  rw [e1,e2]
  exact Heap.get?_push_size _ rfl
 .have e:b=(s.heap.push {cls:=.type "range",data:=.fields #[.int lo t,.int hi u,.int 1 v]}).objs.size:=by simpa using hb
  subst e
  exact I1.fpOk (Nat.le_refl _) (I1.hok.fresh (Nat.le_refl _))
def iRng1 (ta:TA):TI:=fun σ H R=>ta σ H fun vs H1=>∃j:Int,vs=[.int j]/\-(2^62)<=j/\j < 2^62/\R (Itr 0 j.toNat) H1
def iRng2 (ta:TA):TI:=fun σ H R=>ta σ H fun vs H1=>∃i j:Int,vs=[.int i,.int j]/\(-(2^62)<=i/\i < 2^62/\-(2^62)<=j/\j < 2^62)/\R (Itr i (j - i).toNat) H1
theorem qb5 {a:Expr} {ta:TA} {p pos:Pos} (hg:Gl X "range") (hm:X.mg "range" =none) (ha:PA X [a] ta) (hs:starEach [a] X.env=[(false,eval a X.env)]:=by rfl):PI X tg (.Call (.Name "range" p) [a] [] pos) (iRng1 ta):=by
 intro pins s σ H R I h
 refine Call_ (ld_blt I hg hm boot_range (PyProof.Rows.callWith_type1 (thn (ha pos pins s σ H _ I h) fun us s1 ⟨vs,H1,I1,r1,q1⟩=>?_) hs rfl))
 obtain⟨j,e,q1,q2,q⟩:=q1
 subst e
 cases r1 with
 |cons r rr=>
  cases rr
  obtain⟨t,rfl⟩:=r
  exact call_range_1 (range_it I1 (by omega) (by omega) q1 q2 (by simpa using q))
theorem pi_range2 {a b:Expr} {ta:TA} {p pos:Pos} (hg:Gl X "range") (hm:X.mg "range" =none) (ha:PA X [a,b] ta) (hs:starEach [a,b] X.env=[(false,eval a X.env),(false,eval b X.env)]:=by rfl) (hs2:starEach [b] X.env=[(false,eval b X.env)]:=by rfl):
  PI X tg (.Call (.Name "range" p) [a,b] [] pos) (iRng2 ta):=by
 intro pins s σ H R I h
 refine Call_ (ld_blt I hg hm boot_range (PyProof.Rows.callWith_type1 (thn (ha pos pins s σ H _ I h) fun us s1 ⟨vs,H1,I1,r1,q1⟩=>?_) (by rw [hs,hs2]) (by rw [hs2];rfl)))
 obtain⟨i,j,e,⟨q1,q2,q3,q4⟩,q⟩:=q1
 subst e
 cases r1 with
 |cons r rr=>
  cases rr with
  |cons r' rr=>
   cases rr
   obtain⟨t,rfl⟩:=r
   obtain⟨t',rfl⟩:=r'
   exact call_range_2 (range_it I1 q1 q2 q3 q4 q)
def tFor (wi:TI) (g:TG) (tb:TS):TS:=fun D σ H=>wi σ H fun J H1=>∃W:Nat->Nat->St->Hp->Prop,(∃m,W 0 m σ H1)/\∀i m σ H,W i m σ H->
 (J.stop i H/\D.nx σ H)\/(J.go i H/\∃N:St->Hp->Prop,(∀σ' H',N σ' H'->∃m',m' < m/\W (i+1) m' σ' H')/\∀x H',J.yld i H x H'->g x σ H' fun σ2 H2=>tb {D with nx:=N,ct:=N,bk:=D.nx} σ2 H2)
def qbv (fp:List Addr) (h:Heap):List (Addr × Obj):=fp.filterMap fun b=>(h.get? b).map fun o=>(b,o)
theorem qbu {fp:List Addr} {h:Heap} {b:Addr} {o:Obj} (hb:b∈fp) (e:h.get? b=some o):(b,o)∈qbv fp h:=List.mem_filterMap.mpr ⟨b,hb,by rw [e];rfl⟩
theorem of_pinsAt {fp:List Addr} {h:Heap} {p:Addr × Obj} (hp:p∈qbv fp h):p.1∈fp/\h.get? p.1=some p.2:=by
 obtain⟨b,hb,e⟩:=List.mem_filterMap.mp hp
 cases q:h.get? b with
 |none=>rw [q] at e;cases e
 |some o=>
  rw [q] at e
  have e':(b,o)=p:=Option.some.inj e
  subst e'
  exact⟨hb,q⟩
theorem Inv.pinned {pins:List (Addr × Obj)} {σ:St} {H:Hp} {s:Shared} {fp:List Addr} (I:Inv X pins σ H s) (hf:∀b∈fp,qfy X pins H b) (ho:∀b∈fp,∃o,s.heap.get? b=some o/\∀v,o.data≠ .cell v):Inv X (pins++qbv fp s.heap) σ H s:=
 I.pins_of fun p hp=>(mem_append.mp hp).elim (fun z=>I.pin p (mem_append_right _ z)) fun z=>by
  obtain⟨hb,e⟩:=of_pinsAt z
  obtain⟨f0,f1,f2,_⟩:=hf p.1 hb
  obtain⟨o,e',d⟩:=ho p.1 hb
  rw [e] at e';cases e'
  exact⟨e,f0,f1,f2,d⟩
theorem Inv.unpinned {pins pl:List (Addr × Obj)} {σ:St} {H:Hp} {s:Shared} (I:Inv X (pins++pl) σ H s):Inv X pins σ H s:=I.pins_of fun p hp=>I.pin p (mem_append_right _ (mem_append_left _ hp))
theorem qbl {iter:Expr} {body:List Stmt} {wi:TI} {g:TG} {tb:TS} {pos:Pos} (hp:PassesOwn (model X.prog X.w) X.A X.env X.xe) (hc:X.calm=true) (hi:PI X tg iter wi) (hg:PG X tg g) (hb:PSs X body tb)
  (hs:∀x,foldedSetIterable iter X.env x=pure x:=by intro _;rfl):PS X (.For tg iter body [] pos) (tFor wi g tb):=by
 intro pins s σ H D I h
 refine wpAny_For (thn (hi pins s σ H _ I h) fun v s1 h1=>thn h1 fun itv s2 h2=>?_) hs
 obtain⟨it,fp,tn,J,H2,e,I2,T,st2,f2,W,⟨m0,w0⟩,turn⟩:=h2
 subst e
 have stat:∀{H':Hp},(∀b∈fp,H' b=none)->∀b∈fp,qfy X pins H' b:=fun hn b hb=>⟨hn b hb,(f2 b hb).2⟩
 refine codeAny_forLoop_any (fun n s'=>∃i σ' H',Inv X pins σ' H' s'/\tn i s'.heap/\(∀b∈fp,H' b=none)/\W i n σ' H') ?_ m0 ⟨0,σ,H2,I2,st2,fun b hb=>(f2 b hb).1,w0⟩
 rintro n s3 ⟨i,σ3,H3,I3,st3,fr3,w3⟩
 rcases turn i n σ3 H3 w3 with ⟨stop,qn⟩ |⟨go,N,hN,step⟩
 .refine wpAny_passesOwn hp (thn (T.done X rfl rfl rfl hc i pins s3 σ3 H3 X.xe I3 (stat fr3) st3 stop) fun r s4 ⟨hr,I4⟩=>?_)
  subst hr
  exact wpAny_execs_nil ⟨σ3,H3,I4,qn⟩
 .refine wpAny_passesOwn hp (thn (T.item X rfl rfl rfl hc i pins s3 σ3 H3 X.xe I3 (stat fr3) st3 go) fun r s4 ⟨u,hr,h4⟩=>?_)
  subst hr
  refine wpAny_passesOwn hp (thn h4 fun _ s5 ⟨x,H5,I5,r5,y5,st5,fr5⟩=>?_)
  have I5':=I5.pinned (stat fr5) (T.obj _ _ st5)
  refine wpAny_passesOwn hp (thn (hg _ s5 σ3 H5 x u _ I5' r5 (step x H5 y5)) fun _ s6 ⟨σ6,H6,I6,q6⟩=>?_)
  refine wpAny_passesOwn hp (thn (hb _ s6 σ6 H6 _ I6 q6) fun f s7 q7=>?_)
  have again:∀{σ7:St} {H7:Hp},Inv X (pins++qbv fp s5.heap) σ7 H7 s7->N σ7 H7->∃m,m < n/\∃i σ' H',Inv X pins σ' H' s7/\tn i s7.heap/\(∀b∈fp,H' b=none)/\W i m σ' H':=fun {σ7 H7} I7 n7=>by
   obtain⟨m',hm,w7⟩:=hN σ7 H7 n7
   refine⟨m',hm,i+1,σ7,H7,I7.unpinned,T.keep _ _ _ st5 fun b hb o e=>(I7.pin (b,o) (mem_append_right _ (mem_append_right _ (qbu hb e)))).1,fun b hb=>?_,w7⟩
   obtain⟨o,e,d⟩:=T.obj _ _ st5 b hb
   exact(I7.pin (b,o) (mem_append_right _ (mem_append_right _ (qbu hb e)))).2.1
  cases f with
  |next=>obtain⟨σ7,H7,I7,n7⟩:=q7;exact again I7 n7
  |cont=>obtain⟨σ7,H7,I7,n7⟩:=q7;exact again I7 n7
  |brk=>obtain⟨σ7,H7,I7,q7⟩:=q7;exact⟨σ7,H7,I7.unpinned,q7⟩
  |ret v=>obtain⟨x7,σ7,H7,I7,r7,q7⟩:=q7;exact⟨x7,σ7,H7,I7.unpinned,r7,q7⟩
end
theorem for_list {K:Frag} {a:Addr} {xs:List V} {g:TG} {tb:TS} {D:Ends} {σ:St} {H:Hp} (Pv:Nat->St->Hp->Prop) (h0:Pv 0 σ H) (hl:∀i σ H,i<=xs.length->Pv i σ H->SqL K H a xs)
  (hs:∀i x σ H,xs[i]?=some x->Pv i σ H->g x σ H fun σ2 H2=>tb {D with nx:=Pv (i+1),ct:=Pv (i+1),bk:=D.nx} σ2 H2) (hd:∀σ H,Pv xs.length σ H->D.nx σ H):
  ∃W:Nat->Nat->St->Hp->Prop,(∃m,W 0 m σ H)/\∀i m σ H,W i m σ H->
   ((Itl K a).stop i H/\D.nx σ H)\/((Itl K a).go i H/\∃N:St->Hp->Prop,(∀σ' H',N σ' H'->∃m',m' < m/\W (i+1) m' σ' H')/\∀x H',(Itl K a).yld i H x H'->g x σ H' fun σ2 H2=>tb {D with nx:=N,ct:=N,bk:=D.nx} σ2 H2):=by
 refine⟨fun i m σ H=>m=xs.length - i/\i<=xs.length/\Pv i σ H,⟨xs.length,by simp,Nat.zero_le _,h0⟩,?_⟩
 rintro i m σ H ⟨rfl,hi,p⟩
 have q:=hl i σ H hi p
 by_cases hlt:i < xs.length
 .refine .inr ⟨⟨xs,xs[i],q,by simp [hlt]⟩,Pv (i+1),fun σ' H' p'=>⟨xs.length - (i+1),by omega,rfl,hlt,p'⟩,fun x H' y=>?_⟩
  obtain⟨e,y⟩:=y
  subst e
  exact hs i x σ _ (y xs q) p
 .have e:i=xs.length:=by omega
  subst e
  exact .inl ⟨⟨xs,q,Nat.le_refl _⟩,hd σ H p⟩
theorem for_range {lo:Int} {n:Nat} {g:TG} {tb:TS} {D:Ends} {σ:St} {H:Hp} (Pv:Nat->St->Hp->Prop) (h0:Pv 0 σ H)
  (hs:∀i σ H,i < n->Pv i σ H->g (.int (lo+i)) σ H fun σ2 H2=>tb {D with nx:=Pv (i+1),ct:=Pv (i+1),bk:=D.nx} σ2 H2) (hd:∀σ H,Pv n σ H->D.nx σ H):
  ∃W:Nat->Nat->St->Hp->Prop,(∃m,W 0 m σ H)/\∀i m σ H,W i m σ H->
   ((Itr lo n).stop i H/\D.nx σ H)\/((Itr lo n).go i H/\∃N:St->Hp->Prop,(∀σ' H',N σ' H'->∃m',m' < m/\W (i+1) m' σ' H')/\∀x H',(Itr lo n).yld i H x H'->g x σ H' fun σ2 H2=>tb {D with nx:=N,ct:=N,bk:=D.nx} σ2 H2):=by
 refine⟨fun i m σ H=>m=n - i/\i<=n/\Pv i σ H,⟨n,by simp,Nat.zero_le _,h0⟩,?_⟩
 rintro i m σ H ⟨rfl,hi,p⟩
 by_cases hlt:i < n
 .refine .inr ⟨hlt,Pv (i+1),fun σ' H' p'=>⟨n - (i+1),by omega,rfl,hlt,p'⟩,fun x H' y=>?_⟩
  obtain⟨e,y⟩:=y
  subst e y
  exact hs i σ _ hlt p
 .have e:i=n:=by omega
  subst e
  exact .inl ⟨Nat.le_refl _,hd σ H p⟩
theorem qfd {c:TT} {tb:TS} {D:Ends} {σ:St} {H:Hp} (Pv:St->Hp->Prop) (μ:St->Hp->Nat) (h0:Pv σ H)
  (hs:∀σ H,Pv σ H->c σ H fun b H1=>if b=true then tb {D with nx:=fun σ' H'=>Pv σ' H'/\μ σ' H' < μ σ H,ct:=fun σ' H'=>Pv σ' H'/\μ σ' H' < μ σ H,bk:=D.nx} σ H1 else D.nx σ H1)
  (mono:∀σ H Q Q',(∀b H1,Q b H1->Q' b H1)->c σ H Q->c σ H Q'):tWhile c tb D σ H:=by
 refine⟨fun m σ H=>m=μ σ H/\Pv σ H,⟨_,rfl,h0⟩,?_⟩
 rintro m σ H ⟨rfl,p⟩
 refine mono σ H _ _ (fun b H1 q=>?_) (hs σ H p)
 cases b with
 |true=>exact⟨_,fun σ' H' ⟨p',l⟩=>⟨_,l,rfl,p'⟩,q⟩
 |false=>exact q
end L2
namespace L2
open PySem PySem.Spec PyProof.Rows
abbrev R2:=V->V->Hp->VK->Prop
def OpR (X:Cx) (f:Value->Value->Sem Value) (r:R2):Prop:=
 ∀(pins:List (Addr × Obj)) (s:Shared) (σ:St) (H:Hp) (x y:V) (v u:Value) (Q:VK),Inv X pins σ H s->qb6 x v->qb6 y u->r x y H Q->
  wpAny (model X.prog X.w) X.A (f v u) (EP X pins σ Q) X.xe s
def qcb (X:Cx) (f:Value) (r:List V->Hp->VK->Prop):Prop:=
 ∀(pins:List (Addr × Obj)) (s:Shared) (σ:St) (H:Hp) (xs:List V) (us:List Value) (Q:VK),Inv X pins σ H s->qbb xs us->r xs H Q->
  wpAny (model X.prog X.w) X.A (call f us) (EP X pins σ Q) X.xe s
def tOp (r:R2) (ta tb:TE):TE:=fun σ H Q=>ta σ H fun x H1=>tb σ H1 fun y H2=>r x y H2 Q
def rI (C:Int->Int->Prop) (g:Int->Int->V):R2:=fun x y H Q=>∃i j,x=.int i/\y=.int j/\C i j/\Q (g i j) H
def rI0 (g:Int->Int->V):R2:=fun x y H Q=>∃i j,x=.int i/\y=.int j/\Q (g i j) H
section
variable {X: Cx} {a b: Expr} {ta tb: TE} {pos: Pos}
theorem binT (ha:PE X a ta) (hb:PE X b tb) {pins:List (Addr × Obj)} {s:Shared} {σ:St} {H:Hp} {R:V->V->Hp->Prop} (I:Inv X pins σ H s)
  (h:ta σ H fun x H1=>tb σ H1 fun y H2=>R x y H2) {Q:Value->Shared->Prop} {f:Value->Value->Sem Value}
  (hf:∀v u s2 x y H2,Inv X pins σ H2 s2->qb6 x v->qb6 y u->R x y H2->wpAny (model X.prog X.w) X.A (f v u) Q X.xe s2):
  wpAny (model X.prog X.w) X.A (eval a X.env) (fun v s₁=>wpAny (model X.prog X.w) X.A (eval b X.env) (fun u s₂=>wpAny (model X.prog X.w) X.A (f v u) Q X.xe s₂) X.xe s₁) X.xe s:=by
 refine thn (ha pins s σ H _ I h) fun v s1 ⟨x,H1,I1,r1,q1⟩=>?_
 refine thn (hb pins s1 σ H1 _ I1 q1) fun u s2 ⟨y,H2,I2,r2,q2⟩=>?_
 exact hf v u s2 x y H2 I2 r1 r2 q2
theorem qal {op:Operator} {r:R2} (ho:OpR X (binaryOp op) r) (ha:PE X a ta) (hb:PE X b tb):PE X (.BinOp a op b pos) (tOp r ta tb):=by
 intro pins s σ H Q I h
 exact wpAny_BinOp (binT ha hb I h fun v u s2 x y H2 I2 rx ry q=>ho pins s2 σ H2 x y v u Q I2 rx ry q)
theorem opI {f:Value->Value->Sem Value} {C:Int->Int->Prop} {g:Int->Int->Int}
  (rule:∀(i j:Int) (t u:Tok) (s:Shared) (Q:Value->Shared->Prop) (E:Value->Shared->Prop),C i j->Q (.int (g i j) s.toks) {s with toks:=s.toks+1}->wpAny (model X.prog X.w) X.A (f (.int i t) (.int j u)) Q E s):
  OpR X f (rI C fun i j=> .int (g i j)):=by
 intro pins s σ H x y v u Q I rx ry h
 obtain⟨i,j,rfl,rfl,hc,q⟩:=h
 obtain⟨t,rfl⟩:=rx
 obtain⟨t',rfl⟩:=ry
 exact rule i j t t' s _ _ hc ⟨.int (g i j),H,I.tok _,⟨_,rfl⟩,q⟩
theorem opI0 {f:Value->Value->Sem Value} {g:Int->Int->Int}
  (rule:∀(i j:Int) (t u:Tok) (s:Shared) (Q:Value->Shared->Prop) (E:Value->Shared->Prop),Q (.int (g i j) s.toks) {s with toks:=s.toks+1}->wpAny (model X.prog X.w) X.A (f (.int i t) (.int j u)) Q E s):
  OpR X f (rI0 fun i j=> .int (g i j)):=by
 intro pins s σ H x y v u Q I rx ry h
 obtain⟨i,j,rfl,rfl,q⟩:=h
 obtain⟨t,rfl⟩:=rx
 obtain⟨t',rfl⟩:=ry
 exact rule i j t t' s _ _ ⟨.int (g i j),H,I.tok _,⟨_,rfl⟩,q⟩
theorem opB0 {f:Value->Value->Sem Value} {g:Int->Int->Bool}
  (rule:∀(i j:Int) (t u:Tok) (s:Shared) (Q:Value->Shared->Prop) (E:Value->Shared->Prop),Q (.bool (g i j)) s->wpAny (model X.prog X.w) X.A (f (.int i t) (.int j u)) Q E s):
  OpR X f (rI0 fun i j=> .bl (g i j)):=by
 intro pins s σ H x y v u Q I rx ry h
 obtain⟨i,j,rfl,rfl,q⟩:=h
 obtain⟨t,rfl⟩:=rx
 obtain⟨t',rfl⟩:=ry
 exact rule i j t t' s _ _ ⟨.bl (g i j),H,I,rfl,q⟩
def CPow (i j:Int):Prop:=0<=j/\j<=1000000/\i.natAbs < 2^64
theorem qba:OpR X (binaryOp .Add) (rI0 fun i j=> .int (i+j)):=opI0 fun _ _ _ _ _ _ _ q=>add_int q
theorem op_sub:OpR X (binaryOp .Sub) (rI0 fun i j=> .int (i - j)):=opI0 fun _ _ _ _ _ _ _ q=>sub_int q
theorem qbh:OpR X (binaryOp .Mod) (rI (fun _ j=>0 < j) fun i j=> .int (i%j)):=opI fun i j _ _ _ _ _ hc q=>by
 have h1:(0:Int) < j:=hc
 exact mod_int' (by omega) (by rw [Int.fmod_eq_emod_of_nonneg i (by omega)];exact q)
theorem op_pow:OpR X (binaryOp .Pow) (rI CPow fun i j=> .int (i^j.toNat)):=opI fun _ _ _ _ _ _ _ hc q=>pow_int_small hc.1 hc.2.1 hc.2.2 q
end
def scal:V->V->Bool
 | .non,.non=>true| .non,.int _=>true| .int _,.non=>true| .non,.bl _=>true| .bl _,.non=>true| .non,.str _=>true| .str _,.non=>true
 | .int _,.int _=>true| .bl _,.bl _=>true| .str _,.str _=>true| .byt _,.byt _=>true
 | .int _,.str _=>true| .str _,.int _=>true| .bl _,.str _=>true| .str _,.bl _=>true
 |_,_=>false
def rEq:R2:=fun x y H Q=>scal x y=true/\Q (.bl (decide (x=y))) H
def rNe:R2:=fun x y H Q=>scal x y=true/\Q (.bl (!decide (x=y))) H
theorem dec_int {i j:Int}:decide (V.int i=V.int j)=(i==j):=by
 rw [Bool.eq_iff_iff]
 simp
theorem dec_bl {i j:Bool}:decide (V.bl i=V.bl j)=(i==j):=by
 rw [Bool.eq_iff_iff]
 simp
theorem dec_str {i j:Str}:decide (V.str i=V.str j)=(i==j):=by
 rw [Bool.eq_iff_iff]
 simp
theorem dec_byt {i j:Array UInt8}:decide (V.byt i=V.byt j)=(i.toList==j.toList):=by
 rw [Bool.eq_iff_iff]
 cases i
 cases j
 simp
section
variable {X: Cx} {a b c: Expr} {ta tb tc: TE} {pos: Pos}
theorem qb3 {pins:List (Addr × Obj)} {σ:St} {H:Hp} {s:Shared} {Q:VK} {k k':Bool} (I:Inv X pins σ H s) (q:Q (.bl k) H) (e:k=k'):EP X pins σ Q (.bool k') s:=by
 subst e
 exact⟨.bl k,H,I,rfl,q⟩
theorem qdl:OpR X (compareOp .Eq) rEq:=by
 intro pins s σ H x y v u Q I rx ry h
 obtain⟨hs,q⟩:=h
 cases x with
 |non=>
  cases rx
  cases y with
  |non=>cases ry;exact PySem.EqNone.eq_none_none (qb3 I q (by simp))
  |bl j=>cases ry;exact PySem.EqNone.eq_none_bool (qb3 I q (by simp))
  |int j=>obtain⟨t',rfl⟩:=ry;exact PySem.EqNone.eq_none_int (qb3 I q (by simp))
  |str j=>obtain⟨t',rfl⟩:=ry;exact PySem.EqNone.eq_none_str (qb3 I q (by simp))
  |_=>exact absurd (show false=true from hs) Bool.false_ne_true
 |bl i=>
  cases rx
  cases y with
  |non=>cases ry;exact PySem.EqNone.eq_bool_none (qb3 I q (by simp))
  |bl j=>cases ry;exact eq_bool (qb3 I q dec_bl)
  |str j=>obtain⟨t',rfl⟩:=ry;exact PySem.EqMixed.eq_bool_str (qb3 I q (by simp))
  |_=>exact absurd (show false=true from hs) Bool.false_ne_true
 |int i=>
  obtain⟨t,rfl⟩:=rx
  cases y with
  |non=>cases ry;exact PySem.EqNone.eq_int_none (qb3 I q (by simp))
  |int j=>obtain⟨t',rfl⟩:=ry;exact eq_int (qb3 I q dec_int)
  |str j=>obtain⟨t',rfl⟩:=ry;exact PySem.EqMixed.eq_int_str (qb3 I q (by simp))
  |_=>exact absurd (show false=true from hs) Bool.false_ne_true
 |str i=>
  obtain⟨t,rfl⟩:=rx
  cases y with
  |non=>cases ry;exact PySem.EqNone.eq_str_none (qb3 I q (by simp))
  |bl j=>cases ry;exact PySem.EqMixed.eq_str_bool (qb3 I q (by simp))
  |int j=>obtain⟨t',rfl⟩:=ry;exact PySem.EqMixed.eq_str_int (qb3 I q (by simp))
  |str j=>obtain⟨t',rfl⟩:=ry;exact eq_str (qb3 I q dec_str)
  |_=>exact absurd (show false=true from hs) Bool.false_ne_true
 |byt i=>
  obtain⟨t,rfl⟩:=rx
  cases y with
  |byt j=>obtain⟨t',rfl⟩:=ry;exact PySem.W.eq_bytes (qb3 I q dec_byt)
  |_=>exact absurd (show false=true from hs) Bool.false_ne_true
 |_=>cases y <;> exact absurd (show false=true from hs) Bool.false_ne_true
theorem op_ne:OpR X (compareOp .NotEq) rNe:=by
 intro pins s σ H x y v u Q I rx ry h
 obtain⟨hs,q⟩:=h
 cases x with
 |non=>
  cases rx
  cases y with
  |non=>cases ry;exact PySem.EqNone.ne_none_none (qb3 I q (by simp))
  |bl j=>cases ry;exact PySem.EqNone.ne_none_bool (qb3 I q (by simp))
  |int j=>obtain⟨t',rfl⟩:=ry;exact PySem.EqNone.ne_none_int (qb3 I q (by simp))
  |str j=>obtain⟨t',rfl⟩:=ry;exact PySem.EqNone.ne_none_str (qb3 I q (by simp))
  |_=>exact absurd (show false=true from hs) Bool.false_ne_true
 |bl i=>
  cases rx
  cases y with
  |non=>cases ry;exact PySem.EqNone.ne_bool_none (qb3 I q (by simp))
  |bl j=>cases ry;exact ne_bool (qb3 I q (congrArg not dec_bl))
  |str j=>obtain⟨t',rfl⟩:=ry;exact PySem.EqMixed.ne_bool_str (qb3 I q (by simp))
  |_=>exact absurd (show false=true from hs) Bool.false_ne_true
 |int i=>
  obtain⟨t,rfl⟩:=rx
  cases y with
  |non=>cases ry;exact PySem.EqNone.ne_int_none (qb3 I q (by simp))
  |int j=>obtain⟨t',rfl⟩:=ry;exact ne_int (qb3 I q (congrArg not dec_int))
  |str j=>obtain⟨t',rfl⟩:=ry;exact PySem.EqMixed.ne_int_str (qb3 I q (by simp))
  |_=>exact absurd (show false=true from hs) Bool.false_ne_true
 |str i=>
  obtain⟨t,rfl⟩:=rx
  cases y with
  |non=>cases ry;exact PySem.EqNone.ne_str_none (qb3 I q (by simp))
  |bl j=>cases ry;exact PySem.EqMixed.ne_str_bool (qb3 I q (by simp))
  |int j=>obtain⟨t',rfl⟩:=ry;exact PySem.EqMixed.ne_str_int (qb3 I q (by simp))
  |str j=>obtain⟨t',rfl⟩:=ry;exact ne_str (qb3 I q (congrArg not dec_str))
  |_=>exact absurd (show false=true from hs) Bool.false_ne_true
 |byt i=>
  obtain⟨t,rfl⟩:=rx
  cases y with
  |byt j=>obtain⟨t',rfl⟩:=ry;exact PySem.W.ne_bytes (qb3 I q (congrArg not dec_byt))
  |_=>exact absurd (show false=true from hs) Bool.false_ne_true
 |_=>cases y <;> exact absurd (show false=true from hs) Bool.false_ne_true
theorem op_lt:OpR X (compareOp .Lt) (rI0 fun i j=> .bl (decide (i < j))):=opB0 fun _ _ _ _ _ _ _ q=>lt_int q
theorem op_le:OpR X (compareOp .LtE) (rI0 fun i j=> .bl (decide (i<=j))):=opB0 fun _ _ _ _ _ _ _ q=>le_int q
theorem qfn:OpR X (compareOp .Gt) (rI0 fun i j=> .bl (decide (j < i))):=opB0 fun _ _ _ _ _ _ _ q=>gt_int q
theorem op_ge:OpR X (compareOp .GtE) (rI0 fun i j=> .bl (decide (j<=i))):=opB0 fun _ _ _ _ _ _ _ q=>ge_int q
theorem op_in_str:OpR X (compareOp .In) (fun x y H Q=>∃i j,x=.str i/\y=.str j/\Q (.bl (!(Builtin.Str.occurrences j i 0 j.length 1).isEmpty)) H):=by
 intro pins s σ H x y v u Q I rx ry h
 obtain⟨i,j,rfl,rfl,q⟩:=h
 obtain⟨t,rfl⟩:=rx
 obtain⟨t',rfl⟩:=ry
 exact in_str (qb3 I q rfl)
theorem op_notN:OpR X (compareOp .IsNot) (fun x y H Q=>y=.non/\Q (.bl (!decide (x=.non))) H):=by
 intro pins s σ H x y v u Q I rx ry h
 obtain⟨rfl,q⟩:=h
 cases ry
 refine isnot_none_gen (qb3 I q ?_)
 cases x <;> first
  |(cases rx;rfl)
  |(obtain⟨t,rfl⟩:=rx;rfl)
theorem qau (b:Expr) {op:CmpOp} (h:op≠ .In:=by decide) (h2:op≠ .NotIn:=by decide):behindInMarks op b=false:=by
 have e1:(op==CmpOp.In)=false:=by cases op <;> first|rfl|exact absurd rfl h
 have e2:(op==CmpOp.NotIn)=false:=by cases op <;> first|rfl|exact absurd rfl h2
 cases b <;> simp [behindInMarks,e1,e2]
theorem qdz {op:CmpOp} {r:R2} (ho:OpR X (compareOp op) r) (ha:PE X a ta) (hb:PE X b tb) (hm:behindInMarks op b=false):PE X (.Compare a [op] [b] pos) (tOp r ta tb):=by
 intro pins s σ H Q I h
 exact wpAny_Compare1 (binT ha hb I h fun v u s2 x y H2 I2 rx ry q=>ho pins s2 σ H2 x y v u Q I2 rx ry q) hm
def tTest (t:TE):TT:=fun σ H Q=>t σ H fun x H'=>∃k,x=.bl k/\Q k H'
theorem qai {op:CmpOp} {r:R2} (ho:OpR X (compareOp op) r) (ha:PE X a ta) (hb:PE X b tb) (hm:behindInMarks op b=false):PT X (.Compare a [op] [b] pos) (tTest (tOp r ta tb)):=by
 intro pins s σ H Q I h
 refine wpAny_isTrue_Compare1 (thn (ha pins s σ H _ I h) fun v s1 ⟨x,H1,I1,r1,q1⟩=>thn (hb pins s1 σ H1 _ I1 q1) fun u s2 ⟨y,H2,I2,r2,q2⟩=>
  thn (ho pins s2 σ H2 x y v u _ I2 r1 r2 q2) fun c s3 ⟨z,H3,I3,r3,k,e,q3⟩=>?_) hm
 subst e
 cases r3
 exact wpAny_truthy_bool ⟨H3,I3,q3⟩
def tChain (r r':R2) (ta tb tc:TE):TE:=fun σ H Q=>ta σ H fun x H1=>tb σ H1 fun y H2=>r x y H2 fun z H3=>∃k,z=.bl k/\
 (if k=true then tc σ H3 fun w' H4=>r' y w' H4 Q else Q (.bl false) H3)
theorem pe_chain {op op':CmpOp} {r r':R2} (ho:OpR X (compareOp op) r) (ho':OpR X (compareOp op') r') (ha:PE X a ta) (hb:PE X b tb) (hc:PE X c tc)
  (hm:lastMarks [op,op'] [b,c]=false:=by with_unfolding_all rfl):PE X (.Compare a [op,op'] [b,c] pos) (tChain r r' ta tb tc):=by
 intro pins s σ H Q I h
 refine Compare_chain (thn (ha pins s σ H _ I h) fun v s1 ⟨x,H1,I1,r1,q1⟩=>chain_link (thn (hb pins s1 σ H1 _ I1 q1) fun u s2 ⟨y,H2,I2,r2,q2⟩=>
  thn (ho pins s2 σ H2 x y v u _ I2 r1 r2 q2) fun d s3 ⟨z,H3,I3,r3,k,e,q3⟩=>?_)) hm
 subst e
 cases r3
 refine wpAny_truthy_bool ?_
 cases k with
 |false=>exact ite_ff ⟨.bl false,H3,I3,rfl,q3⟩
 |true=>exact ite_tt (chain_last (thn (hc pins s3 σ H3 _ I3 q3) fun w' s4 ⟨z',H4,I4,r4,q4⟩=>ho' pins s4 σ H4 y z' u w' Q I4 r2 r4 q4))
theorem line63:(sizeLine:Nat) < 2^63:=by rw [sizeLine_eq];decide
theorem op_add_str:OpR X (binaryOp .Add) (fun x y H Q=>∃i j,x=.str i/\y=.str j/\i.length+j.length<=sizeLine/\Q (.str (i++j)) H):=by
 intro pins s σ H x y v u Q I rx ry h
 obtain⟨i,j,rfl,rfl,hz,q⟩:=h
 obtain⟨t,rfl⟩:=rx
 obtain⟨t',rfl⟩:=ry
 exact add_str (fun t' tk=>⟨.str (i++j),H,I.tok _,⟨_,rfl⟩,q⟩) hz
theorem vals1 {x:V} {us:List Value} (r:qbb [x] us):∃u,us=[u]/\qb6 x u:=by
 cases r with
 |cons r1 r2=>cases r2;exact⟨_,rfl,r1⟩
theorem vals2 {x y:V} {us:List Value} (r:qbb [x,y] us):∃u w',us=[u,w']/\qb6 x u/\qb6 y w':=by
 cases r with
 |cons r1 r2=>
  cases r2 with
  |cons r3 r4=>cases r4;exact⟨_,_,rfl,r1,r3⟩
theorem call_max2 (hc:X.calm=true):qcb X (.builtin "max") (fun xs H Q=>∃i j,xs=[.int i,.int j]/\Q (.int (if j > i then j else i)) H):=by
 intro pins s σ H xs us Q I r h
 obtain⟨i,j,rfl,q⟩:=h
 obtain⟨u,w',rfl,⟨t,rfl⟩,⟨t',rfl⟩⟩:=vals2 r
 refine max_two_ints (I.ok.hd hc) fun h' tk k=>⟨_,H,I.kept k,?_,q⟩
 by_cases hj:j > i
 .rw [if_pos hj,if_pos hj];exact⟨_,rfl⟩
 .rw [if_neg hj,if_neg hj];exact⟨_,rfl⟩
theorem call_min2 (hc:X.calm=true):qcb X (.builtin "min") (fun xs H Q=>∃i j,xs=[.int i,.int j]/\Q (.int (if j < i then j else i)) H):=by
 intro pins s σ H xs us Q I r h
 obtain⟨i,j,rfl,q⟩:=h
 obtain⟨u,w',rfl,⟨t,rfl⟩,⟨t',rfl⟩⟩:=vals2 r
 refine min_two_ints (I.ok.hd hc) fun h' tk k=>⟨_,H,I.kept k,?_,q⟩
 by_cases hj:j < i
 .rw [if_pos hj,if_pos hj];exact⟨_,rfl⟩
 .rw [if_neg hj,if_neg hj];exact⟨_,rfl⟩
end
end L2
namespace L2
open PySem PySem.Spec PyProof.Rows
structure ObjM (h:Heap) (x dx C:Addr) (mA:Str->Option Value):Prop where
 obj:h.get? x=some (instObj C dx)
 ns:h.Ns1 dx mA
 ne:dx≠x
theorem lookIn_ns {h:Heap} {dx:Addr} {mA:Str->Option Value} (n:h.Ns1 dx mA):∃od,h.get? dx=some od/\∀name,lookIn name od=some (mA name):=by
 obtain⟨o,es,ep,ho,hd,hk,_,hm⟩:=n
 refine⟨o,ho,fun name=>?_⟩
 have e:=hm name
 unfold nsFind findBy at e
 rw [<-Array.find?_toList] at e
 unfold lookIn
 rw [hd]
 dsimp only
 split
 .rename_i y q
  rw [q] at e
  exact congrArg some e
 .rename_i q
  rw [q] at e
  have a:es.toList.any (·.refKey)=false:=by
   rw [List.any_eq_false]
   intro y hy
   obtain⟨z,t,hkey⟩:=hk y (Array.mem_toList_iff.mp hy)
   simp [DictEntry.refKey,hkey]
  have a':¬es.toList.any (·.refKey)=true:=by rw [a];exact Bool.false_ne_true
  rw [if_neg a']
  exact congrArg some e
theorem ObjM.look {h:Heap} {x dx C:Addr} {mA:Str->Option Value} (I:ObjM h x dx C mA):∃od,PySem.W.InstAt h x (instObj C dx) C (some od)/\∀name,lookIn name od=some (mA name):=
 let ⟨od,ho,hl⟩:=lookIn_ns I.ns
 ⟨od,⟨I.obj,rfl,rfl,ho⟩,hl⟩
section
variable {prog: Program} {w: World} {A: Around} {E: Value -> Shared -> Prop} {s: Shared} {K: Frag} {x dx C f: Addr} {mA: Str -> Option Value} {name: Str} {v: Value}
theorem get_map {expr:Bool} {Q:Value->Shared->Prop} (X:K.In s.heap) (I:ObjM s.heap x dx C mA) (hg:plainGet K C name=true) (hh:hasDictIn K C=true)
  (ha:PySem.W.findIn K (.ref C) name=some none) (hv:mA name=some v) (hv':PySem.W.handedIn v=true) (h:Q v {s with toks:=s.toks+1}):
  wpAny (model prog w) A (getAttr (.ref x) name expr) Q E s:=by
 obtain⟨od,J,hl⟩:=I.look
 exact PySem.W.get_value X J (PySem.W.plainGet_of hg).1 (PySem.W.findObj_own hh ha rfl (by rw [hl,hv])) hv' h
theorem get_meth {pl:Sem Bool} {Q:Value × List Value->Shared->Prop} (X:K.In s.heap) (I:ObjM s.heap x dx C mA) (hg:plainGet K C name=true)
  (hf:PySem.W.findIn K (.ref C) name=some (some (.ref f))) (ht:isFn K (.ref f)=true) (hv:mA name=none) (h:Q (.ref f, [.ref x]) s):
  wpAny (model prog w) A (getMethod (.ref x) name pl) Q E s:=by
 obtain⟨od,J,hl⟩:=I.look
 exact PySem.W.method_fn X J (PySem.W.plainGet_of hg).1 (PySem.W.plainGet_of hg).2 hf (beq_iff_eq.mp ht) (by show (lookIn name od).map (·.isSome)=some false;rw [hl,hv];rfl) h
theorem set_map {ns:List Str} {Q:Unit->Shared->Prop} (X:K.In s.heap) (I:ObjM s.heap x dx C mA)
  (hs:PySem.W.findIn K (.ref C) "__setattr__" =some (some (.builtin "object.__setattr__"))) (hp:PySem.W.plainOver K C=true) (ht:PySem.W.takerIn K C name=some none) (hh:hasDictIn K C=true)
  (hw:PySem.Within mA ns) (hsz:ns.length<=sizeLine)
  (h:∀h',ObjM h' x dx C (fun y=>if y=name then some v else mA y)->Heap.SameBut dx s.heap h'->Q () {s with heap:=h',toks:=s.toks+2}):
  wpAny (model prog w) A (setAttr (.ref x) name v) Q E s:=by
 obtain⟨od,J,hl⟩:=I.look
 refine PySem.W.set_plain X J hs (PySem.W.osa_open (s:={s with toks:=s.toks+1}) (r:=none) X J hp ht fun b=>?_)
 obtain⟨cd,hc,hd'⟩:=PySem.W.any_some hh
 have hx:s.heap.get? x=some ⟨.ref C,some dx,.plain,#[]⟩:=I.obj
 refine wpAny_bind (wpAny_pure (wpAny_bind (wpAny_bind (wpAny_loadPart hx (wpAny_bind (PySem.W.Looks.here (s:={s with toks:=s.toks+1}) (PySem.W.looks_clsIn X hc) ?_))))))
 rw [hd']
 refine wpAny_pure (a:=some dx) (wpAny_bind (wpAny_pure (wpAny_bind ?_)))
 refine wpAny_nsSet1 (s:={s with toks:=s.toks+1}) I.ns fun h' hn2 hs2=>?_
 obtain⟨oD,esD,epD,hoD,hdD,hcD⟩:=hn2.count (PySem.Within.cons name v hw)
 refine wpAny_bind (wpAny_lookBehind hoD (by rw [hdD];exact pastItsLine_dict (Nat.le_trans hcD (by rw [length_cons];omega))) ?_)
 exact wpAny_pure (h _ ⟨(hs2.2 _ (Ne.symm I.ne)).trans I.obj,hn2,I.ne⟩ hs2)
theorem make_map {R:Result->Shared->Prop} {vs:List Value} {kw:List (Str × Value)} (X:K.In s.heap) (hm:PySem.W.makesIn K C=true)
  (hi:PySem.W.findIn K (.ref C) "__init__" =some (some (.ref f))) (hf:PySem.W.typeIn K (.ref f)=some (.type "function"))
  (h:codeAny (model prog w) (A.under (.builtin "type.__call__" ⟨.ref C :: vs,kw⟩)) (.call (.ref f) ⟨.ref (s.heap.objs.size+1) :: vs,kw⟩) (PySem.W.InitBack (s.heap.objs.size+1) R)
   {s with heap:=(s.heap.push emptyDict).push (instObj C s.heap.objs.size)}):
  codeAny (model prog w) A (.call (.ref C) ⟨vs,kw⟩) R s:=by
 obtain⟨hh,g,d,t,os⟩:=s
 exact PySem.W.make_core (PySem.W.makes_of X hm) (PySem.W.looks_findIn X hi) (fun self=>PySem.W.bind_fn X self hf) (.inl rfl) h
end
def qdp (f:Str) (v:V):List (Str × V)->List (Str × V)
 | []=> [(f,v)]
 |(g,x) :: r=>if g=f then (g,v) :: r else (g,x) :: qdp f v r
theorem qcu (f g:Str) (v:V):∀fs:List (Str × V),(qdp f v fs).lookup g=if g=f then some v else fs.lookup g
 | []=>by
  show List.lookup g [(f,v)]=_
  by_cases h:g=f
  .have hb:(g==f)=true:=beq_iff_eq.mpr h
   simp only [List.lookup,hb,if_pos h]
  .have hb:(g==f)=false:=beq_eq_false_iff_ne.mpr h
   simp only [List.lookup,hb,if_neg h]
 |(k,x) :: r=>by
  have ih:=qcu f g v r
  rw [show qdp f v ((k,x) :: r)=(if k=f then (k,v) :: r else (k,x) :: qdp f v r) from rfl]
  by_cases hk:k=f
  .rw [if_pos hk]
   by_cases h:g=k
   .have hb:(g==k)=true:=beq_iff_eq.mpr h
    simp only [List.lookup,hb,if_pos (h.trans hk)]
   .have hb:(g==k)=false:=beq_eq_false_iff_ne.mpr h
    simp only [List.lookup,hb,if_neg (fun e:g=f=>h (e.trans hk.symm))]
  .rw [if_neg hk]
   by_cases h:g=k
   .have hb:(g==k)=true:=beq_iff_eq.mpr h
    simp only [List.lookup,hb,if_neg (fun e:g=f=>hk (h.symm.trans e))]
   .have hb:(g==k)=false:=beq_eq_false_iff_ne.mpr h
    simp only [List.lookup,hb]
    exact ih
theorem qd4 (f:Str) (v:V):∀fs:List (Str × V),f∈(qdp f v fs).map (·.1)/\∀g,g∈fs.map (·.1)->g∈(qdp f v fs).map (·.1)
 | []=>⟨by simp [qdp],fun g h=>by simp at h⟩
 |(k,x) :: r=>by
  obtain⟨i1,i2⟩:=qd4 f v r
  rw [show qdp f v ((k,x) :: r)=(if k=f then (k,v) :: r else (k,x) :: qdp f v r) from rfl]
  by_cases hk:k=f
  .rw [if_pos hk]
   subst hk
   exact⟨by simp,fun g h=>by simpa using h⟩
  .rw [if_neg hk]
   refine⟨?_,fun g h=>?_⟩
   .rw [map_cons]
    exact mem_cons_of_mem _ i1
   .rw [map_cons] at h ⊢
    rcases mem_cons.mp h with e|e
    .exact mem_cons.mpr (.inl e)
    .exact mem_cons_of_mem _ (i2 g e)
theorem qdm (f:Str) (v:V):∀fs:List (Str × V),(qdp f v fs).length<=fs.length+1
 | []=>by simp [qdp]
 |(k,x) :: r=>by
  have ih:=qdm f v r
  rw [show qdp f v ((k,x) :: r)=(if k=f then (k,v) :: r else (k,x) :: qdp f v r) from rfl]
  by_cases hk:k=f
  .rw [if_pos hk,length_cons,length_cons];omega
  .rw [if_neg hk,length_cons,length_cons];omega
theorem qe5.some_of {v:V} {o:Option Value} (r:qe5 (some v) o):∃u,o=some u/\qb6 v u:=by
 cases o with
 |none=>exact(show False from r).elim
 |some u=>exact⟨u,rfl,r⟩
theorem qe5.none_of {o:Option Value} (r:qe5 none o):o=none:=by
 cases o with
 |none=>rfl
 |some u=>exact(show False from r).elim
theorem handed_of {v:V} {u:Value} (r:qb6 v u):PySem.W.handedIn u=true:=by
 cases v with
 |non=>cases (show u=Value.none from r);rfl
 |bl b=>cases (show u=Value.bool b from r);rfl
 |int i=>obtain⟨t,e⟩:=(show ∃t,u=Value.int i t from r);cases e;rfl
 |str x=>obtain⟨t,e⟩:=(show ∃t,u=Value.str x t from r);cases e;rfl
 |byt b=>obtain⟨t,e⟩:=(show ∃t,u=Value.bytes b t from r);cases e;rfl
 |flt b=>obtain⟨t,e⟩:=(show ∃t,u=Value.float b t from r);cases e;rfl
 |ref a=>cases (show u=Value.ref a from r);rfl
 |ty n=>cases (show u=Value.type n from r);rfl
section
variable {P: Program} {w: World} {H: Hp} {h: Heap} {a C dx: Addr} {fs: List (Str × V)}
theorem qfq (hok:HOk P w H h) (e:H a=some (.ins C dx fs)):∃mA,ObjM h a dx C mA/\(∀f,qe5 (fs.lookup f) (mA f))/\PySem.Within mA (fs.map (·.1))/\fs.length<=1000/\H dx=some (.own a):=by
 obtain⟨d,z,ne,ob,mA,n,r,q⟩:=(show qbg P w H h a (.ins C dx fs) from hok a _ e)
 exact⟨mA,⟨ob,n,ne⟩,r,q,z,d⟩
end
structure Cls (K:Frag) (C:Addr):Prop where
 pg:plainGet K C Str.empty=true
 hd:hasDictIn K C=true
 po:PySem.W.plainOver K C=true
 sa:PySem.W.findIn K (.ref C) "__setattr__" =some (some (.builtin "object.__setattr__"))
theorem Cls.get {K:Frag} {C:Addr} (c:Cls K C) (f:Str):plainGet K C f=true:=c.pg
def qar (K:Frag) (C:Addr) (f:Str):Prop:=PySem.W.findIn K (.ref C) f=some none
theorem qar.taker {K:Frag} {C:Addr} {f:Str} (n:qar K C f):PySem.W.takerIn K C f=some none:=by
 unfold PySem.W.takerIn
 rw [show PySem.W.findIn K (.ref C) f=some none from n]
 rfl
structure Con (K:Frag) (C:Addr) (f:Str) (v:V) (u:Value):Prop where
 at_:PySem.W.findIn K (.ref C) f=some (some u)
 rel:qb6 v u
 get:PySem.W.specialIn K u "__get__" =some none
 cp:PySem.W.copiedNames.contains f=false
structure Meth (K:Frag) (C:Addr) (m:Str) (f:Addr):Prop where
 at_:PySem.W.findIn K (.ref C) m=some (some (.ref f))
 fn:isFn K (.ref f)=true
 kp:keepIn K (.ref f)=true
section
variable {X: Cx} {pins: List (Addr × Obj)} {σ: St} {H: Hp} {s: Shared} {a C dx: Addr} {fs: List (Str × V)} {f: Str} {v: V} {A: Around} {E: Value -> Shared -> Prop}
theorem getattr_ok {b:Bool} {Q:Value->Shared->Prop} (I:Inv X pins σ H s) (e:H a=some (.ins C dx fs)) (c:Cls X.K C) (n:qar X.K C f) (l:fs.lookup f=some v)
  (h:∀u s',Inv X pins σ H s'->qb6 v u->Q u s'):wpAny (model X.prog X.w) A (getAttr (.ref a) f b) Q E s:=by
 obtain⟨mA,O,r,_,_,_⟩:=qfq I.hok e
 obtain⟨u,hu,ru⟩:=qe5.some_of (v:=v) (o:=mA f) (by rw [<-l];exact r f)
 exact get_map I.kIn O (c.get f) c.hd n hu (handed_of ru) (h u _ (I.tok _) ru)
theorem qcq {m:Str} {g:Addr} {pl:Sem Bool} {Q:Value × List Value->Shared->Prop} (I:Inv X pins σ H s) (e:H a=some (.ins C dx fs)) (c:Cls X.K C) (k:Meth X.K C m g) (l:fs.lookup m=none)
  (h:Q (.ref g, [.ref a]) s):wpAny (model X.prog X.w) A (getMethod (.ref a) m pl) Q E s:=by
 obtain⟨mA,O,r,_,_,_⟩:=qfq I.hok e
 have hn:mA m=none:=qe5.none_of (by rw [<-l];exact r m)
 exact get_meth I.kIn O (c.get m) k.at_ k.fn hn h
theorem setattr_ok {y:V} {u:Value} {Q:Unit->Shared->Prop} (I:Inv X pins σ H s) (e:H a=some (.ins C dx fs)) (c:Cls X.K C) (n:qar X.K C f) (hl:fs.length < 1000) (ry:qb6 y u)
  (h:∀s',Inv X pins σ (upd H a (.ins C dx (qdp f y fs))) s'->Q () s'):wpAny (model X.prog X.w) A (setAttr (.ref a) f u) Q E s:=by
 obtain⟨mA,O,r,wi,_,ho⟩:=qfq I.hok e
 have hz:(fs.map (·.1)).length<=sizeLine:=by rw [length_map,sizeLine_eq];omega
 refine set_map I.kIn O c.sa c.po n.taker c.hd wi hz fun h' O' sb=>h _ ?_
 have hd:∃o,h'.get? dx=some o:=let ⟨o,_,_,e',_⟩:=O'.ns;⟨o,e'⟩
 refine I.write (x:=a) (e:=dx) (by rw [e];exact True.intro) (.inr ho) (fun b q hb z=>(sb.2 b hb).trans z) hd ?_
 refine⟨by rw [qa9 O.ne];exact ho,?_,O.ne,O'.obj,_,O'.ns,fun g=>?_,fun g hg=>?_⟩
 .have:=qdm f y fs;omega
 .show qe5 ((qdp f y fs).lookup g) (if g=f then some u else mA g)
  rw [qcu]
  by_cases q:g=f
  .rw [if_pos q,if_pos q];exact ry
  .rw [if_neg q,if_neg q];exact r g
 .by_cases q:g=f
  .rw [q];exact(qd4 f y fs).1
  .refine(qd4 f y fs).2 g (wi g fun z=>hg ?_)
   show (if g=f then some u else mA g)=none
   rw [if_neg q];exact z
theorem Inv.made (I:Inv X pins σ H s):Inv X pins σ (upd (upd H s.heap.objs.size (.own (s.heap.objs.size+1))) (s.heap.objs.size+1) (.ins C s.heap.objs.size []))
  {s with heap:=(s.heap.push emptyDict).push (instObj C s.heap.objs.size)}:=by
 have e1:(s.heap.push emptyDict).get? s.heap.objs.size=some emptyDict:=Heap.get?_push_size s.heap rfl
 have e2:((s.heap.push emptyDict).push (instObj C s.heap.objs.size)).get? (s.heap.objs.size+1)=some (instObj C s.heap.objs.size):=by
  have:=Heap.get?_push_size (s.heap.push emptyDict) (o:=instObj C s.heap.objs.size) rfl
  rwa [Heap.size_push] at this
 have e3:(s.heap.push emptyDict).Ns s.heap.objs.size (fun _=>none):=⟨emptyDict,#[],_,e1,rfl,(fun e he=>absurd he (by simp)),fun _=>rfl⟩
 have I1:=I.laid (a:=s.heap.objs.size) (o:=.own (s.heap.objs.size+1)) (h':=s.heap.push emptyDict) (t':=s.toks) (fun b u q=>Heap.get?_push_of_some _ q) (Nat.le_refl _) ⟨_,e1⟩
 refine I1.laid (a:=s.heap.objs.size+1) (o:=.ins C s.heap.objs.size []) (t':=s.toks) (fun b u q=>Heap.get?_push_of_some _ q) (Nat.le_of_eq (Heap.size_push _ _)) ?_
 have ne:s.heap.objs.size≠s.heap.objs.size+1:=Nat.ne_of_lt (Nat.lt_succ_self _)
 refine⟨by rw [qa9 ne,qa1],Nat.zero_le _,ne,e2,fun _=>none,(Heap.Ns1.of_empty e3).at fun o q=>Heap.get?_push_of_some _ q,fun _=>True.intro,fun y hy=>absurd rfl hy⟩
theorem attr_of {prog:Program} {w:World} {env:Env} {e:Expr} {f:Str} {pos:Pos} {s:Shared} {Q:Value->Shared->Prop} (hb:attributeBase e f env (eval e env)=eval e env)
  (h:wpAny (model prog w) A (eval e env) (fun o s₁=>wpAny (model prog w) A (getAttr o f true) Q E s₁) E s):wpAny (model prog w) A (eval (.Attribute e f pos) env) Q E s:=
 Attribute_any_ h (by rw [arm_eval_Attribute,hb])
end
def tFld (K:Frag) (ta:TE) (f:Str):TE:=fun σ H Q=>ta σ H fun x H1=>∃a C dx fs v,x=.ref a/\H1 a=some (.ins C dx fs)/\Cls K C/\qar K C f/\fs.lookup f=some v/\Q v H1
def sFld (K:Frag) (ta tv:TE) (f:Str):TS:=fun D σ H=>tv σ H fun y H1=>ta σ H1 fun x H2=>∃a C dx fs,x=.ref a/\H2 a=some (.ins C dx fs)/\Cls K C/\qar K C f/\fs.length < 1000/\
 D.nx σ (upd H2 a (.ins C dx (qdp f y fs)))
section
variable {X: Cx} {o e value: Expr} {f: Str} {pos pos': Pos} {ta tv: TE}
theorem qbt (he:PE X e ta) (hb:attributeBase e f X.env (eval e X.env)=eval e X.env):PE X (.Attribute e f pos) (tFld X.K ta f):=by
 intro pins s σ H Q I h
 refine attr_of hb (thn (he pins s σ H _ I h) fun u s1 ⟨x,H1,I1,rx,a,C,dx,fs,v,ex,ea,c,n,l,q⟩=>?_)
 subst ex
 obtain rfl:u=Value.ref a:=rx
 exact getattr_ok I1 ea c n l fun u' s2 I2 ru=>⟨v,H1,I2,ru,q⟩
theorem qef (ha:PE X o ta) (hv:PE X value tv) (hs:swapsWith value (some (.Attribute o f pos')) pos.line X.env=pure false):PS X (.Assign [.Attribute o f pos'] value pos) (sFld X.K ta tv f):=by
 intro pins s σ H D I h
 refine plainObj_wpAny_Assign_Attribute (thn (hv pins s σ H _ I h) fun u s1 ⟨y,H1,I1,ry,q⟩=>thn (ha pins s1 σ H1 _ I1 q) fun ov s2 ⟨x,H2,I2,rx,a,C,dx,fs,ex,ea,c,n,l,q2⟩=>?_) hs
 subst ex
 obtain rfl:ov=Value.ref a:=rx
 exact setattr_ok I2 ea c n l ry fun s3 I3=>⟨σ,_,I3,q2⟩
theorem methcall_of {pl:Sem Bool} {m:Str} {apos:Pos} {args:List Expr} {pins:List (Addr × Obj)} {s:Shared} {σ:St} {H:Hp} {Q:Value->Shared->Prop} {te:TE} (he:PE X e te) (I:Inv X pins σ H s)
  (h:te σ H fun x H1=>∃a C dx fs g,x=.ref a/\H1 a=some (.ins C dx fs)/\Cls X.K C/\Meth X.K C m g/\fs.lookup m=none/\
   ∀s1,Inv X pins σ H1 s1->wpAny (model X.prog X.w) X.A (callWith pos (.ref g) [.ref a] (backTo pos (starEach args X.env)) (backToKw pos (keywordEach [] X.env))) Q X.xe s1)
  (ht:eval (.Call (.Attribute e m apos) args [] pos) X.env=(do
   let ov<-eval e X.env
   standAt apos.atName
   let (f,first)<-holding [ov] (getMethod ov m pl)
   callWith pos f first (backTo pos (starEach args X.env)) (backToKw pos (keywordEach [] X.env)))):
  wpAny (model X.prog X.w) X.A (eval (.Call (.Attribute e m apos) args [] pos) X.env) Q X.xe s:=by
 refine PySem.W.methodCall_KW (pl:=pl) (thn (he pins s σ H _ I h) fun u s1 ⟨x,H1,I1,rx,a,C,dx,fs,g,ex,ea,c,k,l,q⟩=>?_) ht
 subst ex
 obtain rfl:u=Value.ref a:=rx
 exact qcq I1 ea c k l (q s1 I1)
end
section
variable {X: Cx} {pins: List (Addr × Obj)} {σ: St} {H: Hp} {s: Shared} {A: Around} {E: Value -> Shared -> Prop} {Q: Value -> Shared -> Prop} {c: Value} {b: Bool}
inductive TyOf (K:Frag) (H:Hp):V->Value->Prop where
 |non:TyOf K H .non (.type "NoneType")
 |bl (x:Bool):TyOf K H (.bl x) (.type "bool")
 |int (i:Int):TyOf K H (.int i) (.type "int")
 |str (x:Str):TyOf K H (.str x) (.type "str")
 |flt (x:UInt64):TyOf K H (.flt x) (.type "float")
 |lst {a:Addr} {xs:List V} (e:H a=some (.lst xs)):TyOf K H (.ref a) (.type "list")
 |frz {a:Addr} {o:Obj} {xs:List V} (e:H a=some (.frz o (.lst xs))):TyOf K H (.ref a) (.type "list")
 |tup {a:Addr} {xs:List V} (e:H a=some (.tup xs)):TyOf K H (.ref a) (.type "tuple")
 |dK {a:Addr} {kvs:List (Key × V)} (e:H a=some (.dK kvs)):TyOf K H (.ref a) (.type "dict")
 |dT {a:Addr} {kvs:List (List Key × V)} (e:H a=some (.dT kvs)):TyOf K H (.ref a) (.type "dict")
 |ins {a C dx:Addr} {fs:List (Str × V)} (e:H a=some (.ins C dx fs)) (cl:Cls K C) (ha:PySem.W.findIn K (.ref C) "__class__" =some (some (.builtin "object.__class__")))
   (hn:PySem.W.specialIn K (.builtin "object.__class__") "__get__" =some (some (.builtin "getset_descriptor.__get__"))) (htk:PySem.W.takesIn K (.builtin "object.__class__")=some true)
   (hm:PySem.W.mroIn K C (.type "object")=some true):TyOf K H (.ref a) (.ref C)
theorem isinst_ok {x:V} {u t:Value} (I:Inv X pins σ H s) (rx:qb6 x u) (ty:TyOf X.K H x t) (e:kitOne X.K t c=some b) (h:∀tk,Q (.bool b) {s with toks:=tk}):
  wpAny (model X.prog X.w) A (call (.builtin "isinstance") [u,c]) Q E s:=by
 cases ty with
 |non=>cases (show u=Value.none from rx);exact PySem.W.kia_one PySem.W.kitx_none I.kIn True.intro e (fun z=>nomatch z) h
 |bl y=>cases (show u=Value.bool y from rx);exact PySem.W.kia_one PySem.W.kitx_bool I.kIn True.intro e (fun z=>nomatch z) h
 |int i=>obtain⟨t,q⟩:=(show ∃t,u=Value.int i t from rx);cases q;exact PySem.W.kia_one PySem.W.kitx_int I.kIn True.intro e (fun z=>nomatch z) h
 |str y=>obtain⟨t,q⟩:=(show ∃t,u=Value.str y t from rx);cases q;exact PySem.W.kia_one PySem.W.kitx_str I.kIn True.intro e (fun z=>nomatch z) h
 |flt y=>obtain⟨t,q⟩:=(show ∃t,u=Value.float y t from rx);cases q;exact PySem.W.kia_one PySem.W.kitx_float I.kIn True.intro e (fun z=>nomatch z) h
 | @lst a xs ea=>
  cases (show u=Value.ref a from rx)
  obtain⟨_,_,n,_,h1⟩:=(show qbg X.prog X.w H s.heap a (.lst xs) from I.hok a _ ea)
  exact PySem.W.kia_one PySem.W.kitx_list I.kIn ⟨_,h1,rfl⟩ e (fun z=>nomatch z) h
 | @frz a ob xs ea=>
  cases (show u=Value.ref a from rx)
  obtain⟨_,_,_,n,_,h1⟩:=(show qbg X.prog X.w H s.heap a (.frz ob (.lst xs)) from I.hok a _ ea)
  exact PySem.W.kia_one PySem.W.kitx_list I.kIn ⟨_,h1,rfl⟩ e (fun z=>nomatch z) h
 | @tup a xs ea=>
  cases (show u=Value.ref a from rx)
  obtain⟨_,_,_,p⟩:=(show qbg X.prog X.w H s.heap a (.tup xs) from I.hok a _ ea)
  obtain⟨o,h1,h2,_⟩:=p
  exact PySem.W.kia_one PySem.W.kitx_tuple I.kIn ⟨o,h1,h2⟩ e (fun z=>nomatch z) h
 | @dK a kvs ea=>
  cases (show u=Value.ref a from rx)
  obtain⟨_,_,vs,_,p⟩:=(show qbg X.prog X.w H s.heap a (.dK kvs) from I.hok a _ ea)
  obtain⟨o,es,ep,h1,h2,_⟩:=p
  exact PySem.W.kia_one PySem.W.kitx_dict I.kIn ⟨o,h1,h2.1⟩ e (fun z=>nomatch z) h
 | @dT a kvs ea=>
  cases (show u=Value.ref a from rx)
  obtain⟨_,_,xs,_,o,es,ep,h1,h2,_⟩:=(show qbg X.prog X.w H s.heap a (.dT kvs) from I.hok a _ ea)
  exact PySem.W.kia_one PySem.W.kitx_dict I.kIn ⟨o,h1,h2.1⟩ e (fun z=>nomatch z) h
 | @ins a C dx fs ea cl ha hn htk hm=>
  cases (show u=Value.ref a from rx)
  obtain⟨mA,O,_⟩:=qfq I.hok ea
  obtain⟨od,J,_⟩:=O.look
  exact PySem.W.kia_one (PySem.W.kitx_own (cl.get _) cl.hd ha hn htk hm) I.kIn J e (fun z=>nomatch z) h
end
end L2
namespace L2
open PySem PySem.Spec PyProof.Rows
structure Room (k:Nat) (A:Around):Prop where
 hd:A.handled=none
 dp:A.depth+3*k+5 < recursionLimit
 un:A.units+16*k+200 < cLine
theorem Room.mono {j k:Nat} {A:Around} (r:Room k A) (h:j<=k):Room j A:=⟨r.hd,by have:=r.dp;omega,by have:=r.un;omega⟩
theorem Room.deeper {k:Nat} {A:Around} (r:Room (k+1) A) (env:Env):Room k (A.deeper env):=
 ⟨r.hd,by have:=r.dp;show A.depth+1+3*k+5 < _;omega,by have:=r.un;show A.units+3+16*k+200 < _;omega⟩
theorem make_depth {A:Around} {C:Addr} {us:List Value} {kw:List (Str × Value)}:(A.under (.builtin "type.__call__" ⟨.ref C :: us,kw⟩)).depth=A.depth+1:=by
 first|rfl|simp [Around.under,Code.weight,Code.isCreation,Code.isGuard,Code.isCaller,Code.frames,Code.isFrame,guardIds]
theorem make_units {A:Around} {C:Addr} {us:List Value} {kw:List (Str × Value)}:(A.under (.builtin "type.__call__" ⟨.ref C :: us,kw⟩)).units=A.units+1:=by
 first|rfl|simp [Around.under,Code.cUnits,Code.frames,Code.isFrame]
theorem Room.make {k:Nat} {A:Around} (r:Room (k+1) A) (C:Addr) (us:List Value) (kw:List (Str × Value)):Room k (A.under (.builtin "type.__call__" ⟨.ref C :: us,kw⟩)):=
 ⟨r.hd,by have:=r.dp;rw [make_depth];omega,by have:=r.un;rw [make_units];omega⟩
theorem Room.depth {k:Nat} {A:Around} (r:Room k A):A.depth < recursionLimit:=by have:=r.dp;omega
theorem Room.units {k:Nat} {A:Around} (r:Room k A):A.units+64 < cLine:=by have:=r.un;omega
def tNil:TA:=fun _ H Q=>Q [] H
def tCons (ta:TE) (tr:TA):TA:=fun σ H Q=>ta σ H fun x H1=>tr σ H1 fun xs H2=>Q (x :: xs) H2
section
variable {X: Cx} {e: Expr} {es: List Expr} {te: TE} {t: TA} {pos: Pos}
theorem qa3:PA X [] tNil:=fun _ _ _ _ H Q I h=>Calls.spliced_nil ⟨[],H,I,.nil,h⟩
theorem qa0 (ha:PE X e te) (hr:PA X es t) (hs:starEach (e :: es) X.env=(false,eval e X.env) :: starEach es X.env:=by rfl):PA X (e :: es) (tCons te t):=by
 intro pos pins s σ H Q I h
 rw [hs]
 show wpAny _ _ (spliced ((false,eval e X.env) :: backTo pos (starEach es X.env))) _ _ s
 refine Calls.spliced_cons (thn (ha pins s σ H _ I h) fun u s1 ⟨x,H1,I1,r1,q1⟩=>?_)
 exact thn (hr pos pins s1 σ H1 _ I1 q1) fun us s2 ⟨xs,H2,I2,r2,q2⟩=>⟨x :: xs,H2,I2,.cons r1 r2,q2⟩
def tTup (t:TA):TE:=fun σ H Q=>t σ H fun xs H1=>xs.length<=sizeLine/\∀p,H1 p=none->Q (.ref p) (upd H1 p (.tup xs))
def tLst (t:TA):TE:=fun σ H Q=>t σ H fun xs H1=>xs.length<=sizeLine/\∀p,H1 p=none->Q (.ref p) (upd H1 p (.lst xs))
theorem pe_tup {x1} (h:PA X es t):PE X (.Tuple es x1 pos) (tTup t):=by
 intro pins s σ H Q I hq
 refine wpAny_Tuple_spliced (thn (h pos pins s σ H _ I hq) fun us s1 ⟨xs,H1,I1,r,z,q⟩=>⟨by rw [<-r.length];exact z,?_⟩)
 have hf:H1 s1.heap.objs.size=none:=I1.hok.fresh (Nat.le_refl _)
 refine⟨.ref s1.heap.objs.size,upd H1 s1.heap.objs.size (.tup xs),I1.laid (t':=s1.toks) (fun b u e=>Heap.get?_push_of_some _ e) (Nat.le_refl _) ?_,rfl,q _ hf⟩
 exact⟨z,us,r,⟨_,Heap.get?_push_size _ rfl,rfl,_,rfl⟩⟩
theorem qak (h:PA X es t):PE X (.List es pos) (tLst t):=by
 intro pins s σ H Q I hq
 refine wpAny_List_spliced (thn (h pos pins s σ H _ I hq) fun us s1 ⟨xs,H1,I1,r,z,q⟩=>⟨by rw [<-r.length];exact z,?_⟩)
 have hf:H1 s1.heap.objs.size=none:=I1.hok.fresh (Nat.le_refl _)
 refine⟨.ref s1.heap.objs.size,upd H1 s1.heap.objs.size (.lst xs),I1.laid (t':=s1.toks) (fun b u e=>Heap.get?_push_of_some _ e) (Nat.le_refl _) ?_,rfl,q _ hf⟩
 exact⟨z,us,0,r,Heap.get?_push_size _ rfl⟩
end
abbrev Sp:=List V->Hp->VK->XK->Prop
abbrev CXT:=List Env->Hp->Shared->XK->Value->Shared->Prop
structure Env0 (P:Program) (w:World) (K:Frag) (mg:Str->Option Value) (base:Heap) (A:Around) (outer:List Env) (s:Shared) (H:Hp):Prop where
 frames:A.frames=some outer
 mod:Mod K mg base
 bs:∀b o,base.get? b=some o->s.heap.get? b=some o/\H b=none
 bsz:base.objs.size<=s.heap.objs.size
 funs:s.heap.FunFrames base outer
 frf:∀b∈frs outer,H b=none
 hok:HOk P w H s.heap
 bare:AllBare s.gens
def CE (outer:List Env) (P:Program) (w:World) (H:Hp) (s:Shared) (Q:VK) (u:Value) (s':Shared):Prop:=
 ∃v H',s'.os=s.os/\AllBare s'.gens/\Un (frs outer) [] H H' s.heap s'.heap/\HOk P w H' s'.heap/\qb6 v u/\Q v H'
def CR (CX:CXT) (outer:List Env) (P:Program) (w:World) (H:Hp) (s:Shared) (Q:VK) (E:XK) (r:Result) (s':Shared):Prop:=
 match r with
 | .ok (.ret u)=>CE outer P w H s Q u s'
 | .ok _=>False
 | .error e=>CX outer H s E e s'
structure FnOk (P:Program) (w:World) (K:Frag) (mg:Str->Option Value) (base:Heap) (CX:CXT) (k:Nat) (f:Addr) (fd:FuncData) (ps:List Str) (sp:Sp):Prop where
 len:∀vs H Q E,sp vs H Q E->vs.length=ps.length
 run:∀(A:Around) (outer:List Env) (s:Shared) (H:Hp) (args:Args) (us:List Value) (vs:List V) (Q:VK) (E:XK),Room k A->Env0 P w K mg base A outer s H->BindsTo s fd args (ps.zip us)->qbb vs us->sp vs H Q E->
  codeAny (model P w) A (.call (.ref f) args) (CR CX outer P w H s Q E) s
theorem FnOk.mono {P:Program} {w:World} {K:Frag} {mg:Str->Option Value} {base:Heap} {CX:CXT} {j k:Nat} {f:Addr} {fd:FuncData} {ps:List Str} {sp:Sp} (F:FnOk P w K mg base CX j f fd ps sp) (h:j<=k):
  FnOk P w K mg base CX k f fd ps sp:=⟨F.len,fun A outer s H args us vs Q E hr=>F.run A outer s H args us vs Q E (hr.mono h)⟩
theorem FnOk.imp {P:Program} {w:World} {K:Frag} {mg:Str->Option Value} {base:Heap} {CX:CXT} {k:Nat} {f:Addr} {fd:FuncData} {ps:List Str} {sp sp':Sp} (F:FnOk P w K mg base CX k f fd ps sp)
  (h:∀vs H Q E,sp' vs H Q E->sp vs H Q E):FnOk P w K mg base CX k f fd ps sp':=
 ⟨fun vs H Q E q=>F.len vs H Q E (h _ _ _ _ q),fun A outer s H args us vs Q E hr he hb hv hs=>F.run A outer s H args us vs Q E hr he hb hv (h _ _ _ _ hs)⟩
theorem Env0.make {P:Program} {w:World} {K:Frag} {mg:Str->Option Value} {base:Heap} {A:Around} {outer:List Env} {s:Shared} {H:Hp} (e:Env0 P w K mg base A outer s H) (C:Addr) (us:List Value) (kw:List (Str × Value)):
  Env0 P w K mg base (A.under (.builtin "type.__call__" ⟨.ref C :: us,kw⟩)) outer s H:=⟨by first|exact e.frames|(simpa [Around.under,Code.envs,Code.isFrame,pushEnvs] using e.frames),e.mod,e.bs,e.bsz,e.funs,e.frf,e.hok,e.bare⟩
section
variable {X: Cx} {pins: List (Addr × Obj)} {σ: St} {H: Hp} {s s': Shared}
theorem Inv.env0 (I:Inv X pins σ H s):Env0 X.prog X.w X.K X.mg X.base X.A X.stack s H:=
 ⟨I.ok.frames,I.ok.mod,I.bs,Nat.le_trans I.ok.bsz I.sz,I.stack,I.stkFree,I.hok,I.bare⟩
theorem Inv.after {Q:VK} {u:Value} (I:Inv X pins σ H s) (h:CE X.stack X.prog X.w H s Q u s'):EP X pins σ Q u s':=by
 obtain⟨v,H',os,bare,un,hok,r,q⟩:=h
 obtain⟨hh,g,d,t,os'⟩:=s'
 obtain rfl:os'=s.os:=os
 exact⟨v,H',I.call (h':=hh) (g':=g) (d':=d) (t':=t) (ch:=[]) un hok bare (fun b z=>absurd z (by simp)),r,q⟩
end
def tCall (sp:Sp) (dvs:List V) (E:XK) (t:TA):TE:=fun σ H Q=>t σ H fun vs H1=>sp (vs++dvs) H1 Q E
def tMeth (C:Addr) (m:Str) (sp:Sp) (dvs:List V) (E:XK) (ta:TE) (t:TA):TE:=fun σ H Q=>ta σ H fun x H1=>∃a dx fs,x=.ref a/\H1 a=some (.ins C dx fs)/\fs.lookup m=none/\
 t σ H1 fun vs H2=>sp (x ::(vs++dvs)) H2 Q E
def tMake (C:Addr) (sp:Sp) (dvs:List V) (E:XK) (t:TA):TE:=fun σ H Q=>t σ H fun vs H1=>∀x dx,H1 x=none->H1 dx=none->dx≠x->
 sp (.ref x ::(vs++dvs)) (upd (upd H1 dx (.own x)) x (.ins C dx [])) (fun v H2=>v=.non/\Q (.ref x) H2) E
def qan (K:Frag) (fd:FuncData) (ps:List Str) (ds:List Value):Prop:=
 ∀(s:Shared) (us:List Value),K.In s.heap->(us++ds).length=ps.length->BindsTo s fd ⟨us, []⟩ (ps.zip (us++ds))
theorem qan.all {K:Frag} {fd:FuncData} {ps:List Str} (h:∀us:List Value,us.length=ps.length->bindArgs fd ⟨us, []⟩=pure (ps.zip us)):qan K fd ps []:=fun s us _ hl=>by
 rw [append_nil] at hl ⊢
 exact .of_eq (h us hl)
def qey (CX:CXT) (X:Cx) (E:XK):Prop:=∀(pins:List (Addr × Obj)) (σ:St) (H:Hp) (s:Shared) (e:Value) (s':Shared),Inv X pins σ H s->CX X.stack H s E e s'->X.xe e s'
section
variable {X: Cx} {CX: CXT} {k: Nat} {f C: Addr} {fd: FuncData} {ps: List Str} {sp: Sp} {dvs: List V} {ds: List Value} {E: XK} {x m: Str} {p pos apos: Pos} {e o: Expr} {es: List Expr} {ta: TE} {t: TA}
theorem run_fn {pins:List (Addr × Obj)} {σ:St} {H:Hp} {s:Shared} {Q:VK} {us:List Value} {vs:List V} (F:FnOk X.prog X.w X.K X.mg X.base CX k f fd ps sp) (hr:Room k X.A) (hb:qan X.K fd ps ds) (hd:qbb dvs ds) (hx:qey CX X E)
  (I:Inv X pins σ H s) (r:qbb vs us) (h:sp (vs++dvs) H Q E):wpAny (model X.prog X.w) X.A (call (.ref f) us) (EP X pins σ Q) X.xe s:=by
 have r2:qbb (vs++dvs) (us++ds):=r.append hd
 have hl:(us++ds).length=ps.length:=by rw [<-r2.length];exact F.len _ _ _ _ h
 refine wpAny_call (codeAny_mono (F.run X.A X.stack s H ⟨us, []⟩ (us++ds) (vs++dvs) Q E hr I.env0 (hb s us I.kIn hl) r2 h) fun r s' hq=>?_)
 cases r with
 |error e=>exact hx pins σ H s e s' I hq
 |ok fl=>
  cases fl with
  |ret u=>exact I.after hq
  |next=>exact False.elim hq
  |brk=>exact False.elim hq
  |cont=>exact False.elim hq
theorem qad (F:FnOk X.prog X.w X.K X.mg X.base CX k f fd ps sp) (hr:Room k X.A) (hg:Gl X x) (hm:X.mg x=some (.ref f)) (hk:keepIn X.K (.ref f)=true) (hb:qan X.K fd ps ds) (hd:qbb dvs ds) (hx:qey CX X E)
  (ha:PA X (e :: es) t) (hdb:(x==("__debug__" :Str))=false:=by decide) (he:starEach (e :: es) X.env=(false,eval e X.env) :: starEach es X.env:=by rfl) (hpl:(backTo pos (starEach es X.env)).any (·.1)=false:=by rfl):
  PE X (.Call (.Name x p) (e :: es) [] pos) (tCall sp dvs E t):=by
 intro pins s σ H Q I h
 refine wpAny_Call_Name_kw (qcm I hg hm ?_ hdb)
 refine PySem.W.callWith_K (h₀:=X.base) I.ok.mod.kin hk (thn (ha pos pins s σ H _ I h) fun us s1 ⟨vs,H1,I1,r,q⟩=>⟨I1.kIn,?_⟩) he hpl
 exact run_fn F hr hb hd hx I1 r q
theorem pe_meth {pl:Sem Bool} (he:PE X o ta) (c:Cls X.K C) (hm:Meth X.K C m f) (F:FnOk X.prog X.w X.K X.mg X.base CX k f fd ps sp) (hr:Room k X.A) (hb:qan X.K fd ps ds) (hd:qbb dvs ds) (hx:qey CX X E) (ha:PA X (e :: es) t)
  (hst:starEach (e :: es) X.env=(false,eval e X.env) :: starEach es X.env:=by rfl) (hpl:(backTo pos (starEach es X.env)).any (·.1)=false:=by rfl)
  (ht:eval (.Call (.Attribute o m apos) (e :: es) [] pos) X.env=(do
   let ov<-eval o X.env
   standAt apos.atName
   let (f,first)<-holding [ov] (getMethod ov m pl)
   callWith pos f first (backTo pos (starEach (e :: es) X.env)) (backToKw pos (keywordEach [] X.env))):=by rfl):
  PE X (.Call (.Attribute o m apos) (e :: es) [] pos) (tMeth C m sp dvs E ta t):=by
 intro pins s σ H Q I h
 refine PySem.W.methodCall_KW (pl:=pl) (thn (he pins s σ H _ I h) fun u s1 ⟨x,H1,I1,rx,a,dx,fs,ex,ea,l,q⟩=>?_) ht
 subst ex
 obtain rfl:u=Value.ref a:=rx
 refine qcq I1 ea c hm l ?_
 refine PySem.W.callWith_K (first:=[.ref a]) (h₀:=X.base) I.ok.mod.kin hm.kp (thn (ha pos pins s1 σ H1 _ I1 q) fun us s2 ⟨vs,H2,I2,r,q2⟩=>⟨I2.kIn,?_⟩) hst hpl
 exact run_fn (us:=.ref a :: us) (vs:=.ref a :: vs) F hr hb hd hx I2 (.cons rfl r) q2
theorem pe_meth0 {pl:Sem Bool} (he:PE X o ta) (c:Cls X.K C) (hm:Meth X.K C m f) (F:FnOk X.prog X.w X.K X.mg X.base CX k f fd ps sp) (hr:Room k X.A) (hb:qan X.K fd ps ds) (hd:qbb dvs ds) (hx:qey CX X E)
  (ht:eval (.Call (.Attribute o m apos) [] [] pos) X.env=(do
   let ov<-eval o X.env
   standAt apos.atName
   let (f,first)<-holding [ov] (getMethod ov m pl)
   callWith pos f first (backTo pos (starEach [] X.env)) (backToKw pos (keywordEach [] X.env))):=by rfl):
  PE X (.Call (.Attribute o m apos) [] [] pos) (tMeth C m sp dvs E ta tNil):=by
 intro pins s σ H Q I h
 refine PySem.W.methodCall_KW (pl:=pl) (thn (he pins s σ H _ I h) fun u s1 ⟨x,H1,I1,rx,a,dx,fs,ex,ea,l,q⟩=>?_) ht
 subst ex
 obtain rfl:u=Value.ref a:=rx
 refine qcq I1 ea c hm l ?_
 exact PySem.W.callWith_K0 (first:=[.ref a]) I1.kIn hm.kp (run_fn (us:=[.ref a]) (vs:=[.ref a]) F hr hb hd hx I1 (.cons rfl .nil) q)
structure Mk (K:Frag) (C f:Addr):Prop where
 makes:PySem.W.makesIn K C=true
 init:PySem.W.findIn K (.ref C) "__init__" =some (some (.ref f))
 fn:isFn K (.ref f)=true
 kp:keepIn K (.ref C)=true
theorem run_make {pins:List (Addr × Obj)} {σ:St} {H:Hp} {s:Shared} {Q:VK} {us:List Value} {vs:List V} (M:Mk X.K C f) (F:FnOk X.prog X.w X.K X.mg X.base CX k f fd ps sp) (hr:Room (k+1) X.A) (hb:qan X.K fd ps ds) (hd:qbb dvs ds)
  (hx:qey CX X E) (I:Inv X pins σ H s) (r:qbb vs us)
  (h:∀x dx,H x=none->H dx=none->dx≠x->sp (.ref x ::(vs++dvs)) (upd (upd H dx (.own x)) x (.ins C dx [])) (fun v H2=>v=.non/\Q (.ref x) H2) E):
  wpAny (model X.prog X.w) X.A (call (.ref C) us) (EP X pins σ Q) X.xe s:=by
 have hq:=h (s.heap.objs.size+1) s.heap.objs.size (I.hok.fresh (Nat.le_succ _)) (I.hok.fresh (Nat.le_refl _)) (Nat.ne_of_lt (Nat.lt_succ_self _))
 have I2:=Inv.made (C:=C) I
 have r2:qbb (V.ref (s.heap.objs.size+1) ::(vs++dvs)) (Value.ref (s.heap.objs.size+1) ::(us++ds)):=.cons rfl (r.append hd)
 have hl:(Value.ref (s.heap.objs.size+1) :: us++ds).length=ps.length:=by
  have e:=r2.length
  rw [F.len _ _ _ _ hq] at e
  exact e.symm
 refine wpAny_call (make_map (f:=f) I.kIn M.makes M.init (beq_iff_eq.mp M.fn) (codeAny_mono (F.run _ X.stack _ _ ⟨Value.ref (s.heap.objs.size+1) :: us, []⟩ (Value.ref (s.heap.objs.size+1) ::(us++ds)) _ _ E (hr.make C us [])
  (I2.env0.make C us []) (hb _ (Value.ref (s.heap.objs.size+1) :: us) I2.kIn hl) r2 hq) fun r s' hq'=>?_))
 cases r with
 |error e=>exact hx pins σ _ _ e s' I2 hq'
 |ok fl=>
  cases fl with
  |ret u=>
   obtain⟨v,H',I3,rv,ev,q3⟩:=I2.after hq'
   subst ev
   exact⟨rv,⟨V.ref (s.heap.objs.size+1),H',I3,rfl,q3⟩⟩
  |next=>exact False.elim hq'
  |brk=>exact False.elim hq'
  |cont=>exact False.elim hq'
theorem pe_make (M:Mk X.K C f) (F:FnOk X.prog X.w X.K X.mg X.base CX k f fd ps sp) (hr:Room (k+1) X.A) (hg:Gl X x) (hm:X.mg x=some (.ref C)) (hb:qan X.K fd ps ds) (hd:qbb dvs ds) (hx:qey CX X E)
  (ha:PA X (e :: es) t) (hdb:(x==("__debug__" :Str))=false:=by decide) (he:starEach (e :: es) X.env=(false,eval e X.env) :: starEach es X.env:=by rfl) (hpl:(backTo pos (starEach es X.env)).any (·.1)=false:=by rfl):
  PE X (.Call (.Name x p) (e :: es) [] pos) (tMake C sp dvs E t):=by
 intro pins s σ H Q I h
 refine wpAny_Call_Name_kw (qcm I hg hm ?_ hdb)
 refine PySem.W.callWith_K (h₀:=X.base) I.ok.mod.kin M.kp (thn (ha pos pins s σ H _ I h) fun us s1 ⟨vs,H1,I1,r,q⟩=>⟨I1.kIn,?_⟩) he hpl
 exact run_make M F hr hb hd hx I1 r q
end
section
variable {fd: FuncData} {ps ks: List Str}
structure KBinds (K:Frag) (fd:FuncData) (ps ks:List Str) (g:List Value->List Value->List Value) (gV:List V->List V->List V):Prop where
 to:∀(s:Shared) (us ws:List Value),K.In s.heap->(g us ws).length=ps.length->BindsTo s fd ⟨us,ks.zip ws⟩ (ps.zip (g us ws))
 rel:∀{vs:List V} {us:List Value} {zs:List V} {ws:List Value},qbb vs us->qbb zs ws->qbb (gV vs zs) (g us ws)
end
structure FnScope (N P:List Str) (sc:Scope):Prop where
 kind:sc.kind=.function
 co:sc.isCoroutine=false
 gen:sc.isGenerator=false
 nd:N.Nodup
 pre:N.take P.length=P
 par:∀x∈P,sc.names.lookup x=some .local\/sc.names.lookup x=some .cell
 nofree:∀y∈sc.names,y.2≠ .free
theorem bindL_out {kindOf:Str->Option NameKind} {x:Str}:∀{binds:List (Str × Value)} {m:Str->Option Value},(∀v,(x,v)∉binds)->bindL kindOf binds m x=m x
 | [],_,_=>rfl
 |(n,v) :: r,m,h=>by
  unfold bindL
  rw [bindL_out fun w hw=>h w (mem_cons_of_mem _ hw)]
  split
  .have:x≠n:=by rintro rfl;exact h v mem_cons_self
   simp [this]
  .rfl
theorem bindC_out {kindOf:Str->Option NameKind} {x:Str}:∀{binds:List (Str × Value)} {m:Str->Option Value},(∀v,(x,v)∉binds)->bindC kindOf binds m x=m x
 | [],_,_=>rfl
 |(n,v) :: r,m,h=>by
  unfold bindC
  rw [bindC_out fun w hw=>h w (mem_cons_of_mem _ hw)]
  split
  .rfl
  .have:x≠n:=by rintro rfl;exact h v mem_cons_self
   simp [this]
theorem bindL_get {kindOf:Str->Option NameKind} {x:Str} {v:Value}:∀{P:List Str} {vs:List Value} {i:Nat} {m:Str->Option Value},P.Nodup->P[i]?=some x->vs[i]?=some v->kindOf x=some .local->
  bindL kindOf (P.zip vs) m x=some v
 | [],_,_,_,_,h,_,_=>by simp at h
 |_ :: _, [],_,_,_,_,h,_=>by simp at h
 |p :: P,w :: vs,0,m,nd,h1,h2,hk=>by
  simp at h1 h2;subst h1;subst h2
  show bindL kindOf ((p,w) :: P.zip vs) m p=_
  unfold bindL
  rw [bindL_out fun v hv=>(nodup_cons.mp nd).1 (List.of_mem_zip hv).1,if_pos hk]
  simp
 |p :: P,w :: vs,i+1,m,nd,h1,h2,hk=>by
  show bindL kindOf ((p,w) :: P.zip vs) m x=_
  unfold bindL
  exact bindL_get (i:=i) (nodup_cons.mp nd).2 (by simpa using h1) (by simpa using h2) hk
theorem bindC_get {kindOf:Str->Option NameKind} {x:Str} {v:Value}:∀{P:List Str} {vs:List Value} {i:Nat} {m:Str->Option Value},P.Nodup->P[i]?=some x->vs[i]?=some v->kindOf x≠some .local->
  bindC kindOf (P.zip vs) m x=some v
 | [],_,_,_,_,h,_,_=>by simp at h
 |_ :: _, [],_,_,_,_,h,_=>by simp at h
 |p :: P,w :: vs,0,m,nd,h1,h2,hk=>by
  simp at h1 h2;subst h1;subst h2
  show bindC kindOf ((p,w) :: P.zip vs) m p=_
  unfold bindC
  rw [bindC_out fun v hv=>(nodup_cons.mp nd).1 (List.of_mem_zip hv).1,if_neg hk]
  simp
 |p :: P,w :: vs,i+1,m,nd,h1,h2,hk=>by
  show bindC kindOf ((p,w) :: P.zip vs) m x=_
  unfold bindC
  exact bindC_get (i:=i) (nodup_cons.mp nd).2 (by simpa using h1) (by simpa using h2) hk
def qdf (N:List Str) (vs:List V):St:=vs.map some++List.replicate (N.length - vs.length) none
def cxOf (CX:CXT) (P:Program) (w:World) (K:Frag) (mg:Str->Option Value) (base:Heap) (N:List Str) (qual:Str) (scope:Scope) (f:Addr) (cd:Value) (A:Around) (outer:List Env) (s:Shared) (H:Hp) (E:XK):Cx where
 prog:=P
 w:=w
 K:=K
 mg:=mg
 base:=base
 A:=A.deeper (envOfC qual scope s.heap.objs.size f cd)
 N:=N
 s₀:=s
 H₀:=H
 env:=envOfC qual scope s.heap.objs.size f cd
 outer:=outer
 stack:=envOfC qual scope s.heap.objs.size f cd :: outer
 ex:=[]
 calm:=true
 fn:=fun _=>true
 pn:=[]
 xe:=fun e s'=>wpAny (model P w) (A.deeper (envOfC qual scope s.heap.objs.size f cd)) (leaving (envOfC qual scope s.heap.objs.size f cd) e) (fun _ s''=>CX outer H s E e s'') (fun e' s''=>CX outer H s E e' s'') s'
theorem cell_has {sc:Scope} {n:Nat} {x:Str} (h:sc.names.lookup x=some .cell):∃c,(cellsFrom n sc.names []).lookup x=some c:=by
 have q:=PySem.W.cellsFrom_some sc.names n [] (.inl h)
 exact Option.isSome_iff_exists.mp q
theorem inv_start {CX:CXT} {P:Program} {w:World} {K:Frag} {mg:Str->Option Value} {base:Heap} {N ps:List Str} {qual:Str} {scope:Scope} {f:Addr} {cd:Value} {A:Around} {outer:List Env} {s s1:Shared} {H:Hp} {E:XK} {us:List Value} {vs:List V}
  (S:FnScope N ps scope) (hd:A.handled=none) (e0:Env0 P w K mg base A outer s H) (hl:vs.length=ps.length) (r:qbb vs us)
  (x:InCallC s s.heap.objs.size (bindL (envOfC qual scope s.heap.objs.size f cd).kindOf (ps.zip us) fun _=>none) (cellsFrom (s.heap.objs.size+1) scope.names []) (bindC (envOfC qual scope s.heap.objs.size f cd).kindOf (ps.zip us) fun _=>none) s1):
  Inv (cxOf CX P w K mg base N qual scope f cd A outer s H E) [] (qdf N vs) H s1:=by
 have hpl:ps.length<=N.length:=by have:=congrArg List.length S.pre;rw [length_take] at this;omega
 obtain⟨h1,tk,rfl,hk⟩:=x.done
 have noA:∀b:Addr,b∉(cxOf CX P w K mg base N qual scope f cd A outer s H E).ex:=fun b z=>absurd (show b∈([]:List Addr) from z) (by simp)
 refine⟨⟨e0.mod,S.kind,rfl,rfl,Nat.le_refl _,fun y z c h1 h2=>?_,fun y hy=>?_,fun y c _ h=>?_,fun _=>hd,Around.frames_deeper e0.frames,.inr ⟨rfl,rfl⟩,fun b z=>absurd z (noA b),e0.bs,e0.bsz,fun b _ _=>noA b,fun b z=>absurd z (noA b),e0.funs,e0.frf⟩,
  rfl,e0.bare,Un.kept hk,⟨_,x.toInCall.ns,fun i y v h1 h2 h3=>?_⟩,fun y c h=>⟨_,x.cell y c h⟩,e0.hok.fresh (Nat.le_refl _),fun y c h=>?_,fun p hp=>absurd (show p∈([]:List (Addr × Obj)) from hp) (by simp),e0.hok.kept hk,?_⟩
 .exact name_of_addr x.apart (PySem.mem_of_lookup h1) (PySem.mem_of_lookup h2)
 .have hy:scope.names.lookup y=some .cell\/scope.names.lookup y=some .free:=hy
  rcases hy with hy|hy
  .exact cell_has hy
  .exact absurd rfl (S.nofree _ (PySem.mem_of_lookup hy))
 .exact Nat.le_of_lt (x.above y c (PySem.mem_of_lookup h))
 .have hi:i < vs.length:=by
   unfold qdf at h2
   by_cases hi:i < vs.length
   .exact hi
   .rw [List.getElem?_append_right (by simpa using hi)] at h2
    rw [List.getElem?_replicate] at h2
    split at h2 <;> cases h2
  have ha:vs[i]?=some v:=by
   unfold qdf at h2
   rw [List.getElem?_append_left (by simpa using hi),getElem?_map] at h2
   cases e:vs[i]? with
   |none=>rw [e] at h2;cases h2
   |some a=>rw [e] at h2;cases h2;rfl
  obtain⟨u,hu,rv⟩:=r.get ha
  have hp:ps[i]?=some y:=by
   rw [<-S.pre,List.getElem?_take_of_lt (by omega)];exact h1
  have ndP:ps.Nodup:=by rw [<-S.pre];exact S.nd.sublist (List.take_sublist _ _)
  refine⟨u,rv,?_⟩
  rcases S.par y (mem_of_getElem? hp) with k|k
  .exact .inl ⟨k,bindL_get ndP hp hu k⟩
  .obtain⟨c,e⟩:=cell_has (n:=s.heap.objs.size+1) k
   refine .inr ⟨.inl k,c,e,?_⟩
   have q:=x.cell y c e
   rw [bindC_get ndP hp hu (by show scope.names.lookup y≠_;rw [k];decide)] at q
   exact q
 .exact e0.hok.fresh (Nat.le_of_lt (x.above y c (PySem.mem_of_lookup h)))
 .unfold qdf
  show _=N.length
  rw [length_append,length_map,List.length_replicate]
  omega
theorem fn_of {CX:CXT} {P:Program} {w:World} {K:Frag} {mg:Str->Option Value} {base:Heap} {k:Nat} {f:Addr} {name qual:Str} {params:Arguments} {body:List Stmt} {scope:Scope} {dV kV doc pm cdv ct oc:Value} {an od:Option Addr}
  {osl:Array (Option Value)} {N ps:List Str} {sp:Sp} (lk:K.lookup f=some ⟨oc,od,.func (fnOf name qual params body scope dV kV doc pm an cdv ct),osl⟩) (hcd:codeIn K cdv qual=true) (S:FnScope N ps scope)
  (len:∀vs H Q E,sp vs H Q E->vs.length=ps.length)
  (hbody:∀(A:Around) (outer:List Env) (s:Shared) (H:Hp) (vs:List V) (Q:VK) (E:XK),Room k (A.deeper (envOfC qual scope s.heap.objs.size f cdv))->sp vs H Q E->
   ∃t,PSs (cxOf CX P w K mg base N qual scope f cdv A outer s H E) body t/\t {nx:=fun _ H'=>Q .non H',rt:=Q} (qdf N vs) H):
  FnOk P w K mg base CX (k+1) f (fnOf name qual params body scope dV kV doc pm an cdv ct) ps sp:=by
 refine⟨len,fun A outer s H args us vs Q E hr e0 hb r hsp=>?_⟩
 have hl:=len _ _ _ _ hsp
 have KX:K.In s.heap:=e0.mod.kin.keeps fun b o e=>(e0.bs b o e).1
 have lim:s.heap.NoLimit:=e0.mod.nolimit.keeps fun b o e=>(e0.bs b o e).1
 have hkind:∀y∈ps.zip us,scope.names.lookup y.1=some .local\/(scope.names.lookup y.1=some .cell/\((cellsFrom (s.heap.objs.size+1) scope.names []).lookup y.1).isSome=true):=fun⟨n,v⟩ hy=>by
  rcases S.par n (List.of_mem_zip hy).1 with q|q
  .exact .inl q
  .exact .inr ⟨q,PySem.W.cellsFrom_some _ _ _ (.inl q)⟩
 refine codeAny_call_function hr.depth (KX _ _ lk) rfl S.co S.gen rfl (PySem.W.codeRec_of KX hcd) (hb _ _ _ _ ?_)
 refine wpAny_newFunctionEnv_cells S.kind hkind fun env he s1 x=>?_
 subst he
 refine⟨lim.keeps x.toInCall.keep,codeAny_func ?_⟩
 obtain⟨t,ht,hq⟩:=hbody A outer s H vs Q E (hr.deeper _) hsp
 have I:Inv (cxOf CX P w K mg base N qual scope f cdv A outer s H E) [] (qdf N vs) H s1:=inv_start S hr.hd e0 hl r x
 refine wpAny_mono (ht [] s1 (qdf N vs) H _ I hq) (fun fl s' hs=>?_) fun e s' hs=>hs
 have fin:∀{σ':St} {H':Hp} {v:V} {u:Value},Inv (cxOf CX P w K mg base N qual scope f cdv A outer s H E) [] σ' H' s'->qb6 v u->Q v H'->CE outer P w H s Q u s':=
  fun {σ' H' v u} J rv q=>⟨v,H',J.os,J.bare,J.base,J.hok,rv,q⟩
 cases fl with
 |ret u=>
  obtain⟨v,σ',H',J,rv,q⟩:=hs
  exact fin J rv q
 |next=>
  obtain⟨σ',H',J,q⟩:=hs
  exact fin (v:=V.non) (u:=Value.none) J rfl q
 |brk=>
  obtain⟨_,_,_,q⟩:=hs
  exact False.elim q
 |cont=>
  obtain⟨_,_,_,q⟩:=hs
  exact False.elim q
end L2
namespace L2
open PySem PySem.Spec PyProof.Rows
section
variable {X: Cx} {x: Str} {p pos: Pos} {e: Expr} {es: List Expr} {t: TA} {id T: String} {r: List V -> Hp -> VK -> Prop}
def tCB (r:List V->Hp->VK->Prop) (t:TA):TE:=fun σ H Q=>t σ H fun vs H1=>r vs H1 Q
theorem qac (hc:qcb X (.builtin id) r) (hg:Gl X x) (hm:X.mg x=none) (hv:bootBuiltins x=some (.builtin id)) (ha:PA X (e :: es) t) (hn:x≠"__name__":=by decide) (hdb:(x==("__debug__" :Str))=false:=by decide)
  (he:starEach (e :: es) X.env=(false,eval e X.env) :: starEach es X.env:=by rfl) (hpl:(backTo pos (starEach es X.env)).any (·.1)=false:=by rfl):PE X (.Call (.Name x p) (e :: es) [] pos) (tCB r t):=by
 intro pins s σ H Q I h
 refine wpAny_Call_Name_kw (ld_blt I hg hm hv ?_ hn hdb)
 exact PyProof.Rows.callWith_builtin1 (thn (ha pos pins s σ H _ I h) fun us s1 ⟨vs,H1,I1,r1,q1⟩=>hc pins s1 σ H1 vs us Q I1 r1 q1) he hpl
theorem qc1 (hc:qcb X (.type T) r) (hg:Gl X x) (hm:X.mg x=none) (hv:bootBuiltins x=some (.type T)) (ha:PA X (e :: es) t) (hn:x≠"__name__":=by decide) (hdb:(x==("__debug__" :Str))=false:=by decide)
  (he:starEach (e :: es) X.env=(false,eval e X.env) :: starEach es X.env:=by rfl) (hpl:(backTo pos (starEach es X.env)).any (·.1)=false:=by rfl):PE X (.Call (.Name x p) (e :: es) [] pos) (tCB r t):=by
 intro pins s σ H Q I h
 refine wpAny_Call_Name_kw (ld_blt I hg hm hv ?_ hn hdb)
 exact PyProof.Rows.callWith_type1 (thn (ha pos pins s σ H _ I h) fun us s1 ⟨vs,H1,I1,r1,q1⟩=>hc pins s1 σ H1 vs us Q I1 r1 q1) he hpl
end
end L2
namespace HT
open PySem PyProof.Rows
end HT
namespace L2
open PySem PySem.Spec PyProof.Rows
abbrev TO:=St->Hp->(Option Int->Hp->Prop)->Prop
end L2
namespace L2
open PySem PySem.Spec PyProof.Rows
def ixN (n:Nat) (i:Int):Option Nat:=if 0<=i then (if i < n then some i.toNat else none) else if -(n:Int)<=i then some (i+n).toNat else none
def atI {α:Type} (xs:List α) (i:Int):Option α:=(ixN xs.length i).bind fun j=>xs[j]?
theorem ixN_seq {n:Nat} {i:Int} {j:Nat} (h:ixN n i=some j):seqIndex? i n=some j/\j < n/\-(n:Int)<=i/\i < n:=by
 unfold ixN at h
 by_cases h0:0<=i
 .rw [if_pos h0] at h
  by_cases h1:i < n
  .rw [if_pos h1] at h
   have e:i.toNat=j:=Option.some.inj h
   exact⟨by rw [seqIndex_of h0 h1,e],by omega,by omega,h1⟩
  .rw [if_neg h1] at h;cases h
 .rw [if_neg h0] at h
  by_cases h1: -(n:Int)<=i
  .rw [if_pos h1] at h
   have e:(i+n).toNat=j:=Option.some.inj h
   exact⟨by rw [seqIndex_neg (by omega) h1,e],by omega,h1,by omega⟩
  .rw [if_neg h1] at h;cases h
theorem atI_get {α:Type} {xs:List α} {i:Int} {v:α} (h:atI xs i=some v):∃j,seqIndex? i xs.length=some j/\xs[j]?=some v/\j < xs.length/\-(xs.length:Int)<=i/\i < xs.length:=by
 unfold atI at h
 cases e:ixN xs.length i with
 |none=>rw [e] at h;cases h
 |some j=>
  rw [e] at h
  obtain⟨h1,h2,h3,h4⟩:=ixN_seq e
  exact⟨j,h1,h,h2,h3,h4⟩
theorem qas {α:Type} {xs:List α} {j:Nat} {v:α} (h:xs[j]?=some v):atI xs (j:Int)=some v:=by
 have hj:j < xs.length:=(List.getElem?_eq_some_iff.mp h).1
 have e:ixN xs.length (j:Int)=some j:=by
  unfold ixN
  rw [if_pos (by omega),if_pos (by omega)];simp
 unfold atI;rw [e];exact h
def PlainIx (b:Expr):Prop:=∀o i,subscripted b false o i=operate [o,i] (getItem o i)
def IxR (X:Cx) (r:R2):Prop:=
 ∀(value slice:Expr) (pins:List (Addr × Obj)) (s:Shared) (σ:St) (H:Hp) (x y:V) (v u:Value) (Q:VK),Inv X pins σ H s->qb6 x v->qb6 y u->r x y H Q->
  subscripted slice false v u=operate [v,u] (getItem v u)->wpAny (model X.prog X.w) X.A (subscriptTail value slice v u) (EP X pins σ Q) X.xe s
def MtR (X:Cx) (id:String) (r:V->List V->Hp->VK->Prop):Prop:=
 ∀(pins:List (Addr × Obj)) (s:Shared) (σ:St) (H:Hp) (x:V) (xs:List V) (v:Value) (us:List Value) (Q:VK),Inv X pins σ H s->qb6 x v->qbb xs us->r x xs H Q->
  wpAny (model X.prog X.w) X.A (call (.builtin id) (v :: us)) (EP X pins σ Q) X.xe s
section
variable {X: Cx} {a b: Expr} {ta tb: TE} {pos: Pos}
theorem qaw {r:R2} (hr:IxR X r) (ha:PE X a ta) (hb:PE X b tb) (hs:PlainIx b):PE X (.Subscript a b pos) (tOp r ta tb):=by
 intro pins s σ H Q I h
 exact Subscript_ (binT ha hb I h fun v u s2 x y H2 I2 rx ry q=>hr a b pins s2 σ H2 x y v u Q I2 rx ry q (hs _ _))
def rIxL (K:Frag):R2:=fun x y H Q=>∃p xs i v,x=.ref p/\y=.int i/\SqL K H p xs/\atI xs i=some v/\Q v H
def rIxS:R2:=fun x y H Q=>∃z i c,x=.str z/\y=.int i/\z.length<=sizeLine/\atI z.cps.toList i=some c/\Q (.str ⟨#[c]⟩) H
theorem qaf:IxR X (rIxL X.K):=by
 intro value slice pins s σ H x y v u Q I rx ry h hs
 obtain⟨p,xs,i,z,rfl,rfl,hq,he,q⟩:=h
 cases rx
 obtain⟨t,rfl⟩:=ry
 obtain⟨its,r,pl,hz⟩:=I.list hq
 obtain⟨j,h1,h2,h3,h4,h5⟩:=atI_get he
 obtain⟨w,ew,rw'⟩:=r.get h2
 have hl:=r.length
 have hn:=line63
 have fin:EP X pins σ Q w s:=⟨z,H,I,rw',q⟩
 by_cases h0:0<=i
 .have hj:i.toNat=j:=by
   rw [seqIndex_of h0 h5] at h1
   exact Option.some.inj h1
  exact item_listR pl.isList h0 (by omega) (by rw [hj];simpa using ew) fin hs
 .have hj:(i+(its.toArray.size:Int)).toNat=j:=by
   rw [seqIndex_neg (by omega) h4] at h1
   rw [size_toArray,<-hl]
   exact Option.some.inj h1
  exact subscriptTail_builtinR (x:=w) pl.isList.typeIs slot_list_getitem.lookup
   (wpAny_getItem_list_neg (Q:=fun r s'=>r=w/\EP X pins σ Q r s') pl.isList (by omega) (by rw [size_toArray] <;> omega) (by omega) (by rw [hj];simpa using ew) ⟨rfl,fin⟩) hs
theorem ix_str:IxR X rIxS:=by
 intro value slice pins s σ H x y v u Q I rx ry h hs
 obtain⟨z,i,c,rfl,rfl,hz,he,q⟩:=h
 obtain⟨t,rfl⟩:=rx
 obtain⟨t',rfl⟩:=ry
 obtain⟨j,h1,h2,h3,h4,h5⟩:=atI_get he
 have hl:z.cps.toList.length=z.length:=by simp [Str.length]
 rw [hl] at h1 h4 h5
 have hn:=line63
 exact tail_any (typeIs_str s z t) slot_str_getitem.lookup (getItem_str (c:=c) (by
  have e1:decide (i < -(2^63:Int))=false:=decide_eq_false (by omega)
  have e2:decide (i≥2^63)=false:=decide_eq_false (by omega)
  rw [e1,e2,Bool.or_false]) (by rw [h1];simpa using h2) ⟨.str ⟨#[c]⟩,H,I.tok _,⟨_,rfl⟩,q⟩) hs
def qd0:V->Bool
 | .non=>true
 | .bl _=>true
 | .int _=>true
 | .str _=>true
 |_=>false
def eqV:V->V->Bool
 | .non,.non=>true
 | .bl a,.bl b=>a==b
 | .bl a,.int b=>(if a then 1 else 0)==b
 | .int a,.bl b=>a==(if b then 1 else 0)
 | .int a,.int b=>a==b
 | .str a,.str b=>a==b
 |_,_=>false
theorem eqAt_V {A:Around} {s:Shared} {y x:V} {u v:Value} (ry:qb6 y u) (rx:qb6 x v) (fy:qd0 y=true) (fx:qd0 x=true):SeqAt.EqAt A s u v (eqV y x):=by
 cases y with
 |non=>
  cases ry
  cases x with
  |non=>cases rx;exact SeqAt.EqAt.same _
  |bl b=>cases rx;exact SeqAt.EqAt.none_bool b
  |int b=>obtain⟨t,rfl⟩:=rx;exact SeqAt.EqAt.none_int b t
  |str b=>obtain⟨t,rfl⟩:=rx;exact SeqAt.EqAt.none_str b t
  |_=>exact absurd (show false=true from fx) Bool.false_ne_true
 |bl a=>
  cases ry
  cases x with
  |non=>cases rx;exact SeqAt.EqAt.bool_none a
  |bl b=>cases rx;exact SeqAt.EqAt.bool_bool a b
  |int b=>obtain⟨t,rfl⟩:=rx;exact SeqAt.EqAt.bool_int a b t
  |str b=>obtain⟨t,rfl⟩:=rx;exact SeqAt.EqAt.bool_str a b t
  |_=>exact absurd (show false=true from fx) Bool.false_ne_true
 |int a=>
  obtain⟨t',rfl⟩:=ry
  cases x with
  |non=>cases rx;exact SeqAt.EqAt.int_none a t'
  |bl b=>cases rx;exact SeqAt.EqAt.int_bool a t' b
  |int b=>obtain⟨t,rfl⟩:=rx;exact SeqAt.EqAt.int_int a t' b t
  |str b=>obtain⟨t,rfl⟩:=rx;exact SeqAt.EqAt.int_str a t' b t
  |_=>exact absurd (show false=true from fx) Bool.false_ne_true
 |str a=>
  obtain⟨t',rfl⟩:=ry
  cases x with
  |non=>cases rx;exact SeqAt.EqAt.str_none a t'
  |bl b=>cases rx;exact SeqAt.EqAt.str_bool a t' b
  |int b=>obtain⟨t,rfl⟩:=rx;exact SeqAt.EqAt.str_int a t' b t
  |str b=>obtain⟨t,rfl⟩:=rx;exact SeqAt.EqAt.str_str a t' b t
  |_=>exact absurd (show false=true from fx) Bool.false_ne_true
 |_=>exact absurd (show false=true from fy) Bool.false_ne_true
def eqU (x:V) (u:Value):Bool:=match u with
 | .none=>eqV .non x
 | .bool b=>eqV (.bl b) x
 | .int i _=>eqV (.int i) x
 | .str z _=>eqV (.str z) x
 |_=>false
theorem eqU_of {x y:V} {u:Value} (r:qb6 y u) (f:qd0 y=true):eqU x u=eqV y x:=by
 cases y with
 |non=>cases r;rfl
 |bl b=>cases r;rfl
 |int i=>obtain⟨t,rfl⟩:=r;rfl
 |str z=>obtain⟨t,rfl⟩:=r;rfl
 |_=>exact absurd (show false=true from f) Bool.false_ne_true
theorem qew {x:V}:∀{xs:List V} {us:List Value},qbb xs us->xs.all qd0=true->us.any (eqU x)=xs.any fun y=>eqV y x
 |_,_,.nil,_=>rfl
 |y :: xs,u :: us,.cons r t,f=>by
  rw [all_cons,Bool.and_eq_true] at f
  rw [any_cons,any_cons,eqU_of r f.1,qew t f.2]
theorem qds {A:Around} {s:Shared} {x:V} {v:Value} (rx:qb6 x v) (fx:qd0 x=true):∀{xs:List V} {us:List Value},qbb xs us->xs.all qd0=true->∀u∈us,SeqAt.EqAt A s u v (eqU x u)
 |_,_,.nil,_=>fun u hu=>by cases hu
 |y :: xs,u :: us,.cons r t,f=>fun u' hu=>by
  rw [all_cons,Bool.and_eq_true] at f
  rcases mem_cons.mp hu with rfl|hu
  .rw [eqU_of r f.1];exact eqAt_V r rx f.1 fx
  .exact qds rx fx t f.2 u' hu
def inV (x:V) (xs:List V):Bool:=xs.any fun y=>eqV y x
def rIn (K:Frag) (neg:Bool):R2:=fun x y H Q=>∃p xs,y=.ref p/\(SqL K H p xs\/SqT K H p xs)/\qd0 x=true/\xs.all qd0=true/\Q (.bl (if neg then !inV x xs else inV x xs)) H
theorem qem:OpR X (compareOp .In) (rIn X.K false):=by
 intro pins s σ H x y v u Q I rx ry h
 obtain⟨p,xs,rfl,hq,fx,fs,q⟩:=h
 cases ry
 rcases hq with hq|hq
 .obtain⟨its,r,pl,hz⟩:=I.list hq
  refine SeqAt.in_listAt (eqU x) pl.isList (fun w hw=>qds rx fx r fs w (by simpa using hw)) ⟨.bl _,H,I,rfl,?_⟩
  rw [show its.toArray.any (eqU x)=its.any (eqU x) by simp,qew r fs]
  exact q
 .obtain⟨its,r,pl,hz⟩:=I.tuple hq
  refine SeqAt.in_tupleAt (eqU x) pl (fun w hw=>qds rx fx r fs w (by simpa using hw)) ⟨.bl _,H,I,rfl,?_⟩
  rw [show its.toArray.any (eqU x)=its.any (eqU x) by simp,qew r fs]
  exact q
theorem qc2:OpR X (compareOp .NotIn) (rIn X.K true):=by
 intro pins s σ H x y v u Q I rx ry h
 obtain⟨p,xs,rfl,hq,fx,fs,q⟩:=h
 cases ry
 rcases hq with hq|hq
 .obtain⟨its,r,pl,hz⟩:=I.list hq
  refine SeqAt.notIn_listAt (eqU x) pl.isList (fun w hw=>qds rx fx r fs w (by simpa using hw)) ⟨.bl _,H,I,rfl,?_⟩
  rw [show its.toArray.any (eqU x)=its.any (eqU x) by simp,qew r fs]
  exact q
 .obtain⟨its,r,pl,hz⟩:=I.tuple hq
  refine SeqAt.notIn_tupleAt (eqU x) pl (fun w hw=>qds rx fx r fs w (by simpa using hw)) ⟨.bl _,H,I,rfl,?_⟩
  rw [show its.toArray.any (eqU x)=its.any (eqU x) by simp,qew r fs]
  exact q
theorem call_len_seq:qcb X (.builtin "len") (fun xs H Q=>∃p ys,xs=[.ref p]/\(SqL X.K H p ys\/SqT X.K H p ys)/\Q (.int ys.length) H):=by
 intro pins s σ H xs us Q I r h
 obtain⟨p,ys,rfl,hq,q⟩:=h
 obtain⟨u,rfl,rx⟩:=vals1 r
 cases rx
 have hn:=line63
 rcases hq with hq|hq
 .obtain⟨its,r',pl,hz⟩:=I.list hq
  have hlen:=r'.length
  exact Calls.call_len_list pl.isList (by simp only [size_toArray] <;> omega) ⟨.int ys.length,H,I.tok _,⟨s.toks+1,by rw [size_toArray,hlen]⟩,q⟩
 .obtain⟨its,r',pl,hz⟩:=I.tuple hq
  have hlen:=r'.length
  exact len_tuple pl (by simp only [size_toArray] <;> omega) ⟨.int ys.length,H,I.tok _,⟨s.toks+1,by rw [size_toArray,hlen]⟩,q⟩
theorem call_len_str:qcb X (.builtin "len") (fun xs H Q=>∃z,xs=[.str z]/\z.length<=sizeLine/\Q (.int z.length) H):=by
 intro pins s σ H xs us Q I r h
 obtain⟨z,rfl,hz,q⟩:=h
 obtain⟨u,rfl,t,rfl⟩:=vals1 r
 have hn:=line63
 exact len_str (by omega) ⟨.int z.length,H,I.tok _,⟨_,rfl⟩,q⟩
theorem call_list_of:qcb X (.type "list") (fun xs H Q=>∃p ys,xs=[.ref p]/\(SqL X.K H p ys\/SqT X.K H p ys)/\∀l,H l=none->Q (.ref l) (upd H l (.lst ys))):=by
 intro pins s σ H xs us Q I r h
 obtain⟨p,ys,rfl,hq,q⟩:=h
 obtain⟨u,rfl,rx⟩:=vals1 r
 cases rx
 have fin:∀(its:List Value),qbb ys its->ys.length<=sizeLine->∀(h':Heap) (c':Nat),(∀b o',s.heap.get? b=some o'->h'.get? b=some o')->
   h'.get? s.heap.objs.size=some {cls:=.type "list",dict:=none,data:=.seq its.toArray c',slots:=#[]}->EP X pins σ Q (.ref s.heap.objs.size) {s with heap:=h'}:=fun its r' hz h' c' kp e=>
  ⟨.ref s.heap.objs.size,_,I.laid (t':=s.toks) kp (Nat.le_refl _) (show qbg X.prog X.w _ h' _ (.lst ys) from⟨hz,its,c',r',e⟩),rfl,q _ (I.hok.fresh (Nat.le_refl _))⟩
 rcases hq with hq|hq
 .obtain⟨its,r',pl,hz⟩:=I.list hq
  have hlen:=r'.length
  obtain⟨o,ho,hc,n,hd⟩:=pl.isList
  exact call_list_seq p (.inl rfl) ho hc hd (fun h' c' kp e=>fin its r' hz h' c' kp e) (by simp only [size_toArray] <;> omega)
 .obtain⟨its,r',pl,hz⟩:=I.tuple hq
  have hlen:=r'.length
  obtain⟨o,ho,hc,n,hd⟩:=pl
  exact call_list_seq p (.inr rfl) ho hc hd (fun h' c' kp e=>fin its r' hz h' c' kp e) (by simp only [size_toArray] <;> omega)
def tyV (K:Frag) (T:String) (x:V) (H:Hp):Prop:=match x with
 | .str _=>T= "str"
 | .int _=>T= "int"
 | .ref p=>(T= "list"/\∃xs,SqL K H p xs)\/(T= "tuple"/\∃o,K.lookup p=some o/\o.cls=.type "tuple"/\o.dict=none)\/
   (T= "dict"/\((∃kvs,H p=some (.dK kvs))\/∃kvs,H p=some (.dT kvs)))\/(T= "set"/\∃S n,H p=some (.set S n))
 |_=>False
theorem tyV_is {pins:List (Addr × Obj)} {σ:St} {H:Hp} {s:Shared} {T:String} {x:V} {v:Value} (I:Inv X pins σ H s) (r:qb6 x v) (ty:tyV X.K T x H):
  s.TypeIs v T/\∀a,v=.ref a->∃ob,s.heap.get? a=some ob/\ob.dict=none:=by
 cases x with
 |str z=>
  obtain⟨t,rfl⟩:=r
  cases (show T= "str" from ty)
  exact⟨typeIs_str s z t,fun _ e=>nomatch e⟩
 |int i=>
  obtain⟨t,rfl⟩:=r
  cases (show T= "int" from ty)
  exact⟨typeIs_int s i t,fun _ e=>nomatch e⟩
 |ref p=>
  cases r
  rcases ty with ⟨rfl,xs,hq⟩ |⟨rfl,o,hk,hc,hd⟩ |⟨rfl,hk⟩ |⟨rfl,S,n,hk⟩
  .obtain⟨its,_,pl,_⟩:=I.list hq
   refine⟨pl.isList.typeIs,fun a e=>?_⟩
   cases e
   obtain⟨o,n,e,c,hd,_⟩:=pl
   exact⟨o,e,hd⟩
  .refine⟨⟨o,I.kIn p o hk,hc⟩,fun a e=>?_⟩
   cases e
   exact⟨o,I.kIn _ o hk,hd⟩
  .have z:∃o,s.heap.get? p=some o/\o.ExactDict:=by
    rcases hk with ⟨kvs,hk⟩ |⟨kvs,hk⟩
    .obtain⟨_,_,_,_,o,_,_,e,ex,_⟩:=I.hok p _ hk
     exact⟨o,e,ex⟩
    .obtain⟨_,_,_,_,o,_,_,e,ex,_⟩:=I.hok p _ hk
     exact⟨o,e,ex⟩
   obtain⟨o,e,ex⟩:=z
   refine⟨⟨o,e,ex.1⟩,fun a e2=>?_⟩
   cases e2
   exact⟨o,e,ex.2.1⟩
  .obtain⟨o,_,_,_,e,ex,_⟩:=I.hok p _ hk
   refine⟨⟨o,e,ex.1⟩,fun a e2=>?_⟩
   cases e2
   exact⟨o,e,ex.2.1⟩
 |_=>exact False.elim ty
def tBM0 (K:Frag) (T:String) (r:V->List V->Hp->VK->Prop) (to:TE):TE:=fun σ H Q=>to σ H fun x H1=>tyV K T x H1/\r x [] H1 Q
def tBM (K:Frag) (T:String) (r:V->List V->Hp->VK->Prop) (to:TE) (t:TA):TE:=fun σ H Q=>to σ H fun x H1=>tyV K T x H1/\t σ H1 fun xs H2=>r x xs H2 Q
variable {o e: Expr} {es: List Expr} {to: TE} {t: TA} {name: Str} {apos cpos: Pos} {T id: String} {r: V -> List V -> Hp -> VK -> Prop}
theorem pe_bm0 (pa:PlainAttrs T) (slot:Slot T name id) (hty:typeOf (.builtin id)=pure (.type "method_descriptor")) (hm:MtR X id r) (ho:PE X o to)
  (hbase:attributeBase o name X.env (eval o X.env)=eval o X.env:=by rfl) (hline:(apos.endLine==cpos.line)=true:=by rfl):PE X (.Call (.Attribute o name apos) [] [] cpos) (tBM0 X.K T r to):=by
 intro pins s σ H Q I h
 refine wpAny_Call_method0_late hbase hline (thn (ho pins s σ H _ I h) fun v s1 ⟨x,H1,I1,r1,ty,q1⟩=>?_)
 obtain⟨h1,h2⟩:=tyV_is I1 r1 ty
 exact⟨T,id,pa,slot,hty,h1,h2,Calls.callWith_builtin rfl (PySem.evalArgs_none (hm pins s1 σ H1 x [] v [] Q I1 r1 .nil q1))⟩
theorem qcg (pa:PlainAttrs T) (slot:Slot T name id) (hty:typeOf (.builtin id)=pure (.type "method_descriptor")) (hm:MtR X id r) (ho:PE X o to) (ha:PA X (e :: es) t)
  (hbase:attributeBase o name X.env (eval o X.env)=eval o X.env:=by rfl)
  (hfew:((backTo cpos (starEach (e :: es) X.env)).all (fun x=>!x.1) && (backToKw cpos (keywordEach [] X.env)).all (fun x=>x.1.isSome)
   && decide ((e :: es).length+([]:List Keyword).length+(if ([]:List Keyword).isEmpty then 0 else 1) < 30))=true:=by rfl)
  (hline:(apos.endLine==cpos.line)=true:=by rfl) (hs:starEach (e :: es) X.env=(false,eval e X.env) :: starEach es X.env:=by rfl) (hplain:(backTo cpos (starEach es X.env)).any (·.1)=false:=by rfl):
  PE X (.Call (.Attribute o name apos) (e :: es) [] cpos) (tBM X.K T r to t):=by
 intro pins s σ H Q I h
 refine wpAny_Call_method_late hbase hfew hline rfl (thn (ho pins s σ H _ I h) fun v s1 ⟨x,H1,I1,r1,ty,q1⟩=>?_)
 obtain⟨h1,h2⟩:=tyV_is I1 r1 ty
 refine⟨T,id,pa,slot,hty,h1,h2,?_⟩
 have hA:=ha cpos pins s1 σ H1 _ I1 q1
 rw [hs] at hA ⊢
 refine Calls.callWith_builtin (by show (false ||(backTo cpos (starEach es X.env)).any (·.1))=false;rw [hplain] <;> rfl) (Calls.evalArgs_plain ?_)
 exact thn hA fun us s2 ⟨vs,H2,I2,r2,q2⟩=>hm pins s2 σ H2 x vs v us Q I2 r1 r2 q2
end
end L2
namespace L2
open PySem PySem.Spec PyProof.Rows
def MtM (X:Cx) (id:String) (r:V->List V->Hp->VK->Prop):Prop:=
 ∀(pins:List (Addr × Obj)) (s:Shared) (σ:St) (H:Hp) (x:V) (xs:List V) (v:Value) (us:List Value) (Q:VK),Inv X pins σ H s->qb6 x v->qbb xs us->r x xs H Q->
  wpAny (model X.prog X.w) X.A (call (.builtin id) (v :: us)) (EP X pins σ Q) X.xe s
theorem qbb.one:∀{x:V} {us:List Value},qbb [x] us->∃u,us=[u]/\qb6 x u
 |_,_,.cons r .nil=>⟨_,rfl,r⟩
theorem qbb.zero:∀{us:List Value},qbb [] us->us=[]
 |_,.nil=>rfl
section
variable {X: Cx} {pins: List (Addr × Obj)} {σ: St} {H: Hp} {s: Shared} {l: Addr} {xs ys: List V}
theorem Inv.lset {its its':List Value} {n:Nat} {f:Array Value->Array Value} {t':Nat} (I:Inv X pins σ H s) (hH:H l=some (.lst xs))
  (e:s.heap.get? l=some {cls:=.type "list",data:=.seq its.toArray n}) (hf:f its.toArray=its'.toArray) (hv:qbb ys its') (hz:ys.length<=sizeLine):
  Inv X pins σ (upd H l (.lst ys)) {s with heap:=s.heap.update l (Obj.mapSeq f),toks:=t'}:=by
 have q:=PySem.IsL.update e f
 rw [hf] at q
 refine I.write (x:=l) (e:=l) (by rw [hH];exact trivial) (.inl rfl) (fun b' u hb hu=>(Heap.get?_update_other s.heap (Obj.mapSeq f) (Ne.symm hb)).trans hu) ⟨_,q⟩ ?_
 exact⟨hz,its',_,hv,q⟩
theorem Inv.lnew {its:List Value} {t':Nat} (I:Inv X pins σ H s) (hv:qbb ys its) (hz:ys.length<=sizeLine):
  Inv X pins σ (upd H s.heap.objs.size (.lst ys)) {s with heap:=s.heap.push {cls:=.type "list",data:=.seq its.toArray},toks:=t'}:=
 I.laid (fun _ _ q=>Heap.get?_push_of_some _ q) (Nat.le_refl _) ⟨hz,its,0,hv,Heap.get?_push_size _ rfl⟩
theorem Inv.fresh (I:Inv X pins σ H s):H s.heap.objs.size=none:=I.hok.fresh (Nat.le_refl _)
theorem Inv.lstM (I:Inv X pins σ H s) (hH:H l=some (.lst xs)):xs.length<=sizeLine/\∃(its:List Value) (n:Nat),qbb xs its/\xs.length=its.length/\s.heap.get? l=some {cls:=.type "list",data:=.seq its.toArray n}:=by
 obtain⟨z,its,n,r,e⟩:=I.hok l _ hH
 exact⟨z,its,n,r,r.length,e⟩
theorem notLongL {n:Nat} (h:n<=sizeLine):Builtin.List.listTooLong n=false:=by
 unfold Builtin.List.listTooLong
 exact decide_eq_false (by omega)
end
section
variable {X: Cx}
def rAppend:V->List V->Hp->VK->Prop:=fun x vs H Q=>∃l xs y,x=.ref l/\vs=[y]/\H l=some (.lst xs)/\xs.length < sizeLine/\Q .non (upd H l (.lst (xs++ [y])))
theorem qay:MtM X "list.append" rAppend:=by
 intro pins s σ H x vs v us Q I rx rv h
 obtain⟨l,xs,y,rfl,rfl,hH,hz,q⟩:=h
 cases rx
 obtain⟨u,rfl,ru⟩:=rv.one
 obtain⟨z,its,n,r,hl,e⟩:=I.lstM hH
 refine call_meets F.slot_list_append ⟨_,e,rfl⟩ F.entry_list_append (F.args_list_append_2 _ _) (PySem.list_append l its.toArray n u (by rw [size_toArray];omega)) ⟨e,?_⟩
 refine⟨.non,_,I.lset (its':=its++ [u]) hH e (by simp) (r.append (.cons ru .nil)) ?_,rfl,q⟩
 rw [length_append,length_singleton]
 omega
def rExtend:V->List V->Hp->VK->Prop:=fun x vs H Q=>∃l b xs zs,x=.ref l/\vs=[.ref b]/\H l=some (.lst xs)/\H b=some (.lst zs)/\xs.length+zs.length<=sizeLine/\Q .non (upd H l (.lst (xs++zs)))
theorem mt_extend:MtM X "list.extend" rExtend:=by
 intro pins s σ H x vs v us Q I rx rv h
 obtain⟨l,b,xs,zs,rfl,rfl,hH,hB,hz,q⟩:=h
 cases rx
 obtain⟨u,rfl,ru⟩:=rv.one
 cases ru
 obtain⟨z,its,n,r,hl,e⟩:=I.lstM hH
 obtain⟨z2,its2,n2,r2,hl2,e2⟩:=I.lstM hB
 have hsz:its.toArray.size+its2.toArray.size<=sizeLine:=by rw [size_toArray,size_toArray];omega
 have hlong:¬(!its.toArray.isEmpty && Builtin.List.listTooLong (its.toArray.size+its2.toArray.size))=true:=by
  rw [notLongL hsz,Bool.and_false]
  exact Bool.false_ne_true
 refine call_meets F.slot_list_extend ⟨_,e,rfl⟩ F.entry_list_extend (F.args_list_extend_2 _ _)
  (AutoSeq1.list_extend_list_list_0 l its.toArray n b its2.toArray n2 hlong (by rw [size_toArray];omega) (by omega)) ⟨e,e2,?_⟩
 refine⟨.non,_,I.lset (its':=its++its2) hH e (by simp) (r.append r2) ?_,rfl,q⟩
 rw [length_append]
 omega
def rCat:R2:=fun x y H Q=>∃l b xs zs,x=.ref l/\y=.ref b/\H l=some (.lst xs)/\H b=some (.lst zs)/\xs.length+zs.length<=sizeLine/\∀p,H p=none->Q (.ref p) (upd H p (.lst (xs++zs)))
theorem op_cat:OpR X (binaryOp .Add) rCat:=by
 intro pins s σ H x y v u Q I rx ry h
 obtain⟨l,b,xs,zs,rfl,rfl,hH,hB,hz,q⟩:=h
 cases rx
 cases ry
 obtain⟨z,its,n,r,hl,e⟩:=I.lstM hH
 obtain⟨z2,its2,n2,r2,hl2,e2⟩:=I.lstM hB
 refine PySem.P.add_list e e2 ?_ (by rw [size_toArray,size_toArray];omega)
 have ea:its.toArray++its2.toArray=(its++its2).toArray:=by simp
 rw [ea]
 exact⟨.ref _,_,I.lnew (t':=s.toks) (r.append r2) (by rw [length_append];omega),rfl,q _ I.fresh⟩
def rRep:R2:=fun x y H Q=>∃l k xs,x=.ref l/\y=.int k/\H l=some (.lst xs)/\-(2^63)<=k/\k < 2^63/\xs.length*k.toNat<=sizeLine/\
 ∀p,H p=none->Q (.ref p) (upd H p (.lst (List.replicate k.toNat xs).flatten))
end
end L2
namespace Att
open PySem PySem.W PySem.Calls PyProof.Rows
theorem qep {P:Params} {h:Heap}:∀(ns:List Int) (vs:List Value),WellAll P h vs (ns.map WData.int)->IntsAre vs ns:=by
 intro ns
 induction ns with
 |nil=>
  intro vs w
  rw [List.map_nil] at w
  cases w
  exact .nil
 |cons n ns ih=>
  intro vs w
  rw [map_cons] at w
  cases w with
  |cons a b=>
   cases a
   exact .cons _ _ (ih _ b)
theorem script_of {l:OpenLaw} {n:Nat} (hn:l.most=some n) {P:Params} {h:Heap} {args:List WData} {vals:List Value}
  (hpre:l.row.toRowW.claim.pre args=true) (hwl:WellAll P h vals args):
  ∃a vs ns,vals=[Value.ref a]/\args=[WData.list (ns.map WData.int)]/\h.get? a=some {cls:=.type "list",data:=.seq vs.toArray}/\IntsAre vs ns/\ns.length<=n:=by
 have hsh:WShape.hasAll [] args [.list .int]=true:=(pre_splitW hpre).1
 have hc:l.pre.holds [] {args:=args}=true:=(pre_splitW hpre).2
 obtain⟨d,r,rfl,h1,h2⟩:=hasAllW_cons hsh
 obtain rfl:=hasAllW_nil h2
 obtain⟨xs,rfl,h3⟩:=hasW_list h1
 obtain⟨ns,rfl⟩:=items_int h3
 have hlen:ns.length<=n:=by
  unfold OpenLaw.pre at hc
  have h4:(WTm.not (.lt (.lit (.int (n:Int))) (.len (.arg 0)))).holds [] {args:=[.list (ns.map .int)]}=true:=by
   have h4:=(holds_andW hc).1
   rw [hn] at h4
   exact h4
  have h5:=condW_of h4 (w_not (w_lt w_lit (w_len_list (w_arg rfl))))
  rw [length_map] at h5
  refine Nat.le_of_not_lt fun q=>?_
  have q':(n:Int) <((ns.length:Nat):Int):=by omega
  first
   |(rw [decide_eq_true q'] at h5;exact absurd h5 (by decide))
   |(simp at h5;omega)
 cases hwl with
 |cons w1 w2=>
  cases w2
  cases w1 with
  |list ho hall=>exact⟨_,_,ns,rfl,rfl,ho,qep ns _ hall,hlen⟩
theorem post_true (l:OpenLaw) (args:List WData):l.row.toRowW.claim.post args (.bool true) args=true:=
 postW_of (r:=l.row.toRowW) (X:=(true==true))
  (show WShape.has [] (.bool true) .bool=true by first|rfl|decide|simp [WShape.has,WShape.arms,WShape.armsAll])
  (show (WTm.eq .res (.lit (.bool true))).value [] {args:=args,res:=some (.bool true),after:=args}=some (.bool (true==true)) from w_eq_bool (w_res rfl) w_lit) rfl
theorem attach_call {l:OpenLaw} {n:Nat} {q:Program} {loose:List Str} {XP:(Str->Option Value)->Heap->Prop} {YP:World->Heap->Prop} {d:DefRec}
  (hn:l.most=some n) (hdf:d.params.defaults=[])
  (call:∀(w:World) (s₀ s₁:Shared) (mg mb:Str->Option Value) (fa:Addr) (o:Obj) (pm cd doc:Value) (a:Addr) (vs:List Value) (ns:List Int),
   Ground q loose [] XP w s₀ mg mb s₁.heap->YP w s₁.heap->
   s₁.heap.get? fa=some o->o.data=.func (docDef d.name d.params d.body d.scope pm cd doc)->s₁.heap.CodeRec cd d.name->mg d.name=some (.ref fa)->
   s₁.heap.get? a=some {cls:=.type "list",data:=.seq vs.toArray}->IntsAre vs ns->ns.length<=n->s₁.gens= #[]->
   codeAny (model l.prog w) callerA (.call (.ref fa) ⟨[.ref a], []⟩) (fun r s'=>r=.ok (.ret (.bool true))/\OldK s₁.heap s'.heap/\s'.os=s₁.os/\AllBare s'.gens) s₁):
  WalkO q loose XP YP l.row.toRowW d [] (fun f vs=>PySem.call f vs):=by
 intro w s₀ s₁ mg mb G Y fa o pm cd doc dV kV ho hd hcd hD hmg hg args vals as hpre hlay hrd hwl hlo
 obtain rfl:dV=.none:=Dflts.none hD hdf
 obtain rfl:kV=.none:=Dflts.noKw hD
 obtain⟨a,vs,ns,rfl,rfl,hobj,hints,hlen⟩:=script_of hn hpre hwl
 refine enter_call (codeAny_mono (call w s₀ s₁ mg mb fa o pm cd doc a vs ns G Y ho (fd_plain hd) hcd hmg hobj hints hlen hg) fun r s' hq=>?_)
 obtain⟨rfl,h2,h3,h4⟩:=hq
 exact⟨.inl ⟨.bool true,.bool true, [],rfl,fun _=>rfl,.bool true,post_true l _,fun _=>⟨List.Pairwise.nil,fun _ hm=>(nomatch hm)⟩⟩,h2,h3,h4⟩
end Att
namespace L2
open PySem PySem.Spec PyProof.Rows
theorem vals_ints:∀{vs:List Value} {ns:List Int},IntsAre vs ns->qbb (ns.map V.int) vs
 |_,_,.nil=> .nil
 |_,_,.cons n t h=> .cons ⟨t,rfl⟩ (vals_ints h)
def Only (H:Hp):Prop:=∀b,H b=none\/∃o xs,H b=some (.frz o (.lst xs))
theorem law_call {P:Program} {w:World} {K:Frag} {mg mb:Str->Option Value} {CX:CXT} {k:Nat} {fa a:Addr} {fd:FuncData} {x:Str} {sp:Sp} {s₁:Shared} {vs:List Value} {ns:List Int}
  (KX:K.In s₁.heap) (hns:s₁.heap.Ns mainGlobals mg) (hb:s₁.heap.Ns builtinsNs mb) (hbb:∀x:Str,x≠"__name__"->mb x=bootBuiltins x) (hlim:s₁.heap.NoLimit) (hg:s₁.gens= #[])
  (ha:s₁.heap.get? a=some {cls:=.type "list",data:=.seq vs.toArray}) (hi:IntsAre vs ns) (hl:ns.length<=sizeLine) (hr:Room k callerA)
  (F:∀base:Heap,K.In base->base.Ns mainGlobals mg->FnOk P w K mg base CX k fa fd [x] sp) (hbind:∀(s:Shared) (u:Value),BindsTo s fd ⟨[u], []⟩ [(x,u)])
  (hsp:∀H:Hp,Only H->SqL K H a (ns.map V.int)->sp [.ref a] H (fun v _=>v=.bl true) fun _ _ _=>False)
  (hCX:∀H e s',CX [] H s₁ (fun _ _ _=>False) e s'->False):
  codeAny (model P w) callerA (.call (.ref fa) ⟨[.ref a], []⟩) (fun r s'=>r=.ok (.ret (.bool true))/\OldK s₁.heap s'.heap/\s'.os=s₁.os/\AllBare s'.gens) s₁:=by
 have rv:=vals_ints hi
 have lenV:=hi.length
 have core:∀H:Hp,Only H->SqL K H a (ns.map V.int)->HOk P w H s₁.heap->(∀b,H b≠none->b=a)->(H a≠none->K.lookup a=none)->
   codeAny (model P w) callerA (.call (.ref fa) ⟨[.ref a], []⟩) (fun r s'=>r=.ok (.ret (.bool true))/\OldK s₁.heap s'.heap/\s'.os=s₁.os/\AllBare s'.gens) s₁:=by
  intro H hO hS hok hA hK
  have base_of:∀{b:Addr} {o:Obj},s₁.heap.get? b=some o->H b=none->(hidT s₁.heap H).get? b=some o:=fun e n=>hidT_get e n
  have noA:∀{b:Addr} {o:Obj} {es:Array DictEntry} {ep:Nat},s₁.heap.get? b=some o->o.data=.dict es ep->H b=none:=fun {b o es ep} e d=>by
   cases q:H b with
   |none=>rfl
   |some u=>
    have e':b=a:=hA b (by rw [q];simp)
    subst e'
    rw [ha] at e;cases e
    have d':Data.seq vs.toArray _=Data.dict es ep:=d
    cases d'
  have nsK:∀{b:Addr} {m:Str->Option Value},s₁.heap.Ns b m->(hidT s₁.heap H).Ns b m:=fun {b m} ⟨o,es,ep,e,d,r⟩=>⟨o,es,ep,base_of e (noA e d),d,r⟩
  have hKb:K.In (hidT s₁.heap H):=fun b o e=>base_of (KX b o e) (by
   cases q:H b with
   |none=>rfl
   |some u=>
    have e':b=a:=hA b (by rw [q];simp)
    subst e'
    rw [hK (by rw [q];simp)] at e;cases e)
  have hM:Mod K mg (hidT s₁.heap H):=⟨hKb,nsK hns,⟨mb,nsK hb,hbb⟩,let ⟨mc,h1,h2⟩:=hlim;⟨mc,nsK h1,h2⟩⟩
  have e0:Env0 P w K mg (hidT s₁.heap H) callerA [] s₁ H:=⟨rfl,hM,fun b o e=>of_hidT e,Nat.le_of_eq (hidT_size _ _),trivial,fun b hb=>absurd (show b∈([]:List Addr) from hb) (by simp),hok,.of_eq hg⟩
  refine codeAny_mono ((F _ hKb (nsK hns)).run callerA [] s₁ H ⟨[.ref a], []⟩ [.ref a] [.ref a] _ _ hr e0 (hbind s₁ (.ref a)) (.cons rfl .nil) (hsp H hO hS)) fun r s' h=>?_
  cases r with
  |error e=>exact(hCX H e s' h).elim
  |ok fl=>
   cases fl with
   |next=>exact False.elim h
   |brk=>exact False.elim h
   |cont=>exact False.elim h
   |ret u=>
    obtain⟨v,H',os,bare,un,hok',r',q⟩:=h
    have q':v=.bl true:=q
    subst q'
    obtain rfl:u=Value.bool true:=r'
    refine⟨rfl,OldK.of_keep fun b o e=>?_,os,bare⟩
    cases q:H b with
    |none=>exact un.keep b o e q (by intro z;exact absurd (show b∈([]:List Addr) from z) (by simp)) (by simp)
    |some u=>
     rcases hO b with z|⟨ob,xs,z⟩
     .rw [q] at z;cases z
     .have z2:=un.frzs b ob _ z
      obtain⟨e1,_⟩:=hok b _ z
      obtain⟨e2,_⟩:=hok' b _ z2
      rw [e] at e1;cases e1
      exact e2
 cases hk:K.lookup a with
 |some o=>
  have e:=KX a o hk
  rw [ha] at e
  cases e
  refine core (fun _=>none) (fun _=> .inl rfl) (.inr ⟨_,vs.toArray,_,hk,rfl,rfl,rfl,by rw [size_toArray,lenV];exact hl,by simpa using rv⟩) (fun b u z=>by have z':(none:Option HO)=some u:=z;cases z') (fun b z=>absurd rfl z) fun z=>absurd rfl z
 |none=>
  refine core (fun b=>if b=a then some (.frz {cls:=.type "list",data:=.seq vs.toArray} (.lst (ns.map V.int))) else none) (fun b=>?_) (.inl (.inr ⟨{cls:=.type "list",data:=.seq vs.toArray},if_pos rfl⟩)) (fun b u z=>?_) (fun b z=>?_) fun _=>hk
  .by_cases hb:b=a
   .exact .inr ⟨_,_,if_pos hb⟩
   .exact .inl (if_neg hb)
  .by_cases hb:b=a
   .have z':=(if_pos hb).symm.trans z
    cases z'
    subst hb
    exact⟨ha,by rw [length_map];exact hl,vs,_,rv,ha⟩
   .have z':=(if_neg hb).symm.trans z
    cases z'
  .by_cases hb:b=a
   .exact hb
   .exact absurd (if_neg hb) z
end L2
namespace L2
open PySem PySem.Spec PyProof.Rows
theorem walk_of {l:PySem.W.OpenLaw} {n k:Nat} {q:Program} {loose:List Str} {XP:(Str->Option Value)->Heap->Prop} {YP:World->Heap->Prop} {d:DefRec} {K:Params->Frag} {CX:World->CXT} {sp:World->Sp} {x:Str}
  (hn:l.most=some n) (hn2:n<=sizeLine) (hdf:d.params.defaults=[]) (hr:Room k callerA)
  (hY:∀(w:World) (h:Heap),YP w h->(K w.params).In h)
  (F:∀(w:World) (mg:Str->Option Value) (fa:Addr) (h:Heap),(K w.params).In h->h.Ns mainGlobals mg->mg d.name=some (.ref fa)->
   ∃fd:FuncData,(∀(s:Shared) (u:Value),BindsTo s fd ⟨[u], []⟩ [(x,u)])/\
    ∀base:Heap,(K w.params).In base->base.Ns mainGlobals mg->FnOk l.prog w (K w.params) mg base (CX w) k fa fd [x] (sp w))
  (hsp:∀(w:World) (H:Hp) (a:Addr) (ns:List Int),ns.length<=n->Only H->SqL (K w.params) H a (ns.map V.int)->sp w [.ref a] H (fun v _=>v=.bl true) fun _ _ _=>False)
  (hCX:∀(w:World) (H:Hp) (s:Shared) (e:Value) (s':Shared),CX w [] H s (fun _ _ _=>False) e s'->False):
  PySem.W.WalkO q loose XP YP l.row.toRowW d [] (fun f vs=>PySem.call f vs):=by
 refine Att.attach_call hn hdf fun w s₀ s₁ mg mb fa o pm cd doc a vs ns G Y ho hd hcd hmg hobj hints hlen hg=>?_
 have KX:=hY w _ Y
 obtain⟨fd,hb,hF⟩:=F w mg fa _ KX G.T.g hmg
 exact law_call KX G.T.g G.T.b G.T.builtins G.T.nolimit hg hobj hints (Nat.le_trans hlen hn2) hr hF hb (fun H hO hS=>hsp w H a ns hlen hO hS) fun H e s'=>hCX w H s₁ e s'
end L2
namespace L2
open PySem PySem.Spec PyProof.Rows
def qcf (s:Stmt):Arguments:=match s with
 | .FunctionDef _ a _ _ _ _ _ _ _ _=>a
 |_=>{posonlyargs:=[],args:=[],vararg:=none,kwonlyargs:=[],kw_defaults:=[],kwarg:=none,defaults:=[]}
def qbs (s:Stmt):List Stmt:=match s with
 | .FunctionDef _ _ b _ _ _ _ _ _ _=>b
 |_=> []
def qab (s:Stmt):Scope:=match s with
 | .FunctionDef _ _ _ _ _ _ sc _ _ _=>sc
 |_=>{kind:=.function,names:=[],isGenerator:=false,isCoroutine:=false}
abbrev CX0:CXT:=fun _ _ _ _ _ _=>False
abbrev E0:XK:=fun _ _ _=>False
theorem qav {X:Cx}:qey CX0 X E0:=fun _ _ _ _ _ _ _ h=>h.elim
structure Fun (K:Frag) (x qual:Str) (st:Stmt) (f:Addr) (fd:FuncData):Prop where
 ex:∃(oc:Value) (od:Option Addr) (kV doc pm:Value) (an:Option Addr) (cdv ct:Value) (osl:Array (Option Value)),
  fd=fnOf x qual (qcf st) (qbs st) (qab st) .none kV doc pm an cdv ct/\K.lookup f=some ⟨oc,od,.func fd,osl⟩/\codeIn K cdv qual=true
 kp:keepIn K (.ref f)=true
section
variable {P: Program} {w: World} {K: Frag} {mg: Str -> Option Value} {base: Heap}
theorem Fun.ok {x qual:Str} {st:Stmt} {f:Addr} {fd:FuncData} {N ps:List Str} {k:Nat} {sp:Sp} (F:Fun K x qual st f fd) (S:FnScope N ps (qab st)) (len:∀vs H Q E,sp vs H Q E->vs.length=ps.length)
  (hbody:∀(cdv:Value) (A:Around) (outer:List Env) (s:Shared) (H:Hp) (vs:List V) (Q:VK) (E:XK),Room k (A.deeper (envOfC qual (qab st) s.heap.objs.size f cdv))->sp vs H Q E->
   ∃t,PSs (cxOf CX0 P w K mg base N qual (qab st) f cdv A outer s H E).nox (qbs st) t/\t {nx:=fun _ H'=>Q .non H',rt:=Q} (qdf N vs) H):FnOk P w K mg base CX0 (k+1) f fd ps sp:=by
 obtain⟨oc,od,kV,doc,pm,an,cdv,ct,osl,rfl,lk,hcd⟩:=F.ex
 refine fn_of lk hcd S len fun A outer s H vs Q E hr hsp=>?_
 obtain⟨t,h,q⟩:=hbody cdv A outer s H vs Q E hr hsp
 exact⟨t,h.nox,q⟩
theorem Fun.binds {x qual:Str} {st:Stmt} {f:Addr} {fd:FuncData} {ps:List Str} (F:Fun K x qual st f fd)
  (h:∀(kV doc pm:Value) (an:Option Addr) (cdv ct:Value) (us:List Value),us.length=ps.length->bindArgs (fnOf x qual (qcf st) (qbs st) (qab st) .none kV doc pm an cdv ct) ⟨us, []⟩=pure (ps.zip us)):qan K fd ps []:=by
 obtain⟨oc,od,kV,doc,pm,an,cdv,ct,osl,rfl,lk,hcd⟩:=F.ex
 exact .all (h kV doc pm an cdv ct)
theorem fun_mk {x qual:Str} {st:Stmt} {f:Addr} {oc:Value} {od an:Option Addr} {osl:Array (Option Value)} {kV doc pm cdv ct:Value} (l:K.lookup f=some ⟨oc,od,.func (fnOf x qual (qcf st) (qbs st) (qab st) .none kV doc pm an cdv ct),osl⟩)
  (c:codeIn K cdv qual=true) (k:keepIn K (.ref f)=true):Fun K x qual st f (fnOf x qual (qcf st) (qbs st) (qab st) .none kV doc pm an cdv ct):=⟨⟨oc,od,kV,doc,pm,an,cdv,ct,osl,rfl,l,c⟩,k⟩
end
theorem qce {A:Around} {k:Nat} (hr:Room k A):A.units+1 < cLine:=Nat.lt_of_le_of_lt (Nat.add_le_add_left (by decide:1<=64) _) hr.units
section
variable {X: Cx}
theorem pv (i:Nat) {x:Str} {pos:Pos} (hN:X.N[i]?=some x:=by rfl) (hv:Vis X.env.scope x:=by first|exact Or.inl rfl|exact Or.inr (Or.inl rfl) |exact Or.inr (Or.inr rfl)) (hd:(x==("__debug__" :Str))=false:=by decide)
  (hcd:(x==("__classdict__" :Str))=false:=by decide):PE X (.Name x pos) (tVar i):=pe_var hN hv hd hcd
end
theorem iteF {A B:Prop} (h:B):if false=true then A else B:=by
 rw [if_neg Bool.false_ne_true]
 exact h
theorem iteT {A B:Prop} (h:A):if true=true then A else B:=by
 rw [if_pos rfl]
 exact h
def qb0 (H H':Hp):Prop:=∀b o,H b=some o->H' b=some o
theorem qb0.refl (H:Hp):qb0 H H:=fun _ _ h=>h
theorem qb0.trans {H H1 H2:Hp} (a:qb0 H H1) (b:qb0 H1 H2):qb0 H H2:=fun c o h=>b c o (a c o h)
theorem qb0.free {H H':Hp} (e:qb0 H H') {l:Addr} (h:H' l=Option.none):H l=Option.none:=by
 cases q:H l with
 |none=>rfl
 |some o=>
  rw [e l o q] at h
  cases h
theorem qb0.seq {K:Frag} {H H':Hp} {a:Addr} {xs:List V} (e:qb0 H H') (h:SqL K H a xs):SqL K H' a xs:=by
 rcases h with (h|⟨o,h⟩) |h
 .exact .inl (.inl (e _ _ h))
 .exact .inl (.inr ⟨o,e _ _ h⟩)
 .exact .inr h
end L2
namespace My
open PySem PySem.Spec PyProof.Rows L2
section
variable {X: Cx}
theorem bits600 {k:Int} (h:k.natAbs < 2^600):Builtin.Int.intBits k<=2^20:=
 Nat.le_trans (PyProof.Rows.intBits_le (k:=600) h) (by decide)
def CBig (i j:Int):Prop:=i.natAbs < 2^600/\j.natAbs < 2^600
theorem qc5:OpR X (binaryOp .Mult) (rI CBig fun i j=> .int (i*j)):=opI fun _ _ _ _ _ _ _ hc q=>mul_int q (IntMulOk.of_bits (bits600 hc.1) (bits600 hc.2))
def CDivB (i j:Int):Prop:=j≠0/\j.natAbs < 2^600
theorem noPy {x y:Int} (h:y.natAbs < 2^600):Builtin.divisionGoesByPylong x y=false:=by
 refine PyProof.noPylong_of_log2 ?_
 by_cases h0:y.natAbs=0
 .rw [h0];decide+kernel
 .have h30:y.natAbs.log2 < 600:=(Nat.log2_lt h0).mpr h
  omega
theorem qb9:OpR X (binaryOp .FloorDiv) (rI CDivB fun i j=> .int (i.fdiv j)):=opI fun _ _ _ _ _ _ _ hc q=>floordiv_int hc.1 q (.inl (noPy hc.2))
end
theorem qa2 {H:Hp} {p:Addr} (h:H p=none) (o:HO):qb0 H (upd H p o):=fun b u q=>by rw [qa9 (qa8 q h)];exact q
def cell (ns:List Int) (k:Int):Int:=(ns[k.toNat]?).getD 0
theorem qfu {ns:List Int} {k:Int} (h0:0<=k) (h:k <(ns.length:Int)):atI (ns.map V.int) k=some (.int (cell ns k)):=by
 have hk:k.toNat < ns.length:=by omega
 have ek:k=((k.toNat:Nat):Int):=by omega
 have q:atI (ns.map V.int) ((k.toNat:Nat):Int)=some (.int ns[k.toNat]):=qas (by rw [getElem?_map,getElem?_eq_getElem hk] <;> rfl)
 rw [<-ek] at q
 rw [q]
 unfold cell
 rw [getElem?_eq_getElem hk]
 rfl
theorem cell_out {ns:List Int} {k:Int} (h:¬k <(ns.length:Int)) (h0:0<=k):cell ns k=0:=by
 unfold cell
 rw [List.getElem?_eq_none (by omega)]
 rfl
end My
namespace My
open PySem PySem.Spec PyProof.Rows L2
end My
set_option maxHeartbeats 1000000
namespace My
open PySem PySem.Spec PyProof.Rows L2
section
variable {X: Cx} {pins: List (Addr × Obj)} {σ: L2.St} {H: Hp} {s: Shared} {h': Heap}
structure Rec (X:Cx) (pins:List (Addr × Obj)) (H:Hp) (h:Heap) (b:Addr):Prop where
 nw:X.s₀.heap.get? b=none
 un:H b=none
 pin:∀p∈X.pn++pins,p.1≠b
 ob:∃o vs,h.get? b=some o/\o.data=.fields vs
theorem Rec.loc (I:Inv X pins σ H s) {b:Addr} (r:Rec X pins H s.heap b):b≠X.env.locals:=fun z=>by
 obtain⟨o,vs,e,d⟩:=r.ob
 obtain⟨m,⟨o',es,ep,e',d',_⟩,_⟩:=I.loc
 rw [z,e'] at e;cases e;rw [d'] at d;cases d
theorem Rec.cel (I:Inv X pins σ H s) {b:Addr} (r:Rec X pins H s.heap b):∀x c,X.env.cells.lookup x=some c->c≠b:=fun x c hc z=>by
 obtain⟨o,vs,e,d⟩:=r.ob
 obtain⟨v,o',e',d'⟩:=I.cell x c hc
 rw [z,e] at e';cases e';rw [d] at d';cases d'
theorem Rec.frs (I:Inv X pins σ H s) {b:Addr} (r:Rec X pins H s.heap b):b∉frs X.stack:=fun z=>by
 obtain⟨o,vs,e,d⟩:=r.ob
 obtain⟨_,o',e',d'⟩:=I.stack.mem z
 rw [e] at e';cases e';exact d' vs d
theorem Inv.marks {ch:List Addr} {t':Nat} (I:Inv X pins σ H s) (hch:∀b∈ch,Rec X pins H s.heap b)
  (k1:∀b o,b∉frs X.stack->b∉ch->s.heap.get? b=some o->h'.get? b=some o)
  (k2:∀b o,b∉ch->s.heap.get? b=some o->∃sl,h'.get? b=some {o with slots:=sl}):Inv X pins σ H {s with heap:=h',toks:=t'}:=by
 have sub:∀b,b≠X.env.locals->b∉X.fs->b∉frs X.stack:=fun b h1 h2 z=>(mem_cons.mp (I.stkSub b z)).elim h1 h2
 have neL:∀b o,X.s₀.heap.get? b=some o->b≠X.env.locals:=fun b o e=>Nat.ne_of_lt (Nat.lt_of_lt_of_le (Heap.lt_size e) I.ok.above)
 have neC:∀b o,X.s₀.heap.get? b=some o->b∉ch:=fun b o e z=>by rw [(hch b z).nw] at e;cases e
 have cel:∀x c,X.env.cells.lookup x=some c->∀v,s.heap.IsCell c v->h'.IsCell c v:=fun x c e v ⟨o,ho,hd⟩=>by
  obtain⟨sl,q⟩:=k2 c o (fun z=>(hch c z).cel I x c e rfl) ho
  exact⟨_,q,hd⟩
 refine⟨I.ok,I.os,I.bare,⟨fun b o e n hb hx=>k1 b o (sub b (neL b o e) hb) (neC b o e) (I.base.keep b o e n hb hx),fun b o e n hb hx=>?_,I.base.free,fun b o e hx=>?_,I.base.tups,I.base.frzs,I.base.tbls⟩,
  ?_,fun x c e=>?_,I.free,I.freeC,fun p hp=>?_,fun a o e=>?_,I.len⟩
 .obtain⟨sl,e1⟩:=I.base.slot b o e n hb hx
  obtain⟨sl',e2⟩:=k2 b _ (neC b o e) e1
  exact⟨sl',e2⟩
 .obtain⟨o',e1⟩:=I.base.there b o e hx
  obtain⟨sl',e2⟩:=k2 b _ (neC b o e) e1
  exact⟨_,e2⟩
 .obtain⟨m,hm,hl⟩:=I.loc
  have hm':h'.Ns X.env.locals m:=by
   obtain⟨o,es,ep,e,r⟩:=hm
   obtain⟨sl,q⟩:=k2 _ o (fun z=>(hch _ z).loc I rfl) e
   exact⟨_,es,ep,q,r⟩
  refine⟨m,hm',fun i x v e1 e2 e3=>?_⟩
  obtain⟨u,r,l⟩:=hl i x v e1 e2 e3
  refine⟨u,r,?_⟩
  rcases l with l|⟨k,c,e,z⟩
  .exact .inl l
  .exact .inr ⟨k,c,e,cel x c e _ z⟩
 .obtain⟨v,z⟩:=I.cell x c e
  exact⟨v,cel x c e v z⟩
 .obtain⟨e,n,ne,nf,d⟩:=I.pin p hp
  exact⟨k1 p.1 p.2 (sub p.1 ne nf) (fun z=>(hch p.1 z).pin p hp rfl) e,n,ne,nf,d⟩
 .refine(I.hok a o e).stay (fun b u hb q=>k1 b u ?_ ?_ q) (fun _ q=>q) fun _ _ q=>q
  .intro z
   have n:=I.stkFree b z
   rcases hb with rfl|hb
   .rw [n] at e;cases e
   .rw [n] at hb;cases hb
  .intro z
   have n:=(hch b z).un
   rcases hb with rfl|hb
   .rw [n] at e;cases e
   .rw [n] at hb;cases hb
theorem obj_there {P:Program} {w:World} {H:Hp} {h:Heap} {a:Addr} {o:HO} (x:qbg P w H h a o):∃ob,h.get? a=some ob:=by
 cases o with
 |lst xs=>obtain⟨_,_,_,_,e⟩:=x;exact⟨_,e⟩
 |tup xs=>obtain⟨_,_,_,ob,e,_⟩:=x;exact⟨_,e⟩
 |dK kvs=>obtain⟨_,_,_,_,o,_,_,e,_⟩:=x;exact⟨_,e⟩
 |dT kvs=>obtain⟨_,_,_,_,o,_,_,e,_⟩:=x;exact⟨_,e⟩
 |set S n=>obtain⟨o,_,_,_,e,_⟩:=x;exact⟨_,e⟩
 |ins C dx fs=>obtain⟨_,_,_,e,_⟩:=x;exact⟨_,e⟩
 |own y=>exact x
 |xd fs=>obtain⟨_,⟨_,_,_,e,_⟩,_⟩:=x;exact⟨_,e⟩
 |rng lo hi=>obtain⟨_,_,_,e⟩:=x;exact⟨_,e⟩
 |frz ob u=>obtain⟨e,_⟩:=x;exact⟨_,e⟩
 |tbl ps=>exact⟨_,(show h.get? a=some _ from x)⟩
 |met f y=>exact⟨_,(show h.get? a=some _ from x)⟩
 |ext φ=>obtain⟨_,e,_⟩:=x;exact e
theorem un_of {P:Program} {w:World} {H:Hp} {h:Heap} {a:Addr} (x:HOk P w H h) (e:h.get? a=none):H a=none:=by
 cases q:H a with
 |none=>rfl
 |some o=>obtain⟨ob,z⟩:=obj_there (x a o q);rw [e] at z;cases z
theorem qf5 (I:Inv X pins σ H s) (hex:X.ex=[]) {b:Addr} (e:s.heap.get? b=none):X.s₀.heap.get? b=none:=by
 cases q:X.s₀.heap.get? b with
 |none=>rfl
 |some o=>obtain⟨o',z⟩:=I.base.there b o q (by rw [hex];simp);rw [e] at z;cases z
def XNew (h:Heap) (e:Addr) (C:Value) (d:Option Addr):Prop:=
 ∃oe vs,h.get? e=some oe/\oe.cls=C/\oe.dict=d/\oe.data=.fields vs/\vs[1]?=some .none
def XTr (h:Heap) (e:Addr) (C:Value) (d:Option Addr) (fl:Value) (T:Addr):Prop:=
 ∃oe vs oT ts,h.get? e=some oe/\oe.cls=C/\oe.dict=d/\oe.data=.fields vs/\vs[1]?=some (.ref T)/\T≠e/\h.get? T=some oT/\oT.data=.fields ts/\ts[3]?=some fl
def XIn (X:Cx) (pins:List (Addr × Obj)) (H:Hp) (h:Heap) (e:Addr) (C:Value) (d:Option Addr):Prop:=
 Rec X pins H h e/\(XNew h e C d\/∃T,Rec X pins H h T/\∃fl,XTr h e C d fl T)
def qe3 (X:Cx) (pins:List (Addr × Obj)) (H:Hp) (h:Heap) (e:Addr) (C:Value) (d:Option Addr) (fl:Value):Prop:=
 Rec X pins H h e/\∃T,Rec X pins H h T/\XTr h e C d fl T
theorem dict_mapF (f:Array Value->Array Value) (o:Obj):(o.mapFields f).dict=o.dict:=by
 obtain⟨c,d,dt,sl⟩:=o
 cases dt <;> rfl
theorem entry_x {M:Model} {A:Around} {E:Value->Shared->Prop} {e:Addr} {C:Value} {d:Option Addr} {head:Value} {hadNext:Bool} {Q:Unit->Shared->Prop}
  (I:Inv X pins σ H s) (hA:A.frames=some X.stack) (hst:X.stack=X.env :: X.outer) (hf:X.env.frame=some X.env.locals) (r:Rec X pins H s.heap e)
  (ho:∃oe vs,s.heap.get? e=some oe/\oe.cls=C/\oe.dict=d/\oe.data=.fields vs/\1 < vs.size)
  (h:∀s',Inv X pins σ H s'->qe3 X pins H s'.heap e C d (rawInt X.env.locals)->Q () s'):
  wpAny M A (do let a<-frameOf X.env;let pl<-entryPlaceOf X.env.locals hadNext;let b<-EntryCells.newEntry head a .none (rawInt X.env.locals) .none pl;setField (.ref e) 1 b) Q E s:=by
 obtain⟨oe,vs,he,hc,hdd,hd,hsz⟩:=ho
 have hl:=I.stack
 rw [hst] at hl hA
 have ne:e∉L2.frs X.stack:=r.frs I
 refine wpAny_bind (wpAny_frameOf_fun hA hl hf fun h₁ hs₁=>wpAny_bind (wpAny_entryPlaceOf fun pl hpl=>?_))
 unfold EntryCells.newEntry newFields
 refine wpAny_bind (wpAny_newObj_type ?_ (hpl.sizeOk5 _ _ _ _ _))
 rw [<-hst] at hs₁
 have he1:h₁.get? e=some oe:=(hs₁.2.1 e ne).trans he
 generalize hN:({cls:=.type "traceback",dict:=none,data:=.fields ([head,.ref X.env.locals,.none,rawInt X.env.locals,.none]++(if pl.isEmpty then List.replicate 6 Value.none else pl)).toArray}:Obj)=N
 have he2:(h₁.push N).get? e=some oe:=Heap.get?_push_of_some _ he1
 refine wpAny_setField he2 hd hsz (h _ ?_ ?_)
 .refine Inv.marks (s:=s) (ch:=[e]) (t':=s.toks) I (fun b hb=>by rw [mem_singleton.mp hb];exact r) (fun b o h1 h2 q=>?_) fun b o h2 q=>?_
  .have hb:b≠e:=fun z=>h2 (by simp [z])
   rw [Heap.get?_update_other _ _ (Ne.symm hb)]
   exact Heap.get?_push_of_some _ ((hs₁.2.1 b h1).trans q)
  .have hb:b≠e:=fun z=>h2 (by simp [z])
   obtain⟨sl,q1⟩:=hs₁.2.2 b o q
   exact⟨sl,by rw [Heap.get?_update_other _ _ (Ne.symm hb)];exact Heap.get?_push_of_some _ q1⟩
 .have sz1:h₁.objs.size=s.heap.objs.size:=hs₁.1
  have hTe:h₁.objs.size≠e:=Nat.ne_of_gt (Heap.lt_size he1)
  have d3:=Obj.data_mapFields hd (·.setIfInBounds 1 (Value.ref h₁.objs.size))
  have e3:=Heap.get?_update_self (Obj.mapFields (·.setIfInBounds 1 (Value.ref h₁.objs.size))) he2 (Obj.isFreed_of_fields d3)
  have nf:N.isFreed=false:=by rw [<-hN];rfl
  have t3:=(Heap.get?_update_other (h₁.push N) (Obj.mapFields (·.setIfInBounds 1 (Value.ref h₁.objs.size))) (Ne.symm hTe)).trans (Heap.get?_push_size h₁ nf)
  have rT:Rec X pins H ((h₁.push N).update e (Obj.mapFields (·.setIfInBounds 1 (Value.ref h₁.objs.size)))) h₁.objs.size:=by
   refine⟨Heap.get?_none_of_le (by rw [sz1];exact I.sz),I.hok.fresh (by rw [sz1];exact Nat.le_refl _),fun p hp z=>?_,⟨N,_,t3,by rw [<-hN]⟩⟩
   obtain⟨q,_⟩:=I.pin p hp
   have w:=Heap.lt_size q
   rw [z,sz1] at w
   exact absurd w (Nat.lt_irrefl _)
  refine⟨⟨r.nw,r.un,r.pin,⟨_,_,e3,d3⟩⟩,h₁.objs.size,rT,_,_,N,_,e3,(Obj.cls_mapFields _ _).trans hc,?_,d3,by simp [hsz],hTe,t3,by rw [<-hN],?_⟩
  .rw [<-hdd];exact dict_mapF _ _
  .first|(simp;done) |(rcases hpl with rfl|⟨_,_,_,_,_,_,_,rfl⟩ <;> simp)
theorem note_x {M:Model} {A:Around} {E:Value->Shared->Prop} {e:Addr} {C:Value} {d:Option Addr} {Q:Unit->Shared->Prop}
  (I:Inv X pins σ H s) (hA:A.frames=some X.stack) (hst:X.stack=X.env :: X.outer) (hf:X.env.frame=some X.env.locals) (x:XIn X pins H s.heap e C d)
  (h:∀s',Inv X pins σ H s'->qe3 X pins H s'.heap e C d (rawInt X.env.locals)->Q () s'):wpAny M A (noteFrame (.ref e) X.env) Q E s:=by
 obtain⟨r,x⟩:=x
 unfold noteFrame
 simp only [hf]
 rcases x with ⟨oe,vs,he,hc,hdd,hd,h1⟩ |⟨T,rT,fl,oe,vs,oT,ts,he,hc,hdd,hd,h1,hTe,hT,hdT,h3⟩
 .refine wpAny_bind (wpAny_field he hd h1 ?_)
  rw [if_neg (by decide)]
  exact entry_x I hA hst hf r ⟨oe,vs,he,hc,hdd,hd,(Array.getElem?_eq_some_iff.mp h1).1⟩ h
 .refine wpAny_bind (wpAny_field he hd h1 ?_)
  rw [if_pos (show (Value.ref T !=Value.none)=true from by simp)]
  refine wpAny_bind (wpAny_field hT hdT h3 ?_)
  by_cases qf:(fl==rawInt X.env.locals)=true
  .rw [if_pos qf]
   have ef:fl=rawInt X.env.locals:=eq_of_beq qf
   rw [ef] at h3
   exact wpAny_pure (h s I ⟨r,T,rT,oe,vs,oT,ts,he,hc,hdd,hd,h1,hTe,hT,hdT,h3⟩)
  .rw [if_neg qf]
   refine wpAny_bind (wpAny_setField hT hdT (Array.getElem?_eq_some_iff.mp h3).1 ?_)
   have oth:∀b,b≠T->(s.heap.update T (Obj.mapFields (·.setIfInBounds 3 Value.none))).get? b=s.heap.get? b:=fun b hb=>Heap.get?_update_other _ _ (Ne.symm hb)
   have J:Inv X pins σ H {s with heap:=s.heap.update T (Obj.mapFields (·.setIfInBounds 3 Value.none))}:=
    Inv.marks (s:=s) (ch:=[T]) (t':=s.toks) I (fun b hb=>by rw [mem_singleton.mp hb];exact rT) (fun b o _ h2 q=>(oth b fun z=>h2 (by simp [z])).trans q) fun b o h2 q=>⟨o.slots,(oth b fun z=>h2 (by simp [z])).trans q⟩
   have he':=(oth e (Ne.symm hTe)).trans he
   exact entry_x J hA hst hf ⟨r.nw,r.un,r.pin,⟨oe,vs,he',hd⟩⟩ ⟨oe,vs,he',hc,hdd,hd,(Array.getElem?_eq_some_iff.mp h1).1⟩ h
theorem qft (fr:Option Addr) {M:Model} {A:Around} {E:Value->Shared->Prop} {e:Addr} {C fl:Value} {d:Option Addr} {Q:Unit->Shared->Prop}
  (I:Inv X pins σ H s) (x:qe3 X pins H s.heap e C d fl)
  (h:∀s',Inv X pins σ H s'->qe3 X pins H s'.heap e C d (fr.elim Value.none fun f=>rawInt f)->Q () s'):wpAny M A (setFlight (.ref e) fr) Q E s:=by
 obtain⟨r,T,rT,oe,vs,oT,ts,he,hc,hdd,hd,h1,hTe,hT,hdT,h3⟩:=x
 have hsz:=(Array.getElem?_eq_some_iff.mp h3).1
 unfold setFlight
 refine wpAny_bind (wpAny_field he hd h1 ?_)
 rw [if_pos (show (Value.ref T !=Value.none)=true from by simp)]
 refine wpAny_setField hT hdT hsz (h _ ?_ ?_)
 all_goals have oth:∀b,b≠T->(s.heap.update T (Obj.mapFields (·.setIfInBounds 3 (fr.elim Value.none fun f=>rawInt f)))).get? b=s.heap.get? b:=fun b hb=>Heap.get?_update_other _ _ (Ne.symm hb)
 .exact Inv.marks (s:=s) (ch:=[T]) (t':=s.toks) I (fun b hb=>by rw [mem_singleton.mp hb];exact rT) (fun b o _ h2 q=>(oth b fun z=>h2 (by simp [z])).trans q) fun b o h2 q=>⟨o.slots,(oth b fun z=>h2 (by simp [z])).trans q⟩
 .have he':=(oth e (Ne.symm hTe)).trans he
  have d3:=Obj.data_mapFields hdT (·.setIfInBounds 3 (fr.elim Value.none fun f=>rawInt f))
  have hT':=Heap.get?_update_self (Obj.mapFields (·.setIfInBounds 3 (fr.elim Value.none fun f=>rawInt f))) hT (Obj.isFreed_of_fields d3)
  exact⟨⟨r.nw,r.un,r.pin,⟨oe,vs,he',hd⟩⟩,T,⟨rT.nw,rT.un,rT.pin,⟨_,_,hT',d3⟩⟩,oe,vs,_,_,he',hc,hdd,hd,h1,hTe,hT',d3,by simp [hsz]⟩
theorem qfs {M:Model} {A:Around} {E:Value->Shared->Prop} {e:Addr} {C fl:Value} {d:Option Addr} {Q:Unit->Shared->Prop}
  (I:Inv X pins σ H s) (x:qe3 X pins H s.heap e C d fl)
  (h:∀s',Inv X pins σ H s'->qe3 X pins H s'.heap e C d .none->Q () s'):wpAny M A (setFlight (.ref e) none) Q E s:=qft none I x h
theorem qe3.xin {h:Heap} {e:Addr} {C fl:Value} {d:Option Addr} (x:qe3 X pins H h e C d fl):XIn X pins H h e C d:=
 let ⟨r,T,rT,q⟩:=x
 ⟨r,.inr ⟨T,rT,_,q⟩⟩
theorem qe3.xinL {h:Heap} {e:Addr} {C:Value} {d:Option Addr} (x:qe3 X pins H h e C d (rawInt X.env.locals)):XIn X pins H h e C d:=x.xin
def CX1 (P:Program) (w:World):CXT:=fun outer H s E e s'=>∃(a:Addr) (C:Value) (d:Option Addr) (H':Hp),e=.ref a/\s'.os=s.os/\AllBare s'.gens/\Un (L2.frs outer) [] H H' s.heap s'.heap/\HOk P w H' s'.heap/\
 s.heap.get? a=none/\H' a=none/\(∃T,s.heap.get? T=none/\H' T=none/\XTr s'.heap a C d .none T)/\E C d H'
def Xes (X:Cx) (W:L2.St->XK):Prop:=∀(pins:List (Addr × Obj)) (σ:L2.St) (H:Hp) (s:Shared) (a:Addr) (C:Value) (d:Option Addr),Inv X pins σ H s->XIn X pins H s.heap a C d->W σ C d H->X.xe (.ref a) s
theorem xes_call {W:L2.St->XK} (h:Xes X W) (hex:X.ex=[]) {e:Value} {s':Shared} (I:Inv X pins σ H s) (q:CX1 X.prog X.w X.stack H s (W σ) e s'):X.xe e s':=by
 obtain⟨a,C,d,H',rfl,os,bare,un,hok,la,na,⟨T,lT,nT,x⟩,w⟩:=q
 have J:Inv X pins σ H' s':=I.call' (ch:=[]) os un hok bare (fun b z=>absurd z (by simp))
 have pn:∀b,s.heap.get? b=none->∀p∈X.pn++pins,p.1≠b:=fun b lb p hp z=>by
  have w:=(I.pin p hp).1
  rw [z,lb] at w
  cases w
 obtain⟨oe,vs,oT,ts,he,hc,hdd,hd,h1,hTe,hT,hdT,h3⟩:=id x
 exact h pins σ H' s' a C d J ⟨⟨qf5 I hex la,na,pn a la,⟨oe,vs,he,hd⟩⟩,.inr ⟨T,⟨qf5 I hex lT,nT,pn T lT,⟨oT,ts,hT,hdT⟩⟩,_,x⟩⟩ w
end
end My
namespace My
open PySem PySem.Spec PyProof.Rows L2
section
variable {X: Cx} {pins: List (Addr × Obj)} {σ: L2.St} {H: Hp} {s: Shared} {W: L2.St -> XK}
def XSt (X:Cx) (W:L2.St->XK) (e:Value) (s:Shared):Prop:=∃(a:Addr) (C:Value) (d:Option Addr) (σ:L2.St) (H:Hp),e=.ref a/\Inv X [] σ H s/\XIn X [] H s.heap a C d/\W σ C d H
abbrev xw (X:Cx) (W:L2.St->XK):Cx:=X.wish (XSt X W)
theorem Rec.less {h:Heap} {b:Addr} (r:Rec X pins H h b):Rec X [] H h b:=⟨r.nw,r.un,fun p hp=>r.pin p (by rw [append_nil] at hp;exact mem_append_left _ hp),r.ob⟩
theorem XIn.less {h:Heap} {a:Addr} {C:Value} {d:Option Addr} (x:XIn X pins H h a C d):XIn X [] H h a C d:=by
 obtain⟨r,x⟩:=x
 rcases x with x|⟨T,rT,x⟩
 .exact⟨r.less,.inl x⟩
 .exact⟨r.less,.inr ⟨T,rT.less,x⟩⟩
theorem Rec.unwish {E:Value->Shared->Prop} {h:Heap} {b:Addr} (r:Rec (X.wish E) pins H h b):Rec X pins H h b:=⟨r.nw,r.un,r.pin,r.ob⟩
theorem XIn.unwish {E:Value->Shared->Prop} {h:Heap} {a:Addr} {C:Value} {d:Option Addr} (x:XIn (X.wish E) pins H h a C d):XIn X pins H h a C d:=by
 obtain⟨r,x⟩:=x
 rcases x with x|⟨T,rT,x⟩
 .exact⟨r.unwish,.inl x⟩
 .exact⟨r.unwish,.inr ⟨T,rT.unwish,x⟩⟩
theorem qaq:Xes (xw X W) W:=fun pins σ H s a C d I x w=>⟨a,C,d,σ,H,rfl,I.unwish.pins_of (fun _ z=>nomatch z),x.unwish.less,w⟩
theorem qek (hst:X.stack=X.env :: X.outer) (hf:X.env.frame=some X.env.locals):PassesOwn (model X.prog X.w) X.A X.env (XSt X W):=by
 rintro e s' ⟨a,C,d,σ,H,rfl,I,x,w⟩
 show wpAny _ _ (noteFrame (.ref a) X.env) _ _ s'
 refine note_x I I.ok.frames hst hf x fun s2 I2 x2=>?_
 obtain⟨r,T,rT,oe,vs,oT,ts,he,hc,hdd,hd,h1,r2⟩:=id x2
 unfold cameBackBy
 refine wpAny_bind (wpAny_field he hd h1 ?_)
 have fin:wpAny (model X.prog X.w) X.A (setFlight (.ref a) X.env.frame) (fun _ s''=>XSt X W (.ref a) s'') (XSt X W) s2:=by
  rw [hf]
  exact qft (some X.env.locals) I2 x2 fun s3 I3 x3=>⟨a,C,d,σ,H,rfl,I3,qe3.xinL x3,w⟩
 first
  |(rw [if_neg (show ¬((Value.ref T==Value.none)=true) from by simp)];exact fin)
  |(rw [if_neg (show ¬((Value.ref T==Value.none)=true) from by simp)];exact wpAny_bind (wpAny_pure fin))
  |(refine wpAny_bind ?_;rw [if_neg (show ¬((Value.ref T==Value.none)=true) from by simp)];exact wpAny_pure fin)
theorem PSs.xes {st:List Stmt} {t:TS} (hx:Xes X W) (h:PSs (xw X W) st t):PSs X st t:=fun pins s σ H D I hw=>
 wpAny_mono (h pins s σ H D (I.wish _) hw) (fun _ _ q=>q.unwish) fun _ _ ⟨a,C,d,σ',H',e,I',x,w⟩=>by subst e;exact hx [] σ' H' _ a C d I' x w
end
section
variable {P: Program} {w: World} {K: Frag} {mg: Str -> Option Value} {base: Heap}
theorem xes_fn {N:List Str} {qual:Str} {scope:Scope} {f:Addr} {cd:Value} {A:Around} {outer:List Env} {s:Shared} {H:Hp} {E:XK}:
  Xes (cxOf (CX1 P w) P w K mg base N qual scope f cd A outer s H E) (fun _=>E):=by
 intro pins σ H1 s1 a C d I x wE
 show wpAny _ _ (leaving _ _) _ _ s1
 unfold leaving
 refine wpAny_bind (note_x I I.ok.frames rfl rfl x fun s2 I2 x2=>qfs I2 x2 fun s3 I3 x3=>?_)
 obtain⟨r,T,rT,xt⟩:=x3
 exact⟨a,C,d,H1,rfl,I3.os,I3.bare,I3.base,I3.hok,r.nw,r.un,⟨T,rT.nw,rT.un,xt⟩,wE⟩
theorem okX {x qual:Str} {st:Stmt} {f:Addr} {fd:FuncData} {N ps:List Str} {k:Nat} {sp:Sp} (F:Fun K x qual st f fd) (S:FnScope N ps (qab st)) (len:∀vs H Q E,sp vs H Q E->vs.length=ps.length)
  (hbody:∀(cdv:Value) (A:Around) (outer:List Env) (s:Shared) (H:Hp) (vs:List V) (Q:VK) (E:XK),Room k (A.deeper (envOfC qual (qab st) s.heap.objs.size f cdv))->sp vs H Q E->
   ∃t,PSs (xw (cxOf (CX1 P w) P w K mg base N qual (qab st) f cdv A outer s H E) (fun _=>E)) (qbs st) t/\t {nx:=fun _ H'=>Q .non H',rt:=Q} (qdf N vs) H):FnOk P w K mg base (CX1 P w) (k+1) f fd ps sp:=by
 obtain⟨oc,od,kV,doc,pm,an,cdv,ct,osl,rfl,lk,hcd⟩:=F.ex
 refine fn_of lk hcd S len fun A outer s H vs Q E hr hsp=>?_
 obtain⟨t,ht,q⟩:=hbody cdv A outer s H vs Q E hr hsp
 exact⟨t,PSs.xes xes_fn ht,q⟩
end
section
variable {X: Cx} {k: Nat} {f: Addr} {fd: FuncData} {ps: List Str} {sp: Sp} {dvs: List V} {ds: List Value} {W: L2.St -> XK} {x: Str} {p pos: Pos} {e: Expr} {es: List Expr} {t: TA}
def tCallX (sp:Sp) (dvs:List V) (W:L2.St->XK) (t:TA):TE:=fun σ H Q=>t σ H fun vs H1=>sp (vs++dvs) H1 Q (W σ)
theorem run_fnX {pins:List (Addr × Obj)} {σ:L2.St} {H:Hp} {s:Shared} {Q:VK} {us:List Value} {vs:List V} (F:FnOk X.prog X.w X.K X.mg X.base (CX1 X.prog X.w) k f fd ps sp) (hr:Room k X.A) (hb:qan X.K fd ps ds) (hd:qbb dvs ds) (hx:Xes X W) (hex:X.ex=[])
  (I:Inv X pins σ H s) (r:qbb vs us) (h:sp (vs++dvs) H Q (W σ)):wpAny (model X.prog X.w) X.A (call (.ref f) us) (EP X pins σ Q) X.xe s:=by
 have r2:qbb (vs++dvs) (us++ds):=r.append hd
 have hl:(us++ds).length=ps.length:=by rw [<-r2.length];exact F.len _ _ _ _ h
 refine wpAny_call (codeAny_mono (F.run X.A X.stack s H ⟨us, []⟩ (us++ds) (vs++dvs) Q (W σ) hr I.env0 (hb s us I.kIn hl) r2 h) fun r s' hq=>?_)
 match r,hq with
 | .error e,hq=>exact xes_call hx hex I hq
 | .ok (.ret u),hq=>exact I.after hq
 | .ok .next,hq=>exact False.elim hq
 | .ok .brk,hq=>exact False.elim hq
 | .ok .cont,hq=>exact False.elim hq
theorem qc8 (F:FnOk X.prog X.w X.K X.mg X.base (CX1 X.prog X.w) k f fd ps sp) (hr:Room k X.A) (hg:Gl X x) (hm:X.mg x=some (.ref f)) (hk:keepIn X.K (.ref f)=true) (hb:qan X.K fd ps ds) (hd:qbb dvs ds) (hx:Xes X W)
  (ha:PA X (e :: es) t) (hex:X.ex=[]:=by rfl) (hdb:(x==("__debug__" :Str))=false:=by decide) (he:starEach (e :: es) X.env=(false,eval e X.env) :: starEach es X.env:=by rfl) (hpl:(backTo pos (starEach es X.env)).any (·.1)=false:=by rfl):
  PE X (.Call (.Name x p) (e :: es) [] pos) (tCallX sp dvs W t):=by
 intro pins s σ H Q I h
 refine wpAny_Call_Name_kw (qcm I hg hm ?_ hdb)
 refine PySem.W.callWith_K (h₀:=X.base) I.ok.mod.kin hk (thn (ha pos pins s σ H _ I h) fun us s1 ⟨vs,H1,I1,r,q⟩=>⟨I1.kIn,?_⟩) he hpl
 exact run_fnX F hr hb hd hx hex I1 r q
end
structure XCls (K:Frag) (C:Addr):Prop where
 ob:∃(nm q:Str) (N:Addr) (bs bm:List Value) (hdct:Bool) (sn:List Str) (sub:List Value) (ab:Bool) (col:Option Bool) (dd:Option Addr) (k0 k1 k2 k3 k5:Option Value) (mN:Str->Option Value),
  K.lookup C=some (excClassObj nm q C N bs bm hdct sn sub ab col dd k0 k1 k2 k3 k5 "ValueError.__new__")/\(∀h:Heap,K.In h->h.Ns N mN)/\mN "__init__" =none/\
  ∀h:Heap,K.In h->OwnTail h [.type "ValueError",.type "Exception",.type "BaseException",.type "object"] bm
section
variable {X: Cx} {x: Str} {C: Addr} {W: L2.St -> XK} {np cpos pos: Pos} {e: Expr} {es: List Expr} {t: TA}
def tRaise (t:TA) (C:Addr) (W:L2.St->XK):TS:=fun _ σ H=>t σ H fun xs H1=>xs.length<=sizeLine/\W σ (.ref C) none H1
theorem qbp (hc:X.calm=true) (M:XCls X.K C) (hg:Gl X x) (hm:X.mg x=some (.ref C)) (hx:Xes X W) (ha:PA X (e :: es) t) (hex:X.ex=[]:=by rfl) (hdb:(x==("__debug__" :Str))=false:=by decide)
  (he:starEach (e :: es) X.env=(false,eval e X.env) :: starEach es X.env:=by rfl) (hpl:(backTo cpos (starEach es X.env)).any (·.1)=false:=by rfl):
  PS X (.Raise (some (.Call (.Name x np) (e :: es) [] cpos)) none pos) (tRaise t C W):=by
 intro pins s σ H D I h
 obtain⟨nm,q,N,bs,bm,hdct,sn,sub,ab,col,dd,k0,k1,k2,k3,k5,mN,hC,hN,hni,T⟩:=M.ob
 refine wpAny_Raise_call_subU (C:=C) (nm:=nm) (q:=q) (N:=N) (bs:=bs) (bm:=bm) (hdct:=hdct) (sn:=sn) (sub:=sub) (ab:=ab) (col:=col) (dd:=dd) (k0:=k0) (k1:=k1) (k2:=k2) (k3:=k3) (k5:=k5)
  PySem.F.excBase_ValueError (by decide) PySem.F.excBase_ValueError (mN:=mN) ((T _ I.kIn).hasType PySem.F.excBase_ValueError.hasBase) (I.ok.hd hc) ?_ hni ?_
 .rw [he];show (false ||(backTo cpos (starEach es X.env)).any (·.1))=false;rw [hpl];rfl
 .refine qcm I hg hm ⟨rfl,?_⟩ hdb
  have z:=ha cpos pins s σ H _ I h
  rw [he] at z ⊢
  refine Calls.evalArgs_plain (wpAny_mono z (fun us s2 ⟨vs,H2,I2,r,hl,q⟩=>⟨rfl,by rw [<-r.length];exact hl,I2.kIn _ _ hC,hN _ I2.kIn,T _ I2.kIn,fun h' a m=>?_⟩) fun _ _ y=>y)
  obtain⟨tp,ea,_,_⟩:=m.there
  have J:Inv X pins σ H2 {s2 with heap:=h'}:=I2.kept (t':=s2.toks) m.keeps
  refine hx pins σ H2 _ a (.ref C) none J ⟨⟨qf5 I2 hex m.new,un_of I2.hok m.new,fun p hp y=>?_,⟨_,_,ea,rfl⟩⟩,.inl ⟨_,_,ea,rfl,rfl,rfl,rfl⟩⟩ q
  have w:=(I2.pin p hp).1
  rw [y,m.new] at w
  cases w
end
end My
namespace My
open PySem PySem.Spec PyProof.Rows L2
section
variable {X: Cx} {pins: List (Addr × Obj)} {σ: L2.St} {H: Hp} {s: Shared}
abbrev pnd (X:Cx) (pins:List (Addr × Obj)):Cx:={X with pn:=X.pn++pins}
theorem Inv.pnd (I:Inv X pins σ H s):Inv (pnd X pins) [] σ H s:=
 ⟨⟨I.ok.mod,I.ok.kind,I.ok.glob,I.ok.blt,I.ok.above,I.ok.inj,I.ok.has,I.ok.cab,I.ok.hd,I.ok.frames,I.ok.stk,I.ok.exf,I.ok.bs,I.ok.bsz,I.ok.noex,I.ok.exfs,I.ok.funs,I.ok.frf⟩,I.os,I.bare,I.base,I.loc,I.cell,I.free,I.freeC,fun p hp=>I.pin p (by rw [append_nil] at hp;exact hp),I.hok,I.len⟩
theorem Inv.unpnd {pins':List (Addr × Obj)} (I:Inv (My.pnd X pins) pins' σ H s):Inv X pins σ H s:=
 ⟨⟨I.ok.mod,I.ok.kind,I.ok.glob,I.ok.blt,I.ok.above,I.ok.inj,I.ok.has,I.ok.cab,I.ok.hd,I.ok.frames,I.ok.stk,I.ok.exf,I.ok.bs,I.ok.bsz,I.ok.noex,I.ok.exfs,I.ok.funs,I.ok.frf⟩,I.os,I.bare,I.base,I.loc,I.cell,I.free,I.freeC,fun p hp=>I.pin p (mem_append_left _ hp),I.hok,I.len⟩
theorem Rec.unpnd {h:Heap} {b:Addr} (r:Rec (My.pnd X pins) [] H h b):Rec X pins H h b:=⟨r.nw,r.un,fun p hp=>r.pin p (by rw [append_nil];exact hp),r.ob⟩
theorem XIn.unpnd {h:Heap} {a:Addr} {C:Value} {d:Option Addr} (x:XIn (My.pnd X pins) [] H h a C d):XIn X pins H h a C d:=by
 obtain⟨r,x⟩:=x
 rcases x with x|⟨T,rT,x⟩
 .exact⟨r.unpnd,.inl x⟩
 .exact⟨r.unpnd,.inr ⟨T,rT.unpnd,x⟩⟩
abbrev suite (X:Cx) (a:Addr):Cx:={X with A:=X.A.mark (some (.ref a)),calm:=false,xe:=fun _ _=>False}
theorem Inv.suite (I:Inv X pins σ H s) (a:Addr):Inv (suite X a) pins σ H s:=
 ⟨⟨I.ok.mod,I.ok.kind,I.ok.glob,I.ok.blt,I.ok.above,I.ok.inj,I.ok.has,I.ok.cab,fun z=>(Bool.false_ne_true z).elim,I.ok.frames,I.ok.stk,I.ok.exf,I.ok.bs,I.ok.bsz,I.ok.noex,I.ok.exfs,I.ok.funs,I.ok.frf⟩,I.os,I.bare,I.base,I.loc,I.cell,I.free,I.freeC,I.pin,I.hok,I.len⟩
theorem Inv.unsuite {a:Addr} (I:Inv (My.suite X a) pins σ H s) (ok:X.Ok):Inv X pins σ H s:=
 ⟨ok,I.os,I.bare,I.base,I.loc,I.cell,I.free,I.freeC,I.pin,I.hok,I.len⟩
theorem gone_ok {M:Model} {A:Around} {E:Value->Shared->Prop} {i:Nat} {x:Str} {pos:Pos} {Q:Unit->Shared->Prop} (I:Inv X pins σ H s) (hN:X.N.Nodup) (hi:X.N[i]?=some x) (hk:X.env.scope.names.lookup x=some .local)
  (h:∀s',Inv X pins (σ.set i none) H s'->Q () s'):wpAny M A (do bindName X.env x .none;unbindBehindTheSuite X.env x pos) Q E s:=by
 obtain⟨m,hn,hl⟩:=id I.loc
 have hcls:(X.env.scope.kind==.class ||(X.env.scope.kind==.module && X.env.locals !=X.env.globals))=false:=by rw [I.ok.kind];rfl
 have hiσ:i < σ.length:=by rw [I.len];exact(List.getElem?_eq_some_iff.mp hi).1
 have cne:=I.cne
 refine wpAny_nameGoes_keeps hk hn hcls fun h' v hn' hs=>?_
 have tracked:HOk X.prog X.w H h':=fun b ob e=>by
  refine(I.hok b ob e).stay (fun c w' hc q=>(hs.2 c ?_).trans q) (fun _ q=>q) fun _ _ q=>q
  intro z
  have hfree:=I.free
  rcases hc with hc|hc
  .rw [hc] at z;rw [z,hfree] at e;cases e
  .rw [z,hfree] at hc;cases hc
 have lt:∀b o,X.s₀.heap.get? b=some o->b≠X.env.locals:=fun b o e=>Nat.ne_of_lt (Nat.lt_of_lt_of_le (Heap.lt_size e) I.ok.above)
 refine h _ ⟨I.ok,I.os,I.bare,⟨fun b o e n hb hx=>?_,fun b o e n hb hx=>?_,I.base.free,fun b o e hx=>?_,I.base.tups,I.base.frzs,I.base.tbls⟩,⟨_,hn',fun j y v' e1 e2 e3=>?_⟩,fun y c e=>?_,I.free,I.freeC,fun p hp=>?_,tracked,by simpa using I.len⟩
 .exact(hs.2 b (lt b o e)).trans (I.base.keep b o e n hb hx)
 .obtain⟨sl,e1⟩:=I.base.slot b o e n hb hx
  exact⟨sl,(hs.2 b (lt b o e)).trans e1⟩
 .obtain⟨o',e1⟩:=I.base.there b o e hx
  exact⟨o',(hs.2 b (lt b o e)).trans e1⟩
 .by_cases hj:j=i
  .subst hj
   rw [List.getElem?_set_self hiσ] at e2
   cases e2
  .rw [List.getElem?_set_ne (Ne.symm hj)] at e2
   obtain⟨u',r',q⟩:=hl j y v' e1 e2 e3
   refine⟨u',r',?_⟩
   rcases q with ⟨k,e⟩ |⟨k,c,e,z⟩
   .refine .inl ⟨k,?_⟩
    have:y≠x:=fun e=>hj (qfo hN e1 (e ▸ hi))
    simp [this,e]
   .exact .inr ⟨k,c,e,z.sameBut hs (cne y c e)⟩
 .obtain⟨w',z⟩:=I.cell y c e
  exact⟨w',z.sameBut hs (cne y c e)⟩
 .obtain⟨e,n,ne,nf,d⟩:=I.pin p hp
  exact⟨(hs.2 p.1 ne).trans e,n,ne,nf,d⟩
def XO (a:Addr) (C:Value) (d:Option Addr):HO:=.ext fun h=>∃(oe:Obj) (vs:Array Value),h.get? a=some oe/\oe.cls=C/\oe.dict=d/\oe.data=.fields vs
theorem Inv.track {a:Addr} {C:Value} {d:Option Addr} (I:Inv X pins σ H s) (r:Rec X pins H s.heap a) (ho:∃(oe:Obj) (vs:Array Value),s.heap.get? a=some oe/\oe.cls=C/\oe.dict=d/\oe.data=.fields vs):Inv X pins σ (upd H a (XO a C d)) s:=by
 have ne:∀b o,H b=some o->b≠a:=fun b o e z=>by rw [z,r.un] at e;cases e
 refine⟨I.ok,I.os,I.bare,⟨I.base.keep,I.base.slot,fun b o e n hx=>?_,I.base.there,fun b xs e=>?_,fun b o u e=>?_,fun b ps e=>?_⟩,I.loc,I.cell,?_,fun x c e=>?_,fun p hp=>?_,fun b o e=>?_,I.len⟩
 .have hb:b≠a:=fun z=>by rw [z,r.nw] at e;cases e
  rw [qa9 hb];exact I.base.free b o e n hx
 .have q:=I.base.tups b xs e
  rw [qa9 (ne _ _ q)];exact q
 .have q:=I.base.frzs b o u e
  rw [qa9 (ne _ _ q)];exact q
 .obtain⟨more,q⟩:=I.base.tbls b ps e
  exact⟨more,by rw [qa9 (ne _ _ q)];exact q⟩
 .rw [qa9 (Ne.symm (r.loc I))];exact I.free
 .rw [qa9 (r.cel I x c e)];exact I.freeC x c e
 .obtain⟨q,n,l⟩:=I.pin p hp
  exact⟨q,by rw [qa9 (r.pin p hp)];exact n,l⟩
 .by_cases hb:b=a
  .subst hb
   rw [qa1] at e
   cases e
   obtain⟨oe,vs,h1,h2⟩:=id ho
   exact⟨ho,⟨oe,h1⟩,fun h1 h2 ⟨oe,vs,z,zz⟩ k=>⟨oe,vs,k _ z,zz⟩⟩
  .rw [qa9 hb] at e
   exact(I.hok b o e).stay (fun _ _ _ q=>q) (fun c q=>by rw [qa9 (ne _ _ q)];exact q) fun c xs q=>by rw [qa9 (ne _ _ q)];exact q
end
section
variable {X: Cx}
def tCut (t:TS):TS:=fun D σ H=>∃J:L2.St->Hp->Prop,t {D with nx:=J} σ H/\∀σ' H',J σ' H'->D.nx σ' H'
theorem qbk {st:Stmt} {t:TS} (h:PS X st t):PS X st (tCut t):=by
 intro pins s σ H D I ⟨J,hw,k⟩
 refine wpAny_mono (h pins s σ H _ I hw) (fun f s' q=>?_) fun _ _ z=>z
 cases f with
 |next=>obtain⟨σ',H',I',z⟩:=q;exact⟨σ',H',I',k _ _ z⟩
 |brk=>exact q
 |cont=>exact q
 |ret u=>exact q
end
section
variable {X: Cx}
def PH (X:Cx) (hs:List ExceptHandler) (th:Ends->L2.St->XK):Prop:=
 ∀(pins:List (Addr × Obj)) (s:Shared) (σ:L2.St) (H:Hp) (D:Ends) (a:Addr) (C:Value) (d:Option Addr),Inv X pins σ H s->qe3 X pins H s.heap a C d .none->th D σ C d H->
  wpAny (model X.prog X.w) X.A (handleBy (.ref a) X.env hs) (SP X pins D) X.xe s
def tTry (tb:List (Addr × Obj)->Ends->TS) (to:TS):TS:=fun D σ H=>∀pins,tb pins D {D with nx:=to D} σ H
theorem ps_try {body orelse:List Stmt} {h₀:ExceptHandler} {hs:List ExceptHandler} {pos:Pos} {tb:List (Addr × Obj)->Ends->TS} {th:Ends->L2.St->XK} {to:TS} (hst:X.stack=X.env :: X.outer) (hf:X.env.frame=some X.env.locals)
  (hb:∀(pins:List (Addr × Obj)) (D:Ends),PSs (xw (pnd X pins) (th D)) body (tb pins D)) (hh:PH X (h₀ :: hs) th) (ho:PSs X orelse to):PS X (.Try body (h₀ :: hs) orelse [] pos) (tTry tb to):=by
 intro pins s σ H D I h
 refine wpAny_Try_except (wpAny_mono (hb pins D [] s σ H {D with nx:=to D} ((Inv.pnd I).wish _) (h pins)) (fun f s1 q=>?_) fun e s1 q=>?_)
 .cases f with
  |next=>obtain⟨σ',H',J,z⟩:=q;exact ho pins s1 σ' H' D (Inv.unpnd J.unwish) z
  |brk=>obtain⟨σ',H',J,z⟩:=q;exact⟨σ',H',Inv.unpnd J.unwish,z⟩
  |cont=>obtain⟨σ',H',J,z⟩:=q;exact⟨σ',H',Inv.unpnd J.unwish,z⟩
  |ret u=>obtain⟨v,σ',H',J,r,z⟩:=q;exact⟨v,σ',H',Inv.unpnd J.unwish,r,z⟩
 .obtain⟨a,C,d,σ',H',rfl,J,x,w⟩:=q
  have J':Inv X pins σ' H' s1:=Inv.unpnd J
  exact note_x J' J'.ok.frames hst hf (XIn.unpnd x) fun s2 I2 x2=>qfs I2 x2 fun s3 I3 x3=>hh pins s3 σ' H' D a C d I3 x3 w
theorem ph_none:PH X [] (fun _ _ _ _ _=>False):=fun _ _ _ _ _ _ _ _ _ _ w=>False.elim w
theorem matches_own {M:Model} {A:Around} {E:Value->Shared->Prop} {K:Frag} {s:Shared} {e:Addr} {oe:Obj} {C c:Addr} {b:Bool} {Q:Bool->Shared->Prop} (KX:K.In s.heap) (he:s.heap.get? e=some oe) (hcls:oe.cls=.ref C)
  (hC:kitCls K (.ref C) (.ref c)=some b) (hc:kitCls K (.ref c) (.type "BaseException")=some true) (hq:Q b s):wpAny M A (excMatches (.ref e) (.ref c)) Q E s:=by
 obtain⟨h,g,d,t,os⟩:=s
 obtain⟨L1,L2',L3⟩:=PySem.W.kit_cls (M:=M) KX hC
 obtain⟨_,_,L4⟩:=PySem.W.kit_cls (M:=M) KX hc
 have f:=tc_notTuple
 have LT:PySem.W.Looks M h (typeOf (.ref e)) (.ref C):=hcls ▸ (PySem.W.Looks.ld he).andThen .now
 have LI:PySem.W.Looks M h (isInstance (.ref c) (.type "tuple")) false:=L1.andThen (PySem.W.Looks.of_pure f)
 have LE:PySem.W.Looks M h (isExcClass (.ref c)) true:=L2'.andThen L4
 unfold excMatches
 refine wpAny_bind (LI.at ?_)
 simp only [Bool.false_eq_true,if_false]
 refine wpAny_bind (wpAny_pure ?_)
 refine wpAny_bind ?_
 rw [List.forIn_cons]
 refine wpAny_bind (wpAny_bind (LE.at ?_))
 simp only [Bool.not_true,Bool.false_eq_true,if_false]
 refine wpAny_pure ?_
 dsimp only
 rw [List.forIn_nil]
 refine wpAny_pure (wpAny_bind (LT.at (wpAny_bind ?_)))
 rw [List.forIn_cons]
 refine wpAny_bind (wpAny_bind (L3.at ?_))
 cases b with
 |true=>exact wpAny_pure (wpAny_pure (wpAny_pure hq))
 |false=>exact wpAny_pure (wpAny_pure (wpAny_pure hq))
def tCl (K:Frag) (c:Addr) (hit miss:Ends->L2.St->XK):Ends->L2.St->XK:=fun D σ C d H=>∃(C':Addr) (b:Bool),C=.ref C'/\kitCls K (.ref C') (.ref c)=some b/\if b=true then hit D σ C d H else miss D σ C d H
def gone (i:Nat) (D:Ends):Ends:={nx:=fun σ H=>D.nx (σ.set i none) H,rt:=D.rt,bk:=fun σ H=>D.bk (σ.set i none) H,ct:=fun σ H=>D.ct (σ.set i none) H}
def tAs (i:Nat) (ts:Addr->TS):Ends->L2.St->XK:=fun D σ C d H=>∀a,H a=none->ts a (gone i D) (σ.set i (some (.ref a))) (upd H a (XO a C d))
theorem ph_as {i:Nat} {n x:Str} {c:Addr} {np hpos:Pos} {b₀:Stmt} {body:List Stmt} {rest:List ExceptHandler} {ts:Addr->TS} {tr:Ends->L2.St->XK} (hN:X.N.Nodup) (hi:X.N[i]?=some n) (hk:X.env.scope.names.lookup n=some .local)
  (hc:kitCls X.K (.ref c) (.type "BaseException")=some true) (hg:Gl X x) (hm:X.mg x=some (.ref c))
  (hs:∀a,PSs (suite X a) (b₀ :: body) (ts a)) (hr:PH X rest tr) (hdb:(x==("__debug__" :Str))=false:=by decide):
  PH X (.ExceptHandler (some (.Name x np)) (some n) (b₀ :: body) hpos :: rest) (tCl X.K c (tAs i ts) tr):=by
 intro pins s σ H D a C d I x h
 obtain⟨C',b,rfl,hb,h⟩:=h
 obtain⟨r,T,rT,oe,vs,oT,ts',he,hcl,r2⟩:=id x
 refine wpAny_handleBy_cons (codeAny_handlers_test ?_) (by intro q;cases q)
 refine qcm (X:=suite X a) (Inv.suite I a) hg hm ?_ hdb
 refine matches_own I.kIn he hcl hb hc ?_
 cases b with
 |false=>exact hr pins s σ H D a _ d I x h
 |true=>
  refine codeAny_handlers_suite_as (qfs I x fun s2 I2 x2=>?_)
  obtain⟨r',T',rT',oe',vs',oT',ts2,he',hcl',hdd',hd',r3⟩:=id x2
  have J:=Inv.track I2 r' ⟨oe',vs',he',hcl',hdd',hd'⟩
  refine qd9 (X:=suite X a) (v:=.ref a) (Inv.suite J a) hN hi (.inl hk) rfl (fun s3 I3=>?_) (.inr hk)
  have hq:=h a r.un
  refine wpAny_mono (hs a pins s3 _ _ (gone i D) I3 hq) (fun f s4 q=>?_) (fun _ _ z=>z.elim)
  have go:∀{σ':L2.St} {H':Hp} {Q:Unit->Shared->Prop},Inv (suite X a) pins σ' H' s4->(∀s',Inv X pins (σ'.set i none) H' s'->Q () s')->wpAny (model X.prog X.w) X.A (do bindName X.env n .none;unbindBehindTheSuite X.env n hpos) Q X.xe s4:=
   fun I4 k=>gone_ok (Inv.unsuite I4 I.ok) hN hi hk k
  cases f with
  |next=>obtain⟨σ',H',I4,z⟩:=q;exact go I4 fun s5 I5=>⟨_,H',I5,z⟩
  |brk=>obtain⟨σ',H',I4,z⟩:=q;exact go I4 fun s5 I5=>⟨_,H',I5,z⟩
  |cont=>obtain⟨σ',H',I4,z⟩:=q;exact go I4 fun s5 I5=>⟨_,H',I5,z⟩
  |ret u=>obtain⟨v,σ',H',I4,rv,z⟩:=q;exact go I4 fun s5 I5=>⟨v,_,H',I5,rv,z⟩
end
theorem qcs {K:Frag} {C:Addr} (q:excIn K C [.type "ValueError",.type "Exception",.type "BaseException",.type "object"] "ValueError.__new__" =true):XCls K C:=by
 unfold excIn at q
 split at q
 .rename_i dd cd sl ho
  split at q
  .rename_i C' bm k0 k1 k2 k3 n k5 hm hs
   simp only [Bool.and_eq_true,beq_iff_eq,Bool.not_eq_true'] at q
   obtain⟨⟨⟨⟨⟨rfl,rfl⟩,hdel⟩,ht⟩,hok⟩,hni⟩:=q
   obtain⟨nm,bs,mro,ns,qn,hd,sn,sub,ab,col,del⟩:=cd
   dsimp only at hm hdel hok hni
   subst hm hdel
   have hsl:sl= #[k0,k1,k2,k3,some (.builtin "ValueError.__new__"),k5]:=by
    obtain⟨l⟩:=sl
    simp only at hs
    rw [hs]
   subst hsl
   unfold PySem.W.nsOkIn at hok
   split at hok
   .rename_i c1 d1 es ep sl1 hN
    have hSK:StrKeys es:=fun e he=>by
     have z:=Array.all_eq_true_iff_forall_mem.mp hok e he
     split at z
     .rename_i n t q;exact⟨n,t,q⟩
     .cases z
    have hNs:∀h:Heap,K.In h->h.Ns ns (fun x=>nsFind es x):=fun h X=>⟨_,es,ep,X _ _ hN,rfl,hSK,fun _=>rfl⟩
    refine⟨nm,qn,ns,bs,bm,hd,sn,sub,ab,col,dd,k0,k1,k2,k3,k5,fun x=>nsFind es x,ho,hNs,?_,fun h X=>PySem.W.tail_of_in X ht⟩
    unfold nsIn at hni
    rw [hN] at hni
    dsimp only at hni
    split at hni
    .cases hni
    .rename_i hf
     show nsFind es "__init__" =none
     unfold nsFind findBy
     rw [<-Array.find?_toList,hf]
     rfl
   .cases hok
  .cases q
 .cases q
def TyX (K:Frag) (H:Hp) (x:V) (t:Value) (b:Bool):Prop:=TyOf K H x t\/∃(a:Addr) (d:Option Addr),x=.ref a/\H a=some (XO a t d)/\b=true
def rIsi (K:Frag):List V->Hp->VK->Prop:=fun xs H Q=>∃(x c:V) (u t:Value) (b:Bool),xs=[x,c]/\qb6 c u/\(∀u',qb6 c u'->u'=u)/\TyX K H x t b/\kitOne K t u=some b/\Q (.bl b) H
end My
namespace My
open PySem PySem.Spec PyProof.Rows L2
theorem qeu:bootBuiltins "ValueError" =some (.type "ValueError"):=by decide+kernel
theorem isi_yes {prog:Program} {w:World} {A:Around} {E:Value->Shared->Prop} {s:Shared} {Q:Value->Shared->Prop} {K:Frag} {a:Addr} {t c:Value} (KX:K.In s.heap) (hp:∃o,s.heap.get? a=some o/\o.cls=t) (e:kitOne K t c=some true)
  (h:Q (.bool true) s):wpAny (model prog w) A (call (.builtin "isinstance") [.ref a,c]) Q E s:=by
 refine call_isinstance_of ?_ (by intro q;cases q)
 obtain⟨h0,g,d,tt,os⟩:=s
 obtain⟨o,ho,hc⟩:=hp
 have LT:PySem.W.Looks (model prog w) h0 (typeOf (.ref a)) t:=hc ▸ (PySem.W.Looks.ld ho).andThen .now
 unfold kitOne at e
 unfold Builtin.«isinstance.nested»
 refine wpAny_bind (LT.at ?_)
 by_cases q:(t==c)=true
 .rw [if_pos q]
  first
   |exact wpAny_bind (wpAny_rule (wpAny_pure h))
   |exact wpAny_bind (wpAny_rule h)
 .rw [if_neg q] at e
  rw [if_neg q]
  obtain⟨hty,his,hsub⟩:=PySem.W.kit_cls (M:=model prog w) KX e
  have LI:PySem.W.Looks (model prog w) h0 (isInstance (.ref a) c) true:=LT.andThen hsub
  refine wpAny_bind (hty.at ?_)
  rw [if_pos (by decide)]
  k_delta "plainIsInstance"
  refine wpAny_bind (wpAny_bind (his.at ?_))
  simp only [Bool.not_true,Bool.false_eq_true,if_false]
  refine wpAny_bind (LI.at ?_)
  first
   |exact wpAny_pure (wpAny_pure h)
   |(simp only [if_true];first|exact wpAny_pure (wpAny_pure h) |exact wpAny_pure h|exact wpAny_bind (wpAny_pure (wpAny_pure h)))
theorem xes_no {X:Cx}:Xes X (fun _ _ _ _=>False):=fun _ _ _ _ _ _ _ _ _ w=>w.elim
section
variable {X: Cx}
theorem qby:qcb X (.builtin "isinstance") (rIsi X.K):=by
 intro pins s σ H xs us Q I hv h
 obtain⟨x,c,u,t,b,rfl,hu,hu',ty,e,q⟩:=h
 cases hv with
 |cons r1 hv=>
  cases hv with
  |cons r2 hv=>
   cases hv
   rename_i v1 v2
   rw [hu' v2 r2]
   rcases ty with ty|⟨a,d,rfl,ea,rfl⟩
   .exact isinst_ok I r1 ty e fun tk=>⟨.bl b,H,I.tok tk,rfl,q⟩
   .cases r1
    obtain⟨⟨oe,vs,h1,h2,_⟩,_⟩:=(show qbg X.prog X.w H s.heap a (XO a t d) from I.hok a _ ea)
    exact isi_yes I.kIn ⟨oe,h1,h2⟩ e ⟨.bl true,H,I,rfl,q⟩
def rNotN:R2:=fun x y H Q=>y=.non/\Q (.bl (!decide (x=.non))) H
def rLen (K:Frag):List V->Hp->VK->Prop:=fun xs H Q=>∃p ys,xs=[.ref p]/\(SqL K H p ys\/SqT K H p ys)/\Q (.int ys.length) H
theorem qao:qcb X (.builtin "len") (rLen X.K):=call_len_seq
theorem qdr:OpR X (compareOp .IsNot) rNotN:=op_notN
end
section
variable {K: Frag} {H: Hp} {Q: VK}
theorem r_isi {x:V} {T:String} {t:Value} {b:Bool} (ty:TyOf K H x t) (e:kitOne K t (.type T)=some b) (h:Q (.bl b) H):rIsi K [x,.ty T] H Q:=⟨x,_,_,t,b,rfl,rfl,fun _ z=>z,.inl ty,e,h⟩
end
section
variable {K: Frag}
theorem kit_int_int:kitOne K (.type "int") (.type "int")=some true:=by rfl
theorem kit_int_bool:kitOne K (.type "int") (.type "bool")=some false:=by rfl
theorem kit_str_str:kitOne K (.type "str") (.type "str")=some true:=by rfl
theorem kit_lst_lst:kitOne K (.type "list") (.type "list")=some true:=by rfl
theorem kit_dct_dct:kitOne K (.type "dict") (.type "dict")=some true:=by rfl
end
end My
namespace My
open PySem PySem.Spec PyProof.Rows L2
section
variable {K: Frag} {σ σ': L2.St} {H H1: Hp} {Q: VK} {D: Ends} {ta tb te: TE} {t u: TS} {c c': TT} {ar: TA} {v x y: V} {i j: Nat}
theorem qah {N:List Str} {vs:List V} (e:qdf N vs=σ) (h:t D σ H):t D (qdf N vs) H:=e ▸ h
theorem r_var (e:σ[i]?=some (some v)) (h:Q v H):tVar i σ H Q:=⟨v,e,h⟩
theorem r_c (h:Q v H):tC v σ H Q:=h
theorem r_op {r:R2} (h:ta σ H fun x H1=>tb σ H1 fun y H2=>r x y H2 Q):tOp r ta tb σ H Q:=h
theorem r_I0 {g:Int->Int->V} {i j:Int} (h:Q (g i j) H):rI0 g (.int i) (.int j) H Q:=⟨i,j,rfl,rfl,h⟩
theorem r_I {C:Int->Int->Prop} {g:Int->Int->V} {i j:Int} (hc:C i j) (h:Q (g i j) H):rI C g (.int i) (.int j) H Q:=⟨i,j,rfl,rfl,hc,h⟩
theorem r_eqI {i j:Int} (h:Q (.bl (decide (i=j))) H):rEq (.int i) (.int j) H Q:=⟨rfl,by
 have e:decide (V.int i=V.int j)=decide (i=j):=by by_cases z:i=j <;> simp [z]
 rw [e];exact h⟩
theorem r_eqS {i j:Str} (h:Q (.bl (decide (i=j))) H):rEq (.str i) (.str j) H Q:=⟨rfl,by
 have e:decide (V.str i=V.str j)=decide (i=j):=by by_cases z:i=j <;> simp [z]
 rw [e];exact h⟩
theorem r_neS {i j:Str} (h:Q (.bl (!decide (i=j))) H):rNe (.str i) (.str j) H Q:=⟨rfl,by
 have e:decide (V.str i=V.str j)=decide (i=j):=by by_cases z:i=j <;> simp [z]
 rw [e];exact h⟩
theorem r_exb {b:Bool} {Q:Bool->Prop} (h:Q b):∃k,V.bl b=.bl k/\Q k:=⟨b,rfl,h⟩
theorem r_test {Q:Bool->Hp->Prop} (h:te σ H fun x H'=>∃k,x=.bl k/\Q k H'):tTest te σ H Q:=h
theorem r_tB {Q:Bool->Hp->Prop} (h:te σ H fun x H'=>∃k,x=.bl k/\Q k H'):tB te σ H Q:=h
theorem r_and {Q:Bool->Hp->Prop} (h:c σ H fun b H1=>if b=true then c' σ H1 Q else Q false H1):tAnd c c' σ H Q:=h
theorem r_or {Q:Bool->Hp->Prop} (h:c σ H fun b H1=>if b=true then Q true H1 else c' σ H1 Q):tOr c c' σ H Q:=h
theorem r_not {Q:Bool->Hp->Prop} (h:c σ H fun b H1=>Q (!b) H1):tNot c σ H Q:=h
theorem r_andV (h:ta σ H fun x H1=>∃k,x=.bl k/\if k=true then tb σ H1 Q else Q (.bl false) H1):tAndV ta tb σ H Q:=h
theorem r_notV (h:ta σ H fun x H1=>∃k,x=.bl k/\Q (.bl (!k)) H1):tNotV ta σ H Q:=h
theorem r_next (h:D.nx σ H):tNext D σ H:=h
theorem r_seq (h:t {nx:=u D,rt:=D.rt,bk:=D.bk,ct:=D.ct} σ H):tSeq t u D σ H:=h
theorem r_drop (h:te σ H fun _ H1=>D.nx σ H1):tDrop te D σ H:=h
theorem r_ret (h:te σ H D.rt):tRet te D σ H:=h
theorem r_if (h:c σ H fun b H1=>if b=true then t D σ H1 else u D σ H1):tIfS c t u D σ H:=h
theorem r_asg {g:TG} (h:te σ H fun x H1=>g x σ H1 D.nx):tAsg te g D σ H:=h
theorem r_name {Q:L2.St->Hp->Prop} (e:σ.set i (some v)=σ') (h:Q σ' H):gName i v σ H Q:=by subst e;exact h
theorem r_gnil {Q:L2.St->Hp->Prop} (h:Q σ H):gNil [] σ H Q:=⟨rfl,h⟩
theorem r_gcons {g:TG} {gs:TGs} {vs:List V} {Q:L2.St->Hp->Prop} (h:g v σ H fun σ' H'=>gs vs σ' H' Q):gCons g gs (v :: vs) σ H Q:=⟨v,vs,rfl,h⟩
theorem r_gtup {n:Nat} {gs:TGs} {a:Addr} {xs:List V} {Q:L2.St->Hp->Prop} (hS:SqT K H a xs) (hn:xs.length=n) (h:gs xs σ H Q):gTup K n gs (.ref a) σ H Q:=⟨a,xs,rfl,hS,hn,h⟩
theorem r_nx {f b c:L2.St->Hp->Prop} {r:VK} (h:f σ H):Ends.nx {nx:=f,rt:=r,bk:=b,ct:=c} σ H:=h
theorem r_rt {f b c:L2.St->Hp->Prop} {r:VK} (h:r v H):Ends.rt {nx:=f,rt:=r,bk:=b,ct:=c} v H:=h
theorem r_nil {Q:List V->Hp->Prop} (h:Q [] H):tNil σ H Q:=h
theorem r_cons {Q:List V->Hp->Prop} (h:te σ H fun x H1=>ar σ H1 fun xs H2=>Q (x :: xs) H2):tCons te ar σ H Q:=h
theorem r_tup (h:ar σ H fun xs H1=>xs.length<=sizeLine/\∀p,H1 p=none->Q (.ref p) (upd H1 p (.tup xs))):tTup ar σ H Q:=h
theorem r_lst (h:ar σ H fun xs H1=>xs.length<=sizeLine/\∀p,H1 p=none->Q (.ref p) (upd H1 p (.lst xs))):tLst ar σ H Q:=h
theorem r_new {xs:List V} {A:Prop} (hn:xs.length<=sizeLine) (h:A):xs.length<=sizeLine/\A:=⟨hn,h⟩
theorem r_call {sp:Sp} {E:XK} (h:ar σ H fun vs H1=>sp vs H1 Q E):tCall sp [] E ar σ H Q:=by
 have e:(fun vs H1=>sp (vs++ []) H1 Q E)=fun vs H1=>sp vs H1 Q E:=by funext vs H1;rw [append_nil]
 show ar σ H fun vs H1=>sp (vs++ []) H1 Q E
 rw [e];exact h
theorem r_callX {sp:Sp} {W:L2.St->XK} (h:ar σ H fun vs H1=>sp vs H1 Q (W σ)):tCallX sp [] W ar σ H Q:=by
 have e:(fun vs H1=>sp (vs++ []) H1 Q (W σ))=fun vs H1=>sp vs H1 Q (W σ):=by funext vs H1;rw [append_nil]
 show ar σ H fun vs H1=>sp (vs++ []) H1 Q (W σ)
 rw [e];exact h
theorem r_cb {r:List V->Hp->VK->Prop} (h:ar σ H fun vs H1=>r vs H1 Q):tCB r ar σ H Q:=h
theorem r_try {tb:List (Addr × Obj)->Ends->TS} {to:TS} (h:∀pins,tb pins D {nx:=to D,rt:=D.rt,bk:=D.bk,ct:=D.ct} σ H):tTry tb to D σ H:=h
theorem r_raise {C:Addr} {W:L2.St->XK} (h:ar σ H fun xs H1=>xs.length<=sizeLine/\W σ (.ref C) none H1):tRaise ar C W D σ H:=h
theorem qbf {p:Addr} {xs:List V} {k:Int} (hS:SqL K H p xs) (e:atI xs k=some v) (h:Q v H):rIxL K (.ref p) (.int k) H Q:=⟨p,xs,k,v,rfl,rfl,hS,e,h⟩
theorem r_fresh {R:Addr->Prop} (h:∀p,H p=none->R p):∀p,H p=none->R p:=h
theorem r_cl {c C':Addr} {b:Bool} {d:Option Addr} {hit miss:Ends->L2.St->XK} (k:kitCls K (.ref C') (.ref c)=some b) (h:if b=true then hit D σ (.ref C') d H else miss D σ (.ref C') d H):tCl K c hit miss D σ (.ref C') d H:=⟨C',b,rfl,k,h⟩
theorem r_as {t:Addr->TS} {C:Value} {d:Option Addr} (h:∀a,H a=none->t a (gone i D) (σ.set i (some (.ref a))) (upd H a (XO a C d))):tAs i t D σ C d H:=h
theorem r_gone (e:σ.set i none=σ') (h:D.nx σ' H):(gone i D).nx σ H:=by subst e;exact h
theorem r_menu {p:Addr} {xs:List Int} {r:Int} (hS:SqL K H p (xs.map V.int)) (h0:0<=r) (h1:r < xs.length) (h:∀m,m∈xs->Q (.int m) H):rIxL K (.ref p) (.int r) H Q:=by
 have hk:r.toNat < xs.length:=by omega
 have ek:r=((r.toNat:Nat):Int):=by omega
 have q:atI (xs.map V.int) ((r.toNat:Nat):Int)=some (.int xs[r.toNat]):=qas (by rw [getElem?_map,getElem?_eq_getElem hk] <;> rfl)
 rw [<-ek] at q
 exact⟨p,_,r,_,rfl,rfl,hS,q,h _ (getElem_mem hk)⟩
theorem qf3 (h:t {nx:=D.nx,rt:=D.rt,bk:=D.bk,ct:=D.ct} σ H):tCut t D σ H:=⟨D.nx,h,fun _ _ z=>z⟩
theorem r_cut (J:L2.St->Hp->Prop) (h:t {nx:=J,rt:=D.rt,bk:=D.bk,ct:=D.ct} σ H) (k:∀σ' H',J σ' H'->D.nx σ' H'):tCut t D σ H:=⟨J,h,k⟩
theorem r_lenL {p:Addr} {ys:List V} (hS:SqL K H p ys) (h:Q (.int ys.length) H):rLen K [.ref p] H Q:=⟨p,ys,rfl,.inl hS,h⟩
theorem r_notNn (h:Q (.bl false) H):rNotN .non .non H Q:=⟨rfl,h⟩
theorem r_notNi {a:Int} (h:Q (.bl true) H):rNotN (.int a) .non H Q:=⟨rfl,h⟩
end
section
variable {K: Frag} {σ: L2.St} {H: Hp} {D: Ends} {wi: TI} {g: TG} {tb: TS} {tl: TE} {ta: TA}
def FOR (J:It) (g:TG) (tb:TS) (D:Ends) (σ:L2.St) (H:Hp):Prop:=∃W:Nat->Nat->L2.St->Hp->Prop,(∃m,W 0 m σ H)/\∀i m σ H,W i m σ H->
 (J.stop i H/\D.nx σ H)\/(J.go i H/\∃N:L2.St->Hp->Prop,(∀σ' H',N σ' H'->∃m',m' < m/\W (i+1) m' σ' H')/\∀x H',J.yld i H x H'->g x σ H' fun σ2 H2=>tb {D with nx:=N,ct:=N,bk:=D.nx} σ2 H2)
def rItL (K:Frag) (x:V) (H:Hp) (R:It->Hp->Prop):Prop:=∃a,x=.ref a/\(∃xs,SqL K H a xs)/\R (Itl K a) H
def rItR (vs:List V) (H:Hp) (R:It->Hp->Prop):Prop:=∃j:Int,vs=[.int j]/\-(2^62)<=j/\j < 2^62/\R (Itr 0 j.toNat) H
theorem r_for (h:wi σ H fun J H1=>FOR J g tb D σ H1):tFor wi g tb D σ H:=h
theorem r_iL {R:It->Hp->Prop} (h:tl σ H fun x H1=>rItL K x H1 R):iList K tl σ H R:=h
theorem r_iR {R:It->Hp->Prop} (h:ta σ H fun vs H1=>rItR vs H1 R):iRng1 ta σ H R:=h
theorem r_itL {a:Addr} {xs:List V} {R:It->Hp->Prop} (hS:SqL K H a xs) (h:R (Itl K a) H):rItL K (.ref a) H R:=⟨a,rfl,⟨xs,hS⟩,h⟩
theorem r_itR {j:Int} {R:It->Hp->Prop} (h0: -(2^62)<=j) (h1:j < 2^62) (h:R (Itr 0 j.toNat) H):rItR [.int j] H R:=⟨j,rfl,h0,h1,h⟩
theorem qfa {a:Addr} {xs:List V} (Pv:Nat->L2.St->Hp->Prop) (h0:Pv 0 σ H) (hl:∀i σ H,i<=xs.length->Pv i σ H->SqL K H a xs)
  (hs:∀i x σ H,xs[i]?=some x->Pv i σ H->g x σ H fun σ2 H2=>tb {nx:=Pv (i+1),rt:=D.rt,bk:=D.nx,ct:=Pv (i+1)} σ2 H2) (hd:∀σ H,Pv xs.length σ H->D.nx σ H):FOR (Itl K a) g tb D σ H:=for_list Pv h0 hl hs hd
theorem qcn {lo:Int} {n:Nat} (Pv:Nat->L2.St->Hp->Prop) (h0:Pv 0 σ H)
  (hs:∀(i:Nat) σ H,i < n->Pv i σ H->g (.int (lo+i)) σ H fun σ2 H2=>tb {nx:=Pv (i+1),rt:=D.rt,bk:=D.nx,ct:=Pv (i+1)} σ2 H2) (hd:∀σ H,Pv n σ H->D.nx σ H):FOR (Itr lo n) g tb D σ H:=for_range Pv h0 hs hd
end
theorem qa7 {H:Hp} {a p:Addr} {o o':HO} (h:H a=some o) (n:H p=none):upd H p o' a=some o:=by rw [qa9 (qa8 h n)];exact h
theorem qfh {K:Frag} {H:Hp} {a p:Addr} {o:HO} {xs:List V} (h:SqL K H a xs) (n:H p=none):SqL K (upd H p o) a xs:=(qa2 n o).seq h
theorem qfj {H0 H:Hp} {p:Addr} {o:HO} (h:qb0 H0 H) (n:H p=none):qb0 H0 (upd H p o):=h.trans (qa2 n o)
theorem i_t {c A B:Prop} [Decidable c] (h:c) (hA:A):if decide c=true then A else B:=by rw [decide_eq_true h];exact iteT hA
theorem i_f {c A B:Prop} [Decidable c] (h:¬c) (hB:B):if decide c=true then A else B:=by rw [decide_eq_false h];exact iteF hB
theorem i_2 {c A B:Prop} [Decidable c] (h1:c->A) (h2:¬c->B):if decide c=true then A else B:=by
 by_cases h:c
 .exact i_t h (h1 h)
 .exact i_f h (h2 h)
theorem i_nf {c A B:Prop} [Decidable c] (h:c) (hB:B):if (!decide c)=true then A else B:=by rw [decide_eq_true h];exact iteF hB
theorem i_nT {A B:Prop} (h:B):if (!true)=true then A else B:=h
theorem i_nF {A B:Prop} (h:A):if (!false)=true then A else B:=iteT h
end My
namespace My
open PySem PySem.Spec PyProof.Rows L2
def AllC {α:Type} (f:α->Prop):List α->Prop
 | []=>True
 |a :: l=>f a/\AllC f l
theorem AllC.mem {α:Type} {f:α->Prop}:∀{l:List α},AllC f l->∀a∈l,f a
 | [],_,_,h=>absurd h (by simp)
 |b :: l,h,a,m=>by
  rcases mem_cons.mp m with rfl|m
  .exact h.1
  .exact AllC.mem h.2 a m
def qaz (caps:List Nat) (σ:L2.St):L2.St:=caps.map fun j=>(σ[j]?).getD none
def rApp (acc:Addr) (N:Hp->Prop) (y:V) (H:Hp):Prop:=∃ys,H acc=some (.lst ys)/\ys.length < sizeLine/\N (upd H acc (.lst (ys++ [y])))
def COMP (J:It) (caps:List Nat) (tt:TT) (te:TE) (acc:Addr) (σ:L2.St) (H:Hp) (Q:VK):Prop:=∃W:Nat->Nat->Hp->Prop,(∃m,W 0 m H)/\∀i m H,W i m H->
 (J.stop i H/\Q (.ref acc) H)\/(J.go i H/\∃N:Hp->Prop,(∀H',N H'->∃m',m' < m/\W (i+1) m' H')/\∀v H',J.yld i H v H'->tt (some v :: qaz caps σ) H' fun b H2=>
  if b=true then te (some v :: qaz caps σ) H2 fun y H3=>rApp acc N y H3 else N H2)
abbrev CT (α:Type):=Addr->Shared->Hp->List Addr->α
def tComp (wi:TI) (caps:List Nat) (tt:CT TT) (te:CT TE):TE:=fun σ H Q=>wi σ H fun J H1=>∀(C:Addr) (s:Shared) (H0:Hp) (fp:List Addr) (acc:Addr),H1 acc=none->COMP J caps (tt C s H0 fp) (te C s H0 fp) acc σ (upd H1 acc (.lst [])) Q
def tTrue:TT:=fun _ H Q=>Q true H
def PIfs (X:Cx) (ifs:List Expr) (t:TT):Prop:=
 ∀(pins:List (Addr × Obj)) (s:Shared) (σ:L2.St) (H:Hp) (Q:Bool->Hp->Prop),Inv X pins σ H s->t σ H Q->
  wpAny (model X.prog X.w) X.A (forIn ifs true fun c r=>if r=true then do let ok<-isTrue c X.env (eval c X.env);pure (ForInStep.yield ok) else pure (ForInStep.yield r)) (TP X pins σ Q) X.xe s
theorem qdh {X:Cx}:PIfs X [] tTrue:=fun pins s σ H Q I h=>wpAny_tests_nil ⟨H,I,h⟩
theorem pf_one {X:Cx} {c:Expr} {t:TT} (h:PT X c t):PIfs X [c] t:=fun pins s σ H Q I hw=>wpAny_tests_one (h pins s σ H Q I hw)
def cxC (X:Cx) (N:List Str) (scope:Scope) (cl:List (Str × Addr)) (C:Addr) (s:Shared) (H:Hp) (fp:List Addr):Cx where
 prog:=X.prog
 w:=X.w
 K:=X.K
 mg:=X.mg
 base:=X.base
 A:=X.A
 N:=N
 s₀:=s
 H₀:=H
 env:=compEnvC scope cl C X.env
 outer:=X.stack
 stack:=X.stack
 ex:=fp
 fn:=fun _=>false
 calm:=X.calm
 pn:=[]
 xe:=fun _ _=>False
structure Caps (X:Cx) (x:Str) (scope:Scope) (cl:List (Str × Addr)) (caps:List Nat) (cn:List Str):Prop where
 clos:closureFor scope X.env=pure cl
 kind:scope.kind=.function
 cell:∀y∈scope.names,y.2≠ .cell
 names:∀y∈scope.names,y.2=.local->scope.names.lookup y.1=some .local
 tg:scope.names.lookup x=some .local
 sub:∀y c,cl.lookup y=some c->X.env.cells.lookup y=some c
 has:∀y,((relabel scope X.env).names.lookup y=some .cell\/(relabel scope X.env).names.lookup y=some .free)->∃c,cl.lookup y=some c
 len:caps.length=cn.length
 cap:∀(k:Nat) (y:Str) (j:Nat),cn[k]?=some y->caps[k]?=some j->X.N[j]?=some y/\X.env.kindOf y=some .cell/\(relabel scope X.env).names.lookup y=some .cell/\X.env.scope.names.lookup y=some .cell/\∃c,cl.lookup y=some c
 nd:(x :: cn).Nodup
section
variable {X: Cx} {pins: List (Addr × Obj)} {σ: L2.St} {H: Hp} {s: Shared}
theorem Inv.comp {x:Str} {scope:Scope} {cl:List (Str × Addr)} {caps:List Nat} {cn:List Str} (Cp:Caps X x scope cl caps cn) (I:Inv X pins σ H s) {fp:List Addr} (hf:∀b∈fp,qfy X pins H b) (hlt:∀b∈fp,b < s.heap.objs.size) {h₁:Heap} {t':Nat}
  (hns:h₁.Ns s.heap.objs.size (fun _=>none)) (k:∀b o,s.heap.get? b=some o->h₁.get? b=some o):
  Inv (cxC X (x :: cn) scope cl s.heap.objs.size s H fp) [] (none :: qaz caps σ) H {s with heap:=h₁,toks:=t'}:=by
 have cne:∀y c,cl.lookup y=some c->∃v,s.heap.IsCell c v:=fun y c e=>I.cell y c (Cp.sub y c e)
 have ltC:∀y c,cl.lookup y=some c->c < s.heap.objs.size:=fun y c e=>let ⟨v,q⟩:=cne y c e;q.lt
 have isC:∀c v,s.heap.IsCell c v->h₁.IsCell c v:=fun c v ⟨o,e,d⟩=>⟨o,k c o e,d⟩
 refine⟨⟨I.ok.mod,Cp.kind,I.ok.glob,I.ok.blt,Nat.le_refl _,fun y z c e1 e2=>I.ok.inj y z c (Cp.sub y c e1) (Cp.sub z c e2),fun y hy=>Cp.has y hy,fun y c z=>(Bool.false_ne_true z).elim,I.ok.hd,I.ok.frames,.inl rfl,
  fun b hb=>⟨Nat.ne_of_lt (hlt b hb),fun y c e z=>?_⟩,I.bs,Nat.le_trans I.ok.bsz I.sz,fun b o e hb=>?_,fun b hb z=>?_,I.stack,I.stkFree⟩,
  rfl,I.bare,Un.kept k,⟨_,hns,fun i y v e1 e2 e3=>?_⟩,fun y c e=>?_,I.hok.fresh (Nat.le_refl _),fun y c e=>I.freeC y c (Cp.sub y c e),fun p hp=>absurd (show p∈([]:List (Addr × Obj)) from hp) (by simp),I.hok.kept k,?_⟩
 .exact(hf b hb).2.2.2.2.1 y c (Cp.sub y c e) z
 .rcases(hf b hb).2.2.2.1 with z|z
  .exact I.ok.noex b o e z
  .exact absurd (Nat.lt_of_lt_of_le (Heap.lt_size e) (Nat.le_trans I.ok.bsz z)) (Nat.lt_irrefl _)
 .rcases mem_cons.mp (I.stkSub b z) with z|z
  .exact(hf b hb).2.1 z
  .exact(hf b hb).2.2.1 z
 .cases i with
  |zero=>cases e2
  |succ i=>
   have e1':cn[i]?=some y:=by simpa [cxC] using e1
   have e2':(qaz caps σ)[i]?=some (some v):=by simpa using e2
   unfold qaz at e2'
   rw [getElem?_map] at e2'
   obtain⟨j,hj,ej⟩:=Option.map_eq_some_iff.mp e2'
   obtain⟨c1,c2,c3,c5,c,c4⟩:=Cp.cap i y j e1' hj
   cases hs:σ[j]? with
   |none=>rw [hs] at ej;cases ej
   |some w=>
    rw [hs] at ej
    have ej':w=some v:=ej
    subst ej'
    obtain⟨m,hn,hl⟩:=I.loc
    obtain⟨u,r,l⟩:=hl j y v c1 hs (.inr (.inl c5))
    refine⟨u,r,.inr ⟨.inl c3,c,c4,?_⟩⟩
    rcases l with ⟨l,_⟩ |⟨_,c',e',q⟩
    .rw [c2] at l;cases l
    .rw [Cp.sub y c c4] at e'
     cases e'
     exact isC _ _ q
 .obtain⟨v,q⟩:=cne y c e
  exact⟨v,isC c v q⟩
 .show (none :: qaz caps σ).length=(x :: cn).length
  rw [length_cons,length_cons]
  unfold qaz
  rw [length_map,Cp.len]
theorem Inv.uncomp {N:List Str} {scope:Scope} {cl:List (Str × Addr)} {C:Addr} {σ':L2.St} {H':Hp} {s':Shared} {fp:List Addr} (I:Inv X pins σ H s) (hf:∀b∈fp,qfy X pins H b) (hC:C=s.heap.objs.size)
  (J:Inv (cxC X N scope cl C s H fp) [] σ' H' s') {h':Heap} (sb:Heap.SameBut C s'.heap h'):Inv X pins σ H' {s' with heap:=h'}:=by
 have ne:∀b o,s.heap.get? b=some o->b≠C:=fun b o e=>by rw [hC];exact Nat.ne_of_lt (Heap.lt_size e)
 have u:Un (frs X.stack) fp H H' s.heap s'.heap:=J.base
 have hok:HOk X.prog X.w H' h':=fun b o e=>by
  refine(J.hok b o e).stay (fun c u' hc q=>(sb.2 c ?_).trans q) (fun _ q=>q) fun _ _ q=>q
  intro z
  have n:H' C=none:=J.free
  rcases hc with hc|hc
  .rw [<-hc,z,n] at e;cases e
  .rw [z,n] at hc;cases hc
 refine I.call' (s':={s' with heap:=h'}) (ch:=fp) J.os ⟨fun b o e n hb hx=>(sb.2 b (ne b o e)).trans (u.keep b o e n hb hx),fun b o e n hb hx=>?_,u.free,fun b o e hx=>?_,u.tups,u.frzs,u.tbls⟩ hok J.bare fun b hb=>?_
 .obtain⟨sl,q⟩:=u.slot b o e n hb hx
  exact⟨sl,(sb.2 b (ne b o e)).trans q⟩
 .obtain⟨o',q⟩:=u.there b o e hx
  exact⟨o',(sb.2 b (ne b o e)).trans q⟩
 .obtain⟨f0,f1,f2,f3,f4,f5⟩:=hf b hb
  exact⟨f3,f1,f4,f5⟩
end
section
variable {X: Cx}
theorem qdk {elt iter:Expr} {x:Str} {px:Pos} {ifs:List Expr} {scope:Scope} {cl:List (Str × Addr)} {pos:Pos} {caps:List Nat} {cn:List Str} {wi:TI} {tt:CT TT} {te:CT TE} (Cp:Caps X x scope cl caps cn) (hc:X.calm=true)
  (hi:PI X (.Name x px) iter wi) (ht:∀C s H fp,PIfs (cxC X (x :: cn) scope cl C s H fp) ifs (tt C s H fp)) (he:∀C s H fp,PE (cxC X (x :: cn) scope cl C s H fp) elt (te C s H fp))
  (hs:∀x,foldedSetIterable iter X.env x=pure x:=by intro _;rfl):
  PE X (.ListComp elt [⟨.Name x px,iter,ifs,0⟩] scope pos) (tComp wi caps tt te):=by
 intro pins s σ H Q I h
 rw [eval_ListComp]
 refine wpAny_comprehension_free (use:=none) rfl hs Cp.clos Cp.kind Cp.names (thn (hi pins s σ H _ I h) fun v s1 h1=>thn h1 fun itv s2 h2=>?_)
 obtain⟨it,fp,tn,J,H2,e,I2,T,st2,f2,R⟩:=h2
 subst e
 have hacc:H2 s2.heap.objs.size=none:=I2.hok.fresh (Nat.le_refl _)
 refine wpAny_newObj_type ?_
 have I3:Inv X pins σ (upd H2 s2.heap.objs.size (.lst [])) {s2 with heap:=s2.heap.push {cls:=.type "list",dict:=none,data:=.seq ([]:List Value).toArray}}:=Inv.lnew (its:=[]) (t':=s2.toks) I2 .nil (Nat.zero_le _)
 have lt2:∀b∈fp,b < s2.heap.objs.size:=fun b hb=>let ⟨o,e,_⟩:=T.obj _ _ st2 b hb;Heap.lt_size e
 have f3:∀b∈fp,qfy X pins (upd H2 s2.heap.objs.size (.lst [])) b:=fun b hb=>⟨by rw [qa9 (Nat.ne_of_lt (lt2 b hb))];exact(f2 b hb).1,(f2 b hb).2⟩
 have st3:tn 0 (s2.heap.push {cls:=.type "list",dict:=none,data:=.seq ([]:List Value).toArray}):=T.keep _ _ _ st2 fun b _ o e=>Heap.get?_push_of_some _ e
 generalize hs3:({s2 with heap:=s2.heap.push {cls:=.type "list",dict:=none,data:=.seq ([]:List Value).toArray}}:Shared)=s3 at I3 ⊢
 have st3':tn 0 s3.heap:=by rw [<-hs3];exact st3
 generalize s2.heap.objs.size=acc at hacc I3 f3 ⊢
 obtain⟨W,⟨m0,w0⟩,turn⟩:=R s3.heap.objs.size s3 (upd H2 acc (.lst [])) fp acc hacc
 have lt3:∀b∈fp,b < s3.heap.objs.size:=fun b hb=>let ⟨o,e,_⟩:=T.obj _ _ st3' b hb;Heap.lt_size e
 clear st3 hs3
 refine wpAny_newFunctionEnv Cp.cell (by intro y hy;simp at hy) (fun h₁ hns hsb=>?_) Cp.kind
 have k1:∀b o,s3.heap.get? b=some o->h₁.get? b=some o:=fun b o e=>hsb.extBut b o (Nat.ne_of_lt (Heap.lt_size e)) (Heap.get?_push_of_some _ e)
 have I4:Inv (cxC X (x :: cn) scope cl s3.heap.objs.size s3 (upd H2 acc (.lst [])) fp) [] (none :: qaz caps σ) (upd H2 acc (.lst [])) {s3 with heap:=h₁,toks:=s3.toks+([]:List (Str × Value)).length}:=
  Inv.comp Cp I3 f3 lt3 hns k1
 have st4:tn 0 h₁:=T.keep _ _ _ st3' fun b _ o e=>k1 b o e
 generalize hX:cxC X (x :: cn) scope cl s3.heap.objs.size s3 (upd H2 acc (.lst [])) fp=X' at I4
 have stat:∀{H':Hp},(∀b∈fp,H' b=none)->∀b∈fp,qfy X' [] H' b:=fun hn b hb=>by
  subst hX
  obtain⟨g0,g1,g2,g3,g4,g5⟩:=f3 b hb
  refine⟨hn b hb,Nat.ne_of_lt (lt3 b hb),fun z=>?_,.inl hb,fun y c e=>g4 y c (Cp.sub y c e),fun p hp=>absurd (show p∈([]:List (Addr × Obj)) from hp) (by simp)⟩
  rcases mem_cons.mp (I3.stkSub b z) with z|z
  .exact g1 z
  .exact g2 z
 have core:codeAny (model X.prog X.w) X.A (.compLoop (.ListComp elt [⟨.Name x px,iter,ifs,0⟩] scope pos) 0 (.ref it) (.ref acc) (compEnvC scope cl s3.heap.objs.size X.env))
   (compPost (model X.prog X.w) X.A X.xe none (EP X pins σ Q) (.ref acc) s3.heap.objs.size) {s3 with heap:=h₁,toks:=s3.toks+([]:List (Str × Value)).length}:=by
  refine codeAny_loop rfl (fun n s'=>∃i a H',Inv X' [] (a :: qaz caps σ) H' s'/\tn i s'.heap/\(∀b∈fp,H' b=none)/\W i n H') (fun n s5 hI=>?_) m0 ⟨0,none,_,I4,st4,fun b hb=>(f3 b hb).1,w0⟩
  obtain⟨i,a0,H5,I5,st5,fr5,w5⟩:=hI
  show wpAny _ _ ((compTurn _ 0 _ _ _).onRaise _) _ _ s5
  refine wpAny_noted ?_
  rw [compTurn_list]
  refine wpAny_bind (wpAny_standAt (wpAny_bind ?_))
  have aX:X'.A=X.A:=by subst hX;rfl
  have pX:X'.prog=X.prog:=by subst hX;rfl
  have wX:X'.w=X.w:=by subst hX;rfl
  have kX:X'.K=X.K:=by subst hX;rfl
  have cX:X'.calm=true:=by subst hX;exact hc
  have eX:X'.env=compEnvC scope cl s3.heap.objs.size X.env:=by subst hX;rfl
  rcases turn i n H5 w5 with ⟨stop,qn⟩ |⟨go,N,hN,step⟩
  .have z:=T.done X' pX wX kX cX i [] s5 _ H5 (fun _ _=>False) I5 (stat fr5) st5 stop
   rw [aX] at z
   refine wpAny_mono z (fun r s6 ⟨hr,I6⟩=>?_) fun _ _ q=>q.elim
   subst hr
   subst hX
   obtain⟨m,hm,_⟩:=id I6.loc
   exact wpAny_pure ⟨m,hm,fun h' sb=>⟨.ref acc,H5,Inv.uncomp I3 f3 rfl I6 sb,rfl,qn⟩⟩
  .have z:=T.item X' pX wX kX cX i [] s5 _ H5 (fun _ _=>False) I5 (stat fr5) st5 go
   rw [aX] at z
   refine wpAny_mono z (fun r s6 ⟨u,hr,h6⟩=>?_) fun _ _ q=>q.elim
   subst hr
   refine wpAny_bind (wpAny_mono h6 (fun _ s7 ⟨v,H7,I7,r7,y7,st7,fr7⟩=>?_) fun _ _ q=>q.elim)
   have I7':=I7.pinned (stat fr7) (T.obj _ _ st7)
   have asg:wpAny (model X.prog X.w) X.A (assign (.Name x px) (compEnvC scope cl s3.heap.objs.size X.env) u) (fun _ s8=>Inv X' ([]++qbv fp s7.heap) (some v :: qaz caps σ) H7 s8) (fun _ _=>False) s7:=by
    subst hX
    exact wpAny_assign_Name (qd9 (X:=cxC X (x :: cn) scope cl s3.heap.objs.size s3 (upd H2 acc (.lst [])) fp) (i:=0) I7' Cp.nd rfl (.inl (lookup_relabel_local Cp.tg)) r7 (fun s' I'=>I') (.inr (lookup_relabel_local Cp.tg)))
   refine wpAny_bind (wpAny_mono asg (fun _ s8 I8=>?_) fun _ _ q=>q.elim)
   have tst:wpAny (model X.prog X.w) X.A (forIn ifs true fun c r=>if r=true then do let ok<-isTrue c (compEnvC scope cl s3.heap.objs.size X.env) (eval c (compEnvC scope cl s3.heap.objs.size X.env));pure (ForInStep.yield ok) else pure (ForInStep.yield r))
     (TP X' ([]++qbv fp s7.heap) (some v :: qaz caps σ) (fun b H9=>if b=true then te s3.heap.objs.size s3 (upd H2 acc (.lst [])) fp (some v :: qaz caps σ) H9 (fun y H3=>rApp acc N y H3) else N H9)) (fun _ _=>False) s8:=by
    subst hX
    exact ht _ _ _ _ _ s8 _ H7 _ I8 (step v H7 y7)
   refine wpAny_bind (wpAny_mono tst (fun b s9 ⟨H9,I9,q9⟩=>?_) fun _ _ q=>q.elim)
   have fin:∀{a:Option V} {H10:Hp} {s10:Shared},Inv X' ([]++qbv fp s7.heap) (a :: qaz caps σ) H10 s10->N H10->∃m',m' < n/\∃i a H',Inv X' [] (a :: qaz caps σ) H' s10/\tn i s10.heap/\(∀b∈fp,H' b=none)/\W i m' H':=fun {a H10 s10} I10 n10=>
    let ⟨m',hm,w10⟩:=hN _ n10
    ⟨m',hm,i+1,a,H10,I10.unpinned,T.keep _ _ _ st7 fun b hb o e=>(I10.pin (b,o) (mem_append_right _ (mem_append_right _ (qbu hb e)))).1,fun b hb=>by
     obtain⟨o,e,d⟩:=T.obj _ _ st7 b hb
     exact(I10.pin (b,o) (mem_append_right _ (mem_append_right _ (qbu hb e)))).2.1,w10⟩
   cases b with
   |false=>exact wpAny_pure ⟨rfl,fin I9 q9⟩
   |true=>
    have elt':wpAny (model X.prog X.w) X.A (eval elt (compEnvC scope cl s3.heap.objs.size X.env)) (EP X' ([]++qbv fp s7.heap) (some v :: qaz caps σ) (fun y H3=>rApp acc N y H3)) (fun _ _=>False) s9:=by
     subst hX
     exact he _ _ _ _ _ s9 _ H9 _ I9 q9
    refine wpAny_bind (wpAny_bind (wpAny_mono elt' (fun y s10 ⟨w,H10,I10,r10,ys,ha,hz,q10⟩=>?_) fun _ _ q=>q.elim))
    have app:wpAny (model X.prog X.w) X.A (call (.builtin "list.append") [.ref acc,y]) (EP X' ([]++qbv fp s7.heap) (some v :: qaz caps σ) fun _ H11=>H11=upd H10 acc (.lst (ys++ [w]))) (fun _ _=>False) s10:=by
     subst hX
     exact qay (X:=cxC X (x :: cn) scope cl s3.heap.objs.size s3 (upd H2 acc (.lst [])) fp) _ s10 _ H10 (.ref acc) [w] (.ref acc) [y] _ I10 rfl (.cons r10 .nil) ⟨acc,ys,w,rfl,rfl,ha,hz,rfl⟩
    refine wpAny_bind (wpAny_mono app (fun _ s11 ⟨_,H11,I11,_,e11⟩=>?_) fun _ _ q=>q.elim)
    subst e11
    exact wpAny_pure (wpAny_pure ⟨rfl,fin I11 q10⟩)
 exact codeAny_compStart_list core (T.self _ 0 _ _ _ st4 core)
def Its (x:Str):It:=⟨fun i _=>i < x.cps.size,fun i H v H'=>H'=H/\∃c,x.cps[i]?=some c/\v=.str ⟨#[c]⟩,fun i _=>i=x.cps.size⟩
theorem turn_str {P:Program} {w:World} {K:Frag} {y:Str} {py:Pos} (x:Str) (t:Tok) (it:Addr) (ty:String) (W:∀A:Around,A.handled=none->Walks P w A it [it] [it] x.cps.size (SignAt x) (fun i h=>h.IsStrIter it ty x t i))
  (hself:∀(A:Around) (i:Nat) (s:Shared) (Q:Value->Shared->Prop) (E:Value->Shared->Prop),s.heap.IsStrIter it ty x t i->Q (.ref it) s->wpAny (model P w) A (pyIter (.ref it)) Q E s):
  Turn P w K (.Name y py) (Its x) [it] it (fun i h=>h.IsStrIter it ty x t i) where
 mem:=by simp
 obj:=fun i h st b hb=>by
  have e:b=it:=by simpa using hb
  subst e
  obtain⟨o,e,c,d⟩:=st
  exact⟨o,e,fun v z=>by rw [d] at z;cases z⟩
 keep:=fun i h h' ⟨o,e,r⟩ k=>⟨o,k it (by simp) o e,r⟩
 item:=by
  intro X hP hw hK hc i pins s σ H E I hf st hg
  subst hP hw hK
  obtain⟨f0,f1,f2,f3,f4,f5⟩:=hf it (by simp)
  refine(W X.A (I.ok.hd hc)).item i s _ _ hg st fun v h' tk hv st' k=>?_
  have I1:Inv X pins σ H {s with heap:=h',toks:=tk}:=I.turned (t':=tk) (fun b o hb e=>k b o (fun z=>hb (by simpa using z)) e) f0 f1 f3 f4 f5
  obtain⟨c,u,hx,rfl⟩:=hv
  exact⟨_,rfl,wpAny_pure ⟨.str ⟨#[c]⟩,H,I1,⟨_,rfl⟩,⟨rfl,c,hx,rfl⟩,st',fun b hb=>(hf b hb).1⟩⟩
 done:=by
  intro X hP hw hK hc i pins s σ H E I hf st hg
  subst hP hw hK
  have hg':i=x.cps.size:=hg
  subst hg'
  obtain⟨f0,f1,f2,f3,f4,f5⟩:=hf it (by simp)
  exact(W X.A (I.ok.hd hc)).done s _ _ st fun h' tk k=>⟨rfl,I.turned (t':=tk) (fun b o hb e=>k b o (fun z=>hb (by simpa using z)) e) f0 f1 f3 f4 f5⟩
 self:=hself
def rItS (v:V) (H:Hp) (R:It->Hp->Prop):Prop:=∃x,v=.str x/\R (Its x) H
def iStr (tl:TE):TI:=fun σ H R=>tl σ H fun v H1=>rItS v H1 R
end
end My
namespace L2
open PySem PySem.Spec PyProof.Rows
section
variable {κ: Type} [DecidableEq κ]
def qcx (kvs:List (κ × V)) (k:κ):Option V:=(kvs.find? fun kv=>decide (kv.1=k)).map (·.2)
def qdj (kvs:List (κ × V)) (k:κ) (v:V):List (κ × V):=
 if (kvs.any fun kv=>decide (kv.1=k))=true then kvs.map (fun kv=>if kv.1=k then (kv.1,v) else kv) else kvs++ [(k,v)]
theorem qbn {p:κ × V} {r:List (κ × V)} {k:κ} (e:p.1=k):qcx (p :: r) k=some p.2:=by simp [qcx,find?_cons,e]
theorem qbo {p:κ × V} {r:List (κ × V)} {k:κ} (e:¬p.1=k):qcx (p :: r) k=qcx r k:=by simp [qcx,find?_cons,e]
theorem qch (k:κ):∀kvs:List (κ × V),(kvs.any fun kv=>decide (kv.1=k))=(qcx kvs k).isSome
 | []=>rfl
 |p :: r=>by
  rw [any_cons]
  by_cases e:p.1=k
  .simp only [qbn e,decide_eq_true e,Bool.true_or,Option.isSome_some]
  .rw [qbo e,decide_eq_false e,Bool.false_or];exact qch k r
theorem valV_map (k j:κ) (y:V):∀kvs:List (κ × V),qcx (kvs.map fun kv=>if kv.1=k then (kv.1,y) else kv) j=(qcx kvs j).map fun x=>if j=k then y else x
 | []=>rfl
 |p :: r=>by
  have ih:=valV_map k j y r
  rw [map_cons]
  by_cases h:p.1=k
  .rw [if_pos h]
   by_cases e:p.1=j
   .rw [qbn (p:=(p.1,y)) e,qbn e,Option.map_some,if_pos (e.symm.trans h)]
   .rw [qbo (p:=(p.1,y)) e,qbo e,ih]
  .rw [if_neg h]
   by_cases e:p.1=j
   .rw [qbn (p:=p) e,qbn e,Option.map_some,if_neg (fun z=>h (e.trans z))]
   .rw [qbo (p:=p) e,qbo e,ih]
theorem valV_snoc (k j:κ) (y:V):∀kvs:List (κ × V),qcx kvs k=none->qcx (kvs++ [(k,y)]) j=if j=k then some y else qcx kvs j
 | [],_=>by
  by_cases e:k=j
  .rw [if_pos e.symm];exact qbn (p:=(k,y)) e
  .rw [if_neg (fun z=>e z.symm)];exact qbo (p:=(k,y)) e
 |p :: r,hn=>by
  rw [List.cons_append]
  have hk:¬p.1=k:=fun z=>by rw [qbn z] at hn;cases hn
  rw [qbo hk] at hn
  have ih:=valV_snoc k j y r hn
  by_cases e:p.1=j
  .rw [qbn e,qbn e,if_neg (fun z=>hk (e.trans z))]
  .rw [qbo e,qbo e,ih]
theorem valV_put (kvs:List (κ × V)) (k j:κ) (y:V):qcx (qdj kvs k y) j=if j=k then some y else qcx kvs j:=by
 unfold qdj
 by_cases a:(kvs.any fun kv=>decide (kv.1=k))=true
 .rw [if_pos a,valV_map]
  rw [qch] at a
  by_cases e:j=k
  .obtain⟨x,hx⟩:=Option.isSome_iff_exists.mp a
   rw [if_pos e,e,hx,Option.map_some,if_pos rfl]
  .rw [if_neg e]
   cases qcx kvs j with
   |none=>rfl
   |some x=>rw [Option.map_some,if_neg e]
 .rw [if_neg a]
  refine valV_snoc k j y kvs ?_
  rw [qch] at a
  cases q:qcx kvs k with
  |none=>rfl
  |some x=>rw [q] at a;exact(a rfl).elim
theorem qbr (kvs:List (κ × V)) (k:κ) (v:V):(qdj kvs k v).length<=kvs.length+1:=by
 unfold qdj
 split
 .rw [length_map];omega
 .rw [length_append,length_cons,length_nil];omega
theorem putK_new {kvs:List (κ × V)} {k:κ} (v:V) (h:qcx kvs k=none):qdj kvs k v=kvs++ [(k,v)]:=by
 unfold qdj
 rw [qch,h]
 exact if_neg (by decide)
theorem qe5.isSome_eq {o:Option V} {u:Option Value} (r:qe5 o u):o.isSome=u.isSome:=by
 cases o with
 |none=>cases u with
  |none=>rfl
  |some _=>exact(show False from r).elim
 |some _=>cases u with
  |none=>exact(show False from r).elim
  |some _=>rfl
theorem qe5.getD {o:Option V} {u:Option Value} {d:V} {d':Value} (r:qe5 o u) (rd:qb6 d d'):qb6 (o.getD d) (u.getD d'):=by
 cases o with
 |none=>cases u with
  |none=>exact rd
  |some _=>exact(show False from r).elim
 |some _=>cases u with
  |none=>exact(show False from r).elim
  |some _=>exact r
theorem KV.val {kvs:List (κ × V)} {vs:List (κ × Value)} (r:KV kvs vs) (k:κ):qe5 (qcx kvs k) (valueAt vs k):=by
 unfold KV at r
 induction r with
 |nil=>exact True.intro
 | @cons p q ps qs h t ih=>
  obtain⟨h1,h2⟩:=h
  by_cases e:p.1=k
  .have e':q.1=k:=h1.symm.trans e
   have b:valueAt (q :: qs) k=some q.2:=by simp [valueAt,find?_cons,e']
   rw [qbn e,b];exact h2
  .have e':¬q.1=k:=fun z=>e (h1.trans z)
   have b:valueAt (q :: qs) k=valueAt qs k:=by simp [valueAt,find?_cons,e']
   rw [qbo e,b];exact ih
theorem KV.any {kvs:List (κ × V)} {vs:List (κ × Value)} (r:KV kvs vs) (k:κ):(kvs.any fun kv=>decide (kv.1=k))=vs.any fun kv=>decide (kv.1=k):=by
 unfold KV at r
 induction r with
 |nil=>rfl
 |cons h t ih=>rw [any_cons,any_cons,ih,h.1]
theorem KV.repl {kvs:List (κ × V)} {vs:List (κ × Value)} (r:KV kvs vs) (k:κ) {y:V} {u:Value} (ry:qb6 y u):
  KV (kvs.map fun kv=>if kv.1=k then (kv.1,y) else kv) (vs.map fun kv=>if kv.1=k then (kv.1,u) else kv):=by
 unfold KV at r ⊢
 induction r with
 |nil=>exact .nil
 | @cons p q ps qs h t ih=>
  rw [map_cons,map_cons]
  refine .cons ?_ ih
  obtain⟨h1,h2⟩:=h
  by_cases e:p.1=k
  .rw [if_pos e,if_pos (h1.symm.trans e)];exact⟨h1,ry⟩
  .rw [if_neg e,if_neg (fun z=>e (h1.trans z))];exact⟨h1,h2⟩
theorem KV.put {kvs:List (κ × V)} {vs:List (κ × Value)} (r:KV kvs vs) (k:κ) {y:V} {u:Value} (ry:qb6 y u):KV (qdj kvs k y) (stored vs k u):=by
 unfold qdj stored
 rw [r.any k]
 by_cases e:(vs.any fun kv=>decide (kv.1=k))=true
 .rw [if_pos e,if_pos e];exact r.repl k ry
 .rw [if_neg e,if_neg e];exact Paired.snoc r ⟨rfl,ry⟩
theorem KV.keys {kvs:List (κ × V)} {vs:List (κ × Value)} (r:KV kvs vs):kvs.map (·.1)=vs.map (·.1):=by
 unfold KV at r
 induction r with
 |nil=>rfl
 |cons h t ih=>rw [map_cons,map_cons,ih,h.1]
theorem KV.length {kvs:List (κ × V)} {vs:List (κ × Value)} (r:KV kvs vs):kvs.length=vs.length:=Paired.length r
end
theorem kV_is {P:Program} {w:World} {k:Key} {u:Value} (r:qb6 (kV k) u):(qb7 P w).is k u=true:=by
 cases k with
 |inl i=>obtain⟨t,e⟩:=(show ∃t,u=Value.int i t from r);subst e;exact mixKind_int P w i t
 |inr x=>obtain⟨t,e⟩:=(show ∃t,u=Value.str x t from r);subst e;exact mixKind_str P w x t
theorem items_are {P:Program} {w:World}:∀{ks:List Key} {us:List Value},qbb (ks.map kV) us->ItemsAre (qb7 P w) ks us
 | [],_,r=>by rw [List.map_nil] at r;cases r;exact .nil
 |k :: ks,_,r=>by
  rw [map_cons] at r
  cases r with
  |cons h t=>exact .cons (kV_is h) (items_are t)
abbrev KT (H:Hp):List (List Key × V)->List (List Key × Addr × Value)->Prop:=Paired fun p q=>p.1=q.1/\H q.2.1=some (.tup (p.1.map kV))/\qb6 p.2 q.2.2
theorem KT.val {H:Hp} {kvs:List (List Key × V)} {xs:List (List Key × Addr × Value)} (r:KT H kvs xs) (k:List Key):qe5 (qcx kvs k) ((atKey xs k).map (·.2)):=by
 induction r with
 |nil=>exact True.intro
 | @cons p q ps qs h t ih=>
  obtain⟨h1,_,h2⟩:=h
  by_cases e:p.1=k
  .have e':q.1=k:=h1.symm.trans e
   have b:atKey (q :: qs) k=some q.2:=by simp [atKey,find?_cons,e']
   rw [qbn e,b];exact h2
  .have e':¬q.1=k:=fun z=>e (h1.trans z)
   have b:atKey (q :: qs) k=atKey qs k:=by simp [atKey,find?_cons,e']
   rw [qbo e,b];exact ih
theorem KT.repl {H:Hp} {kvs:List (List Key × V)} {xs:List (List Key × Addr × Value)} (r:KT H kvs xs) (k:List Key) {y:V} {u:Value} (ry:qb6 y u):
  KT H (kvs.map fun kv=>if kv.1=k then (kv.1,y) else kv) (xs.map (putAt k u)):=by
 induction r with
 |nil=>exact .nil
 | @cons p q ps qs h t ih=>
  rw [map_cons,map_cons]
  refine .cons ?_ ih
  obtain⟨h1,h2,h3⟩:=h
  unfold putAt
  by_cases e:p.1=k
  .rw [if_pos e,if_pos (h1.symm.trans e)];exact⟨h1,h2,ry⟩
  .rw [if_neg e,if_neg (fun z=>e (h1.trans z))];exact⟨h1,h2,h3⟩
theorem KT.put {H:Hp} {kvs:List (List Key × V)} {xs:List (List Key × Addr × Value)} (r:KT H kvs xs) (k:List Key) {b:Addr} {y:V} {u:Value} (hb:H b=some (.tup (k.map kV))) (ry:qb6 y u):
  KT H (qdj kvs k y) (storedH xs k b u):=by
 have e:(kvs.any fun kv=>decide (kv.1=k))=(atKey xs k).isSome:=by
  rw [qch,(r.val k).isSome_eq,Option.isSome_map]
 unfold qdj storedH
 rw [e]
 by_cases q:(atKey xs k).isSome=true
 .rw [if_pos q,if_pos q];exact r.repl k ry
 .rw [if_neg q,if_neg q];exact Paired.snoc r ⟨rfl,hb,ry⟩
theorem KT.keeps {H H':Hp} {kvs:List (List Key × V)} {xs:List (List Key × Addr × Value)} (r:KT H kvs xs) (ht:∀b ys,H b=some (.tup ys)->H' b=some (.tup ys)):KT H' kvs xs:=
 Paired.mapP r fun _ _ z=>⟨z.1,ht _ _ z.2.1,z.2.2⟩
section
variable {P: Program} {w: World} {H: Hp} {h: Heap} {a: Addr}
theorem rd_of {u:HO} (ok:HOk P w H h) (e:Rd H a u):qbg P w H h a u:=e.ok ok
theorem qes {kvs:List (Key × V)} (ok:HOk P w H h) (e:Rd H a (.dK kvs)):kvs.length<=sizeLine/\(a==sysModules)=false/\∃vs,KV kvs vs/\h.DictOf (qb7 P w) a vs:=
 show qbg P w H h a (.dK kvs) from rd_of ok e
theorem dk_of {kvs:List (Key × V)} (ok:HOk P w H h) (e:H a=some (.dK kvs)):kvs.length<=sizeLine/\(a==sysModules)=false/\∃vs,KV kvs vs/\h.DictOf (qb7 P w) a vs:=qes ok (.inl e)
theorem key_of {ks:List Key} (ok:HOk P w H h) (e:H a=some (.tup (ks.map kV))):(tupleKind (qb7 P w)).is h ks a:=by
 obtain⟨_,its,r,o,h1,h2,n,h3⟩:=(show qbg P w H h a (.tup (ks.map kV)) from ok a _ e)
 exact⟨o,its.toArray,n,h1,h2,h3,by simpa using items_are r⟩
theorem dt_rd {kvs:List (List Key × V)} (ok:HOk P w H h) (e:Rd H a (.dT kvs)):kvs.length<=sizeLine/\(a==sysModules)=false/\
  ∃xs,KT H kvs xs/\h.DictOfH (tupleKind (qb7 P w)) a xs:=by
 obtain⟨z,y,xs,r,o,es,ep,h1,h2,h3,h4,h5⟩:=(show qbg P w H h a (.dT kvs) from rd_of ok e)
 refine⟨z,y,xs,r,o,es,ep,h1,h2,h3,h4,fun x hx=>?_,h5⟩
 have all:∀{l:List (List Key × V)} {m:List (List Key × Addr × Value)},KT H l m->∀x∈m,(tupleKind (qb7 P w)).is h x.1 x.2.1:=by
  intro l m q
  induction q with
  |nil=>intro x hx;exact nomatch hx
  | @cons p q ps qs hq t ih=>
   intro x hx
   rcases mem_cons.mp hx with e|hx
   .subst e
    exact key_of ok (by rw [<-hq.1];exact hq.2.1)
   .exact ih x hx
 exact all r x hx
theorem dt_of {kvs:List (List Key × V)} (ok:HOk P w H h) (e:H a=some (.dT kvs)):kvs.length<=sizeLine/\(a==sysModules)=false/\
  ∃xs,KT H kvs xs/\h.DictOfH (tupleKind (qb7 P w)) a xs:=dt_rd ok (.inl e)
end
def DGet (H:Hp) (a:Addr) (y:V) (r:Option V):Prop:=
 (∃kvs k,Rd H a (.dK kvs)/\y=kV k/\r=qcx kvs k)\/∃kvs k b,Rd H a (.dT kvs)/\y=.ref b/\H b=some (.tup (k.map kV))/\r=qcx kvs k
def DPut (H:Hp) (a:Addr) (y v:V) (H':Hp):Prop:=
 (∃kvs k,H a=some (.dK kvs)/\y=kV k/\kvs.length < sizeLine/\H'=upd H a (.dK (qdj kvs k v)))\/
 ∃kvs k b,H a=some (.dT kvs)/\y=.ref b/\H b=some (.tup (k.map kV))/\kvs.length < sizeLine/\H'=upd H a (.dT (qdj kvs k v))
theorem DPut.k {H:Hp} {a:Addr} {kvs:List (Key × V)} {k:Key} {v:V} (e:H a=some (.dK kvs)) (hl:kvs.length < sizeLine):DPut H a (kV k) v (upd H a (.dK (qdj kvs k v))):=.inl ⟨kvs,k,e,rfl,hl,rfl⟩
section
variable {X: Cx} {pins: List (Addr × Obj)} {σ: St} {H: Hp} {s: Shared} {a: Addr} {y v: V} {u r: Value} {o: Option V} {A: Around} {E: Value -> Shared -> Prop}
theorem Inv.big (I:Inv X pins σ H s):sysModules < s.heap.objs.size:=by
 have h:mainGlobals < s.heap.objs.size:=(I.mod.glob.keeps I.bk).lt
 exact Nat.lt_trans (by decide) h
theorem d_getItem {Q:Value->Shared->Prop} (hu:A.units+1 < cLine) (I:Inv X pins σ H s) (g:DGet H a y (some v)) (ry:qb6 y u) (h:∀w' s',Inv X pins σ H s'->qb6 v w'->Q w' s'):
  wpAny (model X.prog X.w) A (getItem (.ref a) u) Q E s:=by
 rcases g with ⟨kvs,k,e,ey,l⟩ |⟨kvs,k,b,e,ey,eb,l⟩
 .subst ey
  obtain⟨z,hd,vs,rel,dd⟩:=qes I.hok e
  obtain⟨w',hw,rw'⟩:=qe5.some_of (v:=v) (o:=valueAt vs k) (by rw [l];exact rel.val k)
  exact wpAny_getItem_of (kV_is ry) dd.mapOf hw (h w' _ (I.tok _) rw')
 .subst ey
  cases (show u=Value.ref b from ry)
  obtain⟨z,hd,xs,rel,dd⟩:=dt_rd I.hok e
  obtain⟨w',hw,rw'⟩:=qe5.some_of (v:=v) (o:=(atKey xs k).map (·.2)) (by rw [l];exact rel.val k)
  obtain⟨p,hp,hp2⟩:=Option.map_eq_some_iff.mp hw
  refine wpAny_getItem_heap (tupleKind_room_in1 hu) (key_of I.hok eb) dd hp ?_
  rw [hp2]
  exact h w' _ (I.tok _) rw'
theorem d_in {Q:Value->Shared->Prop} (hu:A.units+1 < cLine) (I:Inv X pins σ H s) (g:DGet H a y o) (ry:qb6 y u) (h:∀s',Inv X pins σ H s'->Q (.bool o.isSome) s'):
  wpAny (model X.prog X.w) A (compareOp .In u (.ref a)) Q E s:=by
 rcases g with ⟨kvs,k,e,ey,l⟩ |⟨kvs,k,b,e,ey,eb,l⟩
 .subst ey
  obtain⟨z,hd,vs,rel,dd⟩:=qes I.hok e
  refine wpAny_in_of (kV_is ry) hd dd.mapOf ?_
  rw [<-(rel.val k).isSome_eq,<-l]
  exact h _ (I.tok _)
 .subst ey
  cases (show u=Value.ref b from ry)
  obtain⟨z,hd,xs,rel,dd⟩:=dt_rd I.hok e
  refine wpAny_in_heap (tupleKind_room_in1 hu) (key_of I.hok eb) hd dd ?_
  have q:=(rel.val k).isSome_eq
  rw [Option.isSome_map] at q
  rw [<-q,<-l]
  exact h _ (I.tok _)
theorem d_write {h':Heap} {t':Nat} {ob:HO} (I:Inv X pins σ H s) (mu:Mut (H a)) (hs:Heap.SameBut a s.heap h') (he:∃q,h'.get? a=some q) (new:qbg X.prog X.w (upd H a ob) h' a ob):
  Inv X pins σ (upd H a ob) {s with heap:=h',toks:=t'}:=
 I.write (x:=a) (e:=a) mu (.inl rfl) (fun b q hb z=>(hs.2 b hb).trans z) he new
theorem dk_new {P:Program} {w:World} {H':Hp} {h':Heap} {kvs:List (Key × V)} {vs:List (Key × Value)} (z:kvs.length<=sizeLine) (hd:(a==sysModules)=false) (rel:KV kvs vs) (dd:h'.DictOf (qb7 P w) a vs):
  qbg P w H' h' a (.dK kvs):=⟨z,hd,vs,rel,dd⟩
theorem d_setItem {H':Hp} {Q:Unit->Shared->Prop} (hu:A.units+1 < cLine) (I:Inv X pins σ H s) (g:DPut H a y v H') (ry:qb6 y u) (rv:qb6 v r) (h:∀s',Inv X pins σ H' s'->Q () s'):
  wpAny (model X.prog X.w) A (setItem (.ref a) u r) Q E s:=by
 rcases g with ⟨kvs,k,e,ey,l,eH⟩ |⟨kvs,k,b,e,ey,eb,l,eH⟩
 .subst ey eH
  obtain⟨z,hd,vs,rel,dd⟩:=dk_of I.hok e
  have hz:vs.length<=sizeLine:=by rw [<-rel.length];exact z
  have hl:(qdj kvs k v).length<=sizeLine:=by have:=qbr kvs k v;omega
  refine wpAny_setItem_pairs (hsz:=hz) (kV_is ry) dd fun h' dd' hs=>h _ ?_
  have he:∃q,h'.get? a=some q:=let ⟨q,_,_,hq,_⟩:=dd';⟨q,hq⟩
  exact d_write I (by rw [e];exact True.intro) hs he (dk_new hl hd (rel.put k rv) dd')
 .subst ey eH
  cases (show u=Value.ref b from ry)
  obtain⟨z,hd,xs,rel,dd⟩:=dt_of I.hok e
  have hz:xs.length<=sizeLine:=by rw [<-Paired.length rel];exact z
  have hl:(qdj kvs k v).length<=sizeLine:=by have:=qbr kvs k v;omega
  refine wpAny_setItem_heap (hsz:=hz) (tupleKind_room_in1 hu) (key_of I.hok eb) dd fun h' dd' hs=>h _ ?_
  obtain⟨q,es,ep,hq,h2,h3,h4,_,h5⟩:=dd'
  refine d_write I (by rw [e];exact True.intro) hs ⟨q,hq⟩ ⟨hl,hd,_,(rel.put k eb rv).keeps fun c ys ec=>?_,q,es,ep,hq,h2,h3,h4,h5⟩
  rw [qa9 (ne_of ec e (fun z=>nomatch z))]
  exact ec
end
section
variable {X: Cx} {pins: List (Addr × Obj)} {σ: St} {H: Hp} {s: Shared} {a: Addr} {kvs: List (Key × V)} {A: Around} {E: Value -> Shared -> Prop}
theorem d_len {Q:Value->Shared->Prop} (I:Inv X pins σ H s) (e:Rd H a (.dK kvs)) (h:∀t s',Inv X pins σ H s'->Q (.int kvs.length t) s'):wpAny (model X.prog X.w) A (call (.builtin "len") [.ref a]) Q E s:=by
 obtain⟨z,hd,vs,rel,dd⟩:=qes I.hok e
 refine call_len_dict hd dd (by rw [<-rel.length];rw [sizeLine_eq] at z;omega) ?_
 rw [<-rel.length]
 exact h _ _ (I.tok _)
end
def NoSl (i:Expr):Prop:=∀ov iv,subscripted i false ov iv=operate [ov,iv] (getItem ov iv)
theorem subD_of {prog:Program} {w:World} {A:Around} {E:Value->Shared->Prop} {s:Shared} {env:Env} {value slice:Expr} {pos:Pos} {T id:String} {Q:Value->Shared->Prop}
  (hl:typeLookup (.type T) "__getitem__" =pure (some (.builtin id))) (hs:NoSl slice)
  (h:wpAny (model prog w) A (eval value env) (fun o s₁=>wpAny (model prog w) A (eval slice env) (fun i s₂=>s₂.TypeIs o T/\wpAny (model prog w) A (getItem o i) Q E s₂) E s₁) E s):
  wpAny (model prog w) A (eval (.Subscript value slice pos) env) Q E s:=by
 refine Subscript_ (wpAny_mono h (fun o s₁ h₁=>wpAny_mono h₁ (fun i s₂ h₂=>?_) fun _ _ x=>x) fun _ _ x=>x)
 obtain⟨hT,h₂⟩:=h₂
 unfold subscriptTail
 refine wpAny_bind ?_
 rw [getitemInPython_of_ne hT.not_modules]
 refine wpAny_bind (wpAny_specialOf hT hl ?_)
 have fin:wpAny (model prog w) A (subscripted slice false o i) (fun r s₃=>wpAny (model prog w) A (letTemporaryGo value o r >>= fun _=>pure r) Q E s₃) E s₂:=by
  rw [hs o i]
  exact wpAny_operating (wpAny_mono h₂ (fun r s₃ h₃=>wpAny_bind (wpAny_letTemporaryGo (wpAny_pure h₃))) fun _ _ x=>x)
 first
  |exact wpAny_pure (wpAny_bind fin)
  |exact wpAny_bind (wpAny_pure (wpAny_bind fin))
  |exact wpAny_bind fin
theorem dict_typeIs {X:Cx} {pins:List (Addr × Obj)} {σ:St} {H:Hp} {s:Shared} {a:Addr} {y:V} {o:Option V} (I:Inv X pins σ H s) (g:DGet H a y o):s.TypeIs (.ref a) "dict":=by
 rcases g with ⟨kvs,k,e,_,_⟩ |⟨kvs,k,b,e,_,_,_⟩
 .obtain⟨_,_,vs,_,dd⟩:=qes I.hok e
  exact dd.typeIs
 .obtain⟨_,_,xs,_,dd⟩:=dt_rd I.hok e
  exact dd.typeIs
def tDGet (td ty:TE):TE:=fun σ H Q=>td σ H fun x H1=>ty σ H1 fun y H2=>∃a v,x=.ref a/\DGet H2 a y (some v)/\Q v H2
def tDIn (ty td:TE):TE:=fun σ H Q=>ty σ H fun y H1=>td σ H1 fun x H2=>∃a o,x=.ref a/\DGet H2 a y o/\Q (.bl o.isSome) H2
def sDPut (td ty tv:TE):TS:=fun D σ H=>tv σ H fun v H1=>td σ H1 fun x H2=>ty σ H2 fun y H3=>∃a H4,x=.ref a/\DPut H3 a y v H4/\D.nx σ H4
section
variable {X: Cx} {o i value: Expr} {pos pos': Pos} {td ty tv: TE}
theorem qck (hu:X.A.units+1 < cLine) (ho:PE X o td) (hi:PE X i ty) (hs:NoSl i):PE X (.Subscript o i pos) (tDGet td ty):=by
 intro pins s σ H Q I h
 refine subD_of PySem.F.slot_dict_getitem.lookup hs (thn (ho pins s σ H _ I h) fun u s1 ⟨x,H1,I1,rx,q1⟩=>thn (hi pins s1 σ H1 _ I1 q1) fun iv s2 ⟨y,H2,I2,ry,a,v,ex,g,q2⟩=>?_)
 subst ex
 obtain rfl:u=Value.ref a:=rx
 exact⟨dict_typeIs I2 g,d_getItem hu I2 g ry fun w' s3 I3 rw'=>⟨v,H2,I3,rw',q2⟩⟩
theorem pc_din (hu:X.A.units+1 < cLine) (hi:PE X i ty) (ho:PE X o td):PC X .In i o (tDIn ty td):=by
 intro pins s σ H Q I h
 refine thn (hi pins s σ H _ I h) fun iv s1 ⟨y,H1,I1,ry,q1⟩=>thn (ho pins s1 σ H1 _ I1 q1) fun u s2 ⟨x,H2,I2,rx,a,ov,ex,g,q2⟩=>?_
 subst ex
 obtain rfl:u=Value.ref a:=rx
 exact d_in hu I2 g ry fun s3 I3=>⟨.bl ov.isSome,H2,I3,rfl,q2⟩
theorem qdx (hu:X.A.units+1 < cLine) (ho:PE X o td) (hi:PE X i ty) (hv:PE X value tv) (hs:swapsWith value (some (.Subscript o i pos')) pos.line X.env=pure false):
  PS X (.Assign [.Subscript o i pos'] value pos) (sDPut td ty tv):=by
 intro pins s σ H D I h
 refine wpAny_Assign_Subscript (thn (hv pins s σ H _ I h) fun r s1 ⟨v,H1,I1,rv,q1⟩=>thn (ho pins s1 σ H1 _ I1 q1) fun u s2 ⟨x,H2,I2,rx,q2⟩=>thn (hi pins s2 σ H2 _ I2 q2) fun iv s3 ⟨y,H3,I3,ry,a,H4,ex,g,q3⟩=>?_) hs
 subst ex
 obtain rfl:u=Value.ref a:=rx
 exact d_setItem hu I3 g ry rv fun s4 I4=>⟨σ,H4,I4,q3⟩
end
theorem dk_empty {P:Program} {w:World} {H:Hp} (h:Heap) (hb:sysModules < h.objs.size):qbg P w H (h.push {cls:=.type "dict",data:=.dict #[]}) h.objs.size (.dK []):=
 ⟨Nat.zero_le _,beq_eq_false_iff_ne.mpr (Ne.symm (Nat.ne_of_lt hb)), [],.nil,Heap.DictOf.new h⟩
def tDNewK:TE:=fun _ H Q=>∀p,H p=none->Q (.ref p) (upd H p (.dK []))
section
variable {X: Cx} {pos: Pos}
theorem qct:PE X (.Dict [] [] pos) tDNewK:=fun pins s σ H Q I h=>
 wpAny_Dict_empty ⟨.ref s.heap.objs.size,_,I.laid (a:=s.heap.objs.size) (o:=.dK []) (t':=s.toks) (fun _ _ q=>Heap.get?_push_of_some _ q) (Nat.le_refl _) (dk_empty s.heap I.big),rfl,h _ (I.hok.fresh (Nat.le_refl _))⟩
end
def tPairs:List (TE × TE)->St->Hp->(List (V × V)->Hp->Prop)->Prop
 | [],_,H,Q=>Q [] H
 |(tk,tv) :: r,σ,H,Q=>tk σ H fun x H1=>tv σ H1 fun y H2=>tPairs r σ H2 fun ps H3=>Q ((x,y) :: ps) H3
abbrev VV:List (V × V)->List (Value × Value)->Prop:=Paired fun p q=>qb6 p.1 q.1/\qb6 p.2 q.2
def PPs (X:Cx) (pos:Pos) (keys:List (Option Expr)) (values:List Expr) (trs:List (TE × TE)):Prop:=
 ∀(pins:List (Addr × Obj)) (s:Shared) (σ:St) (H:Hp) (Q:List (V × V)->Hp->Prop),Inv X pins σ H s->tPairs trs σ H Q->
  wpAny (model X.prog X.w) X.A (evalPairs (pairTrees keys values X.env pos)) (fun vs s'=>∃ps H',Inv X pins σ H' s'/\VV ps vs/\Q ps H') X.xe s
theorem pps_nil {X:Cx} {pos:Pos}:PPs X pos [] [] []:=fun pins s σ H Q I h=>pairTrees_nil_walk ⟨[],H,I,.nil,h⟩
theorem pps_cons {X:Cx} {pos:Pos} {k v:Expr} {ks:List (Option Expr)} {vs:List Expr} {tk tv:TE} {trs:List (TE × TE)} (hk:PE X k tk) (hv:PE X v tv) (hr:PPs X pos ks vs trs):
  PPs X pos (some k :: ks) (v :: vs) ((tk,tv) :: trs):=fun pins s σ H Q I h=>
 pairTrees_cons_walk (thn (hk pins s σ H _ I h) fun u s1 ⟨x,H1,I1,rx,q1⟩=>thn (hv pins s1 σ H1 _ I1 q1) fun w2 s2 ⟨y,H2,I2,ry,q2⟩=>
  thn (hr pins s2 σ H2 _ I2 q2) fun ws s3 ⟨ps,H3,I3,rel,q3⟩=>⟨(x,y) :: ps,H3,I3,.cons ⟨rx,ry⟩ rel,q3⟩)
def qf6 (kvs more:List (Key × V)):List (Key × V):=more.foldl (fun acc kv=>qdj acc kv.1 kv.2) kvs
theorem KV.merge:∀{more:List (Key × V)} {rs:List (Key × Value)} {kvs:List (Key × V)} {vs:List (Key × Value)},KV more rs->KV kvs vs->KV (qf6 kvs more) (merged vs rs):=by
 intro more rs kvs vs r
 unfold KV at r
 induction r generalizing kvs vs with
 |nil=>intro q;exact q
 | @cons p q ps qs h t ih=>
  intro r0
  have e:KV (qdj kvs p.1 p.2) (stored vs q.1 q.2):=by
   have:=r0.put p.1 h.2
   rw [<-h.1];exact this
  exact ih e
theorem qdt:∀(more kvs:List (Key × V)),(qf6 kvs more).length<=kvs.length+more.length
 | [],kvs=>by show kvs.length<=kvs.length+0;omega
 |p :: r,kvs=>by
  have h1:=qdt r (qdj kvs p.1 p.2)
  have h2:=qbr kvs p.1 p.2
  show (qf6 (qdj kvs p.1 p.2) r).length<=_
  rw [length_cons];omega
theorem qfb {P:Program} {w:World}:∀{kvs:List (Key × V)} {ws:List (Value × Value)},VV (kvs.map fun kv=>(kV kv.1,kv.2)) ws->∃rs,Carries (qb7 P w) ws rs/\KV kvs rs
 | [],_,r=>by rw [List.map_nil] at r;cases r;exact⟨[],True.intro,.nil⟩
 |p :: kvs,_,r=>by
  rw [map_cons] at r
  cases r with
  | @cons a b as bs h t=>
   obtain⟨rs,c,q⟩:=qfb (P:=P) (w:=w) t
   obtain⟨b1,b2⟩:=b
   exact⟨(p.1,b2) :: rs,⟨kV_is h.1,rfl,c⟩,.cons ⟨rfl,h.2⟩ q⟩
def tDisp (trs:List (TE × TE)):TE:=fun σ H Q=>∀p,H p=none->tPairs trs σ (upd H p (.dK [])) fun ps H2=>H2 p=some (.dK [])/\∃kvs:List (Key × V),ps=kvs.map (fun kv=>(kV kv.1,kv.2))/\kvs.length<=15/\Q (.ref p) (upd H2 p (.dK (qf6 [] kvs)))
theorem pe_disp {X:Cx} {pos:Pos} {keys:List (Option Expr)} {values:List Expr} {trs:List (TE × TE)} (h:PPs X pos keys values trs) (hall:keys.all (·.isSome)=true) (hl:keys.length=values.length) (h0:keys≠ [])
  (h15:keys.length<=15):PE X (.Dict keys values pos) (tDisp trs):=by
 intro pins s σ H Q I q
 have hn:=I.hok.fresh (Nat.le_refl s.heap.objs.size)
 have I1:=I.laid (a:=s.heap.objs.size) (o:=.dK []) (h':=s.heap.push {cls:=.type "dict",data:=.dict #[]}) (t':=s.toks) (fun _ _ q=>Heap.get?_push_of_some _ q) (Nat.le_refl _) (dk_empty s.heap I.big)
 refine wpAny_Dict_walk (knd:=qb7 X.prog X.w) hall hl h0 h15 (thn (h pins _ σ _ _ I1 (q _ hn)) fun ws s2 ⟨ps,H2,I2,rel,e,kvs,ep,lk,q2⟩=>?_)
 subst ep
 obtain⟨rs,c,rk⟩:=qfb (P:=X.prog) (w:=X.w) rel
 obtain⟨z,hd,vs0,r0,dd⟩:=dk_of I2.hok e
 cases r0
 refine⟨rs,c,dd,fun h' dd' hs=>⟨.ref s.heap.objs.size,_,?_,rfl,q2⟩⟩
 have hz:(qf6 [] kvs).length<=sizeLine:=by
  have h1:=qdt kvs []
  rw [length_nil] at h1
  rw [sizeLine_eq];omega
 have he:∃q,h'.get? s.heap.objs.size=some q:=let ⟨q,_,_,hq,_⟩:=dd';⟨q,hq⟩
 exact d_write I2 (by rw [e];exact True.intro) hs he (dk_new hz hd (rk.merge .nil) dd')
structure M1 (X:Cx) (o:Expr) (m:Str) (apos:Pos) (e:Expr) (cpos:Pos):Prop where
 base:attributeBase o m X.env (eval o X.env)=eval o X.env
 few:((backTo cpos (starEach [e] X.env)).all (fun x=>!x.1) && (backToKw cpos (keywordEach [] X.env)).all (fun x=>x.1.isSome)
  && decide (([e]:List Expr).length+([]:List Keyword).length+(if ([]:List Keyword).isEmpty then 0 else 1) < 30))=true
 line:(apos.endLine==cpos.line)=true
 trees:backTo cpos (starEach [e] X.env)=[(false,eval e X.env)]
structure M2 (X:Cx) (o:Expr) (m:Str) (apos:Pos) (e f:Expr) (cpos:Pos):Prop where
 base:attributeBase o m X.env (eval o X.env)=eval o X.env
 few:((backTo cpos (starEach [e,f] X.env)).all (fun x=>!x.1) && (backToKw cpos (keywordEach [] X.env)).all (fun x=>x.1.isSome)
  && decide (([e,f]:List Expr).length+([]:List Keyword).length+(if ([]:List Keyword).isEmpty then 0 else 1) < 30))=true
 line:(apos.endLine==cpos.line)=true
 trees:backTo cpos (starEach [e,f] X.env)=[(false,eval e X.env),(false,eval f X.env)]
def IsD (H:Hp) (a:Addr):Prop:=(∃kvs,Rd H a (.dK kvs))\/∃kvs,Rd H a (.dT kvs)
theorem isD_at {X:Cx} {pins:List (Addr × Obj)} {σ:St} {H:Hp} {s:Shared} {a:Addr} (I:Inv X pins σ H s) (d:IsD H a):
  s.TypeIs (.ref a) "dict"/\(∀b,Value.ref a=.ref b->∃ob,s.heap.get? b=some ob/\ob.dict=none)/\(a==sysModules)=false:=by
 rcases d with ⟨kvs,e⟩ |⟨kvs,e⟩
 .obtain⟨_,hd,vs,_,dd⟩:=qes I.hok e
  refine⟨dd.typeIs,fun b q=>?_,hd⟩
  cases q
  obtain⟨ob,_,_,h1,h2,_⟩:=dd
  exact⟨ob,h1,h2.2.1⟩
 .obtain⟨_,hd,xs,_,dd⟩:=dt_rd I.hok e
  refine⟨dd.typeIs,fun b q=>?_,hd⟩
  cases q
  obtain⟨ob,_,_,h1,h2,_⟩:=dd
  exact⟨ob,h1,h2.2.1⟩
section
variable {X: Cx} {pins: List (Addr × Obj)} {σ: St} {H: Hp} {s: Shared} {a: Addr} {y d: V} {u r: Value} {o: Option V} {A: Around} {E: Value -> Shared -> Prop}
theorem d_get2 {Q:Value->Shared->Prop} (hu:A.units+1 < cLine) (I:Inv X pins σ H s) (g:DGet H a y o) (ry:qb6 y u) (rd:qb6 d r) (h:∀w' s',Inv X pins σ H s'->qb6 (o.getD d) w'->Q w' s'):
  wpAny (model X.prog X.w) A (call (.builtin "dict.get") [.ref a,u,r]) Q E s:=by
 rcases g with ⟨kvs,k,e,ey,l⟩ |⟨kvs,k,b,e,ey,eb,l⟩
 .subst ey
  obtain⟨z,hd,vs,rel,dd⟩:=qes I.hok e
  refine call_meetsIn PySem.F.slot_dict_get dd.typeIs PySem.F.entry_dict_get (PySem.F.args_dict_get_3 _ _ _) (meets_dict_get_default (qb7 X.prog X.w) a (kV_is ry) hd r) ⟨_,dd.mapOf,h _ _ (I.tok _) ?_⟩
  rw [l]
  exact(rel.val k).getD rd
 .subst ey
  cases (show u=Value.ref b from ry)
  obtain⟨z,hd,xs,rel,dd⟩:=dt_rd I.hok e
  refine call_meetsIn PySem.F.slot_dict_get dd.typeIs PySem.F.entry_dict_get (PySem.F.args_dict_get_3 _ _ _) (meetsH_dict_get_default (tupleKind (qb7 X.prog X.w)) a b hd r) ⟨tupleKind_room_in1 hu,k,xs,key_of I.hok eb,dd,h _ _ (I.tok _) ?_⟩
  rw [l]
  exact(rel.val k).getD rd
end
def tDGet2 (td ty tx:TE):TE:=fun σ H Q=>td σ H fun x H1=>∃a,x=.ref a/\IsD H1 a/\ty σ H1 fun y H2=>tx σ H2 fun z H3=>∃o,DGet H3 a y o/\Q (o.getD z) H3
section
variable {X: Cx} {o e f: Expr} {apos cpos: Pos} {td ty tx: TE}
theorem qda (hu:X.A.units+1 < cLine) (ho:PE X o td) (he:PE X e ty) (hf:PE X f tx) (m:M2 X o "get" apos e f cpos):PE X (.Call (.Attribute o "get" apos) [e,f] [] cpos) (tDGet2 td ty tx):=by
 intro pins s σ H Q I h
 refine wpAny_Call_method m.base m.few m.line PySem.F.plainAttrs_dict PySem.F.slot_dict_get PySem.F.type_dict_get (thn (ho pins s σ H _ I h) fun u s1 ⟨x,H1,I1,rx,a,ex,d,q1⟩=>?_)
 subst ex
 obtain rfl:u=Value.ref a:=rx
 obtain⟨t1,t2,_⟩:=isD_at I1 d
 refine⟨t1,t2,?_⟩
 rw [m.trees]
 refine Calls.callWith_builtin rfl (Calls.evalArgs_plain (Calls.spliced_cons (thn (he pins s1 σ H1 _ I1 q1) fun iv s2 ⟨y,H2,I2,ry,q2⟩=>
  Calls.spliced_cons (thn (hf pins s2 σ H2 _ I2 q2) fun fv s3 ⟨z,H3,I3,rz,ov,g,q3⟩=>Calls.spliced_nil ?_))))
 exact d_get2 hu I3 g ry rz fun w' s4 I4 rw'=>⟨_,H3,I4,rw',q3⟩
end
section
variable {X: Cx} {pins: List (Addr × Obj)} {σ: St} {H: Hp} {s: Shared} {a: Addr} {kvs: List (Key × V)} {A: Around} {E: Value -> Shared -> Prop}
theorem d_copyOf {Q:Value->Shared->Prop} (I:Inv X pins σ H s) (e:Rd H a (.dK kvs)) (h:∀p s',H p=none->Inv X pins σ (upd H p (.dK kvs)) s'->Q (.ref p) s'):wpAny (model X.prog X.w) A (call (.type "dict") [.ref a]) Q E s:=by
 obtain⟨z,hd,vs,rel,dd⟩:=qes I.hok e
 refine kt_call_dict hd dd (by rw [<-rel.length];exact z) fun h' dd' hs=>?_
 refine h _ _ (I.hok.fresh (Nat.le_refl _)) (I.laid (a:=s.heap.objs.size) (o:=.dK kvs) (t':=s.toks) (fun b q hq=>?_) (Nat.le_refl _) (dk_new z (beq_eq_false_iff_ne.mpr (Ne.symm (Nat.ne_of_lt I.big))) rel dd'))
 exact(hs.2 b (Nat.ne_of_lt (Heap.lt_size hq))).trans (Heap.get?_push_of_some _ hq)
end
section
variable {X: Cx}
theorem call_lenD:qcb X (.builtin "len") (fun xs H Q=>∃a kvs,xs=[V.ref a]/\H a=some (.dK kvs)/\Q (.int kvs.length) H):=by
 intro pins s σ H xs us Q I r h
 obtain⟨a,kvs,rfl,ha,q⟩:=h
 obtain⟨u,rfl,ru⟩:=vals1 r
 cases ru
 exact d_len I (.inl ha) fun t s' I'=>⟨.int kvs.length,H,I',⟨t,rfl⟩,q⟩
end
section
variable {κ: Type} [DecidableEq κ]
theorem valV_not {kvs:List (κ × V)} {k:κ} (h:qcx kvs k=none):¬k∈kvs.map (·.1):=by
 intro m
 obtain⟨p,hp,e⟩:=mem_map.mp m
 have q:(kvs.any fun kv=>decide (kv.1=k))=true:=List.any_eq_true.mpr ⟨p,hp,decide_eq_true e⟩
 rw [qch,h] at q
 exact absurd q (by simp)
theorem valV_in {kvs:List (κ × V)} {k:κ} {v:V} (h:qcx kvs k=some v):k∈kvs.map (·.1):=by
 have q:(kvs.any fun kv=>decide (kv.1=k))=true:=by
  rw [qch,h]
  all_goals rfl
 obtain⟨p,hp,e⟩:=List.any_eq_true.mp q
 exact mem_map.mpr ⟨p,hp,of_decide_eq_true e⟩
theorem nd_snoc:∀{l:List κ} {k:κ},l.Nodup->¬k∈l->(l++ [k]).Nodup
 | [],k,_,_=>by simp
 |a :: r,k,h,hk=>by
  obtain⟨h1,h2⟩:=nodup_cons.mp h
  show (a ::(r++ [k])).Nodup
  refine nodup_cons.mpr ⟨fun m=>?_,nd_snoc h2 fun m=>hk (mem_cons.mpr (Or.inr m))⟩
  rcases mem_append.mp m with q|q
  .exact h1 q
  .exact hk (mem_cons.mpr (Or.inl (mem_singleton.mp q).symm))
theorem nd_putK {kvs:List (κ × V)} {k:κ} (v:V) (hn:(kvs.map (·.1)).Nodup) (h:qcx kvs k=none):((qdj kvs k v).map (·.1)).Nodup:=by
 rw [putK_new v h,map_append]
 exact nd_snoc hn (valV_not h)
end
end L2
namespace My
open PySem PySem.Spec PyProof.Rows L2
theorem qdc {α:Type} {β:Type} [BEq α] [LawfulBEq α]:∀{l:List (α × β)} {x:α} {v:β},l.lookup x=some v->(x,v)∈l
 |(a,b) :: l,x,v,h=>by
  rw [List.lookup_cons] at h
  cases e:x==a with
  |true=>rw [e] at h;have e':=eq_of_beq e;have h':b=v:=Option.some.inj h;subst e' h';exact mem_cons_self
  |false=>rw [e] at h;exact mem_cons_of_mem _ (qdc h)
theorem qbw {X:Cx} {x:Str} {scope:Scope} {cl:List (Str × Addr)} {caps:List Nat} {cn:List Str} (h1:closureFor scope X.env=pure cl) (h2:scope.kind=.function) (h3:scope.names.all (fun p=>p.2 !=.cell)=true)
  (h4:scope.names.all (fun p=>p.2 !=.local || scope.names.lookup p.1==some .local)=true) (h5:scope.names.lookup x=some .local) (h6:AllC (fun p=>X.env.cells.lookup p.1=some p.2) cl)
  (h7:(relabel scope X.env).names.all (fun p=>!(p.2==.cell || p.2==.free) ||(cl.lookup p.1).isSome)=true) (h8:caps.length=cn.length)
  (h9:AllC (fun p=>X.N[p.1]?=some p.2/\X.env.kindOf p.2=some .cell/\(relabel scope X.env).names.lookup p.2=some .cell/\X.env.scope.names.lookup p.2=some .cell/\∃c,cl.lookup p.2=some c) (caps.zip cn)) (h10:(x :: cn).Nodup):Caps X x scope cl caps cn:=by
 refine⟨h1,h2,fun y hy z=>?_,fun y hy z=>?_,h5,fun y c e=>AllC.mem h6 _ (qdc e),fun y hy=>?_,h8,fun k y j e1 e2=>?_,h10⟩
 .have q:=all_eq_true.mp h3 y hy
  rw [z] at q
  cases q
 .have q:=all_eq_true.mp h4 y hy
  rw [z] at q
  simpa using q
 .have m:∃k,(y,k)∈(relabel scope X.env).names/\(k=.cell\/k=.free):=by
   rcases hy with hy|hy
   .exact⟨_,qdc hy,.inl rfl⟩
   .exact⟨_,qdc hy,.inr rfl⟩
  obtain⟨k,hm,hk⟩:=m
  have q:=all_eq_true.mp h7 _ hm
  have hk':(k==NameKind.cell || k==NameKind.free)=true:=by rcases hk with rfl|rfl <;> decide
  rw [hk'] at q
  exact Option.isSome_iff_exists.mp (by simpa using q)
 .refine AllC.mem h9 (j,y) ?_
  have hz:(caps.zip cn)[k]?=some (j,y):=by rw [List.getElem?_zip_eq_some];exact⟨e2,e1⟩
  exact mem_of_getElem? hz
section
variable {X: Cx}
theorem pi_str {l:Expr} {tl:TE} {y:Str} {py:Pos} (hl:PE X l tl):PI X (.Name y py) l (iStr tl):=by
 intro pins s σ H R I h
 refine thn (hl pins s σ H _ I h) fun u s1 ⟨v,H1,I1,r,x,ev,q⟩=>?_
 subst ev
 obtain⟨t,rfl⟩:=r
 have hn:H1 s1.heap.objs.size=none:=I1.hok.fresh (Nat.le_refl _)
 have fp:∀b∈ [s1.heap.objs.size],qfy X pins H1 b:=fun b hb=>by
  have e:b=s1.heap.objs.size:=by simpa using hb
  subst e
  exact I1.fpOk (Nat.le_refl _) hn
 cases ha:x.cps.all (·< 128)
 .exact wpAny_pyIter_wide ha ⟨_, [s1.heap.objs.size],fun i h=>h.IsStrIter s1.heap.objs.size "str_iterator" x t i,Its x,H1,rfl,I1.kept (t':=s1.toks) (fun _ _ e=>Heap.get?_push_of_some _ e),
   turn_str x t _ _ (fun A hA=>Walks.strWide hA _ x t) fun A i s' Q' E' st hq=>wpAny_pyIter_striter_wide st hq,⟨_,Heap.get?_push_size _ rfl,rfl,rfl⟩,fp,q⟩
 .exact wpAny_pyIter_ascii ha ⟨_, [s1.heap.objs.size],fun i h=>h.IsStrIter s1.heap.objs.size "str_ascii_iterator" x t i,Its x,H1,rfl,I1.kept (t':=s1.toks) (fun _ _ e=>Heap.get?_push_of_some _ e),
   turn_str x t _ _ (fun A hA=>Walks.strAscii hA _ x t) fun A i s' Q' E' st hq=>wpAny_pyIter_striter_ascii st hq,⟨_,Heap.get?_push_size _ rfl,rfl,rfl⟩,fp,q⟩
def rAll (K:Frag):List V->Hp->VK->Prop:=fun xs H Q=>∃(p:Addr) (bs:List Bool),xs=[.ref p]/\SqL K H p (bs.map V.bl)/\Q (.bl (bs.all id)) H
theorem all_range (bs:List Bool):((List.range bs.length).all fun i=>(bs[i]?).getD true)=bs.all id:=by
 rw [Bool.eq_iff_iff,all_eq_true,all_eq_true]
 constructor
 .intro h b hb
  obtain⟨i,hi,e⟩:=mem_iff_getElem.mp hb
  have q:=h i (mem_range.mpr hi)
  rw [getElem?_eq_getElem hi,e] at q
  exact q
 .intro h i hi
  have hi':=mem_range.mp hi
  rw [getElem?_eq_getElem hi']
  exact h _ (getElem_mem hi')
theorem call_allB (hc:X.calm=true):qcb X (.builtin "all") (rAll X.K):=by
 intro pins s σ H xs us Q I hv h
 obtain⟨p,bs,rfl,hS,q⟩:=h
 obtain⟨u,rfl,ru⟩:=hv.one
 cases ru
 obtain⟨its,rv,pl,hz⟩:=I.list hS
 have hl:=pl.isList
 have hlt:p < s.heap.objs.size:=by obtain⟨_,e,_⟩:=hl;exact Heap.lt_size e
 have hlen:=rv.length
 rw [length_map] at hlen
 refine call_all_walk (wpAny_pyIter_list hl ?_)
 refine⟨s.heap.objs.size, [s.heap.objs.size,p], [s.heap.objs.size],its.toArray.size,_,_,fun i=>(bs[i]?).getD true,rfl,Walks.list (A:=X.A.in1) (I.ok.hd hc) _ p (Nat.ne_of_lt hlt) its.toArray,⟨⟨_,Heap.get?_push_size _ rfl,rfl,rfl⟩,hl.push _⟩,fun i v s' Q' E' hP hQ=>?_,fun h' tk hk=>?_⟩
 .have hi:its[i]?=some v:=by simpa using hP
  have hb:i < bs.length:=by rw [hlen];exact(List.getElem?_eq_some_iff.mp hi).1
  have hx:(bs.map V.bl)[i]?=some (.bl bs[i]):=by rw [getElem?_map,getElem?_eq_getElem hb];rfl
  obtain⟨u,e,r⟩:=rv.get hx
  rw [hi] at e
  cases e
  cases r
  dsimp only at hQ
  rw [getElem?_eq_getElem hb] at hQ
  exact wpAny_truthy_bool hQ
 .have e:((List.range its.toArray.size).all fun i=>(bs[i]?).getD true)=bs.all id:=by
   rw [size_toArray,<-hlen];exact all_range bs
  rw [e]
  exact⟨.bl _,H,I.kept (t':=tk) (fun b o eb=>hk b o (fun hm=>by have z:=Heap.lt_size eb;rw [mem_singleton.mp hm] at z;exact Nat.lt_irrefl _ z) (Heap.get?_push_of_some _ eb)),rfl,q⟩
def rCatS:R2:=fun x y H Q=>∃i j,x=.str i/\y=.str j/\i.length+j.length<=sizeLine/\Q (.str (i++j)) H
theorem op_catS:OpR X (binaryOp .Add) rCatS:=op_add_str
def rInS:R2:=fun x y H Q=>∃i j,x=.str i/\y=.str j/\Q (.bl (!(Builtin.Str.occurrences j i 0 j.length 1).isEmpty)) H
theorem op_inS:OpR X (compareOp .In) rInS:=op_in_str
def rLenS:List V->Hp->VK->Prop:=fun xs H Q=>∃z,xs=[.str z]/\z.length<=sizeLine/\Q (.int z.length) H
theorem call_lenS:qcb X (.builtin "len") rLenS:=call_len_str
end
section
variable {K: Frag} {H: Hp} {Q: VK} {σ: L2.St}
theorem r_chain {r r':R2} {ta tb tc:TE} (h:ta σ H fun x H1=>tb σ H1 fun y H2=>r x y H2 fun z H3=>∃k,z=.bl k/\(if k=true then tc σ H3 fun w' H4=>r' y w' H4 Q else Q (.bl false) H3)):tChain r r' ta tb tc σ H Q:=h
theorem r_all {p:Addr} {bs:List Bool} (hS:SqL K H p (bs.map V.bl)) (h:Q (.bl (bs.all id)) H):rAll K [.ref p] H Q:=⟨p,bs,rfl,hS,h⟩
theorem r_catS {i j:Str} (hn:i.length+j.length<=sizeLine) (h:Q (.str (i++j)) H):rCatS (.str i) (.str j) H Q:=⟨i,j,rfl,rfl,hn,h⟩
theorem r_inS {i j:Str} (h:Q (.bl (!(Builtin.Str.occurrences j i 0 j.length 1).isEmpty)) H):rInS (.str i) (.str j) H Q:=⟨i,j,rfl,rfl,h⟩
theorem r_lenS {z:Str} (hn:z.length<=sizeLine) (h:Q (.int z.length) H):rLenS [.str z] H Q:=⟨z,rfl,hn,h⟩
theorem r_ixS {z:Str} {i:Int} {c:Nat} (hn:z.length<=sizeLine) (e:atI z.cps.toList i=some c) (h:Q (.str ⟨#[c]⟩) H):rIxS (.str z) (.int i) H Q:=⟨z,i,c,rfl,rfl,hn,e,h⟩
theorem r_iS {tl:TE} {R:It->Hp->Prop} (h:tl σ H fun v H1=>rItS v H1 R):iStr tl σ H R:=h
theorem r_itS {x:Str} {R:It->Hp->Prop} (h:R (Its x) H):rItS (.str x) H R:=⟨x,rfl,h⟩
theorem r_comp {wi:TI} {caps:List Nat} {tt:CT TT} {te:CT TE} (h:wi σ H fun J H1=>∀(C:Addr) (s:Shared) (H0:Hp) (fp:List Addr) (acc:Addr),H1 acc=none->COMP J caps (tt C s H0 fp) (te C s H0 fp) acc σ (upd H1 acc (.lst [])) Q):tComp wi caps tt te σ H Q:=h
theorem r_true {Q:Bool->Hp->Prop} (h:Q true H):tTrue σ H Q:=h
theorem r_app {acc:Addr} {N:Hp->Prop} {y:V} {ys:List V} (ha:H acc=some (.lst ys)) (hz:ys.length < sizeLine) (h:N (upd H acc (.lst (ys++ [y])))):rApp acc N y H:=⟨ys,ha,hz,h⟩
theorem c_by {J:It} {caps:List Nat} {tt:TT} {te:TE} {acc:Addr} (n:Nat) (Pv:Nat->Hp->Prop) (h0:Pv 0 H) (hgo:∀i H,i < n->Pv i H->J.go i H) (hst:∀H,Pv n H->J.stop n H)
  (hs:∀i H v H',i < n->Pv i H->J.yld i H v H'->tt (some v :: qaz caps σ) H' fun b H2=>if b=true then te (some v :: qaz caps σ) H2 fun y H3=>rApp acc (Pv (i+1)) y H3 else Pv (i+1) H2)
  (hd:∀H,Pv n H->Q (.ref acc) H):COMP J caps tt te acc σ H Q:=by
 refine⟨fun i m H=>m=n - i/\i<=n/\Pv i H,⟨n,rfl,Nat.zero_le _,h0⟩,?_⟩
 rintro i m H ⟨rfl,hi,p⟩
 by_cases hlt:i < n
 .exact .inr ⟨hgo i H hlt p,Pv (i+1),fun H' p'=>⟨n - (i+1),by omega,rfl,hlt,p'⟩,fun v H' y=>hs i H v H' hlt p y⟩
 .have e:i=n:=by omega
  subst e
  exact .inl ⟨hst H p,hd H p⟩
end
end My
namespace My
open PySem PySem.Spec PyProof.Rows L2
section
variable {X: Cx}
def rRep:R2:=fun x y H Q=>∃z n,x=.str z/\y=.int n/\0<=n/\n<=1/\Q (.str (if n < 1 then Str.empty else z)) H
def rIntB:List V->Hp->VK->Prop:=fun xs H Q=>∃b:Bool,xs=[.bl b]/\Q (.int (if b then 1 else 0)) H
theorem call_intB:qcb X (.type "int") rIntB:=by
 intro pins s σ H xs us Q I r h
 obtain⟨b,rfl,q⟩:=h
 cases r with
 |cons r1 r2=>
  cases r2
  cases r1
  exact call_int_bool ⟨.int _,H,I.tok _,⟨_,rfl⟩,q⟩
end
section
variable {H: Hp} {Q: VK}
theorem r_intB {b:Bool} (h:Q (.int (if b then 1 else 0)) H):rIntB [.bl b] H Q:=⟨b,rfl,h⟩
end
end My
namespace My
open PySem PySem.Spec PyProof.Rows L2
section
variable {prog: Program} {w: World} {A: Around} {E: Value -> Shared -> Prop} {h: Heap} {g: Array GenState} {d: Drawn} {t: Nat} {os: OsState}
variable {nm q: Str} {C N fI: Addr} {bs bm bmB: List Value} {hdct: Bool} {sn: List Str} {sub: List Value} {ab: Bool} {col: Option Bool} {dd: Option Addr} {k0 k1 k2 k3 k5: Option Value} {B Bn newId nid initId inN: String} {bmN: List Value}
def qcv (h:Heap) (C:Addr) (rest:List Value):Heap:=(h.push {cls:=.type "tuple",data:=.seq rest.toArray}).push {cls:=.ref C,data:=.fields #[.ref h.objs.size,.none,.none,.none,.bool false,.none]}
theorem qf1 (Fn:ExcBaseFacts Bn newId inN bmN) (hBn:bmB.contains (.type Bn)=true) (F:ExcBaseFacts B nid initId bmB) (T:OwnTail h bmB bm) {mN:Str->Option Value} {rest:List Value} {Q:Fin->Shared->Prop}
  (hC:h.get? C=some (excClassObj nm q C N bs bm hdct sn sub ab col dd k0 k1 k2 k3 k5 newId)) (hn:h.Ns N mN) (hni:mN "__init__" =some (.ref fI))
  (hb:PySem.W.Looks (model prog w) (qcv h C rest) (bindSpecial (.ref fI) (.ref (h.objs.size+1))) (.ref fI, [.ref (h.objs.size+1)]))
  (hq:wpAny (model prog w) A (call (.ref fI) (.ref (h.objs.size+1) :: rest)) (fun v s'=>v=.none/\Q (.done (.ret (.ref (h.objs.size+1)))) s') E ⟨qcv h C rest,g,d,t,os⟩) (hrest:rest.length<=sizeLine:=by size_fits):
  wpAny (model prog w) A (Builtin.«type.__call__» ⟨.ref C :: rest, []⟩) Q E ⟨h,g,d,t,os⟩:=by
 repeat (first|with_reducible refine wpAny_loadPart_at hC ?_|with_reducible refine wpAny_madeBy_exc hC ?_|wp_step)
 refine codeAny_call_builtin_code (Code.quiet_builtin _ Fn.quiet) (wpAny_check_new_subU Fn hBn T hC ?_)
 refine codeAny_exc_new_subU Fn hBn F T hC ?_ hrest
 show wpAny _ _ _ _ _ _
 have hC₁:=Heap.get?_push_of_some {cls:=.ref C,data:=.fields #[.ref h.objs.size,.none,.none,.none,.bool false,.none]}
  (Heap.get?_push_of_some {cls:=.type "tuple",data:=.seq rest.toArray} hC)
 have hn₁:((h.push {cls:=.type "tuple",data:=.seq rest.toArray}).push {cls:=.ref C,data:=.fields #[.ref h.objs.size,.none,.none,.none,.bool false,.none]}).Ns N mN:=
  let ⟨o,es,ep,e,r⟩:=hn;⟨o,es,ep,Heap.get?_push_of_some _ (Heap.get?_push_of_some _ e),r⟩
 have hget:((h.push {cls:=.type "tuple",data:=.seq rest.toArray}).push
   {cls:=.ref C,data:=.fields #[.ref h.objs.size,.none,.none,.none,.bool false,.none]}).get? (h.objs.size+1)=some
   {cls:=.ref C,data:=.fields #[.ref h.objs.size,.none,.none,.none,.bool false,.none]}:=by heap_get
 have hcC:(Value.ref C :: bm).contains (.ref C)=true:=by simp
 have T₁:=T.keeps (h':=(h.push {cls:=.type "tuple",data:=.seq rest.toArray}).push {cls:=.ref C,data:=.fields #[.ref h.objs.size,.none,.none,.none,.bool false,.none]})
  fun b o e=>Heap.get?_push_of_some _ (Heap.get?_push_of_some _ e)
 unfold isInstance
 repeat (first|with_reducible refine wpAny_loadPart_at hget ?_|(with_reducible refine wpAny_isSubtype_exc hC₁ ?_;rw [hcC]) |wp_step)
 show wpAny _ _ (typeLookup (.ref C) _) _ _ _
 refine wpAny_typeLookup_tail hC₁ hn₁ T₁ F.mroIs F.init.lookup ?_
 rw [hni]
 refine wpAny_holding (wpAny_bind (hb.at ?_))
 refine wpAny_bind (wpAny_mono hq (fun v s' ⟨ev,q⟩=>?_) fun _ _ x=>x)
 subst ev
 wp_walk
 exact q
theorem qfv (Fn:ExcBaseFacts Bn newId inN bmN) (hBn:bmB.contains (.type Bn)=true) (F:ExcBaseFacts B nid initId bmB) (T:OwnTail h bmB bm) {mN:Str->Option Value} {rest:List Value} {Q:Value->Shared->Prop}
  (hC:h.get? C=some (excClassObj nm q C N bs bm hdct sn sub ab col dd k0 k1 k2 k3 k5 newId)) (hn:h.Ns N mN) (hni:mN "__init__" =some (.ref fI))
  (hb:PySem.W.Looks (model prog w) (qcv h C rest) (bindSpecial (.ref fI) (.ref (h.objs.size+1))) (.ref fI, [.ref (h.objs.size+1)]))
  (hq:wpAny (model prog w) (A.under (.builtin "type.__call__" ⟨.ref C :: rest, []⟩)) (call (.ref fI) (.ref (h.objs.size+1) :: rest)) (fun v s'=>v=.none/\Q (.ref (h.objs.size+1)) s') E ⟨qcv h C rest,g,d,t,os⟩) (hrest:rest.length<=sizeLine:=by size_fits):
  wpAny (model prog w) A (call (.ref C) rest) Q E ⟨h,g,d,t,os⟩:=by
 have f1:=tc_lookup
 have f2:=tc_bind (.ref C)
 have hT:(⟨h,g,d,t,os⟩:Shared).TypeIs (.ref C) "type":=⟨_,hC,rfl⟩
 refine wpAny_call (codeAny_of_tree ?_)
 show wpAny _ _ (callAny (.ref C) _) _ _ _
 repeat (any_goals (first|assumption|with_reducible refine wpAny_loadPart_at hC ?_|wp_step))
 refine⟨rfl,?_⟩
 refine codeAny_call_builtin_at (Code.quiet_builtin _ (by decide+kernel)) entry_typeCall (wpAny_check_type_call_sub hC (qf1 (hrest:=hrest) Fn hBn F T hC hn hni hb ?_))
 exact hq
theorem qf2 {env:Env} {M:Model} {s:Shared} {x:Sem Value} {Q:Flow->Shared->Prop} (hbase:bm.contains (.type "BaseException")=true) (hh:A.handled=none)
  (h:wpAny M A x (fun v s₁=>∃e oe,v=.ref e/\s₁.heap.get? C=some (excClassObj nm q C N bs bm hdct sn sub ab col dd k0 k1 k2 k3 k5 newId)/\
   s₁.heap.get? e=some oe/\oe.cls=.ref C/\(∃vs,oe.data=.fields vs/\vs[1]?=some .none)/\E (.ref e) s₁) E s):
  wpAny M A (raiseStmt env (some x) none) Q E s:=by
 have hcB:(Value.ref C :: bm).contains (.type "BaseException")=true:=by rw [List.contains_cons,hbase,Bool.or_true]
 unfold raiseStmt
 refine wpAny_bind (wpAny_mono h (fun v s₁ h₁=>?_) fun _ _ x=>x)
 obtain⟨e,oe,rfl,hC,he,hcls,⟨vs,hd,h1⟩,hE⟩:=h₁
 obtain⟨hp,g,d,tk,os⟩:=s₁
 obtain⟨oc,odd,oda,osl⟩:=oe
 obtain rfl:oc=.ref C:=hcls
 obtain rfl:oda=.fields vs:=hd
 repeat (first|with_reducible refine wpAny_loadPart_at he ?_|with_reducible refine wpAny_loadPart_at hC ?_|(with_reducible refine wpAny_isSubtype_exc hC ?_;rw [hcB]) |wp_step)
 rw [h1]
 refine wpAny_pure ?_
 rw [if_neg (by decide)]
 exact wpAny_pure (wpAny_raiseNew_none hh hE)
theorem qex {env:Env} {s:Shared} (Fn:ExcBaseFacts Bn newId inN bmN) (hBn:bmB.contains (.type Bn)=true) (F:ExcBaseFacts B nid initId bmB) {mN:Str->Option Value} {x:Str} {np cpos pos:Pos} {args:List Expr} {Q:Flow->Shared->Prop}
  (hbase:bm.contains (.type "BaseException")=true) (hh:A.handled=none) (hplain:(backTo cpos (starEach args env)).any (·.1)=false) (hni:mN "__init__" =some (.ref fI))
  (h:wpAny (model prog w) A (eval (.Name x np) env) (fun f s₁=>f=.ref C/\wpAny (model prog w) A (evalArgs (.ref C) true (backTo cpos (starEach args env)) [])
   (fun a s₂=>a.kw=[]/\a.pos.length<=sizeLine/\s₂.heap.get? C=some (excClassObj nm q C N bs bm hdct sn sub ab col dd k0 k1 k2 k3 k5 newId)/\s₂.heap.Ns N mN/\OwnTail s₂.heap bmB bm/\
    PySem.W.Looks (model prog w) (qcv s₂.heap C a.pos) (bindSpecial (.ref fI) (.ref (s₂.heap.objs.size+1))) (.ref fI, [.ref (s₂.heap.objs.size+1)])/\
    wpAny (model prog w) (A.under (.builtin "type.__call__" ⟨.ref C :: a.pos, []⟩)) (call (.ref fI) (.ref (s₂.heap.objs.size+1) :: a.pos))
     (fun v s'=>v=.none/\s'.heap.get? C=some (excClassObj nm q C N bs bm hdct sn sub ab col dd k0 k1 k2 k3 k5 newId)/\(∃oe,s'.heap.get? (s₂.heap.objs.size+1)=some oe/\oe.cls=.ref C/\∃vs,oe.data=.fields vs/\vs[1]?=some .none)/\E (.ref (s₂.heap.objs.size+1)) s') E {s₂ with heap:=qcv s₂.heap C a.pos}) E s₁) E s):
  wpAny (model prog w) A (exec (.Raise (some (.Call (.Name x np) args [] cpos)) none pos) env) Q E s:=by
 rw [arm_exec_Raise]
 first
  |refine wpAny_bind (wpAny_standAt (qf2 (C:=C) (nm:=nm) (q:=q) (N:=N) (bs:=bs) (bm:=bm) (hdct:=hdct) (sn:=sn) (sub:=sub) (ab:=ab) (col:=col) (dd:=dd) (k0:=k0) (k1:=k1) (k2:=k2) (k3:=k3) (k5:=k5) (newId:=newId) hbase hh (wpAny_bind (wpAny_mono (wpAny_Call_ofName (wpAny_mono h (fun f s₁ h₁=>?_) fun _ _ x=>x)) (fun v s₃ h₃=>wpAny_bind (wpAny_standAt (wpAny_pure h₃))) fun _ _ x=>x))))
  |(simp only [evalOpt,Option.map];refine wpAny_bind (wpAny_standAt (qf2 (C:=C) (nm:=nm) (q:=q) (N:=N) (bs:=bs) (bm:=bm) (hdct:=hdct) (sn:=sn) (sub:=sub) (ab:=ab) (col:=col) (dd:=dd) (k0:=k0) (k1:=k1) (k2:=k2) (k3:=k3) (k5:=k5) (newId:=newId) hbase hh (wpAny_bind (wpAny_mono (wpAny_Call_ofName (wpAny_mono h (fun f s₁ h₁=>?_) fun _ _ x=>x)) (fun v s₃ h₃=>wpAny_bind (wpAny_standAt (wpAny_pure h₃))) fun _ _ x=>x)))))
 obtain⟨rfl,h₁⟩:=h₁
 unfold callWith
 refine wpAny_bind (wpAny_holding (wpAny_mono h₁ (fun a s₂ h₂=>wpAny_bind (wpAny_standAt ?_)) fun _ _ x=>x))
 obtain⟨apos,akw⟩:=a
 obtain⟨hkw,hlen,hC,hn,T,hb,h₂⟩:=h₂
 obtain rfl:akw=[]:=hkw
 obtain⟨hp,g,d,tk,os⟩:=s₂
 simp only [hplain]
 refine wpAny_bind (wpAny_keeperOf_exc hC ?_)
 refine wpAny_bind (qfv (hrest:=hlen) Fn hBn F T hC hn hni hb (wpAny_mono h₂ (fun v s' ⟨e1,e2,⟨oe,e3,e4,e6⟩,e5⟩=>⟨e1,wpAny_bind (wpAny_holding (wpAny_point (wpAny_pure ?_)))⟩) fun _ _ x=>x))
 exact⟨_,oe,rfl,e2,e3,e4,e6,e5⟩
end
end My
namespace My
open PySem PySem.Spec PyProof.Rows L2
def qf4:List Value->Bool
 | .ref _ :: r=>qf4 r
 | [.type a,.type b,.type c,.type e]=>a== "ValueError" && b== "Exception" && c== "BaseException" && e== "object"
 |_=>false
theorem qen {a b c e:String} (h:qf4 [.type a,.type b,.type c,.type e]=true):a= "ValueError"/\b= "Exception"/\c= "BaseException"/\e= "object":=by
 simp only [qf4,Bool.and_eq_true,beq_iff_eq] at h
 exact⟨h.1.1.1,h.1.1.2,h.1.2,h.2⟩
theorem refuse_VE (self:Value):∀{l:List Value},qf4 l=true->refuseLoop self "__setattr__" l=pure ()
 | .ref c :: r,e=>by rw [refuseLoop_ref];exact refuse_VE self e
 | [.type a,.type b,.type c,.type d],e=>by
  obtain⟨rfl,rfl,rfl,rfl⟩:=qen e
  exact PySem.F.store_ValueError.passes self
theorem has_VE:∀{l:List Value},qf4 l=true->l.contains (.type "object")=true
 | .ref c :: r,e=>by rw [List.contains_cons,has_VE (l:=r) e,Bool.or_true]
 | [.type a,.type b,.type c,.type d],e=>by
  obtain⟨rfl,rfl,rfl,rfl⟩:=qen e
  decide
def overVE (K:Frag) (C:Addr):Bool:=(PySem.W.clsIn K C).any fun cd=>qf4 cd.mro
section
variable {prog: Program} {w: World} {A: Around} {E: Value -> Shared -> Prop} {s: Shared} {K: Frag} {x C: Addr} {o: Obj} {name: Str} {v: Value} {R: Result -> Shared -> Prop}
open PySem.W in
theorem x_open {tk:Tok} (X:K.In s.heap) (hx:s.heap.get? x=some o) (hc:o.cls=.ref C) (hp:overVE K C=true) (ha:findIn K (.ref C) name=some none)
  (h:wpAny (model prog w) A.in1 (Builtin.ObjectAttr.storeInOwnDict (.ref x) (.ref C) (.str name tk) name v false)
   (fun fin s'=>match fin with| .done f=>R (.ok f) s'| .again c'=>c'.quiet=true/\codeAny (model prog w) A c' R s') (fun e s'=>R (.error e) s') s):
  codeAny (model prog w) A (.call (.builtin "object.__setattr__") ⟨[.ref x,.str name tk,v], []⟩) R s:=by
 have SF:=PySem.F.store_object
 obtain⟨cd,hcd,ho⟩:=any_some hp
 have LT:Looks (model prog w) s.heap (typeOf (.ref x)) (.ref C):=hc ▸ (Looks.ld hx).andThen .now
 have ne:cd.mro.isEmpty=false:=by cases q:cd.mro with|nil=>rw [q] at ho;cases ho|cons _ _=>rfl
 have sub:Looks (model prog w) s.heap (isInstance (.ref x) (.type "object")) true:=LT.andThen (looks_mroIn X (by unfold mroIn;rw [hcd,Option.bind_some,if_neg (by rw [ne];decide),has_VE ho]))
 refine codeAny_call_builtin SF.slot.plain SF.entry (@check_slot (model prog w) _ _ s "object.__setattr__" "object" "__setattr__" (.ref x) [.str name tk,v] [] _ SF.kind SF.split sub (SF.args (.ref x) (.str name tk) v) ?_)
 have hm:Looks (model prog w) s.heap (mroOf (.ref C)) cd.mro:=(looks_clsIn X hcd).andThen .now
 rw [osa_eq,refuse_eq]
 refine wpAny_bind (wpAny_bind (LT.here (wpAny_bind (hm.here ?_))))
 rw [refuse_VE _ ho]
 refine wpAny_pure (wpAny_bind (LT.here (wpAny_bind ((looks_findIn X ha).here (wpAny_bind ?_)))))
 exact wpAny_pure h
theorem x_store {tk:Tok} {Q:PySem.Fin->Shared->Prop} {mA:Str->Option Value} {ns:List Str} (X:K.In s.heap) (hh:hasDictIn K C=true) (I:s.heap.Inst x C mA) (hw:Within mA ns) (hsz:ns.length<=sizeLine)
  (hq:∀h' tk',h'.Inst x C (fun y=>if y=name then some v else mA y)->
   (∀b o,b≠x->(∀o₀ dx,s.heap.get? x=some o₀->o₀.dict=some dx->b≠dx)->s.heap.get? b=some o->h'.get? b=some o)->
   (∀o₀,s.heap.get? x=some o₀->∃o₁,h'.get? x=some o₁/\o₁.cls=o₀.cls/\o₁.data=o₀.data/\o₁.slots=o₀.slots/\(∀dx,o₀.dict=some dx->o₁.dict=some dx)/\(o₀.dict=none->o₁.dict=some s.heap.objs.size))->Q (.done (.ret .none)) {s with heap:=h',toks:=tk'}):
  wpAny (model prog w) A (Builtin.ObjectAttr.storeInOwnDict (.ref x) (.ref C) (.str name tk) name v false) Q E s:=by
 obtain⟨cd,hcd,hd'⟩:=PySem.W.any_some hh
 obtain⟨h,g,d,t,os⟩:=s
 obtain⟨o,hx,hc,hnc,hd⟩:=I
 refine wpAny_bind (wpAny_pure (wpAny_bind (wpAny_bind (wpAny_loadPart hx ?_))))
 rw [hc]
 refine wpAny_bind (PySem.W.Looks.here (PySem.W.looks_clsIn X hcd) ?_)
 rw [hd']
 rcases hd with ⟨hdn,hmA⟩ |⟨dx,hdx,hne,hns⟩
 .rw [hdn]
  show wpAny _ _ (match o.data with
     |Data.cls c=>pure none
     |x_1=>do
      let d<-alloc {cls:=Value.type "dict",data:=Data.dict #[]}
      update x fun o=>{cls:=o.cls,dict:=some d,data:=o.data,slots:=o.slots}
      dictMade (.ref C) x d) _ _ _
  split
  .rename_i c hcd
   exact absurd hcd (hnc c)
  .have hx₁:(h.push {cls:=.type "dict",data:=.dict #[]}).get? x=some o:=Heap.get?_push_of_some _ hx
   have hxs:x≠h.objs.size:=Nat.ne_of_lt (Heap.lt_size hx)
   refine wpAny_bind (wpAny_alloc' ?_)
   refine wpAny_bind (wpAny_update' hx₁ ?_)
   refine wpAny_pure ?_
   have hgd:((h.push {cls:=.type "dict",data:=.dict #[]}).update x fun o=>{cls:=o.cls,dict:=some h.objs.size,data:=o.data,slots:=o.slots}).get? h.objs.size
     =some {cls:=.type "dict",data:=.dict #[]}:=
    (Heap.get?_update_ne _ _ _ _ hxs.symm).trans (Heap.get?_push_at rfl rfl)
   have hnd:((h.push {cls:=.type "dict",data:=.dict #[]}).update x fun o=>{cls:=o.cls,dict:=some h.objs.size,data:=o.data,slots:=o.slots}).Ns h.objs.size (fun _=>none):=
    ⟨_,#[],_,hgd,rfl,fun e he=>absurd he (by simp),fun _=>rfl⟩
   show wpAny _ _ (Builtin.ObjectAttr.storeInDict h.objs.size (.str name tk) name v) _ _ _
   unfold Builtin.ObjectAttr.storeInDict Builtin.ObjectAttr.newKeyGuard
   refine wpAny_bind (wpAny_pure (wpAny_bind (wpAny_nsSet1 (Heap.Ns1.of_empty hnd) fun h' hn' hs=>?_)))
   obtain⟨oD,esD,epD,hoD,hdD,hcD⟩:=hn'.count (Within.cons name v Within.nil)
   refine wpAny_bind (wpAny_lookBehind hoD (by rw [hdD];exact pastItsLine_dict (Nat.le_trans hcD (by rw [length_cons,length_nil,sizeLine_eq];omega))) ?_)
   wp_walk
   have hx':h'.get? x=some {cls:=o.cls,dict:=some h.objs.size,data:=o.data,slots:=o.slots}:=by
    refine(hs.2 x hxs).trans (Heap.get?_update_self _ hx₁ ?_)
    have hfr:=(Heap.get?_some_iff.mp hx).2
    obtain⟨oc,od,odt,osl⟩:=o
    cases odt <;> first|rfl|exact hfr
   refine hq h' _ ⟨{cls:=o.cls,dict:=some h.objs.size,data:=o.data,slots:=o.slots},hx',hc,hnc,.inr ⟨h.objs.size,rfl,hxs.symm,?_⟩⟩ (fun b ob hbx _ hb=>?_)
    (fun o₀ h₀=>by obtain rfl:o=o₀:=Option.some.inj (hx.symm.trans h₀);exact⟨_,hx',rfl,rfl,rfl,(fun dx e=>by rw [hdn] at e;cases e),fun _=>rfl⟩)
   .obtain⟨o',es,ep,e1,e2,e3,eu,e4⟩:=hn'
    exact⟨o',es,ep,e1,e2,e3,eu,fun y=>by rw [e4 y];by_cases hy:y=name <;> simp [hy,hmA]⟩
   .exact(hs.2 b (Nat.ne_of_lt (Heap.lt_size hb))).trans ((Heap.get?_update_ne _ _ _ _ hbx).trans (Heap.get?_push_of_some _ hb))
 .rw [hdx]
  refine wpAny_pure ?_
  show wpAny _ _ (Builtin.ObjectAttr.storeInDict dx (.str name tk) name v) _ _ _
  unfold Builtin.ObjectAttr.storeInDict Builtin.ObjectAttr.newKeyGuard
  refine wpAny_bind (wpAny_pure (wpAny_bind (wpAny_nsSet1 hns fun h' hn' hs=>?_)))
  obtain⟨oD,esD,epD,hoD,hdD,hcD⟩:=hn'.count (Within.cons name v hw)
  refine wpAny_bind (wpAny_lookBehind hoD (by rw [hdD];exact pastItsLine_dict (Nat.le_trans hcD (by rw [length_cons];omega))) ?_)
  wp_walk
  refine hq h' _ ⟨o,(hs.2 x hne.symm).trans hx,hc,hnc,.inr ⟨dx,hdx,hne,hn'⟩⟩ (fun b ob _ hbd hb=>?_)
   (fun o₀ h₀=>by obtain rfl:o=o₀:=Option.some.inj (hx.symm.trans h₀);exact⟨o,(hs.2 x hne.symm).trans hx,rfl,rfl,rfl,(fun _ e=>e),fun z=>by rw [hdx] at z;cases z⟩)
  exact(hs.2 b (hbd o dx hx hdx)).trans hb
theorem x_set {Q:Unit->Shared->Prop} {mA:Str->Option Value} {ns:List Str} (X:K.In s.heap) (hs:PySem.W.findIn K (.ref C) "__setattr__" =some (some (.builtin "object.__setattr__"))) (hp:overVE K C=true) (ha:PySem.W.findIn K (.ref C) name=some none)
  (hh:hasDictIn K C=true) (I:s.heap.Inst x C mA) (hw:Within mA ns) (hsz:ns.length<=sizeLine)
  (hq:∀h' tk',h'.Inst x C (fun y=>if y=name then some v else mA y)->
   (∀b o,b≠x->(∀o₀ dx,s.heap.get? x=some o₀->o₀.dict=some dx->b≠dx)->s.heap.get? b=some o->h'.get? b=some o)->
   (∀o₀,s.heap.get? x=some o₀->∃o₁,h'.get? x=some o₁/\o₁.cls=o₀.cls/\o₁.data=o₀.data/\o₁.slots=o₀.slots/\(∀dx,o₀.dict=some dx->o₁.dict=some dx)/\(o₀.dict=none->o₁.dict=some s.heap.objs.size))->Q () {s with heap:=h',toks:=tk'}):
  wpAny (model prog w) A (setAttr (.ref x) name v) Q E s:=by
 obtain⟨o,hx,hc,hnc,hd⟩:=id I
 have LT:PySem.W.Looks (model prog w) s.heap (typeOf (.ref x)) (.ref C):=hc ▸ (PySem.W.Looks.ld hx).andThen .now
 refine wpAny_bind (wpAny_mkText (wpAny_bind (wpAny_bind (wpAny_bind (LT _ _ _ _ (fun _ _ e=>e) (PySem.W.looks_findIn X hs _ _ _ _ (fun _ _ e=>e) (wpAny_holding ?_)))))))
 rw [PySem.F.store_object.slot.bind]
 refine wpAny_bind (wpAny_pure (wpAny_bind (wpAny_call (x_open (s:={s with toks:=s.toks+1}) X hx hc hp ha (x_store (s:={s with toks:=s.toks+1}) X hh I hw hsz fun h' tk' a b c=>?_)))))
 exact wpAny_pure (wpAny_pure (hq h' tk' a b c))
end
end My
namespace My
open PySem PySem.Spec PyProof.Rows L2
section
variable {prog: Program} {w: World} {A: Around} {E: Value -> Shared -> Prop} {s: Shared} {K: Frag} {x C: Addr} {ox: Obj} {od: Option Obj} {name: Str} {v: Value} {R: Result -> Shared -> Prop}
open PySem.W in
theorem x_ga {tk:Tok} (X:K.In s.heap) (I:InstAt s.heap x ox C od) (hm:mroIn K C (.type "BaseException")=some true) (hf:findObj K C od name=some (.value v)) (h:R (.ok (.ret v)) s):
  codeAny (model prog w) A (.call (.builtin "BaseException.__getattribute__") ⟨[.ref x,.str name tk], []⟩) R s:=by
 have L0:=I.type (M:=model prog w)
 have sub:Looks (model prog w) s.heap (isInstance (.ref x) (.type "BaseException")) true:=L0.andThen (looks_mroIn X hm)
 have hk:builtinKind "BaseException.__getattribute__" =some .slot:=by decide+kernel
 have hsplit:splitId "BaseException.__getattribute__" =some ("BaseException","__getattribute__"):=by decide+kernel
 refine codeAny_call_builtin PySem.F.attr_ValueError.ga.plain PySem.F.entry_bexc_ga (@check_slot (model prog w) _ _ s "BaseException.__getattribute__" "BaseException" "__getattribute__" (.ref x) [.str name tk] [] _ hk hsplit sub (PySem.F.args_bexc_ga (.ref x) (.str name tk)) ?_)
 obtain⟨hh',g,d,t,os⟩:=s
 have L1:=looks_find (M:=model prog w) X I hf
 unfold Builtin.«object.__getattribute__»
 refine wpAny_bind (wpAny_pure (wpAny_bind (wpAny_pure (wpAny_bind (L0.at (wpAny_bind (L1.at ?_)))))))
 exact wpAny_pure h
open PySem.W in
theorem x_get {expr:Bool} {Q:Value->Shared->Prop} (X:K.In s.heap) (I:InstAt s.heap x ox C od) (hga:findIn K (.ref C) "__getattribute__" =some (some (.builtin "BaseException.__getattribute__"))) (hgn:findIn K (.ref C) "__getattr__" =some none)
  (hm:mroIn K C (.type "BaseException")=some true)
  (hf:findObj K C od name=some (.value v)) (hh:handedIn v=true) (h:Q v {s with toks:=s.toks+1}):wpAny (model prog w) A (getAttr (.ref x) name expr) Q E s:=by
 obtain⟨hh',g,d,t,os⟩:=s
 have L0:=I.type (M:=model prog w)
 have L1:=looks_findIn (M:=model prog w) X hga
 have L2:=looks_findIn (M:=model prog w) X hgn
 unfold getAttr getAttrBy
 refine wpAny_bind (wpAny_mkText (wpAny_holding (wpAny_bind (L0.at (wpAny_bind (L1.at ?_))))))
 have hx2:(Value.builtin "BaseException.__getattribute__" ==Value.builtin "object.__getattribute__")=false:=by decide+kernel
 dsimp only
 rw [hx2,Bool.and_false,if_neg Bool.false_ne_true]
 unfold getAttrByItsOwn
 refine wpAny_bind ?_
 show wpAny _ _ (typeLookup (.ref C) "__getattr__") _ _ _
 refine L2.at ?_
 have hx0:(expr && onTheHeap (Value.builtin "BaseException.__getattribute__"))=false:=by cases expr <;> rfl
 unfold callGetattribute
 rw [hx0,if_neg Bool.false_ne_true]
 unfold boundAndCalled
 rw [PySem.F.attr_ValueError.ga.bind]
 refine wpAny_bind (wpAny_attempt (wpAny_holding (wpAny_bind (wpAny_pure (wpAny_call (x_ga (s:=⟨hh',g,d,t+1,os⟩) X I hm hf ?_))))))
 show wpAny _ _ (handedOut v) _ _ _
 rw [handedOut_of hh];exact wpAny_pure h
open PySem.W in
theorem fo_data {a g:Value} (hc:(clsIn K C).isSome=true) (ha:findIn K (.ref C) name=some (some a)) (hg:specialIn K a "__get__" =some (some g)) (ht:takesIn K a=some true):findObj K C od name=some (.bind g a):=by
 obtain⟨cd,hc⟩:=Option.isSome_iff_exists.mp hc
 unfold findObj
 rw [hc,Option.bind_some,ha,Option.bind_some]
 simp [hg,ht]
open PySem.W in
theorem x_gaB {tk:Tok} {a f:Value} (X:K.In s.heap) (I:InstAt s.heap x ox C od) (hm:mroIn K C (.type "BaseException")=some true) (hf:findObj K C od name=some (.bind f a))
  (h:wpAny (model prog w) A.in1 (call f [a,.ref x,.ref C]) (fun v s'=>R (.ok (.ret v)) s') (fun e s'=>R (.error e) s') s):
  codeAny (model prog w) A (.call (.builtin "BaseException.__getattribute__") ⟨[.ref x,.str name tk], []⟩) R s:=by
 have L0:=I.type (M:=model prog w)
 have sub:Looks (model prog w) s.heap (isInstance (.ref x) (.type "BaseException")) true:=L0.andThen (looks_mroIn X hm)
 have hk:builtinKind "BaseException.__getattribute__" =some .slot:=by decide+kernel
 have hsplit:splitId "BaseException.__getattribute__" =some ("BaseException","__getattribute__"):=by decide+kernel
 refine codeAny_call_builtin PySem.F.attr_ValueError.ga.plain PySem.F.entry_bexc_ga (@check_slot (model prog w) _ _ s "BaseException.__getattribute__" "BaseException" "__getattribute__" (.ref x) [.str name tk] [] _ hk hsplit sub (PySem.F.args_bexc_ga (.ref x) (.str name tk)) ?_)
 obtain⟨hh',g,d,t,os⟩:=s
 have L1:=looks_find (M:=model prog w) X I hf
 unfold Builtin.«object.__getattribute__»
 refine wpAny_bind (wpAny_pure (wpAny_bind (wpAny_pure (wpAny_bind (L0.at (wpAny_bind (L1.at ?_)))))))
 show wpAny _ _ (holding [a] (call f [a,.ref x,.ref C]) >>= ret) _ _ _
 exact wpAny_bind (wpAny_holding (wpAny_mono h (fun v s' z=>wpAny_pure z) fun _ _ z=>z))
structure XAt (K:Frag) (C:Addr):Prop where
 ga:PySem.W.findIn K (.ref C) "__getattribute__" =some (some (.builtin "BaseException.__getattribute__"))
 gn:PySem.W.findIn K (.ref C) "__getattr__" =some none
 mb:PySem.W.mroIn K C (.type "BaseException")=some true
 mo:PySem.W.mroIn K C (.type "object")=some true
 hd:hasDictIn K C=true
 cl:PySem.W.findIn K (.ref C) "__class__" =some (some (.builtin "object.__class__"))
 sp:PySem.W.specialIn K (.builtin "object.__class__") "__get__" =some (some (.builtin "getset_descriptor.__get__"))
 tk:PySem.W.takesIn K (.builtin "object.__class__")=some true
 sa:PySem.W.findIn K (.ref C) "__setattr__" =some (some (.builtin "object.__setattr__"))
 po:overVE K C=true
open PySem.W in
theorem x_cls {Q:Option Value->Shared->Prop} (c:XAt K C) (X:K.In s.heap) (I:InstAt s.heap x ox C od) (h:Q (some (.ref C)) {s with toks:=s.toks+1}):wpAny (model prog w) A (getAttr? (.ref x) "__class__") Q E s:=by
 have hf:findObj K C od "__class__" =some (.bind (.builtin "getset_descriptor.__get__") (.builtin "object.__class__")):=fo_data (by obtain⟨cd,hc,_⟩:=any_some c.hd;rw [hc];rfl) c.cl c.sp c.tk
 obtain⟨hh',g,d,t,os⟩:=s
 have L0:=I.type (M:=model prog w)
 have L1:=looks_findIn (M:=model prog w) X c.ga
 have L2:=looks_findIn (M:=model prog w) X c.gn
 unfold getAttr? getAttrBy? getAttrBy
 refine wpAny_bind (wpAny_mkText (wpAny_bind (wpAny_attempt (wpAny_holding (wpAny_bind (L0.at (wpAny_bind (L1.at ?_))))))))
 have hx2:(Value.builtin "BaseException.__getattribute__" ==Value.builtin "object.__getattribute__")=false:=by decide+kernel
 dsimp only
 rw [hx2,Bool.and_false,if_neg Bool.false_ne_true]
 unfold getAttrByItsOwn
 refine wpAny_bind ?_
 show wpAny _ _ (typeLookup (.ref C) "__getattr__") _ _ _
 refine L2.at ?_
 have hx0:(false && onTheHeap (Value.builtin "BaseException.__getattribute__"))=false:=rfl
 unfold callGetattribute
 rw [hx0,if_neg Bool.false_ne_true]
 unfold boundAndCalled
 rw [PySem.F.attr_ValueError.ga.bind]
 refine wpAny_bind (wpAny_attempt (wpAny_holding (wpAny_bind (wpAny_pure (wpAny_call (x_gaB (s:=⟨hh',g,d,t+1,os⟩) X I c.mb hf ?_))))))
 refine wpAny_call (class_get (s:=⟨hh',g,d,t+1,os⟩) (ox:=ox) (od:=od) X I c.mo ?_)
 show wpAny _ _ (handedOut (.ref C)) _ _ _
 exact wpAny_pure (wpAny_pure h)
open PySem.W in
theorem kitx_exc (c:XAt K C):KitX K (.ref x) (.ref C) (fun h=>∃ox od,InstAt h x ox C od) where
 ty:=fun _ _ _ ⟨_,_,I⟩=>I.type
 it:=fun _ _ X _=>by
  obtain⟨cdD,hcD,_⟩:=any_some c.hd
  unfold clsIn at hcD
  split at hcD
  .rename_i c' d' cd' sl' ho
   intro A' Q' E' s' k q
   unfold isType loadHead
   exact wpAny_bind (wpAny_loadPart (k _ _ (X _ _ ho)) (wpAny_pure q))
  .cases hcD
 ne:=fun h tp dd its n sl X htp=>by
  obtain⟨cdD,hcD,_⟩:=any_some c.hd
  refine Bool.eq_false_iff.mpr fun q=>?_
  have e:C=tp:=Value.ref.inj (beq_iff_eq.mp q)
  subst e
  unfold clsIn at hcD
  split at hcD
  .rename_i c' d' cd' sl' ho
   have z:=(X _ _ ho).symm.trans htp
   cases z
  .cases hcD
 ca:=fun X ⟨_,_,I⟩ k=>x_cls c X I k
end
end My
namespace My
open PySem PySem.Spec PyProof.Rows L2
def XS (a C:Addr) (d:Option Addr):HO:=.ext fun h=>∃(oe:Obj) (vs:Array Value),h.get? a=some oe/\oe.cls=.ref C/\oe.dict=d/\oe.data=.fields vs/\vs[1]?=some .none/\(∃t0:Addr,vs[0]?=some (.ref t0))/\∀dx,d=some dx->dx≠a
def XD (dx:Addr) (fs:List (Str × V)):HO:=.ext fun h=>∃mA,h.Ns1 dx mA/\(∀f,qe5 (fs.lookup f) (mA f))/\PySem.Within mA (fs.map (·.1))/\fs.length<=1000
section
variable {X: Cx} {pins: List (Addr × Obj)} {σ: L2.St} {H: Hp} {s: Shared} {a C dx: Addr} {fs: List (Str × V)} {f: Str} {v y: V} {u: Value} {A: Around} {E: Value -> Shared -> Prop}
theorem xs_ok {P:Program} {w:World} {H:Hp} {h:Heap} {d:Option Addr} (x:∃(oe:Obj) (vs:Array Value),h.get? a=some oe/\oe.cls=.ref C/\oe.dict=d/\oe.data=.fields vs/\vs[1]?=some .none/\(∃t0:Addr,vs[0]?=some (.ref t0))/\∀dx,d=some dx->dx≠a):qbg P w H h a (XS a C d):=by
 obtain⟨oe,vs,h1,h2⟩:=id x
 exact⟨x,⟨oe,h1⟩,fun h1 h2 ⟨oe,vs,z,zz⟩ k=>⟨oe,vs,k _ z,zz⟩⟩
theorem xd_ok {P:Program} {w:World} {H:Hp} {h:Heap} {mA:Str->Option Value} (n:h.Ns1 dx mA) (r:∀f,qe5 (fs.lookup f) (mA f)) (wi:PySem.Within mA (fs.map (·.1))) (z:fs.length<=1000):qbg P w H h dx (XD dx fs):=by
 obtain⟨od,es,ep,e,c⟩:=id n
 exact⟨⟨mA,n,r,wi,z⟩,⟨od,e⟩,fun h1 h2 ⟨mA,⟨od,es,ep,e,c⟩,q⟩ k=>⟨mA,⟨od,es,ep,k _ e,c⟩,q⟩⟩
theorem xs_get {P:Program} {w:World} {h:Heap} {d:Option Addr} (x:HOk P w H h) (e:H a=some (XS a C d)):∃(oe:Obj) (vs:Array Value),h.get? a=some oe/\oe.cls=.ref C/\oe.dict=d/\oe.data=.fields vs/\vs[1]?=some .none/\(∃t0:Addr,vs[0]?=some (.ref t0))/\∀dx,d=some dx->dx≠a:=
 (show qbg P w H h a (XS a C d) from x a _ e).1
theorem xd_get {P:Program} {w:World} {h:Heap} (x:HOk P w H h) (e:H dx=some (XD dx fs)):∃mA,h.Ns1 dx mA/\(∀f,qe5 (fs.lookup f) (mA f))/\PySem.Within mA (fs.map (·.1))/\fs.length<=1000:=
 (show qbg P w H h dx (XD dx fs) from x dx _ e).1
theorem set_first {Q:Unit->Shared->Prop} (I:Inv X pins σ H s) (e:H a=some (XS a C none)) (c:XAt X.K C) (n:qar X.K C f) (ry:qb6 y u)
  (h:∀dx s',H dx=none->dx≠a->Inv X pins σ (upd (upd H dx (XD dx [(f,y)])) a (XS a C (some dx))) s'->Q () s'):wpAny (model X.prog X.w) A (setAttr (.ref a) f u) Q E s:=by
 obtain⟨oe,vs,h1,h2,h3,h4,h5,h6,_⟩:=xs_get I.hok e
 have J:s.heap.Inst a C (fun _=>none):=⟨oe,h1,h2,(fun c q=>by rw [h4] at q;cases q),.inl ⟨h3,fun _=>rfl⟩⟩
 refine x_set I.kIn c.sa c.po n c.hd J PySem.Within.nil (Nat.zero_le _) fun h' tk' I' kp ob=>?_
 obtain⟨o1,q1,q2,q3,q4,_,q5⟩:=ob oe h1
 have q5:=q5 h3
 have hlt:=Heap.lt_size h1
 have hne:s.heap.objs.size≠a:=Nat.ne_of_gt hlt
 have hn:H s.heap.objs.size=none:=I.hok.fresh (Nat.le_refl _)
 refine h s.heap.objs.size _ hn hne ?_
 have keep:∀b o,b≠a->s.heap.get? b=some o->h'.get? b=some o:=fun b o hb q=>kp b o hb (fun o₀ dx z zz=>by rw [h1] at z;cases z;rw [h3] at zz;cases zz) q
 obtain⟨o2,w1,w2,w3,w4⟩:=id I'
 rw [q1] at w1;cases w1
 rcases w4 with ⟨w4,_⟩ |⟨d2,w4,_,w5⟩
 .rw [q5] at w4;cases w4
 rw [q5] at w4;cases w4
 have fr:oe.isFreed=false:=(Heap.get?_some_iff.mp h1).2
 have z1:(h'.update a fun _=>oe).get? a=some oe:=Heap.get?_update_self (fun _=>oe) q1 fr
 have z2:∀b,b≠a->(h'.update a fun _=>oe).get? b=h'.get? b:=fun b hb=>Heap.get?_update_other _ _ (Ne.symm hb)
 have w6:(h'.update a fun _=>oe).Ns1 s.heap.objs.size (fun y=>if y=f then some u else none):=by
  obtain⟨o,es,ep,e1,r⟩:=w5
  exact⟨o,es,ep,(z2 _ hne).trans e1,r⟩
 have rel:∀g,qe5 (([(f,y)]:List (Str × V)).lookup g) (if g=f then some u else none):=fun g=>by
  show qe5 ((qdp f y []).lookup g) _
  rw [qcu]
  by_cases q:g=f
  .rw [if_pos q,if_pos q];exact ry
  .rw [if_neg q,if_neg q];exact True.intro
 have wi:PySem.Within (fun y=>if y=f then some u else none) (([(f,y)]:List (Str × V)).map (·.1)):=PySem.Within.cons f u PySem.Within.nil
 have I1:Inv X pins σ (upd H s.heap.objs.size (XD s.heap.objs.size [(f,y)])) {s with heap:=h'.update a fun _=>oe,toks:=tk'}:=by
  refine I.laid (a:=s.heap.objs.size) (t':=tk') (fun b o q=>?_) (Nat.le_refl _) (xd_ok w6 rel wi (by show 1<=1000;decide))
  by_cases hb:b=a
  .subst hb;rw [h1] at q;cases q;exact z1
  .exact(z2 b hb).trans (keep b o hb q)
 refine I1.write (x:=a) (e:=a) (h':=h') (t':=tk') ?_ (.inl rfl) (fun b o hb q=>(z2 b hb).symm.trans q) ⟨_,q1⟩ ?_
 .rw [qa9 (Ne.symm hne),e];exact True.intro
 .exact xs_ok ⟨o1,vs,q1,q2.trans h2,q5,q3.trans h4,h5,h6,fun dx z=>by cases z;exact hne⟩
theorem set_more {Q:Unit->Shared->Prop} (I:Inv X pins σ H s) (e:H a=some (XS a C (some dx))) (ed:H dx=some (XD dx fs)) (c:XAt X.K C) (n:qar X.K C f) (hl:fs.length < 1000) (ry:qb6 y u)
  (h:∀s',Inv X pins σ (upd H dx (XD dx (qdp f y fs))) s'->Q () s'):wpAny (model X.prog X.w) A (setAttr (.ref a) f u) Q E s:=by
 obtain⟨oe,vs,h1,h2,h3,h4,h5,h6,h7⟩:=xs_get I.hok e
 obtain⟨mA,nm,r,wi,_⟩:=xd_get I.hok ed
 have hne:=h7 dx rfl
 have J:s.heap.Inst a C mA:=⟨oe,h1,h2,(fun c q=>by rw [h4] at q;cases q),.inr ⟨dx,h3,hne,nm⟩⟩
 refine x_set I.kIn c.sa c.po n c.hd J wi (by rw [length_map,sizeLine_eq];omega) fun h' tk' I' kp ob=>?_
 obtain⟨o1,q1,q2,q3,q4,q5,_⟩:=ob oe h1
 have q6:=q5 dx h3
 obtain⟨o2,w1,w2,w3,w4⟩:=id I'
 rw [q1] at w1;cases w1
 rcases w4 with ⟨w4,_⟩ |⟨d2,w4,_,w5⟩
 .rw [q6] at w4;cases w4
 rw [q6] at w4;cases w4
 refine h _ (I.write (x:=dx) (e:=dx) (h':=h') (t':=tk') (by rw [ed];exact True.intro) (.inl rfl) (fun b o hb q=>?_) (let ⟨o,_,_,z,_⟩:=w5;⟨o,z⟩) (xd_ok w5 (fun g=>?_) (fun g hg=>?_) ?_))
 .by_cases hba:b=a
  .subst hba
   rw [h1] at q;cases q
   have this:o1=oe:=by
    obtain⟨c1,d1,t1,l1⟩:=o1
    obtain⟨c2,d2,t2,l2⟩:=oe
    dsimp only at q2 q3 q4 q6 h3
    cases q2;cases q3;cases q4;cases q6;cases h3;rfl
   rw [<-this];exact q1
  .exact kp b o hba (fun o₀ d3 z zz=>by rw [h1] at z;cases z;rw [h3] at zz;cases zz;exact hb) q
 .show qe5 ((qdp f y fs).lookup g) (if g=f then some u else mA g)
  rw [qcu]
  by_cases q:g=f
  .rw [if_pos q,if_pos q];exact ry
  .rw [if_neg q,if_neg q];exact r g
 .by_cases q:g=f
  .rw [q];exact(qd4 f y fs).1
  .refine(qd4 f y fs).2 g (wi g fun z=>hg ?_)
   show (if g=f then some u else mA g)=none
   rw [if_neg q];exact z
 .have:=qdm f y fs;omega
theorem x_fld {b:Bool} {Q:Value->Shared->Prop} (I:Inv X pins σ H s) (e:H a=some (XO a (.ref C) (some dx))) (ed:H dx=some (XD dx fs)) (c:XAt X.K C) (n:qar X.K C f) (l:fs.lookup f=some v)
  (h:∀u s',Inv X pins σ H s'->qb6 v u->Q u s'):wpAny (model X.prog X.w) A (getAttr (.ref a) f b) Q E s:=by
 obtain⟨⟨oe,vs,h1,h2,h3,h4⟩,_⟩:=(show qbg X.prog X.w H s.heap a (XO a (.ref C) (some dx)) from I.hok a _ e)
 obtain⟨mA,nm,r,wi,_⟩:=xd_get I.hok ed
 obtain⟨u,hu,ru⟩:=qe5.some_of (v:=v) (o:=mA f) (by rw [<-l];exact r f)
 obtain⟨od,ho,hlk⟩:=lookIn_ns nm
 have J:PySem.W.InstAt s.heap a oe C (some od):=⟨h1,h2,by unfold PySem.W.notCls;rw [h4],by rw [h3];exact ho⟩
 exact x_get I.kIn J c.ga c.gn c.mb (PySem.W.findObj_own c.hd n rfl (by rw [hlk,hu])) (handed_of ru) (h u _ (I.tok _) ru)
theorem x_isi {d:Option Addr} {t:Value} {b:Bool} {Q:Value->Shared->Prop} (I:Inv X pins σ H s) (e:H a=some (XO a (.ref C) d)) (ed:∀dx,d=some dx->∃o,H dx=some o) (c:XAt X.K C) (k:kitOne X.K (.ref C) t=some b)
  (h:∀s',Inv X pins σ H s'->Q (.bool b) s'):wpAny (model X.prog X.w) A (call (.builtin "isinstance") [.ref a,t]) Q E s:=by
 obtain⟨⟨oe,vs,h1,h2,h3,h4⟩,_⟩:=(show qbg X.prog X.w H s.heap a (XO a (.ref C) d) from I.hok a _ e)
 have J:∃ox od,PySem.W.InstAt s.heap a ox C od:=by
  cases d with
  |none=>exact⟨oe,none,h1,h2,by unfold PySem.W.notCls;rw [h4],by rw [h3];exact True.intro⟩
  |some dx=>
   obtain⟨o,q⟩:=ed dx rfl
   obtain⟨ob,z⟩:=obj_there (I.hok dx o q)
   exact⟨oe,some ob,h1,h2,by unfold PySem.W.notCls;rw [h4],by rw [h3];exact z⟩
 exact PySem.W.kia_one (kitx_exc c) I.kIn J k (fun z=>nomatch z) fun tk=>h _ (I.tok tk)
end
end My
namespace My
open PySem PySem.Spec PyProof.Rows L2
def del (H:Hp) (a:Addr):Hp:=fun b=>if b=a then none else H b
theorem qdd {H:Hp} {a:Addr}:del H a a=none:=by unfold del;rw [if_pos rfl]
theorem qcy {H:Hp} {a b:Addr} (h:b≠a):del H a b=H b:=by unfold del;rw [if_neg h]
section
variable {X: Cx} {pins: List (Addr × Obj)} {σ: L2.St} {H: Hp} {s: Shared} {a: Addr} {φ: Heap -> Prop}
theorem Inv.del (I:Inv X pins σ H s) (e:H a=some (.ext φ)):Inv X pins σ (My.del H a) s:=by
 have ne:∀b o,H b=some o->(∀φ,o≠ .ext φ)->b≠a:=fun b o q d z=>by rw [z,e] at q;cases q;exact d _ rfl
 refine⟨I.ok,I.os,I.bare,⟨I.base.keep,I.base.slot,fun b o q n hx=>?_,I.base.there,fun b xs q=>?_,fun b o u q=>?_,fun b ps q=>?_⟩,I.loc,I.cell,?_,fun x c q=>?_,fun p hp=>?_,fun b o q=>?_,I.len⟩
 .have z:=I.base.free b o q n hx
  by_cases hb:b=a
  .rw [hb];exact qdd
  .rw [qcy hb];exact z
 .have z:=I.base.tups b xs q
  rw [qcy (ne _ _ z (by intro φ y;cases y))];exact z
 .have z:=I.base.frzs b o u q
  rw [qcy (ne _ _ z (by intro φ y;cases y))];exact z
 .obtain⟨more,z⟩:=I.base.tbls b ps q
  exact⟨more,by rw [qcy (ne _ _ z (by intro φ y;cases y))];exact z⟩
 .by_cases hb:X.env.locals=a
  .rw [hb];exact qdd
  .rw [qcy hb];exact I.free
 .by_cases hb:c=a
  .rw [hb];exact qdd
  .rw [qcy hb];exact I.freeC x c q
 .obtain⟨z,n,l⟩:=I.pin p hp
  refine⟨z,?_,l⟩
  by_cases hb:p.1=a
  .rw [hb];exact qdd
  .rw [qcy hb];exact n
 .have hb:b≠a:=fun z=>by rw [z,qdd] at q;cases q
  rw [qcy hb] at q
  exact(I.hok b o q).stay (fun _ _ _ q=>q) (fun c q=>by rw [qcy (ne _ _ q (by intro φ y;cases y))];exact q) fun c xs q=>by rw [qcy (ne _ _ q (by intro φ y;cases y))];exact q
end
structure XClI (K:Frag) (C f:Addr):Prop where
 ob:∃(nm q:Str) (N:Addr) (bs bm:List Value) (hdct:Bool) (sn:List Str) (sub:List Value) (ab:Bool) (col:Option Bool) (dd:Option Addr) (k0 k1 k2 k3 k5:Option Value) (mN:Str->Option Value),
  K.lookup C=some (excClassObj nm q C N bs bm hdct sn sub ab col dd k0 k1 k2 k3 k5 "ValueError.__new__")/\(∀h:Heap,K.In h->h.Ns N mN)/\mN "__init__" =some (.ref f)/\
  ∀h:Heap,K.In h->OwnTail h [.type "ValueError",.type "Exception",.type "BaseException",.type "object"] bm
 fn:isFn K (.ref f)=true
section
variable {X: Cx} {k: Nat} {f: Addr} {fd: FuncData} {ps: List Str} {sp: Sp} {x: Str} {C: Addr} {W: L2.St -> XK} {np cpos pos: Pos} {e: Expr} {es: List Expr} {t: TA}
def tRaiseI (t:TA) (C:Addr) (sp:Sp) (W:L2.St->XK):TS:=fun _ σ H=>t σ H fun xs H1=>xs.length<=sizeLine/\∀a,H1 a=none->sp (.ref a :: xs) (upd H1 a (XS a C none)) (fun v H2=>v=.non/\∃d,H2 a=some (XS a C d)/\W σ (.ref C) d (My.del H2 a)) E0
theorem ps_raiseI (hc:X.calm=true) (M:XClI X.K C f) (F:FnOk X.prog X.w X.K X.mg X.base CX0 k f fd ps sp) (hr:Room (k+1) X.A) (hb:qan X.K fd ps []) (hg:Gl X x) (hm:X.mg x=some (.ref C)) (hx:Xes X W) (ha:PA X (e :: es) t) (hex:X.ex=[]:=by rfl) (hdb:(x==("__debug__" :Str))=false:=by decide)
  (he:starEach (e :: es) X.env=(false,eval e X.env) :: starEach es X.env:=by rfl) (hpl:(backTo cpos (starEach es X.env)).any (·.1)=false:=by rfl):
  PS X (.Raise (some (.Call (.Name x np) (e :: es) [] cpos)) none pos) (tRaiseI t C sp W):=by
 intro pins s σ H D I h
 obtain⟨nm,q,N,bs,bm,hdct,sn,sub,ab,col,dd,k0,k1,k2,k3,k5,mN,hC,hN,hni,T⟩:=M.ob
 refine qex (C:=C) (fI:=f) (nm:=nm) (q:=q) (N:=N) (bs:=bs) (bm:=bm) (hdct:=hdct) (sn:=sn) (sub:=sub) (ab:=ab) (col:=col) (dd:=dd) (k0:=k0) (k1:=k1) (k2:=k2) (k3:=k3) (k5:=k5)
  PySem.F.excBase_ValueError (by decide) PySem.F.excBase_ValueError (mN:=mN) ((T _ I.kIn).hasType PySem.F.excBase_ValueError.hasBase) (I.ok.hd hc) ?_ hni ?_
 .rw [he];show (false ||(backTo cpos (starEach es X.env)).any (·.1))=false;rw [hpl];rfl
 .refine qcm I hg hm ⟨rfl,?_⟩ hdb
  have z:=ha cpos pins s σ H _ I h
  rw [he] at z ⊢
  refine Calls.evalArgs_plain (wpAny_mono z (fun us s2 ⟨vs,H2,I2,r,hl,q⟩=>?_) fun _ _ y=>y)
  have ea:(qcv s2.heap C us).get? (s2.heap.objs.size+1)=some {cls:=.ref C,data:=.fields #[.ref s2.heap.objs.size,.none,.none,.none,.bool false,.none]}:=by
   have:=Heap.get?_push_size (s2.heap.push {cls:=.type "tuple",data:=.seq us.toArray}) (o:={cls:=.ref C,data:=.fields #[.ref s2.heap.objs.size,.none,.none,.none,.bool false,.none]}) rfl
   rwa [Heap.size_push] at this
  have hn:H2 (s2.heap.objs.size+1)=none:=I2.hok.fresh (Nat.le_succ _)
  have I3:Inv X pins σ (upd H2 (s2.heap.objs.size+1) (XS (s2.heap.objs.size+1) C none)) {s2 with heap:=qcv s2.heap C us}:=
   I2.laid (t':=s2.toks) (fun b o y=>Heap.get?_push_of_some _ (Heap.get?_push_of_some _ y)) (Nat.le_succ _) (xs_ok ⟨_,_,ea,rfl,rfl,rfl,rfl,⟨_,rfl⟩,fun dx y=>by cases y⟩)
  have q:=q _ hn
  refine⟨rfl,by rw [<-r.length];exact hl,I2.kIn _ _ hC,hN _ I2.kIn,T _ I2.kIn,PySem.W.bind_fn I3.kIn _ (beq_iff_eq.mp M.fn),?_⟩
  have r2:qbb (V.ref (s2.heap.objs.size+1) :: vs) (Value.ref (s2.heap.objs.size+1) :: us):=.cons rfl r
  have hln:(Value.ref (s2.heap.objs.size+1) :: us++ []).length=ps.length:=by rw [append_nil,<-r2.length];exact F.len _ _ _ _ q
  have hb':=hb {s2 with heap:=qcv s2.heap C us} (Value.ref (s2.heap.objs.size+1) :: us) I3.kIn hln
  rw [append_nil] at hb'
  refine wpAny_call (codeAny_mono (F.run _ X.stack _ _ ⟨Value.ref (s2.heap.objs.size+1) :: us, []⟩ (Value.ref (s2.heap.objs.size+1) :: us) _ _ E0 (hr.make C us []) (I3.env0.make C us []) hb' r2 q) fun r s' hq'=>?_)
  cases r with
  |error e=>exact False.elim hq'
  |ok fl=>
   cases fl with
   |ret u=>
    obtain⟨v,H',I4,rv,ev,d,e4,q4⟩:=I3.after hq'
    subst ev
    obtain⟨oe,ws,g1,g2,g3,g4,g5,g6,g7⟩:=xs_get I4.hok e4
    refine⟨rv,I4.kIn _ _ hC,⟨oe,g1,g2,ws,g4,g5⟩,?_⟩
    have new:s2.heap.get? (s2.heap.objs.size+1)=none:=Heap.get?_none_of_le (Nat.le_succ _)
    refine hx pins σ _ _ _ (.ref C) d (Inv.del I4 e4) ⟨⟨qf5 I2 hex new,qdd,fun p hp y=>?_,⟨_,_,g1,g4⟩⟩,.inl ⟨_,_,g1,g2,g3,g4,g5⟩⟩ q4
    have w:=(I2.pin p hp).1
    rw [y,new] at w
    cases w
   |next=>exact False.elim hq'
   |brk=>exact False.elim hq'
   |cont=>exact False.elim hq'
end
end My
namespace My
open PySem PySem.Spec PyProof.Rows L2
def tFmt (te:TE):TE:=fun σ H Q=>te σ H fun v H1=>∃z,v=.str z/\z.length<=sizeLine/\Q (.str z) H1
def qed:List TE->Str->TE
 | [],out=>fun _ H Q=>Q (.str out) H
 |t :: r,out=>fun σ H Q=>t σ H fun v H1=>∃y,v=.str y/\(out++y).length<=sizeLine/\qed r (out++y) σ H1 Q
def tJoin (ts:List TE):TE:=qed ts Str.empty
section
variable {X: Cx}
theorem pe_fmt {e:Expr} {pos:Pos} {te:TE} (he:PE X e te):PE X (.FormattedValue e (-1) none pos) (tFmt te):=by
 intro pins s σ H Q I h
 refine FormattedValue_plain (thn (he pins s σ H _ I h) fun u s1 ⟨v,H1,I1,r,z,ev,hz,q⟩=>?_)
 subst ev
 obtain⟨t,rfl⟩:=r
 exact formatField_str (fun t' tk=>⟨.str z,H1,I1.tok tk,⟨t',rfl⟩,q⟩) hz
inductive PJ (X:Cx):List Expr->List TE->Prop
 |nil:PJ X [] []
 |cons {e:Expr} {es:List Expr} {t:TE} {ts:List TE} (h:PE X e t) (r:PJ X es ts):PJ X (e :: es) (t :: ts)
theorem parts_ok {pins:List (Addr × Obj)} {σ:L2.St}:∀{es:List Expr} {ts:List TE} (j:PJ X es ts) (out:Str) (ho:out.length<=sizeLine) (s:Shared) (H:Hp) (Q:VK) (I:Inv X pins σ H s) (h:qed ts out σ H Q),
  wpAny (model X.prog X.w) X.A (joinParts out (evalEach es X.env)) (EP X pins σ Q) X.xe s
 |_,_,.nil,out,ho,s,H,Q,I,h=>joinParts_nil ⟨.str out,H,I.tok _,⟨_,rfl⟩,h⟩ ho
 |_,_,.cons (e:=e) he r,out,ho,s,H,Q,I,h=>by
  show wpAny _ _ (joinParts out (eval e X.env :: evalEach _ X.env)) _ _ _
  refine joinParts_cons (thn (he pins s σ H _ I h) fun u s1 ⟨v,H1,I1,rv,y,ev,hz,q⟩=>?_)
  subst ev
  obtain⟨t,rfl⟩:=rv
  exact⟨hz,parts_ok r _ hz s1 H1 Q I1 q⟩
theorem pe_join {v1 v2:Expr} {rest:List Expr} {pos:Pos} {ts:List TE} (j:PJ X (v1 :: v2 :: rest) ts):PE X (.JoinedStr (v1 :: v2 :: rest) pos) (tJoin ts):=by
 intro pins s σ H Q I h
 exact JoinedStr_many (parts_ok j Str.empty (by decide) s H Q I h)
end
section
variable {σ: L2.St} {H: Hp} {Q: VK} {te t: TE} {r: List TE} {z out: Str}
theorem r_fmt (h:te σ H fun v H1=>∃z,v=.str z/\z.length<=sizeLine/\Q (.str z) H1):tFmt te σ H Q:=h
theorem r_join {ts:List TE} (h:qed ts Str.empty σ H Q):tJoin ts σ H Q:=h
theorem r_part0 (h:Q (.str out) H):qed [] out σ H Q:=h
theorem r_part1 (h:t σ H fun v H1=>∃y,v=.str y/\(out++y).length<=sizeLine/\qed r (out++y) σ H1 Q):qed (t :: r) out σ H Q:=h
end
end My
namespace My
open PySem PySem.Spec PyProof.Rows L2
section
variable {prog: Program} {w: World} {A: Around} {E: Value -> Shared -> Prop} {h: Heap} {g: Array GenState} {d: Drawn} {t: Nat} {os: OsState}
variable {nm q: Str} {C N: Addr} {bs bm bmB: List Value} {hdct: Bool} {sn: List Str} {sub: List Value} {ab: Bool} {col: Option Bool} {dd: Option Addr} {k0 k1 k2 k3 k5: Option Value} {B newId nid initId: String}
theorem x_init (F:ExcBaseFacts B nid initId bmB) (T:OwnTail h bmB bm) {e t0:Addr} {oe:Obj} {vs:Array Value} {rest:List Value} {Q:Value->Shared->Prop}
  (hC:h.get? C=some (excClassObj nm q C N bs bm hdct sn sub ab col dd k0 k1 k2 k3 k5 newId)) (he:h.get? e=some oe) (hcls:oe.cls=.ref C) (hd:oe.data=.fields vs) (h0:vs[0]?=some (.ref t0))
  (hq:Q .none ⟨(h.push {cls:=.type "tuple",data:=.seq rest.toArray}).update e (Obj.mapFields (·.setIfInBounds 0 (.ref h.objs.size))),g,d,t,os⟩) (hrest:rest.length<=sizeLine):
  wpAny (model prog w) A (call (.builtin initId) (.ref e :: rest)) Q E ⟨h,g,d,t,os⟩:=by
 refine wpAny_call (codeAny_call_builtin F.init.plain F.initEntry (wpAny_check_init_subU F T hC he hcls ?_))
 have he':=Heap.get?_push_of_some {cls:=.type "tuple",data:=.seq rest.toArray} he
 have hsz:0 < vs.size:=(Array.getElem?_eq_some_iff.mp h0).1
 repeat (first|with_reducible refine wpAny_field he hd h0 ?_|with_reducible refine wpAny_setField he' hd hsz ?_|wp_step)
 rw [hd]
 refine wpAny_pure ?_
 rw [h0]
 refine wpAny_pure (wpAny_bind (wpAny_setField he' hd hsz ?_))
 dsimp only
 wp_walk
 exact hq
end
end My
namespace My
open PySem PySem.Spec PyProof.Rows L2
structure XBase (K:Frag) (T:Addr):Prop where
 ga:PySem.W.specialIn K (.ref T) "__getattribute__" =some (some (.builtin "type.__getattribute__"))
 rd:PySem.W.readsIn K T (.type "type")=true
 at_:PySem.W.findCls K (.ref T) (.type "type") "__init__" =some (.val (.builtin "ValueError.__init__"))
section
variable {X: Cx} {C T f: Addr} {x: Str} {p apos cpos: Pos} {e: Expr} {es: List Expr} {t: TA}
def tXInit (C:Addr) (t:TA):TE:=fun σ H Q=>t σ H fun xs H1=>∃a d ys,xs=.ref a :: ys/\ys.length<=sizeLine/\H1 a=some (XS a C d)/\Q .non H1
theorem pe_xinit {pl:Sem Bool} (M:XClI X.K C f) (b:XBase X.K T) (hg:Gl X x) (hm:X.mg x=some (.ref T)) (ha:PA X (e :: es) t)
  (hdb:(x==("__debug__" :Str))=false:=by decide) (hst:starEach (e :: es) X.env=(false,eval e X.env) :: starEach es X.env:=by rfl) (hplain:(backTo cpos (starEach es X.env)).any (·.1)=false:=by rfl)
  (ht:eval (.Call (.Attribute (.Name x p) "__init__" apos) (e :: es) [] cpos) X.env=(do
   let ov<-eval (.Name x p) X.env
   standAt apos.atName
   let (f,first)<-holding [ov] (getMethod ov "__init__" pl)
   callWith cpos f first (backTo cpos (starEach (e :: es) X.env)) (backToKw cpos (keywordEach [] X.env))):=by rfl):
  PE X (.Call (.Attribute (.Name x p) "__init__" apos) (e :: es) [] cpos) (tXInit C t):=by
 intro pins s σ H Q I h
 refine PySem.W.methodCall_KW (pl:=pl) (qcm I hg hm ?_ hdb) ht
 refine PySem.W.method_cls I.kIn b.ga (PySem.W.cls_value I.kIn b.rd b.at_ (by decide+kernel) ?_)
 have hA:=ha cpos pins _ σ H _ (I.tok (s.toks+1)) h
 rw [hst] at hA ⊢
 refine Calls.callWith_builtin (by show (false ||(backTo cpos (starEach es X.env)).any (·.1))=false;rw [hplain] <;> rfl) (Calls.evalArgs_plain ?_)
 refine thn hA fun us s2 ⟨vs,H2,I2,r2,a,d,ys,ev,hl,ea,q2⟩=>?_
 subst ev
 cases r2 with
 | @cons _ u _ us r1 r2=>
  obtain rfl:u=Value.ref a:=r1
  obtain⟨nm,q,N,bs,bm,hdct,sn,sub,ab,col,dd,k0,k1,k2,k3,k5,mN,hC,hN,hni,Tl⟩:=M.ob
  obtain⟨oe,ws,g1,g2,g3,g4,g5,⟨t0,g6⟩,g7⟩:=xs_get I2.hok ea
  obtain⟨hp,gg,dw,tk,os⟩:=s2
  refine x_init PySem.F.excBase_ValueError (Tl _ I2.kIn) (I2.kIn _ _ hC) g1 g2 g4 g6 ?_ (by rw [<-r2.length];exact hl)
  have hsz:0 < ws.size:=(Array.getElem?_eq_some_iff.mp g6).1
  have e1:=Heap.get?_push_of_some {cls:=.type "tuple",data:=.seq us.toArray} g1
  have d3:=Obj.data_mapFields g4 (·.setIfInBounds 0 (Value.ref hp.objs.size))
  have e3:=Heap.get?_update_self (Obj.mapFields (·.setIfInBounds 0 (Value.ref hp.objs.size))) e1 (Obj.isFreed_of_fields d3)
  refine⟨.non,upd H2 a (XS a C d),?_,rfl,?_⟩
  .refine I2.write (x:=a) (e:=a) (t':=tk) (by rw [ea];exact True.intro) (.inl rfl) (fun b o hb y=>?_) ⟨_,e3⟩ (xs_ok ⟨_,_,e3,(Obj.cls_mapFields _ _).trans g2,(dict_mapF _ _).trans g3,d3,?_,⟨hp.objs.size,?_⟩,g7⟩)
   .exact(Heap.get?_update_other _ _ (Ne.symm hb)).trans (Heap.get?_push_of_some _ y)
   .rw [Array.getElem?_setIfInBounds_ne (by decide)];exact g5
   .simp [hsz]
  .have:upd H2 a (XS a C d)=H2:=by
    funext b
    by_cases hb:b=a
    .rw [hb,qa1,ea]
    .rw [qa9 hb]
   rw [this];exact q2
end
end My
namespace My
open PySem PySem.Spec PyProof.Rows L2
def sXF (K:Frag) (ta tv:TE) (f:Str):TS:=fun D σ H=>tv σ H fun y H1=>ta σ H1 fun x H2=>∃a C,x=.ref a/\XAt K C/\qar K C f/\
 ((H2 a=some (XS a C none)/\∀dx,H2 dx=none->dx≠a->D.nx σ (upd (upd H2 dx (XD dx [(f,y)])) a (XS a C (some dx))))\/
  ∃dx fs,H2 a=some (XS a C (some dx))/\H2 dx=some (XD dx fs)/\fs.length < 1000/\D.nx σ (upd H2 dx (XD dx (qdp f y fs))))
def tXF (K:Frag) (ta:TE) (f:Str):TE:=fun σ H Q=>ta σ H fun x H1=>∃a C dx fs v,x=.ref a/\H1 a=some (XO a (.ref C) (some dx))/\H1 dx=some (XD dx fs)/\XAt K C/\qar K C f/\fs.lookup f=some v/\Q v H1
def rIsx (K:Frag):List V->Hp->VK->Prop:=fun xs H Q=>∃(a C:Addr) (d:Option Addr) (c:V) (u:Value) (b:Bool),xs=[.ref a,c]/\(∀u',qb6 c u'->u'=u)/\H a=some (XO a (.ref C) d)/\
 (∀dx,d=some dx->∃o,H dx=some o)/\XAt K C/\kitOne K (.ref C) u=some b/\Q (.bl b) H
section
variable {X: Cx} {o e value: Expr} {f: Str} {pos pos': Pos} {ta tv: TE}
theorem ps_xf (ha:PE X o ta) (hv:PE X value tv) (hs:swapsWith value (some (.Attribute o f pos')) pos.line X.env=pure false:=by rfl):PS X (.Assign [.Attribute o f pos'] value pos) (sXF X.K ta tv f):=by
 intro pins s σ H D I h
 refine plainObj_wpAny_Assign_Attribute (thn (hv pins s σ H _ I h) fun u s1 ⟨y,H1,I1,ry,q⟩=>thn (ha pins s1 σ H1 _ I1 q) fun ov s2 ⟨x,H2,I2,rx,a,C,ex,c,n,q2⟩=>?_) hs
 subst ex
 obtain rfl:ov=Value.ref a:=rx
 rcases q2 with ⟨e1,q2⟩ |⟨dx,fs,e1,e2,l,q2⟩
 .exact set_first I2 e1 c n ry fun dx s3 h1 h2 I3=>⟨σ,_,I3,q2 dx h1 h2⟩
 .exact set_more I2 e1 e2 c n l ry fun s3 I3=>⟨σ,_,I3,q2⟩
theorem pe_xf (he:PE X e ta) (hb:attributeBase e f X.env (eval e X.env)=eval e X.env:=by rfl):PE X (.Attribute e f pos) (tXF X.K ta f):=by
 intro pins s σ H Q I h
 refine attr_of hb (thn (he pins s σ H _ I h) fun u s1 ⟨x,H1,I1,rx,a,C,dx,fs,v,ex,e1,e2,c,n,l,q⟩=>?_)
 subst ex
 obtain rfl:u=Value.ref a:=rx
 exact x_fld I1 e1 e2 c n l fun u' s2 I2 ru=>⟨v,H1,I2,ru,q⟩
theorem qbx:qcb X (.builtin "isinstance") (rIsx X.K):=by
 intro pins s σ H xs us Q I hv h
 obtain⟨a,C,d,c,u,b,rfl,hu,e1,e2,cc,k,q⟩:=h
 cases hv with
 |cons r1 hv=>
  cases hv with
  |cons r2 hv=>
   cases hv
   rename_i v1 v2
   rw [hu v2 r2]
   obtain rfl:v1=Value.ref a:=r1
   exact x_isi I e1 e2 cc k fun s' I'=>⟨.bl b,H,I',rfl,q⟩
end
section
variable {K: Frag} {σ: L2.St} {H: Hp} {Q: VK} {D: Ends} {f: Str} {a C dx c: Addr} {d: Option Addr} {fs: List (Str × V)} {y: V} {b: Bool}
theorem r_xf0 (ha:XAt K C) (n:qar K C f) (e:H a=some (XS a C none)) (h:∀dx,H dx=none->dx≠a->D.nx σ (upd (upd H dx (XD dx [(f,y)])) a (XS a C (some dx)))):
  ∃a' C',V.ref a=.ref a'/\XAt K C'/\qar K C' f/\((H a'=some (XS a' C' none)/\∀dx,H dx=none->dx≠a'->D.nx σ (upd (upd H dx (XD dx [(f,y)])) a' (XS a' C' (some dx))))\/
   ∃dx fs,H a'=some (XS a' C' (some dx))/\H dx=some (XD dx fs)/\fs.length < 1000/\D.nx σ (upd H dx (XD dx (qdp f y fs)))):=⟨a,C,rfl,ha,n,.inl ⟨e,h⟩⟩
theorem r_xf1 (ha:XAt K C) (n:qar K C f) (e:H a=some (XS a C (some dx))) (ed:H dx=some (XD dx fs)) (l:fs.length < 1000) (h:D.nx σ (upd H dx (XD dx (qdp f y fs)))):
  ∃a' C',V.ref a=.ref a'/\XAt K C'/\qar K C' f/\((H a'=some (XS a' C' none)/\∀dx,H dx=none->dx≠a'->D.nx σ (upd (upd H dx (XD dx [(f,y)])) a' (XS a' C' (some dx))))\/
   ∃dx fs,H a'=some (XS a' C' (some dx))/\H dx=some (XD dx fs)/\fs.length < 1000/\D.nx σ (upd H dx (XD dx (qdp f y fs)))):=⟨a,C,rfl,ha,n,.inr ⟨dx,fs,e,ed,l,h⟩⟩
theorem r_isx (e:H a=some (XO a (.ref C) d)) (ed:∀dx,d=some dx->∃o,H dx=some o) (ha:XAt K C) (k:kitOne K (.ref C) (.ref c)=some b) (h:Q (.bl b) H):rIsx K [.ref a,.ref c] H Q:=⟨a,C,d,.ref c,.ref c,b,rfl,fun _ z=>z,e,ed,ha,k,h⟩
theorem r_isxT {T:String} (e:H a=some (XO a (.ref C) d)) (ed:∀dx,d=some dx->∃o,H dx=some o) (ha:XAt K C) (k:kitOne K (.ref C) (.type T)=some b) (h:Q (.bl b) H):rIsx K [.ref a,.ty T] H Q:=⟨a,C,d,.ty T,.type T,b,rfl,fun _ z=>z,e,ed,ha,k,h⟩
end
end My
namespace My
open PySem PySem.Spec PyProof.Rows L2
open PySem.MeetsSeq PySem.MeetsSeq2 PySem.MeetsSeq3 PySem.SeqRoads2
def EqW (P:Program) (w:World) (A:Around) (s:Shared) (y x:Value) (b:Bool):Prop:=∀(E:Value->Shared->Prop) (Q:Bool->Shared->Prop),Q b s->wpAny (model P w) A (eqBool y x) Q E s
def opN:Bool->CmpOp
 |false=> .Eq
 |true=> .NotEq
def RcW (P:Program) (w:World) (A:Around) (s:Shared) (ne:Bool) (y x:Value) (b:Bool):Prop:=∀(E:Value->Shared->Prop) (Q:Value->Shared->Prop),Q (.bool b) s->wpAny (model P w) A (richCompare (opN ne) y x) Q E s
def codeN:Bool->Int
 |false=>2
 |true=>3
abbrev lo (dd:Option Addr) (xs:Array Value) (n:Nat) (sl:Array (Option Value)):Obj:={cls:=.type "list",dict:=dd,data:=.seq xs n,slots:=sl}
abbrev tob (dd:Option Addr) (xs:Array Value) (n:Nat) (sl:Array (Option Value)):Obj:={cls:=.type "tuple",dict:=dd,data:=.seq xs n,slots:=sl}
section
variable {P: Program} {w: World} {A: Around} {s: Shared} {l b: Addr} {k: Bool}
theorem EqW.of {y x:Value} (h:SeqAt.EqAt A s y x k):EqW P w A s y x k:=fun E Q q=>h P w E Q q
theorem EqW.refs (hn:l≠b) (h:RcW P w A s false (.ref l) (.ref b) k):EqW P w A s (.ref l) (.ref b) k:=fun E Q q=>by
 unfold eqBool
 refine wpAny_holding (wpAny_ite_split (fun z=>?_) fun _=>wpAny_bind (h E _ (wpAny_truthy_bool q)))
 have z':=eq_of_beq z
 injection z' with z'
 exact absurd z' hn
abbrev Fin1 (P:Program) (w:World) (A:Around) (R:Result->Shared->Prop):PySem.Fin->Shared->Prop:=fun f s'=>match f with| .done r=>R (.ok r) s'| .again c=>c.quiet=true/\codeAny (model P w) A c R s'
theorem loopW (ne:Bool) {xs ys:Array Value} {n m:Nat} {d1 d2:Option Addr} {s1 s2:Array (Option Value)} (hz:xs.size=ys.size) (f:Nat->Bool) (r:Nat):∀(i:Nat),xs.size - i=r->∀(A:Around) (R:Result->Shared->Prop) (s:Shared),s.heap.get? l=some (lo d1 xs n s1)->s.heap.get? b=some (lo d2 ys m s2)->
  (∀j (h1:j < xs.size) (h2:j < ys.size),EqW P w A.in1 s xs[j] ys[j] (f j))->R (.ok (.ret (.bool (ne !=((List.range xs.size).drop i).all f)))) s->
  wpAny (model P w) A.in1 (Builtin.«list.__eq__.loop» ⟨[.ref l,.ref b,rawInt i,rawInt (codeN ne)], []⟩) (Fin1 P w A R) (fun e s'=>R (.error e) s') s:=by
 induction r with
 |zero=>
  intro i hr A R s hl hb he q
  obtain⟨hp,g,d,tk,os⟩:=s
  have t1:xs[((i:Nat):Int).toNat]?=none:=by simp;omega
  have t2:ys[((i:Nat):Int).toNat]?=none:=by simp;omega
  have t3:(List.range xs.size).drop i=[]:=by simp;omega
  rw [t3] at q
  cases ne with
  |false=>
   wp_walk using AutoSeq1.wpAny_loadPart' hl,AutoSeq1.wpAny_loadPart' hb
   rw [t1,t2]
   wp_walk using AutoSeq1.wpAny_loadPart' hl,AutoSeq1.wpAny_loadPart' hb
   show R (.ok (.ret (.bool (xs.size==ys.size)))) _
   rw [hz]
   simpa using q
  |true=>
   wp_walk using AutoSeq1.wpAny_loadPart' hl,AutoSeq1.wpAny_loadPart' hb
   rw [t1,t2]
   wp_walk using AutoSeq1.wpAny_loadPart' hl,AutoSeq1.wpAny_loadPart' hb
   show R (.ok (.ret (.bool (xs.size !=ys.size)))) _
   rw [hz]
   simpa using q
 |succ r ih=>
  intro i hr A R s hl hb he q
  obtain⟨hp,g,d,tk,os⟩:=s
  have j1:i < xs.size:=by omega
  have j2:i < ys.size:=by omega
  have t1:xs[((i:Nat):Int).toNat]?=some xs[i]:=by simp [j1]
  have t2:ys[((i:Nat):Int).toNat]?=some ys[i]:=by simp [j2]
  have t3:(List.range xs.size).drop i=i ::(List.range xs.size).drop (i+1):=by simp [List.drop_eq_getElem_cons,j1]
  have t4:((i:Int)+1)=((i+1:Nat):Int):=by push_cast;rfl
  rw [t3,all_cons] at q
  cases ne with
  |false=>
   wp_walk using AutoSeq1.wpAny_loadPart' hl,AutoSeq1.wpAny_loadPart' hb
   rw [t1,t2]
   refine wpAny_bind (he i j1 j2 _ _ ?_)
   cases hf:f i with
   |true=>
    rw [hf] at q
    wp_walk
    rw [t4]
    refine⟨plainId_quiet plain_eq_loop _,codeAny_builtin entry_eq_loop ?_⟩
    rw [Around.under_plainId plain_eq_loop _]
    exact ih (i+1) (by omega) A R _ hl hb he (by simpa using q)
   |false=>
    rw [hf] at q
    wp_walk using AutoSeq1.wpAny_loadPart' hl,AutoSeq1.wpAny_loadPart' hb
    rw [t1,t2]
    wp_walk
    simpa using q
  |true=>
   wp_walk using AutoSeq1.wpAny_loadPart' hl,AutoSeq1.wpAny_loadPart' hb
   rw [t1,t2]
   refine wpAny_bind (he i j1 j2 _ _ ?_)
   cases hf:f i with
   |true=>
    rw [hf] at q
    wp_walk
    rw [t4]
    refine⟨plainId_quiet plain_eq_loop _,codeAny_builtin entry_eq_loop ?_⟩
    rw [Around.under_plainId plain_eq_loop _]
    exact ih (i+1) (by omega) A R _ hl hb he (by simpa using q)
   |false=>
    rw [hf] at q
    wp_walk using AutoSeq1.wpAny_loadPart' hl,AutoSeq1.wpAny_loadPart' hb
    rw [t1,t2]
    wp_walk
    simpa using q
theorem listW (ne:Bool) {xs ys:Array Value} {n m:Nat} {d1 d2:Option Addr} {s1 s2:Array (Option Value)} (hz:xs.size=ys.size) (f:Nat->Bool) {R:Result->Shared->Prop} (hl:s.heap.get? l=some (lo d1 xs n s1)) (hb:s.heap.get? b=some (lo d2 ys m s2))
  (he:∀j (h1:j < xs.size) (h2:j < ys.size),EqW P w A.in1 s xs[j] ys[j] (f j)) (q:R (.ok (.ret (.bool (ne !=(List.range xs.size).all f)))) s):
  wpAny (model P w) A.in1 ((if ne=true then Builtin.«list.__ne__» else Builtin.«list.__eq__») ⟨[.ref l,.ref b], []⟩) (Fin1 P w A R) (fun e s'=>R (.error e) s') s:=by
 obtain⟨hp,g,d,tk,os⟩:=s
 have f3:=AutoSeq1.sub_list_list
 have z0:¬(xs.size !=ys.size)=true:=by simp [hz]
 cases ne with
 |false=>
  show wpAny _ _ (Builtin.«list.__eq__» _) _ _ _
  wp_walk using AutoSeq1.wpAny_loadPart' hl,AutoSeq1.wpAny_loadPart' hb
  refine⟨plainId_quiet plain_eq_loop _,codeAny_builtin entry_eq_loop ?_⟩
  rw [Around.under_plainId plain_eq_loop _]
  exact loopW false hz f _ 0 rfl A R _ hl hb he (by simpa using q)
 |true=>
  show wpAny _ _ (Builtin.«list.__ne__» _) _ _ _
  wp_walk using AutoSeq1.wpAny_loadPart' hl,AutoSeq1.wpAny_loadPart' hb
  refine⟨plainId_quiet plain_eq_loop _,codeAny_builtin entry_eq_loop ?_⟩
  rw [Around.under_plainId plain_eq_loop _]
  exact loopW true hz f _ 0 rfl A R _ hl hb he (by simpa using q)
theorem callW {T id:String} {name:Str} {B:Builtin} {self:Value} {rest:List Value} {E Q:Value->Shared->Prop} (slot:Slot T name id) (hT:s.TypeIs self T) (entry:entryFor table id=some B) (args:argsOk id ⟨self :: rest, []⟩)
  (h:wpAny (model P w) A.in1 (B ⟨self :: rest, []⟩) (Fin1 P w A (wants Q E)) (fun e s'=>wants Q E (.error e) s') s):wpAny (model P w) A (call (.builtin id) (self :: rest)) Q E s:=
 wpAny_call (codeAny_call_builtin slot.plain entry (slot.check _ _ _ _ _ _ _ _ hT args h))
theorem RcW.lists (ne:Bool) {xs ys:Array Value} {f:Nat->Bool} (hl:s.heap.IsList l xs) (hb:s.heap.IsList b ys) (hz:xs.size=ys.size) (hu:A.units < cLine) (he:∀j (h1:j < xs.size) (h2:j < ys.size),EqW P w A.in1 s xs[j] ys[j] (f j)):
  RcW P w A s ne (.ref l) (.ref b) (ne !=(List.range xs.size).all f):=fun E Q q=>by
 obtain⟨⟨c1,d1,e1,s1⟩,ho,hc,n,hd⟩:=id hl
 obtain⟨⟨c2,d2,e2,s2⟩,ho2,hc2,m,hd2⟩:=id hb
 simp only at hc hd hc2 hd2
 subst hc hd hc2 hd2
 have q':Value.bool (ne !=(List.range xs.size).all f)≠Value.notImplemented/\Q (.bool (ne !=(List.range xs.size).all f)) s:=⟨(fun x=>nomatch x),q⟩
 cases ne with
 |false=>exact wpAny_richCompare_same_room (op:=.Eq) ⟨_,ho,rfl⟩ ⟨_,ho2,rfl⟩ F.slot_list_eq (callW F.slot_list_eq ⟨_,ho,rfl⟩ F.entry_list_eq (F.args_list_eq_2 _ _) (listW (R:=wants (fun v s'=>v≠ .notImplemented/\Q v s') E) false hz f ho ho2 he q')) hu
 |true=>exact wpAny_richCompare_same_room (op:=.NotEq) ⟨_,ho,rfl⟩ ⟨_,ho2,rfl⟩ F.slot_list_ne (callW F.slot_list_ne ⟨_,ho,rfl⟩ F.entry_list_ne (F.args_list_ne_2 _ _) (listW (R:=wants (fun v s'=>v≠ .notImplemented/\Q v s') E) true hz f ho ho2 he q')) hu
theorem RcW.listsN (ne:Bool) {xs ys:Array Value} (hl:s.heap.IsList l xs) (hb:s.heap.IsList b ys) (hz:(xs.size !=ys.size)=true) (hu:A.units < cLine):RcW P w A s ne (.ref l) (.ref b) (ne !=false):=fun E Q q=>by
 cases ne with
 |false=>exact SeqAt.RcAt.lists_lengths hl hb hz hu P w E Q q
 |true=>exact SeqAt.RcNeAt.lists_lengths hl hb hz hu P w E Q q
theorem tupW (ne:Bool) {xs ys:Array Value} {n m:Nat} {d1 d2:Option Addr} {s1 s2:Array (Option Value)} (f:Nat->Bool) {E Q:Value->Shared->Prop} (hl:s.heap.get? l=some (tob d1 xs n s1)) (hb:s.heap.get? b=some (tob d2 ys m s2))
  (he:∀j (h1:j < xs.size) (h2:j < ys.size),EqW P w A.in1 s xs[j] ys[j] (f j)) (q:Q (.bool (ne !=((List.range (min xs.size ys.size)).all f && xs.size==ys.size))) s):
  wpAny (model P w) A.in1 ((if ne=true then Builtin.«tuple.__ne__» else Builtin.«tuple.__eq__») ⟨[.ref l,.ref b], []⟩) (fun fin s'=>∃v,fin=.done (.ret v)/\Q v s') E s:=by
 obtain⟨hp,g,d,tk,os⟩:=s
 have f2:=AutoSeq1.sub_tuple_tuple
 have hZ:(xs.toList.zip ys.toList).length=min xs.size ys.size:=by simp
 have turn:∀(x y:Value) (rest:List (Value × Value)) (i:Nat),(x,y) :: rest=(xs.toList.zip ys.toList).drop i->∃(h1:i < xs.size) (h2:i < ys.size),x=xs[i]/\y=ys[i]/\rest=(xs.toList.zip ys.toList).drop (i+1)/\(List.range (min xs.size ys.size)).drop i=i ::(List.range (min xs.size ys.size)).drop (i+1):=fun x y rest i hz=>by
  have hlt:i <(xs.toList.zip ys.toList).length:=by
   rcases Nat.lt_or_ge i (xs.toList.zip ys.toList).length with z|z
   .exact z
   .rw [List.drop_of_length_le z] at hz;cases hz
  have hm:i < min xs.size ys.size:=hZ ▸ hlt
  have h1:i < xs.size:=Nat.lt_of_lt_of_le hm (Nat.min_le_left _ _)
  have h2:i < ys.size:=Nat.lt_of_lt_of_le hm (Nat.min_le_right _ _)
  rw [List.drop_eq_getElem_cons hlt] at hz
  injection hz with hxy hrest
  exact⟨h1,h2,by have:=congrArg Prod.fst hxy;simpa using this,by have:=congrArg Prod.snd hxy;simpa using this,hrest,by simp [List.drop_eq_getElem_cons,hm]⟩
 have last:∀i:Nat, []=(xs.toList.zip ys.toList).drop i->(List.range (min xs.size ys.size)).drop i=[]:=fun i hz=>by
  have hge:min xs.size ys.size<=i:=by
   rcases Nat.lt_or_ge i (xs.toList.zip ys.toList).length with z|z
   .rw [List.drop_eq_getElem_cons z] at hz;cases hz
   .exact hZ ▸ z
  exact List.drop_of_length_le (by simpa using hge)
 cases ne with
 |false=>
  show wpAny _ _ (Builtin.«tuple.__eq__» _) _ _ _
  wp_walk using AutoSeq1.wpAny_loadPart' hl,AutoSeq1.wpAny_loadPart' hb,wpAny_forIn_list _ (fun rest c s'=>c.1=none/\s'=⟨hp,g,d,tk,os⟩/\∃i,rest=(xs.toList.zip ys.toList).drop i/\Q (.bool (((List.range (min xs.size ys.size)).drop i).all f && xs.size==ys.size)) ⟨hp,g,d,tk,os⟩) _
  case turn=>
   rintro⟨x,y⟩ rest c s' ⟨hc,rfl,i,hz,hR⟩
   obtain⟨h1,h2,rfl,rfl,hrest,hd⟩:=turn x y rest i hz
   rw [hd,all_cons] at hR
   refine wpAny_bind (he i h1 h2 _ _ ?_)
   cases hf:f i with
   |true=>
    rw [hf] at hR
    wp_walk
    exact⟨rfl,rfl,i+1,hrest,by simpa using hR⟩
   |false=>
    rw [hf] at hR
    wp_walk
    exact⟨_,rfl,by simpa using hR⟩
  case fin=>
   rintro⟨c1,c2⟩ s' ⟨hc,rfl,i,hz,hR⟩
   simp only at hc
   subst hc
   rw [last i hz] at hR
   wp_walk
   exact⟨_,rfl,by simpa [Builtin.Tuple.tupleCompareSizes] using hR⟩
  case h=>exact⟨rfl,rfl,0,rfl,by simpa using q⟩
 |true=>
  show wpAny _ _ (Builtin.«tuple.__ne__» _) _ _ _
  wp_walk using AutoSeq1.wpAny_loadPart' hl,AutoSeq1.wpAny_loadPart' hb,wpAny_forIn_list _ (fun rest c s'=>c.1=none/\s'=⟨hp,g,d,tk,os⟩/\∃i,rest=(xs.toList.zip ys.toList).drop i/\Q (.bool (!(((List.range (min xs.size ys.size)).drop i).all f && xs.size==ys.size))) ⟨hp,g,d,tk,os⟩) _
  case turn=>
   rintro⟨x,y⟩ rest c s' ⟨hc,rfl,i,hz,hR⟩
   obtain⟨h1,h2,rfl,rfl,hrest,hd⟩:=turn x y rest i hz
   rw [hd,all_cons] at hR
   refine wpAny_bind (he i h1 h2 _ _ ?_)
   cases hf:f i with
   |true=>
    rw [hf] at hR
    wp_walk
    exact⟨rfl,rfl,i+1,hrest,by simpa using hR⟩
   |false=>
    rw [hf] at hR
    wp_walk
    exact⟨_,rfl,by simpa using hR⟩
  case fin=>
   rintro⟨c1,c2⟩ s' ⟨hc,rfl,i,hz,hR⟩
   simp only at hc
   subst hc
   rw [last i hz] at hR
   wp_walk
   exact⟨_,rfl,by simpa [Builtin.Tuple.tupleCompareSizes,bne] using hR⟩
  case h=>exact⟨rfl,rfl,0,rfl,by simpa using q⟩
theorem RcW.tuples (ne:Bool) {xs ys:Array Value} {f:Nat->Bool} (hl:s.heap.IsTuple l xs) (hb:s.heap.IsTuple b ys) (hu:A.units < cLine) (he:∀j (h1:j < xs.size) (h2:j < ys.size),EqW P w A.in1 s xs[j] ys[j] (f j)):
  RcW P w A s ne (.ref l) (.ref b) (ne !=((List.range (min xs.size ys.size)).all f && xs.size==ys.size)):=fun E Q q=>by
 obtain⟨⟨c1,d1,e1,s1⟩,ho,hc,n,hd⟩:=id hl
 obtain⟨⟨c2,d2,e2,s2⟩,ho2,hc2,m,hd2⟩:=id hb
 simp only at hc hd hc2 hd2
 subst hc hd hc2 hd2
 cases ne with
 |false=>exact wpAny_richCompare_same_room (op:=.Eq) ⟨_,ho,rfl⟩ ⟨_,ho2,rfl⟩ F.slot_tuple_eq (wpAny_call_entry F.slot_tuple_eq ⟨_,ho,rfl⟩ F.entry_tuple_eq (tupW (Q:=fun v s'=>v≠ .notImplemented/\Q v s') false f ho ho2 he ⟨(fun x=>nomatch x),q⟩) (F.args_tuple_eq_2 _ _)) hu
 |true=>exact wpAny_richCompare_same_room (op:=.NotEq) ⟨_,ho,rfl⟩ ⟨_,ho2,rfl⟩ F.slot_tuple_ne (wpAny_call_entry F.slot_tuple_ne ⟨_,ho,rfl⟩ F.entry_tuple_ne (tupW (Q:=fun v s'=>v≠ .notImplemented/\Q v s') true f ho ho2 he ⟨(fun x=>nomatch x),q⟩) (F.args_tuple_ne_2 _ _)) hu
end
end My
namespace My
open PySem PySem.Spec PyProof.Rows L2
inductive DEq (K:Frag) (H:Hp):Nat->V->V->Bool->Prop
 |same {n:Nat} {a:Addr}:DEq K H n (.ref a) (.ref a) true
 |flat {n:Nat} {x y:V} (hx:qd0 x=true) (hy:qd0 y=true):DEq K H n x y (eqV x y)
 |ls {n:Nat} {a b:Addr} {xs ys:List V} {e:Nat->Bool} (ha:SqL K H a xs) (hb:SqL K H b ys) (ne:a≠b) (hl:xs.length=ys.length)
   (he:∀j (h1:j < xs.length) (h2:j < ys.length),DEq K H n xs[j] ys[j] (e j)):DEq K H (n+1) (.ref a) (.ref b) ((List.range xs.length).all e)
 |lsN {n:Nat} {a b:Addr} {xs ys:List V} (ha:SqL K H a xs) (hb:SqL K H b ys) (ne:a≠b) (hl:xs.length≠ys.length):DEq K H (n+1) (.ref a) (.ref b) false
 |ts {n:Nat} {a b:Addr} {xs ys:List V} {e:Nat->Bool} (ha:SqT K H a xs) (hb:SqT K H b ys) (ne:a≠b)
   (he:∀j (h1:j < xs.length) (h2:j < ys.length),DEq K H n xs[j] ys[j] (e j)):DEq K H (n+1) (.ref a) (.ref b) ((List.range (min xs.length ys.length)).all e && xs.length==ys.length)
 |dd {n:Nat} {a b:Addr} {ka kb:List (Key × V)} (ha:Rd H a (.dK ka)) (hb:Rd H b (.dK kb)) (ne:a≠b) (fa:∀p∈ka,qd0 p.2=true) (fb:∀p∈kb,qd0 p.2=true):
   DEq K H (n+1) (.ref a) (.ref b) (ka.length==kb.length && ka.all fun p=>(qcx kb p.1).elim false (eqV p.2))
theorem qdv {xs:List V} {us:List Value} (r:qbb xs us) {j:Nat} (h1:j < xs.length) (h2:j < us.length):qb6 xs[j] us[j]:=by
 obtain⟨u,e,ru⟩:=r.get (getElem?_eq_getElem h1)
 rw [getElem?_eq_getElem h2] at e
 cases e
 exact ru
theorem valV_mem {kvs:List (Key × V)} {k:Key} {v:V} (h:qcx kvs k=some v):(k,v)∈kvs:=by
 unfold qcx at h
 obtain⟨p,hp,rfl⟩:=Option.map_eq_some_iff.mp h
 have e:=List.find?_some hp
 have e':p.1=k:=of_decide_eq_true e
 subst e'
 exact List.mem_of_find?_eq_some hp
theorem hits_of {A:Around} {s:Shared} {kb:List (Key × V)} {vb:List (Key × Value)} (rb:KV kb vb) (fb:∀p∈kb,qd0 p.2=true) {ka:List (Key × V)} {va:List (Key × Value)} (ra:KV ka va) (fa:∀p∈ka,qd0 p.2=true):
  PySem.W.KeqHits A s vb va (ka.all fun p=>(qcx kb p.1).elim false (eqV p.2)):=by
 induction ra with
 |nil=>exact .nil
 | @cons p q l1 l2 h t ih=>
  obtain⟨k,v⟩:=p
  obtain⟨k',u⟩:=q
  obtain⟨e,ru⟩:=h
  dsimp only at e ru
  subst e
  have z:=rb.val k
  rw [all_cons]
  have ih':=ih fun p hp=>fa p (mem_cons_of_mem _ hp)
  cases hv:qcx kb k with
  |none=>
   rw [hv] at z
   have hn:valueAt vb k=none:=qe5.none_of z
   exact .miss hn
  |some y=>
   rw [hv] at z
   cases hu:valueAt vb k with
   |none=>rw [hu] at z;exact z.elim
   |some yu=>
    rw [hu] at z
    exact .hit hu (eqAt_V ru z (fa _ (mem_cons_self ..)) (fb _ (valV_mem hv))) ih'
section
variable {X: Cx} {pins: List (Addr × Obj)} {σ: L2.St} {H: Hp} {s: Shared}
theorem PlainL.isList {h:Heap} {a:Addr} {its:Array Value} (p:PlainL h a its):h.IsList a its:=by
 obtain⟨o,n,e,c,d,t⟩:=p
 exact⟨o,e,c,n,t⟩
theorem deq_ok (I:Inv X pins σ H s) {n:Nat} {x y:V} {k:Bool} (q:DEq X.K H n x y k):∀(A:Around) (u v:Value),qb6 x u->qb6 y v->A.units+n < cLine->
  EqW X.prog X.w A s u v k/\∀a b,x=.ref a->y=.ref b->a≠b->∀ne:Bool,RcW X.prog X.w A s ne (.ref a) (.ref b) (ne !=k):=by
 have both:∀{A:Around} {a b:Addr} {k:Bool},a≠b->(∀ne:Bool,RcW X.prog X.w A s ne (.ref a) (.ref b) (ne !=k))->
   EqW X.prog X.w A s (.ref a) (.ref b) k/\∀a' b',V.ref a=.ref a'->V.ref b=.ref b'->a'≠b'->∀ne:Bool,RcW X.prog X.w A s ne (.ref a') (.ref b') (ne !=k):=fun {A a b k} ne R=>
  ⟨EqW.refs ne (by have z:=R false;simpa using z),fun a' b' e1 e2 _=>by cases e1;cases e2;exact R⟩
 induction q with
 | @same n a=>
  intro A u v ru rv hu
  obtain rfl:u=Value.ref a:=ru
  obtain rfl:v=Value.ref a:=rv
  exact⟨EqW.of (SeqAt.EqAt.same _),fun a' b' e1 e2 ne=>by cases e1;cases e2;exact absurd rfl ne⟩
 |flat hx hy=>
  intro A u v ru rv hu
  exact⟨EqW.of (eqAt_V ru rv hx hy),fun a b e _ _=>by subst e;cases hx⟩
 | @ls n a b xs ys e ha hb ne hl he ih=>
  intro A u v ru rv hu
  obtain rfl:u=Value.ref a:=ru
  obtain rfl:v=Value.ref b:=rv
  obtain⟨its,r1,p1,_⟩:=I.list ha
  obtain⟨its2,r2,p2,_⟩:=I.list hb
  have l1:=r1.length
  have l2:=r2.length
  refine both ne fun nb=>?_
  have z:=RcW.lists (P:=X.prog) (w:=X.w) (A:=A) (s:=s) nb (f:=e) (PlainL.isList p1) (PlainL.isList p2) (by rw [size_toArray,size_toArray];omega) (by omega) fun j h1 h2=>by
   have k1:j < its.length:=by simpa using h1
   have k2:j < its2.length:=by simpa using h2
   have w:=(ih j (by omega) (by omega) A.in1 its[j] its2[j] (qdv r1 (by omega) k1) (qdv r2 (by omega) k2) (by show A.units+1+n < cLine;omega)).1
   simpa using w
  rw [size_toArray,<-l1] at z
  exact z
 | @lsN n a b xs ys ha hb ne hl=>
  intro A u v ru rv hu
  obtain rfl:u=Value.ref a:=ru
  obtain rfl:v=Value.ref b:=rv
  obtain⟨its,r1,p1,_⟩:=I.list ha
  obtain⟨its2,r2,p2,_⟩:=I.list hb
  have l1:=r1.length
  have l2:=r2.length
  exact both ne fun nb=>RcW.listsN nb (PlainL.isList p1) (PlainL.isList p2) (by rw [size_toArray,size_toArray];simp;omega) (by omega)
 | @ts n a b xs ys e ha hb ne he ih=>
  intro A u v ru rv hu
  obtain rfl:u=Value.ref a:=ru
  obtain rfl:v=Value.ref b:=rv
  obtain⟨its,r1,p1,_⟩:=I.tuple ha
  obtain⟨its2,r2,p2,_⟩:=I.tuple hb
  have l1:=r1.length
  have l2:=r2.length
  refine both ne fun nb=>?_
  have z:=RcW.tuples (P:=X.prog) (w:=X.w) (A:=A) (s:=s) nb (f:=e) p1 p2 (by omega) fun j h1 h2=>by
   have k1:j < its.length:=by simpa using h1
   have k2:j < its2.length:=by simpa using h2
   have w:=(ih j (by omega) (by omega) A.in1 its[j] its2[j] (qdv r1 (by omega) k1) (qdv r2 (by omega) k2) (by show A.units+1+n < cLine;omega)).1
   simpa using w
  rw [size_toArray,size_toArray,<-l1,<-l2] at z
  exact z
 | @dd n a b ka kb ha hb ne fa fb=>
  intro A u v ru rv hu
  obtain rfl:u=Value.ref a:=ru
  obtain rfl:v=Value.ref b:=rv
  obtain⟨_,ga,va,ra,da⟩:=qes I.hok ha
  obtain⟨_,gb,vb,rb,db⟩:=qes I.hok hb
  have l1:=ra.length
  have l2:=rb.length
  refine both ne fun nb E Q q=>?_
  have hits:=hits_of (A:=A.in1) (s:=s) rb fb ra fa
  rw [l1,l2] at q
  cases nb with
  |false=>exact PySem.W.keq_eq ga gb da db (by omega) (fun _=>hits) (by simpa using q)
  |true=>exact PySem.W.keq_ne ga gb da db (by omega) (fun _=>hits) (by simpa using q)
def rEqD (K:Frag):R2:=fun x y H Q=>∃a b n k,x=.ref a/\y=.ref b/\a≠b/\n<=8/\DEq K H n (.ref a) (.ref b) k/\Q (.bl k) H
theorem op_eqD (hu:X.A.units+8 < cLine):OpR X (compareOp .Eq) (rEqD X.K):=by
 intro pins s σ H x y v u Q I rx ry h
 obtain⟨a,b,n,k,rfl,rfl,ne,hn,q,z⟩:=h
 cases rx
 cases ry
 have r:=(deq_ok I q X.A _ _ rfl rfl (by omega)).2 a b rfl rfl ne false X.xe (EP X pins σ Q)
 rw [Bool.false_bne] at r
 exact r ⟨.bl k,H,I,rfl,z⟩
end
end My
namespace My
open PySem PySem.Spec PyProof.Rows L2
section
variable {X: Cx}
def rListOf (K:Frag):List V->Hp->VK->Prop:=fun xs H Q=>∃p ys,xs=[.ref p]/\(SqL K H p ys\/SqT K H p ys)/\∀l,H l=none->Q (.ref l) (upd H l (.lst ys))
theorem call_listR:qcb X (.type "list") (rListOf X.K):=call_list_of
end
section
variable {K: Frag} {σ: L2.St} {H: Hp} {Q: VK} {p l b: Addr} {ys xs zs: List V} {to: TE} {t: TA} {T: String} {r: V -> List V -> Hp -> VK -> Prop} {x v: V}
theorem r_listL (h:SqL K H p ys) (q:∀l,H l=none->Q (.ref l) (upd H l (.lst ys))):rListOf K [.ref p] H Q:=⟨p,ys,rfl,.inl h,q⟩
theorem r_bm (h:to σ H fun x H1=>tyV K T x H1/\t σ H1 fun xs H2=>r x xs H2 Q):tBM K T r to t σ H Q:=h
theorem r_bm0 (h:to σ H fun x H1=>tyV K T x H1/\r x [] H1 Q):tBM0 K T r to σ H Q:=h
theorem r_tyL {P:Prop} (h:SqL K H p ys) (q:P):tyV K "list" (.ref p) H/\P:=⟨.inl ⟨rfl,_,h⟩,q⟩
theorem r_append (h:H l=some (.lst xs)) (hz:xs.length < sizeLine) (q:Q .non (upd H l (.lst (xs++ [v])))):rAppend (.ref l) [v] H Q:=⟨l,xs,v,rfl,rfl,h,hz,q⟩
theorem r_cat (h:H l=some (.lst xs)) (h':H b=some (.lst zs)) (hz:xs.length+zs.length<=sizeLine) (q:∀p,H p=none->Q (.ref p) (upd H p (.lst (xs++zs)))):rCat (.ref l) (.ref b) H Q:=⟨l,b,xs,zs,rfl,rfl,h,h',hz,q⟩
end
end My
namespace My
open PySem PySem.Spec PyProof.Rows L2
def initIn (K:Frag) (C f:Addr):Bool:=match K.lookup C with
 |some ⟨.type "type",_,.cls cd,sl⟩=>(match cd.mro,sl.toList with
  | .ref C' :: bm, [_,_,_,_,some (.builtin n),_]=>C'==C && n== "ValueError.__new__" && !cd.hasDel && PySem.W.tailIn K [.type "ValueError",.type "Exception",.type "BaseException",.type "object"] bm && PySem.W.nsOkIn K cd.ns && nsIn K cd.ns "__init__" ==some (some (.ref f))
  |_,_=>false)
 |_=>false
theorem xcli_of {K:Frag} {C f:Addr} (q:initIn K C f=true) (hf:isFn K (.ref f)=true):XClI K C f:=by
 refine⟨?_,hf⟩
 unfold initIn at q
 split at q
 .rename_i dd cd sl ho
  split at q
  .rename_i C' bm k0 k1 k2 k3 n k5 hm hs
   simp only [Bool.and_eq_true,beq_iff_eq,Bool.not_eq_true'] at q
   obtain⟨⟨⟨⟨⟨rfl,rfl⟩,hdel⟩,ht⟩,hok⟩,hni⟩:=q
   obtain⟨nm,bs,mro,ns,qn,hd,sn,sub,ab,col,del⟩:=cd
   dsimp only at hm hdel hok hni
   subst hm hdel
   have hsl:sl= #[k0,k1,k2,k3,some (.builtin "ValueError.__new__"),k5]:=by
    obtain⟨l⟩:=sl
    simp only at hs
    rw [hs]
   subst hsl
   unfold PySem.W.nsOkIn at hok
   split at hok
   .rename_i c1 d1 es ep sl1 hN
    have hSK:StrKeys es:=fun e he=>by
     have z:=Array.all_eq_true_iff_forall_mem.mp hok e he
     split at z
     .rename_i n t q;exact⟨n,t,q⟩
     .cases z
    have hNs:∀h:Heap,K.In h->h.Ns ns (fun x=>nsFind es x):=fun h X=>⟨_,es,ep,X _ _ hN,rfl,hSK,fun _=>rfl⟩
    refine⟨nm,qn,ns,bs,bm,hd,sn,sub,ab,col,dd,k0,k1,k2,k3,k5,fun x=>nsFind es x,ho,hNs,?_,fun h X=>PySem.W.tail_of_in X ht⟩
    unfold nsIn at hni
    rw [hN] at hni
    dsimp only at hni
    split at hni
    .rename_i hf
     show nsFind es "__init__" =some (.ref f)
     unfold nsFind findBy
     rw [<-Array.find?_toList,hf]
     exact congrArg some (Option.some.inj (Option.some.inj hni))
    .first|(split at hni <;> cases hni) |simp at hni
   .cases hok
  .cases q
 .cases q
end My
namespace My
open PySem PySem.Spec PyProof.Rows L2
structure RoomH (k:Nat) (A:Around):Prop where
 dp:A.depth+3*k+5 < recursionLimit
 un:A.units+16*k+200 < cLine
theorem RoomH.deeper {k:Nat} {A:Around} (r:RoomH (k+1) A) (env:Env):RoomH k (A.deeper env):=
 ⟨by have:=r.dp;show A.depth+1+3*k+5 < _;omega,by have:=r.un;show A.units+3+16*k+200 < _;omega⟩
theorem RoomH.depth {k:Nat} {A:Around} (r:RoomH k A):A.depth < recursionLimit:=by have:=r.dp;omega
theorem roomH {k:Nat} {A:Around} (r:Room k A) (h:Option Value):RoomH k (A.mark h):=⟨r.dp,r.un⟩
structure FnOkH (P:Program) (w:World) (K:Frag) (mg:Str->Option Value) (base:Heap) (k:Nat) (f:Addr) (fd:FuncData) (ps:List Str) (sp:Sp):Prop where
 len:∀vs H Q E,sp vs H Q E->vs.length=ps.length
 run:∀(a:Addr) (A:Around) (outer:List Env) (s:Shared) (H:Hp) (args:Args) (us:List Value) (vs:List V) (Q:VK) (E:XK),RoomH k A->A.handled=some (.ref a)->Env0 P w K mg base A outer s H->BindsTo s fd args (ps.zip us)->qbb vs us->sp vs H Q E->
  codeAny (model P w) A (.call (.ref f) args) (CR CX0 outer P w H s Q E) s
abbrev calmA (A:Around):Around:={A with handled:=none}
theorem mark_back {A:Around} {env:Env} {v:Value} (h:A.handled=some v):((calmA A).deeper env).mark (some v)=A.deeper env:=by
 obtain⟨hd,dp,fr,gu,un⟩:=A
 obtain rfl:hd=some v:=h
 rfl
theorem fn_ofH {P:Program} {w:World} {K:Frag} {mg:Str->Option Value} {base:Heap} {k:Nat} {f:Addr} {name qual:Str} {params:Arguments} {body:List Stmt} {scope:Scope} {dV kV doc pm cdv ct oc:Value} {an od:Option Addr}
  {osl:Array (Option Value)} {N ps:List Str} {sp:Sp} (lk:K.lookup f=some ⟨oc,od,.func (fnOf name qual params body scope dV kV doc pm an cdv ct),osl⟩) (hcd:codeIn K cdv qual=true) (S:FnScope N ps scope)
  (len:∀vs H Q E,sp vs H Q E->vs.length=ps.length)
  (hbody:∀(a:Addr) (A:Around) (outer:List Env) (s:Shared) (H:Hp) (vs:List V) (Q:VK) (E:XK),RoomH k (A.deeper (envOfC qual scope s.heap.objs.size f cdv))->sp vs H Q E->
   ∃t,PSs (suite (cxOf CX0 P w K mg base N qual scope f cdv (calmA A) outer s H E) a) body t/\t {nx:=fun _ H'=>Q .non H',rt:=Q} (qdf N vs) H):
  FnOkH P w K mg base (k+1) f (fnOf name qual params body scope dV kV doc pm an cdv ct) ps sp:=by
 refine⟨len,fun a A outer s H args us vs Q E hr hh e0 hb r hsp=>?_⟩
 have hl:=len _ _ _ _ hsp
 have KX:K.In s.heap:=e0.mod.kin.keeps fun b o e=>(e0.bs b o e).1
 have lim:s.heap.NoLimit:=e0.mod.nolimit.keeps fun b o e=>(e0.bs b o e).1
 have hkind:∀y∈ps.zip us,scope.names.lookup y.1=some .local\/(scope.names.lookup y.1=some .cell/\((cellsFrom (s.heap.objs.size+1) scope.names []).lookup y.1).isSome=true):=fun⟨n,v⟩ hy=>by
  rcases S.par n (List.of_mem_zip hy).1 with q|q
  .exact .inl q
  .exact .inr ⟨q,PySem.W.cellsFrom_some _ _ _ (.inl q)⟩
 refine codeAny_call_function hr.depth (KX _ _ lk) rfl S.co S.gen rfl (PySem.W.codeRec_of KX hcd) (hb _ _ _ _ ?_)
 refine wpAny_newFunctionEnv_cells S.kind hkind fun env he s1 x=>?_
 subst he
 refine⟨lim.keeps x.toInCall.keep,codeAny_func ?_⟩
 obtain⟨t,ht,hq⟩:=hbody a A outer s H vs Q E (hr.deeper _) hsp
 have e1:Env0 P w K mg base (calmA A) outer s H:=⟨e0.frames,e0.mod,e0.bs,e0.bsz,e0.funs,e0.frf,e0.hok,e0.bare⟩
 have I0:Inv (cxOf CX0 P w K mg base N qual scope f cdv (calmA A) outer s H E) [] (qdf N vs) H s1:=inv_start S rfl e1 hl r x
 have I:=Inv.suite I0 a
 have z:=ht [] s1 (qdf N vs) H _ I hq
 have hA:(suite (cxOf CX0 P w K mg base N qual scope f cdv (calmA A) outer s H E) a).A=A.deeper (envOfC qual scope s.heap.objs.size f cdv):=mark_back hh
 rw [hA] at z
 refine wpAny_mono z (fun fl s' hs=>?_) fun e s' hs=>hs.elim
 have fin:∀{σ':L2.St} {H':Hp} {v:V} {u:Value},Inv (suite (cxOf CX0 P w K mg base N qual scope f cdv (calmA A) outer s H E) a) [] σ' H' s'->qb6 v u->Q v H'->CE outer P w H s Q u s':=
  fun {σ' H' v u} J rv q=>⟨v,H',J.os,J.bare,J.base,J.hok,rv,q⟩
 cases fl with
 |ret u=>
  obtain⟨v,σ',H',J,rv,q⟩:=hs
  exact fin J rv q
 |next=>
  obtain⟨σ',H',J,q⟩:=hs
  exact fin (v:=V.non) (u:=Value.none) J rfl q
 |brk=>
  obtain⟨_,_,_,q⟩:=hs
  exact False.elim q
 |cont=>
  obtain⟨_,_,_,q⟩:=hs
  exact False.elim q
section
variable {X: Cx} {k: Nat} {f a: Addr} {fd: FuncData} {ps: List Str} {sp: Sp} {x: Str} {p pos: Pos} {e: Expr} {es: List Expr} {t: TA}
theorem qfm (F:FnOkH X.prog X.w X.K X.mg X.base k f fd ps sp) (hr:Room k X.A) (hg:Gl X x) (hm:X.mg x=some (.ref f)) (hk:keepIn X.K (.ref f)=true) (hb:qan X.K fd ps [])
  (ha:PA (suite X a) (e :: es) t) (hdb:(x==("__debug__" :Str))=false:=by decide) (he:starEach (e :: es) X.env=(false,eval e X.env) :: starEach es X.env:=by rfl) (hpl:(backTo pos (starEach es X.env)).any (·.1)=false:=by rfl):
  PE (suite X a) (.Call (.Name x p) (e :: es) [] pos) (tCall sp [] E0 t):=by
 intro pins s σ H Q I h
 refine wpAny_Call_Name_kw (qcm I hg hm ?_ hdb)
 refine PySem.W.callWith_K (h₀:=X.base) I.ok.mod.kin hk (thn (ha pos pins s σ H _ I h) fun us s1 ⟨vs,H1,I1,r,q⟩=>⟨I1.kIn,?_⟩) he hpl
 replace q:sp (vs++ []) H1 Q E0:=q
 rw [append_nil] at q
 have hl:(us++ []).length=ps.length:=by rw [append_nil,<-r.length];exact F.len _ _ _ _ q
 have hb':=hb s1 us I1.kIn hl
 rw [append_nil] at hb'
 refine wpAny_call (codeAny_mono (F.run a (suite X a).A (suite X a).stack s1 H1 ⟨us, []⟩ us vs Q E0 (roomH hr _) rfl I1.env0 hb' r q) fun r s' hq=>?_)
 cases r with
 |error e=>exact hq.elim
 |ok fl=>
  cases fl with
  |ret u=>exact I1.after hq
  |next=>exact False.elim hq
  |brk=>exact False.elim hq
  |cont=>exact False.elim hq
end
end My
namespace My
open PySem PySem.Spec PyProof.Rows L2
section
variable {X: Cx}
def rNeD (K:Frag):R2:=fun x y H Q=>∃a b n k,x=.ref a/\y=.ref b/\a≠b/\n<=8/\DEq K H n (.ref a) (.ref b) k/\Q (.bl (!k)) H
theorem op_neD (hu:X.A.units+8 < cLine):OpR X (compareOp .NotEq) (rNeD X.K):=by
 intro pins s σ H x y v u Q I rx ry h
 obtain⟨a,b,n,k,rfl,rfl,ne,hn,q,z⟩:=h
 cases rx
 cases ry
 have r:=(deq_ok I q X.A _ _ rfl rfl (by omega)).2 a b rfl rfl ne true X.xe (EP X pins σ Q)
 rw [Bool.true_bne] at r
 exact r ⟨.bl (!k),H,I,rfl,z⟩
end
section
variable {K: Frag} {H: Hp} {Q: VK} {a b: Addr} {n: Nat} {k: Bool}
theorem r_eqD (ne:a≠b) (hn:n<=8) (q:DEq K H n (.ref a) (.ref b) k) (h:Q (.bl k) H):rEqD K (.ref a) (.ref b) H Q:=⟨a,b,n,k,rfl,rfl,ne,hn,q,h⟩
theorem r_neD (ne:a≠b) (hn:n<=8) (q:DEq K H n (.ref a) (.ref b) k) (h:Q (.bl (!k)) H):rNeD K (.ref a) (.ref b) H Q:=⟨a,b,n,k,rfl,rfl,ne,hn,q,h⟩
end
end My
namespace My
open PySem PySem.Spec PyProof.Rows L2
section
variable {K: Frag} {σ: L2.St} {H: Hp} {Q: VK} {D: Ends} {ta tv: TE} {t: TA} {f: Str} {C: Addr}
theorem r_xi (h:t σ H fun xs H1=>∃a d ys,xs=.ref a :: ys/\ys.length<=sizeLine/\H1 a=some (XS a C d)/\Q .non H1):tXInit C t σ H Q:=h
theorem r_sxf (h:tv σ H fun y H1=>ta σ H1 fun x H2=>∃a C,x=.ref a/\XAt K C/\qar K C f/\
 ((H2 a=some (XS a C none)/\∀dx,H2 dx=none->dx≠a->D.nx σ (upd (upd H2 dx (XD dx [(f,y)])) a (XS a C (some dx))))\/
  ∃dx fs,H2 a=some (XS a C (some dx))/\H2 dx=some (XD dx fs)/\fs.length < 1000/\D.nx σ (upd H2 dx (XD dx (qdp f y fs))))):sXF K ta tv f D σ H:=h
theorem r_txf (h:ta σ H fun x H1=>∃a C dx fs v,x=.ref a/\H1 a=some (XO a (.ref C) (some dx))/\H1 dx=some (XD dx fs)/\XAt K C/\qar K C f/\fs.lookup f=some v/\Q v H1):tXF K ta f σ H Q:=h
theorem r_rI {sp:Sp} {W:L2.St->XK} (h:t σ H fun xs H1=>xs.length<=sizeLine/\∀a,H1 a=none->sp (.ref a :: xs) (upd H1 a (XS a C none)) (fun v H2=>v=.non/\∃d,H2 a=some (XS a C d)/\W σ (.ref C) d (My.del H2 a)) E0):tRaiseI t C sp W D σ H:=h
theorem r_exs {P:Str->Prop} {z:Str} (h:P z):∃y,V.str z=.str y/\P y:=⟨z,rfl,h⟩
theorem r_szS {z:Str} {B:Prop} (hz:z.length<=sizeLine) (h:B):z.length<=sizeLine/\B:=⟨hz,h⟩
end
theorem okH {P:Program} {w:World} {K:Frag} {mg:Str->Option Value} {base:Heap} {x qual:Str} {st:Stmt} {f:Addr} {fd:FuncData} {N ps:List Str} {k:Nat} {sp:Sp} (F:Fun K x qual st f fd) (S:FnScope N ps (qab st)) (len:∀vs H Q E,sp vs H Q E->vs.length=ps.length)
  (hbody:∀(cdv:Value) (a:Addr) (A:Around) (outer:List Env) (s:Shared) (H:Hp) (vs:List V) (Q:VK) (E:XK),RoomH k (A.deeper (envOfC qual (qab st) s.heap.objs.size f cdv))->sp vs H Q E->
   ∃t,PSs (suite (cxOf CX0 P w K mg base N qual (qab st) f cdv (calmA A) outer s H E) a) (qbs st) t/\t {nx:=fun _ H'=>Q .non H',rt:=Q} (qdf N vs) H):FnOkH P w K mg base (k+1) f fd ps sp:=by
 obtain⟨oc,od,kV,doc,pm,an,cdv,ct,osl,rfl,lk,hcd⟩:=F.ex
 exact fn_ofH lk hcd S len fun a A outer s H vs Q E hr hsp=>hbody cdv a A outer s H vs Q E hr hsp
end My
namespace My
open PySem PySem.Spec PyProof.Rows L2
theorem RoomH.mono {j k:Nat} {A:Around} (r:RoomH k A) (h:j<=k):RoomH j A:=⟨by have:=r.dp;omega,by have:=r.un;omega⟩
theorem FnOkH.mono {P:Program} {w:World} {K:Frag} {mg:Str->Option Value} {base:Heap} {j k:Nat} {f:Addr} {fd:FuncData} {ps:List Str} {sp:Sp} (F:FnOkH P w K mg base j f fd ps sp) (h:j<=k):FnOkH P w K mg base k f fd ps sp:=
 ⟨F.len,fun a A outer s H args us vs Q E hr=>F.run a A outer s H args us vs Q E (hr.mono h)⟩
theorem hu8 {k:Nat} {A:Around} (r:Room k A):A.units+8 < cLine:=by have:=r.un;omega
def SameBut (L:Addr) (H H':Hp):Prop:=∀b o,b≠L->H b=some o->H' b=some o
theorem SameBut.at {H H':Hp} {L:Addr} {o:HO} (e:SameBut L H H'):SameBut L H (upd H' L o):=fun b u hb q=>by
 rw [qa9 hb];exact e b u hb q
theorem SameBut.same {H H1 H2:Hp} {L:Addr} (e:SameBut L H H1) (s:qb0 H1 H2):SameBut L H H2:=fun b u hb q=>s b u (e b u hb q)
theorem SameBut.of {H H':Hp} {L:Addr} (s:qb0 H H'):SameBut L H H':=fun b u _ q=>s b u q
def qfx (d:Option Addr) (H:Hp):Prop:=∀dx,d=some dx->∃o,H dx=some o
theorem lives_new {d:Option Addr} {H:Hp} {p:Addr} {o:HO} (h:qfx d H) (n:H p=none):qfx d (upd H p o):=fun dx e=>let ⟨u,hu⟩:=h dx e;⟨u,qa7 hu n⟩
theorem qcc {H:Hp}:qfx none H:=fun _ e=>by cases e
theorem qf8 {H:Hp} {dx:Addr} {o:HO} (h:H dx=some o):qfx (some dx) H:=fun _ e=>by cases e;exact⟨o,h⟩
section
variable {K: Frag} {H: Hp} {Q: VK} {a C c: Addr} {d: Option Addr} {b: Bool}
theorem r_isxL (e:H a=some (XO a (.ref C) d)) (ed:qfx d H) (ha:XAt K C) (k:kitOne K (.ref C) (.ref c)=some b) (h:Q (.bl b) H):rIsx K [.ref a,.ref c] H Q:=r_isx e ed ha k h
end
end My
namespace My
open PySem PySem.Spec PyProof.Rows L2
def NoFrz (H:Hp) (a:Addr):Prop:=∀o u,H a≠some (.frz o u)
section
variable {X: Cx} {pins: List (Addr × Obj)} {σ: L2.St} {H H': Hp} {s: Shared} {a: Addr} {kvs: List (Key × V)} {o: Obj}
theorem Inv.freeze (I:Inv X pins σ H s) (e:H a=some (.dK kvs)) (ho:s.heap.get? a=some o):Inv X pins σ (upd H a (.frz o (.dK kvs))) s:=by
 have ok:=I.hok a _ e
 have z:=I.write (x:=a) (e:=a) (o:=.frz o (.dK kvs)) (h':=s.heap) (t':=s.toks) (by rw [e];exact True.intro) (.inl rfl) (fun _ _ _ q=>q) ⟨o,ho⟩ ⟨ho,ok⟩
 exact z
theorem Inv.thaw (I:Inv X pins σ H s) (e:H a=some (.frz o (.dK kvs))) (n0:NoFrz X.H₀ a):Inv X pins σ (upd H a (.dK kvs)) s:=by
 have ne:∀b,H b=none->b≠a:=fun b q z=>by subst z;rw [e] at q;cases q
 have nk:∀b u,H b=some u->(∀o' u',u≠ .frz o' u')->b≠a:=fun b u q z w=>by subst w;rw [e] at q;cases q;exact z _ _ rfl
 refine⟨I.ok,I.os,I.bare,⟨I.base.keep,I.base.slot,fun b ob q n hx=>?_,I.base.there,fun b xs q=>?_,fun b ob u q=>?_,fun b ps q=>?_⟩,I.loc,I.cell,?_,fun x c q=>?_,fun p hp=>?_,fun b u q=>?_,I.len⟩
 .have z:=I.base.free b ob q n hx
  rw [qa9 (ne b z)];exact z
 .have z:=I.base.tups b xs q
  rw [qa9 (nk b _ z (by intro _ _ h;cases h))];exact z
 .have z:=I.base.frzs b ob u q
  rw [qa9 (fun w=>by subst w;exact n0 _ _ q)];exact z
 .obtain⟨m,z⟩:=I.base.tbls b ps q
  exact⟨m,by rw [qa9 (nk b _ z (by intro _ _ h;cases h))];exact z⟩
 .have z:=I.free
  rw [qa9 (ne _ z)];exact z
 .have z:=I.freeC x c q
  rw [qa9 (ne _ z)];exact z
 .obtain⟨p1,p2,p3⟩:=I.pin p hp
  exact⟨p1,by rw [qa9 (ne _ p2)];exact p2,p3⟩
 .by_cases hb:b=a
  .subst hb
   rw [qa1] at q
   cases q
   exact(I.hok b _ e).2
  .rw [qa9 hb] at q
   exact(I.hok b u q).stay (fun _ _ _ r=>r) (fun c r=>by rw [qa9 (nk c _ r (by intro _ _ h;cases h))];exact r) fun c xs r=>by rw [qa9 (nk c _ r (by intro _ _ h;cases h))];exact r
def Thaw (H0 H H':Hp):Prop:=H'=H\/∃a o kvs,H a=some (.frz o (.dK kvs))/\NoFrz H0 a/\H'=upd H a (.dK kvs)
theorem Inv.thawed (I:Inv X pins σ H s) (t:Thaw X.H₀ H H'):Inv X pins σ H' s:=by
 rcases t with rfl|⟨a,o,kvs,e,n,rfl⟩
 .exact I
 .exact Inv.thaw I e n
end
section
variable {X: Cx} {st: Stmt} {e: Expr} {t: TS} {te: TE}
def thE (H0:Hp) (D:Ends):Ends:={nx:=fun σ H=>∃H',Thaw H0 H H'/\D.nx σ H',rt:=fun v H=>∃H',Thaw H0 H H'/\D.rt v H',bk:=fun σ H=>∃H',Thaw H0 H H'/\D.bk σ H',ct:=fun σ H=>∃H',Thaw H0 H H'/\D.ct σ H'}
def tThA (H0:Hp) (t:TS):TS:=fun D σ H=>t (thE H0 D) σ H
theorem ps_thA (h:PS X st t):PS X st (tThA X.H₀ t):=fun pins s σ H D I q=>thn (h pins s σ H _ I q) fun f s' hs=>by
 cases f with
 |next=>obtain⟨σ',H1,J,H2,th,q⟩:=hs;exact⟨σ',H2,Inv.thawed J th,q⟩
 |brk=>obtain⟨σ',H1,J,H2,th,q⟩:=hs;exact⟨σ',H2,Inv.thawed J th,q⟩
 |cont=>obtain⟨σ',H1,J,H2,th,q⟩:=hs;exact⟨σ',H2,Inv.thawed J th,q⟩
 |ret u=>obtain⟨v,σ',H1,J,r,H2,th,q⟩:=hs;exact⟨v,σ',H2,Inv.thawed J th,r,q⟩
def tThV (H0:Hp) (t:TE):TE:=fun σ H Q=>t σ H fun v H1=>∃H',Thaw H0 H1 H'/\Q v H'
theorem pe_thV (h:PE X e te):PE X e (tThV X.H₀ te):=fun pins s σ H Q I q=>thn (h pins s σ H _ I q) fun u s' ⟨v,H1,J,r,H2,th,q⟩=>⟨v,H2,Inv.thawed J th,r,q⟩
end
theorem kvget {κ:Type} {kvs:List (κ × V)} {vs:List (κ × Value)} (r:KV kvs vs):∀{i:Nat} {k:κ} {v:V},kvs[i]?=some (k,v)->∃u,vs[i]?=some (k,u)/\qb6 v u:=by
 induction r with
 |nil=>intro i k v e;simp at e
 |cons h t ih=>
  intro i k v e
  cases i with
  |zero=>
   simp only [List.getElem?_cons_zero,Option.some.injEq] at e ⊢
   subst e
   obtain⟨h1,h2⟩:=h
   exact⟨_,Prod.ext h1.symm rfl,h2⟩
  |succ i=>
   simp only [getElem?_cons_succ] at e ⊢
   exact ih e
theorem kV_rel {k:Key} {u:Value} (h:keyIs k u=true):qb6 (kV k) u:=by
 rcases qb4 h with ⟨i,t,rfl,rfl⟩ |⟨x,t,rfl,rfl⟩
 .exact⟨t,rfl⟩
 .exact⟨t,rfl⟩
def ItD (d:Addr) (o:Obj) (kvs:List (Key × V)):It:=
 ⟨fun i H=>H d=some (.frz o (.dK kvs))/\i < kvs.length,fun i H x H'=>H'=H/\∃k v,kvs[i]?=some (k,v)/\x=kV k,fun i H=>H d=some (.frz o (.dK kvs))/\kvs.length<=i⟩
theorem frz_at {P:Program} {w:World} {H:Hp} {h:Heap} {d:Addr} {o:Obj} {kvs:List (Key × V)} {es:Array DictEntry} {ep:Nat} (ok:HOk P w H h) (e:H d=some (.frz o (.dK kvs))) (hd:o.data=.dict es ep):
  ∃vs,KV kvs vs/\h.DictAt (qb7 P w) d vs ep:=by
 obtain⟨ho,_,_,vs,rel,o',es',ep',ho',ex,hd',ks,ps,nd⟩:=ok d _ e
 rw [ho] at ho'
 cases ho'
 rw [hd] at hd'
 cases hd'
 exact⟨vs,rel,o,es,ho,ex,hd,ks,ps,nd⟩
theorem turn_dict {P:Program} {w:World} {K:Frag} {tg:Expr} {o:Obj} {kvs:List (Key × V)} {es:Array DictEntry} {ep:Nat} (d it:Addr) (hd:o.data=.dict es ep):Turn P w K tg (ItD d o kvs) [it] it (fun i h=>h.IsKeyIter it d i kvs.length ep) where
 mem:=by simp
 obj:=fun i h st b hb=>by
  have e:b=it:=by simpa using hb
  subst e
  obtain⟨ob,e,c,dd⟩:=st
  exact⟨ob,e,fun v z=>by rw [dd] at z;cases z⟩
 keep:=fun i h h' st k=>st.at fun ob e=>k it (by simp) ob e
 item:=by
  intro X hP hw hK hc i pins s σ H E I hf st hg
  subst hP hw hK
  obtain⟨hfz,hi⟩:=hg
  obtain⟨vs,rel,dat⟩:=frz_at I.hok hfz hd
  obtain⟨f0,f1,f2,f3,f4,f5⟩:=hf it (by simp)
  have hl:=rel.length
  obtain⟨u,hu,ru⟩:=kvget rel (i:=i) (k:=kvs[i].1) (v:=kvs[i].2) (by rw [getElem?_eq_getElem hi])
  rw [hl] at st
  refine wpAny_pyNext_dict_item st dat hu fun key h' hkey st' hs'=>?_
  have I1:Inv X pins σ H {s with heap:=h'}:=I.turned (t':=s.toks) (fun b ob hb e=>hs'.extBut b ob hb e) f0 f1 f3 f4 f5
  obtain⟨ob,e,c,dd⟩:=id st'
  exact⟨key,rfl,go_of (s:={s with heap:=h'}) e c dd (by decide) ⟨kV kvs[i].1,H,I1,kV_rel hkey,⟨rfl,kvs[i].1,kvs[i].2,getElem?_eq_getElem hi,rfl⟩,by rw [hl];exact st',fun b hb=>(hf b hb).1⟩⟩
 done:=by
  intro X hP hw hK hc i pins s σ H E I hf st hg
  subst hP hw hK
  obtain⟨hfz,hi⟩:=hg
  obtain⟨vs,rel,dat⟩:=frz_at I.hok hfz hd
  obtain⟨f0,f1,f2,f3,f4,f5⟩:=hf it (by simp)
  have hl:=rel.length
  rw [hl] at st hi
  exact wpAny_pyNext_dict_end (I.ok.hd hc) st dat (by simpa using hi) fun h' eb=>⟨rfl,I.turned (t':=s.toks) (fun b ob hb e=>eb b ob hb e) f0 f1 f3 f4 f5⟩
 self:=fun _ _ _ _ _ st h=>wpAny_pyIter_keyiter st h
def rItD (x:V) (H:Hp) (R:It->Hp->Prop):Prop:=∃a kvs,x=.ref a/\((H a=some (.dK kvs)/\∀o,R (ItD a o kvs) (upd H a (.frz o (.dK kvs))))\/∃o,H a=some (.frz o (.dK kvs))/\R (ItD a o kvs) H)
def iDict (td:TE):TI:=fun σ H R=>td σ H fun x H1=>rItD x H1 R
theorem dat_of {P:Program} {w:World} {H:Hp} {h:Heap} {d:Addr} {kvs:List (Key × V)} (ok:qbg P w H h d (.dK kvs)):∃o es ep vs,h.get? d=some o/\o.data=.dict es ep/\KV kvs vs/\h.DictAt (qb7 P w) d vs ep/\(d==sysModules)=false:=by
 obtain⟨_,hs,vs,rel,o,es,ep,ho,ex,hd,ks,ps,nd⟩:=ok
 exact⟨o,es,ep,vs,ho,hd,rel,⟨o,es,ho,ex,hd,ks,ps,nd⟩,hs⟩
theorem qeh {X:Cx} {tg l:Expr} {tl:TE} (hl:PE X l tl):PI X tg l (iDict tl):=by
 intro pins s σ H R I h
 refine thn (hl pins s σ H _ I h) fun v s1 ⟨x,H1,I1,r1,q1⟩=>?_
 obtain⟨a,kvs,e,q⟩:=q1
 subst e
 cases r1
 have ok:qbg X.prog X.w H1 s1.heap a (.dK kvs):=by
  rcases q with ⟨e,_⟩ |⟨o,e,_⟩
  .exact I1.hok a _ e
  .exact(I1.hok a _ e).2
 obtain⟨o,es,ep,vs,ho,hd,rel,dat,hs⟩:=dat_of ok
 have hlen:=rel.length
 refine wpAny_pyIter_dict hs dat ?_
 have it0:(s1.heap.push {cls:=.type "dict_keyiterator",data:=.fields #[.ref a,.int 0 0,.int vs.length 0,.int ep 0]}).IsKeyIter s1.heap.objs.size a 0 kvs.length ep:=by
  rw [hlen];exact⟨_,Heap.get?_push_size _ rfl,rfl,rfl⟩
 rcases q with ⟨e,q⟩ |⟨o',e,q⟩
 .have I2:=Inv.freeze I1 e ho
  refine⟨s1.heap.objs.size, [s1.heap.objs.size],_,_,_,rfl,I2.kept (t':=s1.toks) fun b ob e=>Heap.get?_push_of_some _ e,turn_dict (kvs:=kvs) a _ hd,it0,fun b hb=>?_,q o⟩
  have e:b=s1.heap.objs.size:=by simpa using hb
  subst e
  exact I2.fpOk (Nat.le_refl _) (I2.hok.fresh (Nat.le_refl _))
 .have eo:o'=o:=by
   have z:=(I1.hok a _ e).1
   rw [ho] at z
   cases z
   rfl
  subst eo
  refine⟨s1.heap.objs.size, [s1.heap.objs.size],_,_,_,rfl,I1.kept (t':=s1.toks) fun b ob e=>Heap.get?_push_of_some _ e,turn_dict (kvs:=kvs) a _ hd,it0,fun b hb=>?_,q⟩
  have e:b=s1.heap.objs.size:=by simpa using hb
  subst e
  exact I1.fpOk (Nat.le_refl _) (I1.hok.fresh (Nat.le_refl _))
section
variable {σ: L2.St} {H H': Hp} {D: Ends} {t: TS} {te tl: TE} {Q: VK} {g: TG} {tb: TS} {a: Addr} {o: Obj} {kvs: List (Key × V)} {H0: Hp} {v: V}
theorem r_thA (h:t (thE H0 D) σ H):tThA H0 t D σ H:=h
theorem r_thNx (th:Thaw H0 H H') (h:D.nx σ H'):(thE H0 D).nx σ H:=⟨H',th,h⟩
theorem r_thV (h:te σ H fun v H1=>∃H',Thaw H0 H1 H'/\Q v H'):tThV H0 te σ H Q:=h
theorem thaw1 (e:H a=some (.frz o (.dK kvs))) (n:NoFrz H0 a):Thaw H0 H (upd H a (.dK kvs)):=.inr ⟨a,o,kvs,e,n,rfl⟩
theorem r_iD {R:It->Hp->Prop} (h:tl σ H fun x H1=>rItD x H1 R):iDict tl σ H R:=h
theorem r_itD {R:It->Hp->Prop} (e:H a=some (.dK kvs)) (h:∀o,R (ItD a o kvs) (upd H a (.frz o (.dK kvs)))):rItD (.ref a) H R:=⟨a,kvs,rfl,.inl ⟨e,h⟩⟩
theorem f_dict (Pv:Nat->L2.St->Hp->Prop) (h0:Pv 0 σ H) (hl:∀i σ H,i<=kvs.length->Pv i σ H->H a=some (.frz o (.dK kvs)))
  (hs:∀i k v σ H,kvs[i]?=some (k,v)->Pv i σ H->g (kV k) σ H fun σ2 H2=>tb {nx:=Pv (i+1),rt:=D.rt,bk:=D.nx,ct:=Pv (i+1)} σ2 H2) (hd:∀σ H,Pv kvs.length σ H->D.nx σ H):FOR (ItD a o kvs) g tb D σ H:=by
 refine⟨fun i m σ H=>m=kvs.length - i/\i<=kvs.length/\Pv i σ H,⟨kvs.length,rfl,Nat.zero_le _,h0⟩,?_⟩
 rintro i m σ H ⟨rfl,hi,p⟩
 have q:=hl i σ H hi p
 by_cases hlt:i < kvs.length
 .refine .inr ⟨⟨q,hlt⟩,Pv (i+1),fun σ' H' p'=>⟨kvs.length - (i+1),by omega,rfl,hlt,p'⟩,fun x H' y=>?_⟩
  obtain⟨e,k,v,hk,rfl⟩:=y
  subst e
  exact hs i k v σ _ hk p
 .have e:i=kvs.length:=Nat.le_antisymm hi (Nat.le_of_not_lt hlt)
  subst e
  exact .inl ⟨⟨q,Nat.le_refl _⟩,hd σ H p⟩
end
end My
namespace My
open PySem PySem.Spec PyProof.Rows L2
theorem objOk_get {P:Program} {w:World} {H:Hp} {h:Heap} {a:Addr} {o:HO} (x:qbg P w H h a o):∃u,h.get? a=some u:=by
 induction o with
 |lst xs=>obtain⟨_,_,_,_,e⟩:=x;exact⟨_,e⟩
 |tup xs=>obtain⟨_,_,_,ob,e,_⟩:=x;exact⟨_,e⟩
 |dK kvs=>obtain⟨_,_,_,_,o,_,_,e,_⟩:=x;exact⟨_,e⟩
 |dT kvs=>obtain⟨_,_,_,_,o,_,_,e,_⟩:=x;exact⟨_,e⟩
 |set S n=>obtain⟨o,_,_,_,e,_⟩:=x;exact⟨_,e⟩
 |ins C dx fs=>obtain⟨_,_,_,e,_⟩:=x;exact⟨_,e⟩
 |own y=>exact x
 |xd fs=>obtain⟨_,⟨_,_,_,e,_⟩,_⟩:=x;exact⟨_,e⟩
 |rng lo hi=>obtain⟨_,_,_,e⟩:=x;exact⟨_,e⟩
 |frz ob u ih=>exact⟨_,x.1⟩
 |tbl ps=>exact⟨_,x⟩
 |met f y=>exact⟨_,x⟩
 |ext φ=>exact x.2.1
theorem Inv.laidN {X:Cx} {pins:List (Addr × Obj)} {σ:L2.St} {H:Hp} {s:Shared} {h':Heap} {a:Addr} {o:HO} {t':Nat} (I:Inv X pins σ H s) (k:∀b u,s.heap.get? b=some u->h'.get? b=some u) (hg:s.heap.get? a=none) (new:qbg X.prog X.w (upd H a o) h' a o):
  H a=none/\Inv X pins σ (upd H a o) {s with heap:=h',toks:=t'}:=by
 have hn:H a=none:=by
  cases q:H a with
  |none=>rfl
  |some u=>obtain⟨v,e⟩:=objOk_get (I.hok a u q);rw [hg] at e;cases e
 refine⟨hn,I.un ⟨fun b u q _ _ _=>k b u q,fun b u q _ _ _=>⟨u.slots,k b u q⟩,fun b u q n _=>by rw [qa9 (fun z=>by subst z;rw [hg] at q;cases q)];exact n,fun b u q _=>⟨u,k b u q⟩,fun b xs q=>by rw [qa9 (qa8 q hn)];exact q,
  fun b u xs q=>by rw [qa9 (qa8 q hn)];exact q,fun b ps q=>⟨#[],by rw [qa9 (qa8 q hn),q];simp⟩⟩ fun b u e=>?_⟩
 by_cases hb:b=a
 .subst hb;rw [qa1] at e;cases e;exact new
 .rw [qa9 hb] at e
  exact(I.hok b u e).stay (fun c v _ q=>k c v q) (fun c q=>by rw [qa9 (qa8 q hn)];exact q) fun c xs q=>by rw [qa9 (qa8 q hn)];exact q
section
variable {X: Cx}
def rDictCp:List V->Hp->VK->Prop:=fun xs H Q=>∃p kvs,xs=[.ref p]/\Rd H p (.dK kvs)/\∀q,H q=none->Q (.ref q) (upd H q (.dK kvs))
theorem qcr:qcb X (.type "dict") rDictCp:=by
 intro pins s σ H xs us Q I hv h
 obtain⟨p,kvs,rfl,e,q⟩:=h
 obtain⟨u,rfl,ru⟩:=hv.one
 cases ru
 exact d_copyOf I e fun l s' hl I'=>⟨.ref l,_,I',rfl,q l hl⟩
theorem qfg:∀{ss:List Str} {us:List Value},qbb (ss.map V.str) us->StrsAre us ss
 | [],_,r=>by cases r;exact .nil
 |x :: ss,_,r=>by
  cases r with
  |cons h t=>obtain⟨k,rfl⟩:=h;exact .cons x k (qfg t)
theorem qeb:∀{us:List Value} {ss:List Str},StrsAre us ss->qbb (ss.map V.str) us
 |_,_,.nil=> .nil
 |_,_,.cons x t h=> .cons ⟨t,rfl⟩ (qeb h)
def rSortL (K:Frag):List V->Hp->VK->Prop:=fun xs H Q=>∃p ss,xs=[.ref p]/\SqL K H p (ss.map V.str)/\ss.length < 64/\∀l ss',H l=none->ss'.Perm ss->sortedS ss'=true->Q (.ref l) (upd H l (.lst (ss'.map V.str)))
theorem qde:qcb X (.builtin "sorted") (rSortL X.K):=by
 intro pins s σ H xs us Q I hv h
 obtain⟨p,ss,rfl,hS,hz,q⟩:=h
 obtain⟨u,rfl,ru⟩:=hv.one
 cases ru
 obtain⟨its,rv,pl,hz'⟩:=I.list hS
 have hlen:=rv.length
 rw [length_map] at hlen
 refine sorted_strs (vs:=its) (PlainL.isList pl) (qfg rv) (by omega) fun out ss' a1 a2 a3=>?_
 obtain⟨e,he⟩:=sortedAll_at s.heap its out
 have hl2:=a2.length_eq
 have I2:=I.laid (a:=s.heap.objs.size+1) (o:=.lst (ss'.map V.str)) (t':=s.toks) (fun b ob hb=>sortedAll_old hb) (Nat.le_succ _) ⟨by rw [length_map,sizeLine_eq];omega,out.toList,e,qeb a1,by simpa [seqObj] using he⟩
 exact⟨.ref _,_,I2,rfl,q _ ss' (I.hok.fresh (Nat.le_succ _)) a2 a3⟩
def rSortD:List V->Hp->VK->Prop:=fun xs H Q=>∃p kvs ss,xs=[.ref p]/\Rd H p (.dK kvs)/\kvs.map (·.1)=ss.map Sum.inr/\ss.length < 64/\∀l ss',H l=none->ss'.Perm ss->sortedS ss'=true->Q (.ref l) (upd H l (.lst (ss'.map V.str)))
theorem strs_keys {ss:List Str} {us:List Value} (hl:us.length=ss.length) (h:∀(j:Nat) (u:Value),us[j]?=some u->∃x,ss[j]?=some x/\keyIs (.inr x) u=true):StrsAre us ss:=by
 induction us generalizing ss with
 |nil=>cases ss with
  |nil=>exact .nil
  |cons _ _=>simp at hl
 |cons u us ih=>cases ss with
  |nil=>simp at hl
  |cons x ss=>
   obtain⟨y,hy,hk⟩:=h 0 u rfl
   simp only [List.getElem?_cons_zero,Option.some.injEq] at hy
   subst hy
   rcases qb4 hk with ⟨i,t,e,_⟩ |⟨z,t,e,rfl⟩
   .cases e
   .cases e
    exact .cons x t (ih (by simpa using hl) fun j v hv=>by have:=h (j+1) v (by simpa using hv);simpa using this)
theorem qfc (hc:X.calm=true):qcb X (.builtin "sorted") rSortD:=by
 intro pins s σ H xs us Q I hv h
 obtain⟨p,kvs,ss,rfl,hR,hk,hz,q⟩:=h
 obtain⟨u,rfl,ru⟩:=hv.one
 cases ru
 obtain⟨o,es,ep,vs,ho,hd,rel,dat,hs⟩:=dat_of (hR.ok I.hok)
 have hlen:=rel.length
 have hks:=rel.keys
 have hl2:kvs.length=ss.length:=by have:=congrArg List.length hk;simpa using this
 refine Calls.call_function_entry kind_sorted plain_sorted entry_sorted (args_sorted1 _) ?_
 unfold Builtin.«sorted»
 refine wpAny_bind (m:=checkCount "sorted" 1 1 _) (wpAny_pure ?_)
 refine wpAny_bind (PySem.W.kdu_collect (A:=X.A.in1) (PySem.W.kdl_dict (knd:=qb7 X.prog X.w) (kvs:=vs) (ep:=ep) hs) (I.ok.hd hc) dat (by rw [sizeLine_eq];omega) fun h' tk acc hkeep hacc=>?_)
 have hal:acc.toList.length=vs.length:=by rw [Array.length_toList];exact hacc.1
 refine wpAny_bind (wpAny_newList ?_ (by rw [hal,sizeLine_eq];omega))
 have hS:StrsAre acc.toList ss:=by
  refine strs_keys (by omega) fun j v hv=>?_
  obtain⟨k,x,hx,hkv⟩:=hacc.2 j v (by rw [<-Array.getElem?_toList];exact hv)
  have e1:(vs.map (·.1))[j]?=some k:=by rw [getElem?_map,hx];rfl
  rw [<-hks,hk,getElem?_map] at e1
  obtain⟨z,hz1,rfl⟩:=Option.map_eq_some_iff.mp e1
  exact⟨z,hz1,hkv⟩
 have hoL:(h'.push {cls:=.type "list",data:=.seq acc.toList.toArray}).get? h'.objs.size=some (seqObj "list" acc.toList.toArray 0):=Heap.get?_push_size _ rfl
 refine wpAny_bind (wpAny_holding (wpAny_call_entry slot_list_sort ⟨_,hoL,rfl⟩ entry_list_sort (list_sort_treeK strKind_oneLt hoL hS.keysOf (fun v₁ v₂ rest e=>keyKind_strs (by rw [<-e];exact hS)) (by omega) fun st' a1 a2=>⟨_,rfl,?_⟩) (args_list_sort _)))
 obtain⟨ss',b1,b2,b3⟩:=sorted_out_str hS a1 a2
 obtain⟨e,he⟩:=sortedHeap_at (out:=(arrOf st').map (·.2)) hoL
 have hl3:=b2.length_eq
 have hg:s.heap.get? h'.objs.size=none:=by
  cases q:s.heap.get? h'.objs.size with
  |none=>rfl
  |some ob=>exact absurd (Heap.lt_size (hkeep _ _ q)) (Nat.lt_irrefl _)
 obtain⟨hn,I2⟩:=Inv.laidN I (h':=sortedHeap (h'.push {cls:=.type "list",data:=.seq acc.toList.toArray}) h'.objs.size acc.toList ((arrOf st').map (·.2))) (a:=h'.objs.size) (o:=.lst (ss'.map V.str)) (t':=tk) (fun b ob hb=>by
  have hb':=hkeep b ob hb
  rw [sortedHeap_old (Nat.ne_of_lt (Heap.lt_size hb')) (by rw [size_push'];exact Nat.lt_succ_of_lt (Heap.lt_size hb'))]
  exact Heap.get?_push_of_some _ hb') hg ⟨by rw [length_map,sizeLine_eq];omega,((arrOf st').map (·.2)).toList,e,qeb b1,by rw [Array.toArray_toList];exact he⟩
 exact wpAny_pure ⟨_,rfl,.ref _,_,I2,rfl,q _ ss' hn b2 b3⟩
end
section
variable {K: Frag} {H: Hp} {Q: VK} {p: Addr} {kvs: List (Key × V)} {ss: List Str}
theorem r_dictCp (e:Rd H p (.dK kvs)) (h:∀q,H q=none->Q (.ref q) (upd H q (.dK kvs))):rDictCp [.ref p] H Q:=⟨p,kvs,rfl,e,h⟩
theorem r_tyD {B:Prop} (h:H p=some (.dK kvs)) (q:B):tyV K "dict" (.ref p) H/\B:=⟨.inr (.inr (.inl ⟨rfl,.inl ⟨_,h⟩⟩)),q⟩
theorem qfk (e:SqL K H p (ss.map V.str)) (hz:ss.length < 64) (h:∀l ss',H l=none->ss'.Perm ss->sortedS ss'=true->Q (.ref l) (upd H l (.lst (ss'.map V.str)))):rSortL K [.ref p] H Q:=⟨p,ss,rfl,e,hz,h⟩
theorem r_sortD (e:Rd H p (.dK kvs)) (hk:kvs.map (·.1)=ss.map Sum.inr) (hz:ss.length < 64) (h:∀l ss',H l=none->ss'.Perm ss->sortedS ss'=true->Q (.ref l) (upd H l (.lst (ss'.map V.str)))):rSortD [.ref p] H Q:=⟨p,kvs,ss,rfl,e,hk,hz,h⟩
end
end My
namespace My
open PySem PySem.Spec PyProof.Rows L2
structure AD (kvs:List (Key × V)) (f:Str->Option Int):Prop where
 nd:(kvs.map (·.1)).Nodup
 sh:∀p∈kvs,∃z i,p=(Sum.inr z,V.int i)
 get:∀z,qcx kvs (Sum.inr z)=(f z).map V.int
def noF:Str->Option Int:=fun _=>none
def qe7 (f:Str->Option Int) (z:Str) (i:Int):Str->Option Int:=fun y=>if y=z then some i else f y
theorem AD.nil:AD [] noF:=⟨nodup_nil,fun p hp=>absurd hp (by simp),fun z=>rfl⟩
theorem AD.cast {kvs:List (Key × V)} {f g:Str->Option Int} (h:AD kvs f) (e:∀z,f z=g z):AD kvs g:=⟨h.nd,h.sh,fun z=>by rw [h.get,e]⟩
theorem putK_keys {kvs:List (Key × V)} {k:Key} {v:V} (h:qcx kvs k≠none):(qdj kvs k v).map (·.1)=kvs.map (·.1):=by
 unfold qdj
 have e:(kvs.any fun kv=>decide (kv.1=k))=true:=by rw [qch];cases q:qcx kvs k with
  |none=>exact absurd q h
  |some _=>rfl
 rw [if_pos e,map_map]
 apply List.map_congr_left
 intro p _
 show (if p.1=k then (p.1,v) else p).1=p.1
 split <;> rfl
theorem putK_mem {kvs:List (Key × V)} {k:Key} {v:V} {p:Key × V} (h:p∈qdj kvs k v):p=(k,v)\/p∈kvs:=by
 unfold qdj at h
 split at h
 .obtain⟨q,hq,e⟩:=mem_map.mp h
  split at e
  .rename_i ek;subst ek;exact .inl e.symm
  .subst e;exact .inr hq
 .rcases mem_append.mp h with h|h
  .exact .inr h
  .exact .inl (by simpa using h)
theorem AD.put {kvs:List (Key × V)} {f:Str->Option Int} (h:AD kvs f) (z:Str) (i:Int):AD (qdj kvs (Sum.inr z) (.int i)) (qe7 f z i):=by
 refine⟨?_,fun p hp=>?_,fun y=>?_⟩
 .cases q:qcx kvs (Sum.inr z) with
  |none=>exact nd_putK _ h.nd q
  |some v=>rw [putK_keys (by rw [q];simp)];exact h.nd
 .rcases putK_mem hp with rfl|hp
  .exact⟨z,i,rfl⟩
  .exact h.sh p hp
 .rw [valV_put]
  unfold qe7
  by_cases e:y=z
  .subst e;rw [if_pos rfl,if_pos rfl];rfl
  .rw [if_neg (fun q=>e (Sum.inr.inj q)),if_neg e];exact h.get y
theorem valV_of_mem {kvs:List (Key × V)} (nd:(kvs.map (·.1)).Nodup) {k:Key} {v:V} (h:(k,v)∈kvs):qcx kvs k=some v:=by
 induction kvs with
 |nil=>simp at h
 |cons p r ih=>
  rw [map_cons,nodup_cons] at nd
  rcases mem_cons.mp h with rfl|h
  .exact qbn rfl
  .have ne:¬p.1=k:=fun e=>nd.1 (e ▸ mem_map.mpr ⟨(k,v),h,rfl⟩)
   rw [qbo ne]
   exact ih nd.2 h
theorem AD.mem {kvs:List (Key × V)} {f:Str->Option Int} (h:AD kvs f) {k:Key} {v:V} (hm:(k,v)∈kvs):∃z n,k=Sum.inr z/\v=.int n/\f z=some n:=by
 obtain⟨z,n,e⟩:=h.sh _ hm
 cases e
 have q:=valV_of_mem h.nd hm
 rw [h.get] at q
 cases hf:f z with
 |none=>rw [hf] at q;cases q
 |some m=>rw [hf] at q;cases q;exact⟨z,_,rfl,rfl,hf⟩
def qc9 (kvs:List (Key × V)):List Str:=kvs.filterMap fun p=>match p.1 with| .inr z=>some z| .inl _=>none
theorem AD.keys {kvs:List (Key × V)} {f:Str->Option Int} (h:AD kvs f):kvs.map (·.1)=(qc9 kvs).map Sum.inr:=by
 have sh:=h.sh
 clear h
 induction kvs with
 |nil=>rfl
 |cons p r ih=>
  obtain⟨z,i,rfl⟩:=sh p (mem_cons_self ..)
  show Sum.inr z :: r.map (·.1)=(z :: qc9 r).map Sum.inr
  rw [map_cons,ih fun q hq=>sh q (mem_cons_of_mem _ hq)]
theorem AD.klen {kvs:List (Key × V)} {f:Str->Option Int} (h:AD kvs f):(qc9 kvs).length=kvs.length:=by
 have:=congrArg List.length h.keys
 simpa using this.symm
theorem AD.knd {kvs:List (Key × V)} {f:Str->Option Int} (h:AD kvs f):(qc9 kvs).Nodup:=by
 have nd:=h.nd
 rw [h.keys] at nd
 exact List.Pairwise.imp (fun ne e=>ne (congrArg Sum.inr e)) (List.pairwise_map.mp nd)
theorem AD.kin {kvs:List (Key × V)} {f:Str->Option Int} (h:AD kvs f) (z:Str):z∈qc9 kvs↔f z≠none:=by
 constructor
 .intro hz
  have hm:(Sum.inr z:Key)∈kvs.map (·.1):=by rw [h.keys];exact mem_map.mpr ⟨z,hz,rfl⟩
  obtain⟨⟨k,v⟩,hp,e⟩:=mem_map.mp hm
  dsimp only at e
  subst e
  obtain⟨z',n,e1,_,hf⟩:=h.mem hp
  cases e1
  rw [hf];simp
 .intro hf
  cases q:f z with
  |none=>exact absurd q hf
  |some n=>
   have hv:=h.get z
   rw [q] at hv
   have hm:=valV_in hv
   rw [h.keys] at hm
   obtain⟨y,hy,e⟩:=mem_map.mp hm
   cases e
   exact hy
theorem nd_le:∀{l m:List Str},l.Nodup->(∀a∈l,a∈m)->l.length<=m.length
 | [],_,_,_=>Nat.zero_le _
 |a :: l,m,nd,h=>by
  have ha:=h a (mem_cons_self ..)
  rw [nodup_cons] at nd
  have q:=nd_le (l:=l) (m:=m.erase a) nd.2 fun b hb=>(List.mem_erase_of_ne (fun(e:b=a)=>nd.1 (by rw [<-e];exact hb))).mpr (h b (mem_cons_of_mem _ hb))
  rw [List.length_erase_of_mem ha] at q
  have:0 < m.length:=List.length_pos_of_mem ha
  simp only [length_cons]
  omega
theorem AD.le {kvs:List (Key × V)} {f:Str->Option Int} (h:AD kvs f) {ws:List Str} (hs:∀z,f z≠none->z∈ws):kvs.length<=ws.length:=by
 rw [<-h.klen]
 exact nd_le h.knd fun z hz=>hs z ((h.kin z).mp hz)
theorem AD.at {kvs:List (Key × V)} {f:Str->Option Int} (h:AD kvs f) {i:Nat} {k:Key} {v:V} (e:kvs[i]?=some (k,v)):∃z n,k=Sum.inr z/\v=.int n/\f z=some n/\(qc9 kvs)[i]?=some z:=by
 obtain⟨z,n,rfl,rfl,hf⟩:=h.mem (mem_of_getElem? e)
 refine⟨z,n,rfl,rfl,hf,?_⟩
 have q:(kvs.map (·.1))[i]?=some (Sum.inr z):=by rw [getElem?_map,e];rfl
 rw [h.keys,getElem?_map] at q
 obtain⟨y,hy,e⟩:=Option.map_eq_some_iff.mp q
 cases e
 exact hy
def leS (a b:Str):Prop:=ltCps b.cps.toList a.cps.toList=false
theorem qe1 {a b:Str}:leS a b↔a.cps.toList<=b.cps.toList:=by
 unfold leS
 rw [ltCps_eq,decide_eq_false_iff_not]
 exact List.not_lt
theorem leS_refl (a:Str):leS a a:=qe1.mpr (List.le_refl _)
theorem leS_trans {a b c:Str} (h:leS a b) (h':leS b c):leS a c:=qe1.mpr (List.le_trans (qe1.mp h) (qe1.mp h'))
theorem leS_anti {a b:Str} (h:leS a b) (h':leS b a):a=b:=by
 have e:=List.le_antisymm (qe1.mp h) (qe1.mp h')
 obtain⟨⟨x⟩⟩:=a
 obtain⟨⟨y⟩⟩:=b
 have e':x=y:=e
 subst e'
 rfl
theorem rising_pw:∀{p:Str} {l:List Str},risingS p l=true->(p :: l).Pairwise leS
 |p, [],_=>List.pairwise_singleton _ _
 |p,x :: r,h=>by
  have h':(!ltCps x.cps.toList p.cps.toList && risingS x r)=true:=h
  rw [Bool.and_eq_true,Bool.not_eq_true'] at h'
  have q:=rising_pw h'.2
  refine List.pairwise_cons.mpr ⟨fun y hy=>?_,q⟩
  rcases mem_cons.mp hy with rfl|hy
  .exact h'.1
  .exact leS_trans h'.1 (List.rel_of_pairwise_cons q hy)
theorem qdq:∀{l:List Str},sortedS l=true->l.Pairwise leS
 | [],_=>List.Pairwise.nil
 |x :: r,h=>rising_pw h
def gN (f:Str->Option Int) (z:Str):Int:=(f z).getD 0
def qdo (f g:Str->Option Int):Str->Option Int:=fun y=>match g y with|none=>f y|some b=>some (gN f y+b)
def qbz (f:Str->Option Int):Str->Option Int:=fun y=>match f y with|none=>none|some a=>if 0 < a then some a else none
theorem gN_get {kvs:List (Key × V)} {f:Str->Option Int} (h:AD kvs f) (z:Str):(qcx kvs (Sum.inr z)).getD (.int 0)=.int (gN f z):=by
 rw [h.get]
 unfold gN
 cases f z <;> rfl
theorem qbd {l:List Str} {i:Nat} {z:Str} (h:l[i]?=some z) (y:Str):y∈l.take (i+1)↔y∈l.take i\/y=z:=by
 rw [take_add_one,h,mem_append]
 simp
end My
namespace My
open PySem PySem.Spec PyProof.Rows L2
end My
namespace My
open PySem PySem.Spec PyProof.Rows L2
section
variable {σ: L2.St} {H H': Hp} {Q: VK} {D: Ends} {td ty tx tv: TE} {a b p: Addr} {kvs kb: List (Key × V)} {f: Str -> Option Int} {z: Str} {n: Int} {v: V} {o: Obj}
def rDG (a:Addr) (y z:V) (H:Hp) (Q:VK):Prop:=∃o,DGet H a y o/\Q (o.getD z) H
def kDG2 (ty tx:TE) (σ:L2.St) (Q:VK) (x:V) (H:Hp):Prop:=∃a,x=.ref a/\IsD H a/\ty σ H fun y H2=>tx σ H2 fun z H3=>rDG a y z H3 Q
theorem r_dg2 (h:td σ H fun x H1=>kDG2 ty tx σ Q x H1):tDGet2 td ty tx σ H Q:=h
theorem r_dg2a (d:Rd H a (.dK kvs)) (h:ty σ H fun y H2=>tx σ H2 fun z H3=>rDG a y z H3 Q):kDG2 ty tx σ Q (.ref a) H:=⟨a,rfl,.inl ⟨kvs,d⟩,h⟩
theorem r_dg2b (d:Rd H a (.dK kvs)) (A:AD kvs f) (h:Q (.int (gN f z)) H):rDG a (.str z) (.int 0) H Q:=by
 refine⟨qcx kvs (Sum.inr z),.inl ⟨kvs,Sum.inr z,d,rfl,rfl⟩,?_⟩
 rw [gN_get A]
 exact h
def rDGk (x y:V) (H:Hp) (Q:VK):Prop:=∃a v,x=.ref a/\DGet H a y (some v)/\Q v H
theorem r_dg (h:td σ H fun x H1=>ty σ H1 fun y H2=>rDGk x y H2 Q):tDGet td ty σ H Q:=h
theorem r_dgk (d:Rd H a (.dK kvs)) (A:AD kvs f) (e:f z=some n) (h:Q (.int n) H):rDGk (.ref a) (.str z) H Q:=
 ⟨a,.int n,rfl,.inl ⟨kvs,Sum.inr z,d,rfl,by rw [A.get,e];rfl⟩,h⟩
def rDP (x y v:V) (H:Hp) (D:Ends) (σ:L2.St):Prop:=∃a H4,x=.ref a/\DPut H a y v H4/\D.nx σ H4
theorem r_dp (h:tv σ H fun v H1=>td σ H1 fun x H2=>ty σ H2 fun y H3=>rDP x y v H3 D σ):sDPut td ty tv D σ H:=h
theorem r_dpk (e:H a=some (.dK kvs)) (hz:kvs.length < sizeLine) (h:D.nx σ (upd H a (.dK (qdj kvs (Sum.inr z) v)))):rDP (.ref a) (.str z) v H D σ:=⟨a,_,rfl,DPut.k (k:=Sum.inr z) e hz,h⟩
def rDI (x y:V) (H:Hp) (Q:VK):Prop:=∃a o,x=.ref a/\DGet H a y o/\Q (.bl o.isSome) H
theorem r_di (h:ty σ H fun y H1=>td σ H1 fun x H2=>rDI x y H2 Q):tDIn ty td σ H Q:=h
theorem r_dnew (h:∀p,H p=none->Q (.ref p) (upd H p (.dK []))):tDNewK σ H Q:=h
theorem qdb (e:H a=some (.dK kvs)):NoFrz H a:=fun o u z=>by rw [e] at z;cases z
theorem rd_new (d:Rd H a (.dK kvs)) (n:H p=none) {u:HO}:Rd (upd H p u) a (.dK kvs):=by
 rcases d with d|⟨o,d⟩
 .exact .inl (qa7 d n)
 .exact .inr ⟨o,qa7 d n⟩
theorem rd_in (d:Rd H b (.dK kb)) (ea:H a=some (.dK kvs)) (sb:SameBut a H H') (fz:H' a=some (.frz o (.dK kvs))):Rd H' b (.dK kb):=by
 by_cases e:b=a
 .subst e
  rcases d with d|⟨o',d⟩
  .rw [ea] at d;cases d;exact .inr ⟨o,fz⟩
  .rw [ea] at d;cases d
 .rcases d with d|⟨o',d⟩
  .exact .inl (sb _ _ e d)
  .exact .inr ⟨o',sb _ _ e d⟩
theorem qcp (e:H a=some (.dK kvs)) (sb:SameBut a H H'):qb0 H (upd H' a (.dK kvs)):=fun b u q=>by
 by_cases h:b=a
 .subst h;rw [qa1];rw [e] at q;exact q
 .rw [qa9 h];exact sb b u h q
theorem sb_frz (e:H a=some (.dK kvs)):SameBut a H (upd H a (.frz o (.dK kvs))):=fun b u h q=>by rw [qa9 h];exact q
theorem sb_put {l:Addr} {u:HO} (sb:SameBut a H H') (n:H l=none):SameBut a H (upd H' l u):=fun b w h q=>by
 rw [qa9 (qa8 q n)];exact sb b w h q
theorem qbe {l:Addr} {u:HO} (s:qb0 H H') (n:H l=none):qb0 H (upd H' l u):=fun b w q=>by rw [qa9 (qa8 q n)];exact s b w q
end
def qf0 (f g:Str->Option Int) (y:Str):Prop:=f y≠none/\gN g y < gN f y
theorem qfw {f g:Str->Option Int} {ws:List Str} (hf:∀z,f z≠none->z∈ws) (hg:∀z,g z≠none->z∈ws) (z:Str) (h:qdo f g z≠none):z∈ws:=by
 unfold qdo at h
 cases e:g z with
 |none=>rw [e] at h;exact hf z h
 |some b=>exact hg z (by rw [e];simp)
theorem step_put {l:List Str} {i:Nat} {z:Str} (h:l[i]?=some z) (F G:Str->Option Int) {v:Int} (hv:F z=some v) (y:Str):qe7 (fun y=>if y∈l.take i then F y else G y) z v y=if y∈l.take (i+1) then F y else G y:=by
 unfold qe7
 by_cases e:y=z
 .subst e
  rw [if_pos rfl,if_pos ((qbd h y).mpr (.inr rfl)),hv]
 .rw [if_neg e]
  by_cases e2:y∈l.take i
  .rw [if_pos ((qbd h y).mpr (.inl e2))];exact if_pos e2
  .rw [if_neg (fun q=>((qbd h y).mp q).elim e2 e)];exact if_neg e2
theorem step_no {l:List Str} {i:Nat} {z:Str} (h:l[i]?=some z) (F G:Str->Option Int) (hv:F z=G z) (y:Str):(if y∈l.take i then F y else G y)=if y∈l.take (i+1) then F y else G y:=by
 by_cases e2:y∈l.take i
 .rw [if_pos e2,if_pos ((qbd h y).mpr (.inl e2))]
 .rw [if_neg e2]
  by_cases e:y=z
  .subst e
   rw [if_pos ((qbd h y).mpr (.inr rfl)),hv]
  .rw [if_neg (fun q=>((qbd h y).mp q).elim e2 e)]
theorem step_end {kvs:List (Key × V)} {g:Str->Option Int} (hB:AD kvs g) (F G:Str->Option Int) (hn:∀y,g y=none->F y=G y) (y:Str):(if y∈(qc9 kvs).take kvs.length then F y else G y)=F y:=by
 rw [<-hB.klen,take_length]
 by_cases e:y∈qc9 kvs
 .rw [if_pos e]
 .rw [if_neg e]
  refine(hn y ?_).symm
  cases hf:g y with
  |none=>rfl
  |some n=>exact absurd ((hB.kin y).mpr (by rw [hf];simp)) e
end My
namespace My
open PySem PySem.Spec PyProof.Rows L2
section
variable {X: Cx}
theorem qdy {elt iter:Expr} {x y:Str} {px py:Pos} {ifs:List Expr} {scope:Scope} {cl:List (Str × Addr)} {pos spos:Pos} {caps:List Nat} {cn:List Str} {wi:TI} {tt:CT TT} {te:CT TE} {j:Nat} (Cp:Caps X x scope cl caps cn) (hc:X.calm=true)
  (hN:X.N.Nodup) (hy:X.N[j]?=some y) (hly:X.env.scope.names.lookup y=some .local)
  (hi:PI X (.Name x px) iter wi) (ht:∀C s H fp,PIfs (cxC X (x :: cn) scope cl C s H fp) ifs (tt C s H fp)) (he:∀C s H fp,PE (cxC X (x :: cn) scope cl C s H fp) elt (te C s H fp))
  (hsw:swapsWith (.ListComp elt [⟨.Name x px,iter,ifs,0⟩] scope pos) (some (.Name y py)) spos.line X.env=pure true:=by rfl) (hs:∀x,foldedSetIterable iter X.env x=pure x:=by intro _;rfl):
  PS X (.Assign [.Name y py] (.ListComp elt [⟨.Name x px,iter,ifs,0⟩] scope pos) spos) (tAsg (tComp wi caps tt te) (gName j)):=by
 intro pins s σ H D I h
 replace h:tComp wi caps tt te σ H (fun v H1=>D.nx (σ.set j (some v)) H1):=h
 rw [exec_Assign_Name_used _ _ _ _ hsw]
 refine wpAny_bind (wpAny_standAt (wpAny_bind ?_))
 show wpAny _ X.A (do let _<-comprehension (.ListComp elt [⟨.Name x px,iter,ifs,0⟩] scope pos) scope X.env _ (newList []) false (eval iter X.env) (some (assign (.Name y py) X.env))) _ _ s
 refine wpAny_bind (wpAny_mono (wpAny_comprehension_free (use:=some (assign (.Name y py) X.env)) (Q:=fun _ s'=>SP X pins D .next s') rfl hs Cp.clos Cp.kind Cp.names
  (thn (hi pins s σ H _ I h) fun v s1 h1=>thn h1 fun itv s2 h2=>?_)) (fun _ s' hq=>wpAny_pure (wpAny_pure hq)) fun _ _ e=>e)
 obtain⟨it,fp,tn,J,H2,e,I2,T,st2,f2,R⟩:=h2
 subst e
 have hacc:H2 s2.heap.objs.size=none:=I2.hok.fresh (Nat.le_refl _)
 refine wpAny_newObj_type ?_
 have I3:Inv X pins σ (upd H2 s2.heap.objs.size (.lst [])) {s2 with heap:=s2.heap.push {cls:=.type "list",dict:=none,data:=.seq ([]:List Value).toArray}}:=Inv.lnew (its:=[]) (t':=s2.toks) I2 .nil (Nat.zero_le _)
 have lt2:∀b∈fp,b < s2.heap.objs.size:=fun b hb=>let ⟨o,e,_⟩:=T.obj _ _ st2 b hb;Heap.lt_size e
 have f3:∀b∈fp,qfy X pins (upd H2 s2.heap.objs.size (.lst [])) b:=fun b hb=>⟨by rw [qa9 (Nat.ne_of_lt (lt2 b hb))];exact(f2 b hb).1,(f2 b hb).2⟩
 have st3:tn 0 (s2.heap.push {cls:=.type "list",dict:=none,data:=.seq ([]:List Value).toArray}):=T.keep _ _ _ st2 fun b _ o e=>Heap.get?_push_of_some _ e
 generalize hs3:({s2 with heap:=s2.heap.push {cls:=.type "list",dict:=none,data:=.seq ([]:List Value).toArray}}:Shared)=s3 at I3 ⊢
 have st3':tn 0 s3.heap:=by rw [<-hs3];exact st3
 generalize s2.heap.objs.size=acc at hacc I3 f3 ⊢
 obtain⟨W,⟨m0,w0⟩,turn⟩:=R s3.heap.objs.size s3 (upd H2 acc (.lst [])) fp acc hacc
 have lt3:∀b∈fp,b < s3.heap.objs.size:=fun b hb=>let ⟨o,e,_⟩:=T.obj _ _ st3' b hb;Heap.lt_size e
 clear st3 hs3
 refine wpAny_newFunctionEnv Cp.cell (by intro y hy;simp at hy) (fun h₁ hns hsb=>?_) Cp.kind
 have k1:∀b o,s3.heap.get? b=some o->h₁.get? b=some o:=fun b o e=>hsb.extBut b o (Nat.ne_of_lt (Heap.lt_size e)) (Heap.get?_push_of_some _ e)
 have I4:Inv (cxC X (x :: cn) scope cl s3.heap.objs.size s3 (upd H2 acc (.lst [])) fp) [] (none :: qaz caps σ) (upd H2 acc (.lst [])) {s3 with heap:=h₁,toks:=s3.toks+([]:List (Str × Value)).length}:=
  Inv.comp Cp I3 f3 lt3 hns k1
 have st4:tn 0 h₁:=T.keep _ _ _ st3' fun b _ o e=>k1 b o e
 generalize hX:cxC X (x :: cn) scope cl s3.heap.objs.size s3 (upd H2 acc (.lst [])) fp=X' at I4
 have stat:∀{H':Hp},(∀b∈fp,H' b=none)->∀b∈fp,qfy X' [] H' b:=fun hn b hb=>by
  subst hX
  obtain⟨g0,g1,g2,g3,g4,g5⟩:=f3 b hb
  refine⟨hn b hb,Nat.ne_of_lt (lt3 b hb),fun z=>?_,.inl hb,fun y c e=>g4 y c (Cp.sub y c e),fun p hp=>absurd (show p∈([]:List (Addr × Obj)) from hp) (by simp)⟩
  rcases mem_cons.mp (I3.stkSub b z) with z|z
  .exact g1 z
  .exact g2 z
 have core:codeAny (model X.prog X.w) X.A (.compLoop (.ListComp elt [⟨.Name x px,iter,ifs,0⟩] scope pos) 0 (.ref it) (.ref acc) (compEnvC scope cl s3.heap.objs.size X.env))
   (compPost (model X.prog X.w) X.A X.xe (some (assign (.Name y py) X.env)) (fun _ s'=>SP X pins D .next s') (.ref acc) s3.heap.objs.size) {s3 with heap:=h₁,toks:=s3.toks+([]:List (Str × Value)).length}:=by
  refine codeAny_loop rfl (fun n s'=>∃i a H',Inv X' [] (a :: qaz caps σ) H' s'/\tn i s'.heap/\(∀b∈fp,H' b=none)/\W i n H') (fun n s5 hI=>?_) m0 ⟨0,none,_,I4,st4,fun b hb=>(f3 b hb).1,w0⟩
  obtain⟨i,a0,H5,I5,st5,fr5,w5⟩:=hI
  show wpAny _ _ ((compTurn _ 0 _ _ _).onRaise _) _ _ s5
  refine wpAny_noted ?_
  rw [compTurn_list]
  refine wpAny_bind (wpAny_standAt (wpAny_bind ?_))
  have aX:X'.A=X.A:=by subst hX;rfl
  have pX:X'.prog=X.prog:=by subst hX;rfl
  have wX:X'.w=X.w:=by subst hX;rfl
  have kX:X'.K=X.K:=by subst hX;rfl
  have cX:X'.calm=true:=by subst hX;exact hc
  have eX:X'.env=compEnvC scope cl s3.heap.objs.size X.env:=by subst hX;rfl
  rcases turn i n H5 w5 with ⟨stop,qn⟩ |⟨go,N,hN,step⟩
  .have z:=T.done X' pX wX kX cX i [] s5 _ H5 (fun _ _=>False) I5 (stat fr5) st5 stop
   rw [aX] at z
   refine wpAny_mono z (fun r s6 ⟨hr,I6⟩=>?_) fun _ _ q=>q.elim
   subst hr
   subst hX
   obtain⟨m,hm,_⟩:=id I6.loc
   have J0:Inv X pins σ H5 s6:=Inv.uncomp I3 f3 rfl I6 (h':=s6.heap) ⟨rfl,fun _ _=>rfl⟩
   have fC:qfy X pins H5 s3.heap.objs.size:=I3.fpOk (Nat.le_refl _) I6.free
   refine wpAny_pure ?_
   show wpAny _ X.A (assign (.Name y py) X.env (.ref acc)) _ _ s6
   refine wpAny_assign_Name (store_ok2 (X:=X) (v:=.ref acc) J0 hN hy (.inl hly) rfl (fun s7 I7 ⟨a,sb,ha⟩=>?_) (.inr hly))
   have nC:s3.heap.objs.size≠a:=by
    rcases ha with rfl|ha
    .exact fC.2.1
    .exact(fC.2.2.2.2.1 y a ha).symm
   refine⟨m,hm.sameBut sb nC,fun h' sb'=>⟨_,H5,?_,qn⟩⟩
   exact I7.turned (t':=s7.toks) (fun b o hb e=>(sb'.2 b hb).trans e) fC.1 fC.2.1 fC.2.2.2.1 fC.2.2.2.2.1 fC.2.2.2.2.2
  .have z:=T.item X' pX wX kX cX i [] s5 _ H5 (fun _ _=>False) I5 (stat fr5) st5 go
   rw [aX] at z
   refine wpAny_mono z (fun r s6 ⟨u,hr,h6⟩=>?_) fun _ _ q=>q.elim
   subst hr
   refine wpAny_bind (wpAny_mono h6 (fun _ s7 ⟨v,H7,I7,r7,y7,st7,fr7⟩=>?_) fun _ _ q=>q.elim)
   have I7':=I7.pinned (stat fr7) (T.obj _ _ st7)
   have asg:wpAny (model X.prog X.w) X.A (assign (.Name x px) (compEnvC scope cl s3.heap.objs.size X.env) u) (fun _ s8=>Inv X' ([]++qbv fp s7.heap) (some v :: qaz caps σ) H7 s8) (fun _ _=>False) s7:=by
    subst hX
    exact wpAny_assign_Name (qd9 (X:=cxC X (x :: cn) scope cl s3.heap.objs.size s3 (upd H2 acc (.lst [])) fp) (i:=0) I7' Cp.nd rfl (.inl (lookup_relabel_local Cp.tg)) r7 (fun s' I'=>I') (.inr (lookup_relabel_local Cp.tg)))
   refine wpAny_bind (wpAny_mono asg (fun _ s8 I8=>?_) fun _ _ q=>q.elim)
   have tst:wpAny (model X.prog X.w) X.A (forIn ifs true fun c r=>if r=true then do let ok<-isTrue c (compEnvC scope cl s3.heap.objs.size X.env) (eval c (compEnvC scope cl s3.heap.objs.size X.env));pure (ForInStep.yield ok) else pure (ForInStep.yield r))
     (TP X' ([]++qbv fp s7.heap) (some v :: qaz caps σ) (fun b H9=>if b=true then te s3.heap.objs.size s3 (upd H2 acc (.lst [])) fp (some v :: qaz caps σ) H9 (fun y H3=>rApp acc N y H3) else N H9)) (fun _ _=>False) s8:=by
    subst hX
    exact ht _ _ _ _ _ s8 _ H7 _ I8 (step v H7 y7)
   refine wpAny_bind (wpAny_mono tst (fun b s9 ⟨H9,I9,q9⟩=>?_) fun _ _ q=>q.elim)
   have fin:∀{a:Option V} {H10:Hp} {s10:Shared},Inv X' ([]++qbv fp s7.heap) (a :: qaz caps σ) H10 s10->N H10->∃m',m' < n/\∃i a H',Inv X' [] (a :: qaz caps σ) H' s10/\tn i s10.heap/\(∀b∈fp,H' b=none)/\W i m' H':=fun {a H10 s10} I10 n10=>
    let ⟨m',hm,w10⟩:=hN _ n10
    ⟨m',hm,i+1,a,H10,I10.unpinned,T.keep _ _ _ st7 fun b hb o e=>(I10.pin (b,o) (mem_append_right _ (mem_append_right _ (qbu hb e)))).1,fun b hb=>by
     obtain⟨o,e,d⟩:=T.obj _ _ st7 b hb
     exact(I10.pin (b,o) (mem_append_right _ (mem_append_right _ (qbu hb e)))).2.1,w10⟩
   cases b with
   |false=>exact wpAny_pure ⟨rfl,fin I9 q9⟩
   |true=>
    have elt':wpAny (model X.prog X.w) X.A (eval elt (compEnvC scope cl s3.heap.objs.size X.env)) (EP X' ([]++qbv fp s7.heap) (some v :: qaz caps σ) (fun y H3=>rApp acc N y H3)) (fun _ _=>False) s9:=by
     subst hX
     exact he _ _ _ _ _ s9 _ H9 _ I9 q9
    refine wpAny_bind (wpAny_bind (wpAny_mono elt' (fun y s10 ⟨w,H10,I10,r10,ys,ha,hz,q10⟩=>?_) fun _ _ q=>q.elim))
    have app:wpAny (model X.prog X.w) X.A (call (.builtin "list.append") [.ref acc,y]) (EP X' ([]++qbv fp s7.heap) (some v :: qaz caps σ) fun _ H11=>H11=upd H10 acc (.lst (ys++ [w]))) (fun _ _=>False) s10:=by
     subst hX
     exact qay (X:=cxC X (x :: cn) scope cl s3.heap.objs.size s3 (upd H2 acc (.lst [])) fp) _ s10 _ H10 (.ref acc) [w] (.ref acc) [y] _ I10 rfl (.cons r10 .nil) ⟨acc,ys,w,rfl,rfl,ha,hz,rfl⟩
    refine wpAny_bind (wpAny_mono app (fun _ s11 ⟨_,H11,I11,_,e11⟩=>?_) fun _ _ q=>q.elim)
    subst e11
    exact wpAny_pure (wpAny_pure ⟨rfl,fin I11 q10⟩)
 exact codeAny_compStart_list core (T.self _ 0 _ _ _ st4 core)
end
end My
namespace My
open PySem PySem.Spec PyProof.Rows L2
section
variable {X: Cx} {pins: List (Addr × Obj)} {σ: L2.St} {H: Hp} {s: Shared} {h': Heap}
theorem Inv.turnedT {t':Nat} {ch:List Addr} {T:Addr} {ob:HO} (I:Inv X pins σ H s) (hf:∀b∈ch,qfy X pins H b) (k:∀b o,b∉ch->s.heap.get? b=some o->h'.get? b=some o) (hT:s.heap.get? T=none) (hn:H T=none) (new:qbg X.prog X.w (upd H T ob) h' T ob):
  Inv X pins σ (upd H T ob) {s with heap:=h',toks:=t'}:=by
 have nit:∀b u,H b=some u->b∉ch:=fun b u e z=>by rw [(hf b z).1] at e;cases e
 refine I.step (g':=s.gens) (d':=s.drawn) (ch:=ch) (fun b hb=>⟨(hf b hb).2.2.2.1,(hf b hb).2.1,(hf b hb).2.2.2.2.1,(hf b hb).2.2.2.2.2⟩) (fun b o _ _ hc e _=>k b o hc e) (fun b o _ _ hc e _=>⟨o.slots,k b o hc e⟩)
  (fun b o _ e n=>by rw [qa9 (fun z=>by subst z;rw [hT] at e;cases e)];exact n)
  (fun b o hc e=>⟨o,k b o hc e⟩) (fun b xs e=>by rw [qa9 (qa8 e hn)];exact e) (fun b o u e=>by rw [qa9 (qa8 e hn)];exact e) (fun b ps e=>⟨#[],by rw [qa9 (qa8 e hn),e];simp⟩) (fun m hm=>?_) (fun b u e=>?_) I.bare
 .obtain⟨o,es,ep,ho,r⟩:=hm
  exact⟨o,es,ep,k _ o (fun z=>(hf _ z).2.1 rfl) ho,r⟩
 .by_cases hb:b=T
  .subst hb;rw [qa1] at e;cases e;exact new
  .rw [qa9 hb] at e
   refine(I.hok b u e).stay (fun c v hc q=>k c v ?_ q) (fun c q=>by rw [qa9 (qa8 q hn)];exact q) fun c xs q=>by rw [qa9 (qa8 q hn)];exact q
   rcases hc with rfl|hc
   .exact nit _ _ e
   .exact nit _ _ hc
end
end My
namespace My
open PySem PySem.Spec PyProof.Rows L2
section
variable {prog: Program} {w: World} {A: Around} {E: Value -> Shared -> Prop} {s: Shared}
theorem set_exact {l:Addr} {items:Array Value} {n:Nat} {k:Int} {t:Tok} {v:Value} {Q:Unit->Shared->Prop} (ho:s.heap.get? l=some {cls:=.type "list",data:=.seq items n}) (h0:0<=k) (hk:k < items.size) (hfit:k < 2^63)
  (q:Q () {s with heap:=s.heap.update l (Obj.mapSeq fun a=>a.setIfInBounds k.toNat v)}):wpAny (model prog w) A (setItem (.ref l) (.int k t) v) Q E s:=by
 have hT:s.TypeIs (.ref l) "list":=⟨_,ho,rfl⟩
 unfold setItem
 try with_reducible refine wpAny_holding ?_
 first|refine wpAny_bind (wpAny_pure ?_) |skip
 refine wpAny_bind (wpAny_sequenceKey hT (by decide) ?_)
 refine wpAny_bind (wpAny_callSpecial?_slot (name:=Str.ofString "__setitem__") hT slot_list_setitem (wpAny_call_entry slot_list_setitem hT entry_list_setitem ?_ (args_list_setitem _ _ _)))
 show wpAny _ _ (Builtin.List.listSubscript? (.int k t) >>= _) _ _ s
 refine wpAny_bind (wpAny_listSubscript_int (fitsIndex_of h0 hfit) ?_)
 clear hfit
 obtain⟨j,rfl⟩:=Int.eq_ofNat_of_zero_le h0
 have hj:j < items.size:=by omega
 have hx:items[j]?=some items[j]:=Array.getElem?_eq_getElem hj
 show wpAny _ _ ((seqItemAt l j >>= fun r=>pure (r.map (j,·))) >>= _) _ _ s
 refine wpAny_bind (wpAny_bind (wpAny_seqItemAt ho rfl (wpAny_pure ?_)))
 rw [hx]
 show wpAny _ _ (setSeqItemAt l j v >>= _) _ _ s
 refine wpAny_bind (wpAny_setSeqItemAt ho rfl ?_)
 first
 |exact wpAny_bind (wpAny_pure (wpAny_pure ⟨.none,rfl,wpAny_pure q⟩))
 |exact wpAny_pure ⟨.none,rfl,wpAny_pure q⟩
end
def rLP (x y v:V) (H:Hp) (D:Ends) (σ:L2.St):Prop:=∃l xs k,x=.ref l/\y=.int (k:Nat)/\H l=some (.lst xs)/\k < xs.length/\D.nx σ (upd H l (.lst (xs.set k v)))
def sLPut (td ty tv:TE):TS:=fun D σ H=>tv σ H fun v H1=>td σ H1 fun x H2=>ty σ H2 fun y H3=>rLP x y v H3 D σ
theorem ps_lput {X:Cx} {o i value:Expr} {pos pos':Pos} {td ty tv:TE} (ho:PE X o td) (hi:PE X i ty) (hv:PE X value tv) (hs:swapsWith value (some (.Subscript o i pos')) pos.line X.env=pure false):PS X (.Assign [.Subscript o i pos'] value pos) (sLPut td ty tv):=by
 intro pins s σ H D I h
 refine wpAny_Assign_Subscript (thn (hv pins s σ H _ I h) fun r s1 ⟨v,H1,I1,rv,q1⟩=>thn (ho pins s1 σ H1 _ I1 q1) fun u s2 ⟨x,H2,I2,rx,q2⟩=>thn (hi pins s2 σ H2 _ I2 q2) fun iv s3 ⟨y,H3,I3,ry,q3⟩=>?_) hs
 obtain⟨l,xs,k,rfl,rfl,hl,hk,q⟩:=q3
 obtain rfl:u=Value.ref l:=rx
 obtain⟨t,rfl⟩:=ry
 obtain⟨z,its,n,rr,hlen,e⟩:=I3.lstM hl
 have hz:xs.length<=16777216:=z
 refine set_exact e (Int.natCast_nonneg k) (by simp;omega) (by omega) ?_
 rw [Int.toNat_natCast]
 exact⟨σ,_,I3.lset (its':=its.set k r) (ys:=xs.set k v) (t':=s3.toks) hl e (by simp) (rr.set rv k) (by rw [List.length_set];exact z),q⟩
section
variable {X: Cx}
def rMax:List V->Hp->VK->Prop:=fun xs H Q=>∃i j,xs=[.int i,.int j]/\Q (.int (if j > i then j else i)) H
def rMin:List V->Hp->VK->Prop:=fun xs H Q=>∃i j,xs=[.int i,.int j]/\Q (.int (if j < i then j else i)) H
theorem call_maxR (hc:X.calm=true):qcb X (.builtin "max") rMax:=call_max2 hc
theorem call_minR (hc:X.calm=true):qcb X (.builtin "min") rMin:=call_min2 hc
end
section
variable {K: Frag} {σ: L2.St} {H: Hp} {Q: VK} {D: Ends} {td ty tv: TE} {l: Addr} {xs: List V} {k: Nat} {v: V} {z: Str} {i j: Int}
theorem r_lp (h:tv σ H fun v H1=>td σ H1 fun x H2=>ty σ H2 fun y H3=>rLP x y v H3 D σ):sLPut td ty tv D σ H:=h
theorem r_lpk (e:H l=some (.lst xs)) (hk:k < xs.length) (h:D.nx σ (upd H l (.lst (xs.set k v)))) {y:Int} (ey:y=(k:Int)):rLP (.ref l) (.int y) v H D σ:=by subst ey;exact⟨l,xs,k,rfl,rfl,e,hk,h⟩
theorem r_tyS {B:Prop} (q:B):tyV K "str" (.str z) H/\B:=⟨rfl,q⟩
theorem r_max (h:Q (.int (if j > i then j else i)) H):rMax [.int i,.int j] H Q:=⟨i,j,rfl,h⟩
theorem r_min (h:Q (.int (if j < i then j else i)) H):rMin [.int i,.int j] H Q:=⟨i,j,rfl,h⟩
end
end My
namespace My
open PySem PySem.Spec PyProof.Rows L2
section
variable {K: Frag} {σ: L2.St} {H: Hp} {Q: VK} {D: Ends} {ta tv: TE} {t: TA} {a C dx: Addr} {fs: List (Str × V)} {f m: Str} {v y: V} {sp: Sp} {dvs: List V} {E: XK}
def kMk (C:Addr) (sp:Sp) (dvs:List V) (E:XK) (Q:VK) (vs:List V) (H:Hp):Prop:=∀x dx,H x=none->H dx=none->dx≠x->sp (.ref x ::(vs++dvs)) (upd (upd H dx (.own x)) x (.ins C dx [])) (fun v H2=>v=.non/\Q (.ref x) H2) E
theorem r_mk (h:t σ H fun vs H1=>kMk C sp dvs E Q vs H1):tMake C sp dvs E t σ H Q:=h
def kMt (C:Addr) (m:Str) (sp:Sp) (dvs:List V) (E:XK) (t:TA) (σ:L2.St) (Q:VK) (x:V) (H:Hp):Prop:=∃a dx fs,x=.ref a/\H a=some (.ins C dx fs)/\fs.lookup m=none/\t σ H fun vs H2=>sp (x ::(vs++dvs)) H2 Q E
theorem r_mt (h:ta σ H fun x H1=>kMt C m sp dvs E t σ Q x H1):tMeth C m sp dvs E ta t σ H Q:=h
theorem r_mtk (e:H a=some (.ins C dx fs)) (l:fs.lookup m=none) (h:t σ H fun vs H2=>sp (.ref a ::(vs++dvs)) H2 Q E):kMt C m sp dvs E t σ Q (.ref a) H:=⟨a,dx,fs,rfl,e,l,h⟩
def kFl (K:Frag) (f:Str) (Q:VK) (x:V) (H:Hp):Prop:=∃a C dx fs v,x=.ref a/\H a=some (.ins C dx fs)/\Cls K C/\qar K C f/\fs.lookup f=some v/\Q v H
theorem r_fl (h:ta σ H fun x H1=>kFl K f Q x H1):tFld K ta f σ H Q:=h
theorem r_flk (e:H a=some (.ins C dx fs)) (c:Cls K C) (n:qar K C f) (l:fs.lookup f=some v) (h:Q v H):kFl K f Q (.ref a) H:=⟨a,C,dx,fs,v,rfl,e,c,n,l,h⟩
def kFs (K:Frag) (f:Str) (y:V) (D:Ends) (σ:L2.St) (x:V) (H:Hp):Prop:=∃a C dx fs,x=.ref a/\H a=some (.ins C dx fs)/\Cls K C/\qar K C f/\fs.length < 1000/\D.nx σ (upd H a (.ins C dx (qdp f y fs)))
theorem r_fs (h:tv σ H fun y H1=>ta σ H1 fun x H2=>kFs K f y D σ x H2):sFld K ta tv f D σ H:=h
theorem r_fsk (e:H a=some (.ins C dx fs)) (c:Cls K C) (n:qar K C f) (hz:fs.length < 1000) (h:D.nx σ (upd H a (.ins C dx (qdp f y fs)))):kFs K f y D σ (.ref a) H:=⟨a,C,dx,fs,rfl,e,c,n,hz,h⟩
end
structure IsC (K:Frag) (C:Addr):Prop where
 ha:PySem.W.findIn K (.ref C) "__class__" =some (some (.builtin "object.__class__"))
 hn:PySem.W.specialIn K (.builtin "object.__class__") "__get__" =some (some (.builtin "getset_descriptor.__get__"))
 htk:PySem.W.takesIn K (.builtin "object.__class__")=some true
 hm:PySem.W.mroIn K C (.type "object")=some true
end My
namespace My
open PySem PySem.Spec PyProof.Rows L2
section
variable {X: Cx} {k: Nat} {f C: Addr} {fd: FuncData} {ps: List Str} {sp: Sp} {dvs: List V} {ds: List Value} {W: L2.St -> XK} {x m: Str} {p pos apos: Pos} {e o: Expr} {es: List Expr} {ta: TE} {t: TA}
def tMethX (C:Addr) (m:Str) (sp:Sp) (dvs:List V) (W:L2.St->XK) (ta:TE) (t:TA):TE:=fun σ H Q=>ta σ H fun x H1=>∃a dx fs,x=.ref a/\H1 a=some (.ins C dx fs)/\fs.lookup m=none/\t σ H1 fun vs H2=>sp (x ::(vs++dvs)) H2 Q (W σ)
theorem qap {pl:Sem Bool} (he:PE X o ta) (c:Cls X.K C) (hm:Meth X.K C m f) (F:FnOk X.prog X.w X.K X.mg X.base (CX1 X.prog X.w) k f fd ps sp) (hr:Room k X.A) (hb:qan X.K fd ps ds) (hd:qbb dvs ds) (hx:Xes X W) (ha:PA X (e :: es) t) (hex:X.ex=[]:=by rfl)
  (hst:starEach (e :: es) X.env=(false,eval e X.env) :: starEach es X.env:=by rfl) (hpl:(backTo pos (starEach es X.env)).any (·.1)=false:=by rfl)
  (ht:eval (.Call (.Attribute o m apos) (e :: es) [] pos) X.env=(do
   let ov<-eval o X.env
   standAt apos.atName
   let (f,first)<-holding [ov] (getMethod ov m pl)
   callWith pos f first (backTo pos (starEach (e :: es) X.env)) (backToKw pos (keywordEach [] X.env))):=by rfl):
  PE X (.Call (.Attribute o m apos) (e :: es) [] pos) (tMethX C m sp dvs W ta t):=by
 intro pins s σ H Q I h
 refine PySem.W.methodCall_KW (pl:=pl) (thn (he pins s σ H _ I h) fun u s1 ⟨x,H1,I1,rx,a,dx,fs,ex,ea,l,q⟩=>?_) ht
 subst ex
 obtain rfl:u=Value.ref a:=rx
 refine qcq I1 ea c hm l (PySem.W.callWith_K (first:=[.ref a]) (h₀:=X.base) I.ok.mod.kin hm.kp (thn (ha pos pins s1 σ H1 _ I1 q) fun us s2 ⟨vs,H2,I2,r,q2⟩=>⟨I2.kIn,?_⟩) hst hpl)
 exact run_fnX (us:=.ref a :: us) (vs:=.ref a :: vs) F hr hb hd hx hex I2 (.cons rfl r) q2
def tMakeX (C:Addr) (sp:Sp) (dvs:List V) (W:L2.St->XK) (t:TA):TE:=fun σ H Q=>t σ H fun vs H1=>∀x dx,H1 x=none->H1 dx=none->dx≠x->sp (.ref x ::(vs++dvs)) (upd (upd H1 dx (.own x)) x (.ins C dx [])) (fun v H2=>v=.non/\Q (.ref x) H2) (W σ)
theorem run_makeX {pins:List (Addr × Obj)} {σ:L2.St} {H:Hp} {s:Shared} {Q:VK} {us:List Value} {vs:List V} (M:Mk X.K C f) (F:FnOk X.prog X.w X.K X.mg X.base (CX1 X.prog X.w) k f fd ps sp) (hr:Room (k+1) X.A) (hb:qan X.K fd ps ds) (hd:qbb dvs ds)
  (hx:Xes X W) (hex:X.ex=[]) (I:Inv X pins σ H s) (r:qbb vs us)
  (h:∀x dx,H x=none->H dx=none->dx≠x->sp (.ref x ::(vs++dvs)) (upd (upd H dx (.own x)) x (.ins C dx [])) (fun v H2=>v=.non/\Q (.ref x) H2) (W σ)):
  wpAny (model X.prog X.w) X.A (call (.ref C) us) (EP X pins σ Q) X.xe s:=by
 have hq:=h (s.heap.objs.size+1) s.heap.objs.size (I.hok.fresh (Nat.le_succ _)) (I.hok.fresh (Nat.le_refl _)) (Nat.ne_of_lt (Nat.lt_succ_self _))
 have I2:=Inv.made (C:=C) I
 have r2:qbb (V.ref (s.heap.objs.size+1) ::(vs++dvs)) (Value.ref (s.heap.objs.size+1) ::(us++ds)):=.cons rfl (r.append hd)
 have hl:(Value.ref (s.heap.objs.size+1) :: us++ds).length=ps.length:=by
  have e:=r2.length
  rw [F.len _ _ _ _ hq] at e
  exact e.symm
 refine wpAny_call (make_map (f:=f) I.kIn M.makes M.init (beq_iff_eq.mp M.fn) (codeAny_mono (F.run _ X.stack _ _ ⟨Value.ref (s.heap.objs.size+1) :: us, []⟩ (Value.ref (s.heap.objs.size+1) ::(us++ds)) _ _ (W σ) (hr.make C us [])
  (I2.env0.make C us []) (hb _ (Value.ref (s.heap.objs.size+1) :: us) I2.kIn hl) r2 hq) fun r s' hq'=>?_))
 cases r with
 |error e=>exact xes_call hx hex I2 hq'
 |ok fl=>
  cases fl with
  |ret u=>
   obtain⟨v,H',I3,rv,ev,q3⟩:=I2.after hq'
   subst ev
   exact⟨rv,⟨V.ref (s.heap.objs.size+1),H',I3,rfl,q3⟩⟩
  |next=>exact False.elim hq'
  |brk=>exact False.elim hq'
  |cont=>exact False.elim hq'
theorem pe_makeX (M:Mk X.K C f) (F:FnOk X.prog X.w X.K X.mg X.base (CX1 X.prog X.w) k f fd ps sp) (hr:Room (k+1) X.A) (hg:Gl X x) (hm:X.mg x=some (.ref C)) (hb:qan X.K fd ps ds) (hd:qbb dvs ds) (hx:Xes X W)
  (ha:PA X (e :: es) t) (hex:X.ex=[]:=by rfl) (hdb:(x==("__debug__" :Str))=false:=by decide) (he:starEach (e :: es) X.env=(false,eval e X.env) :: starEach es X.env:=by rfl) (hpl:(backTo pos (starEach es X.env)).any (·.1)=false:=by rfl):
  PE X (.Call (.Name x p) (e :: es) [] pos) (tMakeX C sp dvs W t):=by
 intro pins s σ H Q I h
 refine wpAny_Call_Name_kw (qcm I hg hm ?_ hdb)
 refine PySem.W.callWith_K (h₀:=X.base) I.ok.mod.kin M.kp (thn (ha pos pins s σ H _ I h) fun us s1 ⟨vs,H1,I1,r,q⟩=>⟨I1.kIn,?_⟩) he hpl
 exact run_makeX M F hr hb hd hx hex I1 r q
end
structure FunD (K:Frag) (x qual:Str) (st:Stmt) (f:Addr) (fd:FuncData) (T:Addr) (items:Array Value):Prop where
 ex:∃(oc:Value) (od:Option Addr) (kV doc pm:Value) (an:Option Addr) (cdv ct:Value) (osl:Array (Option Value)),
  fd=fnOf x qual (qcf st) (qbs st) (qab st) (.ref T) kV doc pm an cdv ct/\K.lookup f=some ⟨oc,od,.func fd,osl⟩/\codeIn K cdv qual=true
 kp:keepIn K (.ref f)=true
 tup:∃(o:Obj) (n:Nat),K.lookup T=some o/\o.data=.seq items n
section
variable {K: Frag} {x qual: Str} {st: Stmt} {f T: Addr} {fd: FuncData} {ps: List Str} {items: Array Value}
theorem FunD.binds (F:FunD K x qual st f fd T items) {ds:List Value} (h:∀(kV doc pm:Value) (an:Option Addr) (cdv ct:Value) (us:List Value),(us++ds).length=ps.length->
   bindArgs (fnOf x qual (qcf st) (qbs st) (qab st) (.ref T) kV doc pm an cdv ct) ⟨us, []⟩=pure (ps.zip (us++ds))\/
   ∃g:Option (Array Value)->Sem (List (Str × Value)),bindArgs (fnOf x qual (qcf st) (qbs st) (qab st) (.ref T) kV doc pm an cdv ct) ⟨us, []⟩=seqItems? (.ref T) >>= g/\g (some items)=pure (ps.zip (us++ds))):qan K fd ps ds:=by
 obtain⟨oc,od,kV,doc,pm,an,cdv,ct,osl,rfl,lk,hcd⟩:=F.ex
 obtain⟨o,n,hT,hd⟩:=F.tup
 intro s us KX hl
 rcases h kV doc pm an cdv ct us hl with h|⟨g,h1,h2⟩
 .exact .of_eq h
 .exact BindsTo.of_defaults (T:=T) rfl (KX _ _ hT) hd h1 h2
end
section
variable {σ: L2.St} {H: Hp} {Q: VK} {ta: TE} {t: TA} {a C dx: Addr} {fs: List (Str × V)} {m: Str} {sp: Sp} {dvs: List V} {W: L2.St -> XK}
def kMtX (C:Addr) (m:Str) (sp:Sp) (dvs:List V) (W:L2.St->XK) (t:TA) (σ:L2.St) (Q:VK) (x:V) (H:Hp):Prop:=∃a dx fs,x=.ref a/\H a=some (.ins C dx fs)/\fs.lookup m=none/\t σ H fun vs H2=>sp (x ::(vs++dvs)) H2 Q (W σ)
theorem r_mtX (h:ta σ H fun x H1=>kMtX C m sp dvs W t σ Q x H1):tMethX C m sp dvs W ta t σ H Q:=h
theorem r_mtkX (e:H a=some (.ins C dx fs)) (l:fs.lookup m=none) (h:t σ H fun vs H2=>sp (.ref a ::(vs++dvs)) H2 Q (W σ)):kMtX C m sp dvs W t σ Q (.ref a) H:=⟨a,dx,fs,rfl,e,l,h⟩
def kMkX (C:Addr) (sp:Sp) (dvs:List V) (W:L2.St->XK) (σ:L2.St) (Q:VK) (vs:List V) (H:Hp):Prop:=∀x dx,H x=none->H dx=none->dx≠x->sp (.ref x ::(vs++dvs)) (upd (upd H dx (.own x)) x (.ins C dx [])) (fun v H2=>v=.non/\Q (.ref x) H2) (W σ)
theorem r_mkX (h:t σ H fun vs H1=>kMkX C sp dvs W σ Q vs H1):tMakeX C sp dvs W t σ H Q:=h
end
end My
namespace My
open PySem PySem.Spec PyProof.Rows L2
end My
namespace My
open PySem PySem.Spec PyProof.Rows L2
section
variable {prog: Program} {w: World} {A: Around} {E: Value -> Shared -> Prop}
theorem drawL {j l:Addr} {xs:List Value} (ne:l≠j):∀(todo:List Value) (i:Nat) (s:Shared) (Q:List Value->Shared->Prop),xs.drop i=todo->s.heap.IsListIter j l i->s.heap.IsList l xs.toArray->
  (∀h',h'.IsListIter j l (i+todo.length)->(∀b o,b≠j->s.heap.get? b=some o->h'.get? b=some o)->Q todo {s with heap:=h'})->wpAny (model prog w) A (draw (.ref j) todo.length) Q E s
 | [],i,s,Q,_,st,_,q=>by
  show wpAny _ _ (pure []) _ _ _
  exact wpAny_pure (q s.heap st fun _ _ _ e=>e)
 |x :: todo,i,s,Q,hd,st,hl,q=>by
  have hx:xs[i]?=some x:=by
   have z:=congrArg (fun l=>l[0]?) hd
   simpa using z
  have hd2:xs.drop (i+1)=todo:=by
   have z:=congrArg (List.drop 1) hd
   simpa [List.drop_drop] using z
  show wpAny _ _ (pyNext (.ref j) >>= _) _ _ _
  refine wpAny_bind (wpAny_pyNext_list_item st hl (x:=x) (by simpa using hx) fun h1 st1 sb=>?_)
  have kp:∀b o,b≠j->s.heap.get? b=some o->h1.get? b=some o:=fun b o hb e=>(sb.2 b hb).trans e
  refine wpAny_bind (wpAny_holding (drawL ne todo (i+1) _ _ hd2 st1 (hl.at fun o e=>kp _ o ne e) fun h2 st2 kp2=>wpAny_pure ?_))
  refine q h2 ?_ fun b o hb e=>kp2 b o hb (kp b o hb e)
  rw [length_cons,show i+(todo.length+1)=i+1+todo.length by omega]
  exact st2
theorem assignL {s:Shared} {env:Env} {elts:List Expr} {x1} {pos:Pos} {l:Addr} {xs:List Value} {Q:Unit->Shared->Prop} (calm:A.handled=none) (hl:s.heap.IsList l xs.toArray) (hn:(assignEach elts env).length=xs.length) (hst:(assignEach elts env).findIdx? (·.1)=none)
  (q:∀h',(∀b o,s.heap.get? b=some o->h'.get? b=some o)->wpAny (model prog w) A (assignInOrder ((assignEach elts env).map (·.2)) xs) Q E {s with heap:=h'}):wpAny (model prog w) A (assign (.Tuple elts x1 pos) env (.ref l)) Q E s:=by
 have ne:l≠s.heap.objs.size:=by obtain⟨o,ho,_⟩:=hl;exact Nat.ne_of_lt (Heap.lt_size ho)
 rw [assign_Tuple]
 refine wpAny_bind (wpAny_standAt ?_)
 unfold unpack
 rw [hn,hst]
 refine wpAny_bind (wpAny_holding ?_)
 unfold unpackItems notIterableAtAll
 refine wpAny_bind (wpAny_bind (wpAny_specialOf hl.typeIs F.slot_list_iter.lookup (wpAny_pure ?_)))
 simp only [Bool.false_eq_true,if_false]
 have hl1:(s.heap.push {cls:=.type "list_iterator",data:=.fields #[.ref l,.int 0 0]}).IsList l xs.toArray:=hl.at fun o e=>Heap.get?_push_of_some _ e
 refine wpAny_bind (wpAny_holding (wpAny_pyIter_list hl (wpAny_bind (wpAny_holding (drawL ne xs 0 _ _ (by simp) ⟨_,Heap.get?_push_size _ rfl,rfl,rfl⟩ hl1 fun h1 st1 kp=>?_)))))
 rw [if_neg (Nat.lt_irrefl _)]
 refine wpAny_bind (wpAny_holding (wpAny_pyNext_list_end calm st1 (hl1.at fun o e=>kp _ o ne e) (by simp) fun h2 kp2=>?_))
 simp only [Option.isSome_none,Bool.false_eq_true,if_false]
 refine wpAny_pure (q h2 fun b o e=>?_)
 have nb:b≠s.heap.objs.size:=Nat.ne_of_lt (Heap.lt_size e)
 exact kp2 b o nb (kp b o nb (Heap.get?_push_of_some _ e))
end
section
variable {X: Cx} {pos: Pos}
def gLst (K:Frag) (n:Nat) (t:TGs):TG:=fun v σ H Q=>∃a xs,v=.ref a/\SqL K H a xs/\xs.length=n/\t xs σ H Q
theorem pg_lst {es:List Expr} {k:Nat} {t:TGs} {n:Nat} (hc:X.calm=true) (h:PGs X es t) (hn:(assignEach es X.env).length=n:=by rfl) (hst:(assignEach es X.env).findIdx? (·.1)=none:=by rfl):PG X (.Tuple es k pos) (gLst X.K n t):=by
 intro pins s σ H v u Q I r hw
 obtain⟨a,xs,rfl,hq,hl,hw⟩:=hw
 cases r
 obtain⟨ws,rv,pl,_⟩:=I.list hq
 refine assignL (I.ok.hd hc) (PlainL.isList pl) (by rw [hn,<-hl,rv.length]) hst fun h' kp=>?_
 exact h pins _ σ H xs _ Q (I.kept (t':=s.toks) kp) rv hw
end
theorem r_glst {K:Frag} {σ:L2.St} {H:Hp} {a:Addr} {xs:List V} {n:Nat} {t:TGs} {Q:L2.St->Hp->Prop} (s:SqL K H a xs) (hn:xs.length=n) (h:t xs σ H Q):gLst K n t (.ref a) σ H Q:=⟨a,xs,rfl,s,hn,h⟩
end My
namespace My
open PySem PySem.Spec PyProof.Rows L2
def kDs (p:Addr) (Q:VK) (x y:V) (H2:Hp):Prop:=H2 p=some (.dK [])/\∃kvs:List (Key × V), [(x,y)]=kvs.map (fun kv=>(kV kv.1,kv.2))/\kvs.length<=15/\Q (.ref p) (upd H2 p (.dK (qf6 [] kvs)))
theorem r_disp1 {σ:L2.St} {H:Hp} {Q:VK} {tk tv:TE} (h:∀p,H p=none->tk σ (upd H p (.dK [])) fun x H1=>tv σ H1 fun y H2=>kDs p Q x y H2):tDisp [(tk,tv)] σ H Q:=fun p hp=>h p hp
theorem r_ds {H:Hp} {Q:VK} {p:Addr} {z:Str} {y:V} (e:H p=some (.dK [])) (h:Q (.ref p) (upd H p (.dK [(Sum.inr z,y)]))):kDs p Q (.str z) y H:=⟨e, [(Sum.inr z,y)],rfl,Nat.le_of_ble_eq_true rfl,h⟩
end My
namespace My
open PySem PySem.Spec PyProof.Rows L2
section
variable {P: Program} {w: World} {K: Frag} {mg: Str -> Option Value} {base: Heap} {x qual: Str} {st: Stmt} {f T: Addr} {fd: FuncData} {N ps: List Str} {k: Nat} {sp: Sp} {items: Array Value}
theorem okDX (F:FunD K x qual st f fd T items) (S:FnScope N ps (qab st)) (len:∀vs H Q E,sp vs H Q E->vs.length=ps.length)
  (hbody:∀(cdv:Value) (A:Around) (outer:List Env) (s:Shared) (H:Hp) (vs:List V) (Q:VK) (E:XK),Room k (A.deeper (envOfC qual (qab st) s.heap.objs.size f cdv))->sp vs H Q E->
   ∃t,PSs (xw (cxOf (CX1 P w) P w K mg base N qual (qab st) f cdv A outer s H E) (fun _=>E)) (qbs st) t/\t {nx:=fun _ H'=>Q .non H',rt:=Q} (qdf N vs) H):FnOk P w K mg base (CX1 P w) (k+1) f fd ps sp:=by
 obtain⟨oc,od,kV,doc,pm,an,cdv,ct,osl,rfl,lk,hcd⟩:=F.ex
 refine fn_of lk hcd S len fun A outer s H vs Q E hr hsp=>?_
 obtain⟨t,ht,q⟩:=hbody cdv A outer s H vs Q E hr hsp
 exact⟨t,PSs.xes xes_fn ht,q⟩
theorem funD_mk {oc:Value} {od an:Option Addr} {osl:Array (Option Value)} {kV doc pm cdv ct:Value} {o:Obj} {n:Nat} (l:K.lookup f=some ⟨oc,od,.func (fnOf x qual (qcf st) (qbs st) (qab st) (.ref T) kV doc pm an cdv ct),osl⟩)
  (c:codeIn K cdv qual=true) (kp:keepIn K (.ref f)=true) (t:K.lookup T=some o) (hd:o.data=.seq items n):FunD K x qual st f (fnOf x qual (qcf st) (qbs st) (qab st) (.ref T) kV doc pm an cdv ct) T items:=
 ⟨⟨oc,od,kV,doc,pm,an,cdv,ct,osl,rfl,l,c⟩,kp,o,n,t,hd⟩
end
end My
namespace My
open PySem PySem.Spec PyProof.Rows L2
def oK (hs:List (Str × Addr)):List (Key × V):=hs.map fun p=>(Sum.inr p.1,.ref p.2)
def qd3:List (Str × Addr)->Str->Option Addr
 | [],_=>none
 |p :: r,z=>if p.1=z then some p.2 else qd3 r z
theorem qfe (z:Str):∀hs:List (Str × Addr),qcx (oK hs) (Sum.inr z)=(qd3 hs z).map V.ref
 | []=>rfl
 |p :: r=>by
  have ih:=qfe z r
  unfold qcx oK at ih ⊢
  rw [map_cons,find?_cons]
  by_cases h:p.1=z
  .have e:decide ((Sum.inr p.1:Key)=Sum.inr z)=true:=by rw [h];exact decide_eq_true rfl
   simp only [e,qd3,if_pos h]
   rfl
  .have e:decide ((Sum.inr p.1:Key)=Sum.inr z)=false:=decide_eq_false fun q=>h (Sum.inr.inj q)
   simp only [e,qd3,if_neg h]
   exact ih
theorem qf7 {z:Str}:∀{hs:List (Str × Addr)},qd3 hs z=none↔z∉hs.map (·.1)
 | []=>by simp [qd3]
 |p :: r=>by
  have ih:=qf7 (z:=z) (hs:=r)
  unfold qd3
  by_cases q:p.1=z
  .rw [if_pos q]
   simp [q]
  .rw [if_neg q,ih]
   simp [Ne.symm q,fun e:z=p.1=>q e.symm]
theorem lookO_of {z:Str} {h:Addr}:∀{hs:List (Str × Addr)},(hs.map (·.1)).Nodup->(z,h)∈hs->qd3 hs z=some h
 |p :: r,nd,m=>by
  rw [map_cons,nodup_cons] at nd
  unfold qd3
  rcases mem_cons.mp m with e|e
  .rw [<-e,if_pos rfl]
  .have q:p.1≠z:=fun q=>nd.1 (by rw [q];exact mem_map.mpr ⟨(z,h),e,rfl⟩)
   rw [if_neg q]
   exact lookO_of nd.2 e
theorem putK_oK {hs:List (Str × Addr)} {z:Str} {h:Addr} (n:qd3 hs z=none):qdj (oK hs) (Sum.inr z) (.ref h)=oK (hs++ [(z,h)]):=by
 have hn:=qf7.mp n
 have e:((oK hs).any fun kv=>decide (kv.1=Sum.inr z))=false:=by
  rw [List.any_eq_false]
  intro kv hkv
  obtain⟨p,hp,rfl⟩:=mem_map.mp hkv
  intro q
  have q':=Sum.inr.inj (of_decide_eq_true q)
  exact hn (mem_map.mpr ⟨p,hp,q'⟩)
 unfold qdj
 rw [if_neg (by rw [e];decide)]
 unfold oK
 rw [map_append];rfl
theorem oK_keys (hs:List (Str × Addr)):(oK hs).map (·.1)=(hs.map (·.1)).map Sum.inr:=by unfold oK;rw [map_map,map_map];rfl
section
variable {H: Hp} {Q: VK} {a h: Addr} {hs: List (Str × Addr)} {z: Str}
theorem r_diO (d:Rd H a (.dK (oK hs))) (q:Q (.bl (qd3 hs z).isSome) H):rDI (.ref a) (.str z) H Q:=by
 refine⟨a,qcx (oK hs) (Sum.inr z),rfl,.inl ⟨_,Sum.inr z,d,rfl,rfl⟩,?_⟩
 rw [qfe,Option.isSome_map]
 exact q
theorem r_dgO (d:Rd H a (.dK (oK hs))) (e:qd3 hs z=some h) (q:Q (.ref h) H):rDGk (.ref a) (.str z) H Q:=
 ⟨a,.ref h,rfl,.inl ⟨_,Sum.inr z,d,rfl,by rw [qfe,e];rfl⟩,q⟩
end
end My
set_option exponentiation.threshold 2000
namespace My
open PySem PySem.Spec PyProof.Rows L2
end My
set_option maxHeartbeats 3200000
namespace My
open PySem PySem.Spec PyProof.Rows L2
section
variable {P: Program} {w: World} {A: Around}
theorem sk_is (z:Str) (t:Tok):(strKind P w).is z (.str z t)=true:=by
 show Value.isStrOf z (.str z t)=true
 simp [Value.isStrOf]
theorem take_in {zs:List Str} {i:Nat} {z:Str} (nd:zs.Nodup) (h:zs[i]?=some z):(zs.take i).contains z=false:=by
 rw [<-Bool.not_eq_true,List.contains_iff_mem]
 intro m
 obtain⟨j,hj,e⟩:=mem_iff_getElem.mp m
 obtain⟨hi,e2⟩:=List.getElem?_eq_some_iff.mp h
 rw [length_take] at hj
 rw [List.getElem_take] at e
 exact(pairwise_iff_getElem.mp nd) j i (by omega) hi (by omega) (by rw [e,e2])
theorem take_next {zs:List Str} {i:Nat} {z:Str} (h:zs[i]?=some z) (y:Str):((zs.take i).contains y || decide (y=z))=(zs.take (i+1)).contains y:=by
 rw [take_add_one,h,Bool.eq_iff_iff,Bool.or_eq_true,List.contains_iff_mem,List.contains_iff_mem,mem_append,decide_eq_true_iff]
 simp
theorem setT_loop {R:Result->Shared->Prop} {it c:Addr} {fp wr:List Addr} {G:Array GenState->Array GenState->Prop} {zs:List Str} {pv:Nat->Value->Prop} {St:Nat->Shared->Prop}
  (W:WalksS P w A.in1 it fp wr G zs.length pv St) (hc:c∉fp) (nd:zs.Nodup) (hv:∀i v,pv i v->∃z t,zs[i]?=some z/\v=.str z t) (hb:zs.length+1 < scanBound):
  ∀(k i:Nat) (s:Shared),zs.length - i=k->i<=zs.length->St i s->s.heap.SetOf (strKind P w) c (fun y=>(zs.take i).contains y) i->
   (∀s',Moved (c :: wr) G s s'->s'.heap.SetOf (strKind P w) c (fun y=>(zs.take zs.length).contains y) zs.length->R (.ok (.ret .none)) s')->
   codeAny (model P w) A (.builtin "set.update.loop" ⟨[.ref c,.ref it], []⟩) R s:=by
 have cw:c∉wr:=fun h=>hc (W.sub _ h)
 have stays:∀{n:Nat} {S:Str->Bool} {s s':Shared},Moved wr G s s'->s.heap.SetOf (strKind P w) c S n->s'.heap.SetOf (strKind P w) c S n:=fun hm hS=>by
  obtain⟨o,es,ep,t,ho,rest⟩:=hS
  exact⟨o,es,ep,t,hm.heap c _ cw ho,rest⟩
 intro k
 induction k with
 |zero=>
  intro i s hk hi st hS hR
  have e:i=zs.length:=by omega
  subst e
  refine codeAny_builtin PyProof.Rows.F.entry_set_update_loop ?_
  rw [Around.under_plainId PyProof.Rows.F.plain_set_update_loop]
  show wpAny _ _ (pyNext (.ref it) >>= _) _ _ _
  refine wpAny_bind (W.done s _ _ st fun s1 hm=>?_)
  exact wpAny_pure (hR s1 (hm.mono fun b h=>mem_cons_of_mem _ h) (stays hm hS))
 |succ k ih=>
  intro i s hk hi st hS hR
  have lt:i < zs.length:=by omega
  refine codeAny_builtin PyProof.Rows.F.entry_set_update_loop ?_
  rw [Around.under_plainId PyProof.Rows.F.plain_set_update_loop]
  show wpAny _ _ (pyNext (.ref it) >>= _) _ _ _
  refine wpAny_bind (W.item i s _ _ lt st fun v s1 hp st1 hm=>?_)
  obtain⟨z,t,hz,rfl⟩:=hv i v hp
  have S1:=stays hm hS
  show wpAny _ _ (holding [Value.str z t] (setAdd c (.str z t)) >>= _) _ _ _
  refine wpAny_bind (wpAny_holding ?_)
  unfold setAdd
  refine wpAny_holding (wpAny_bind ((strKind P w).pyHash (k:=z) (sk_is z t) ?_))
  refine wpAny_setAddHashed_of (knd:=strKind P w) (s:={s1 with toks:=s1.toks+1}) (sk_is z t) rfl S1 (by omega) fun h2 sb S2=>?_
  have S3:h2.SetOf (strKind P w) c (fun y=>(zs.take (i+1)).contains y) (i+1):=SetOf_congr S2 (take_next hz) (by simp only [take_in nd hz];rfl)
  refine wpAny_pure ⟨plainId_quiet PyProof.Rows.F.plain_set_update_loop _,ih (i+1) _ (by omega) lt (W.frame _ s1 _ _ st1 (Nat.le_succ _) fun b h o e=>?_) S3 fun s4 hm4 S4=>?_⟩
  .rw [sb.2 b fun q=>hc (q ▸ h)];exact e
  .refine hR s4 (Moved.trans W.gtrans ((hm.mono fun b h=>mem_cons_of_mem _ h).then_heap (Nat.le_succ _) fun b o h e=>?_) hm4) S4
   rw [sb.2 b fun q=>h (q ▸ mem_cons_self)];exact e
abbrev setO (led:Bool):Obj:={cls:=.type "set",dict:=none,data:=.set #[] 0 (.fresh 0 0 led)}
theorem setT_call {E:Value->Shared->Prop} {s:Shared} {l:Addr} {items:Array Value} {zs:List Str} {Q:Value->Shared->Prop} (hh:A.handled=none) (hl:s.heap.IsList l items) (hi:StrsAre items.toList zs) (nd:zs.Nodup) (hb:zs.length+1 < scanBound)
  (h:∀(h':Heap) (tk:Nat),h'.SetOf (strKind P w) s.heap.objs.size (fun y=>(zs.take zs.length).contains y) zs.length->(∀b o,b < s.heap.objs.size->s.heap.get? b=some o->h'.get? b=some o)->Q (.ref s.heap.objs.size) {s with heap:=h',toks:=tk}):
  wpAny (model P w) A (call (.type "set") [.ref l]) Q E s:=by
 obtain⟨c,tl,hmro⟩:=PySem.F.called_set.mro
 have hmade:=PySem.F.called_set.made
 have hsub:=PySem.F.called_set.sub
 refine wpAny_call (codeAny_of_tree ?_)
 show wpAny _ _ (callAny (.type "set") _) _ _ _
 refine wpAny_pure ⟨Code.quiet_builtin _ (by decide+kernel),codeAny_builtin PySem.F.entry_type_call ?_⟩
 rw [Around.under_plain (weight_type_call_type "set" [.ref l] []) rfl]
 have h1:=PySem.F.called_set.notType
 have h2:=PySem.F.called_set.canCreate
 have hct:=PySem.F.typeCall_set_1 (.ref l)
 repeat any_goals first|assumption|wp_step
 refine codeAny_mono (code_set_new_1 (.ref l) (E:=E) (Q₁:=fun x s1=>∃led:Bool,x=.ref s.heap.objs.size/\s1={s with heap:=s.heap.push (setO led)}) fun led=>⟨led,rfl,rfl⟩) fun r s1 hr=>?_
 cases r with
 |error e=>exact hr
 |ok fl=>
  cases fl with
  |ret obj=>
   obtain⟨led,rfl,rfl⟩:=hr
   have hS:(s.heap.push (setO led)).get? s.heap.objs.size=some (setO led):=Heap.get?_push_size _ rfl
   have hT:Shared.TypeIs {s with heap:=s.heap.push (setO led)} (.ref s.heap.objs.size) "set":=⟨_,hS,rfl⟩
   have hli:=PySem.F.called_set.init.lookup
   have hbi:=PySem.F.called_set.init.bind (.ref s.heap.objs.size)
   repeat any_goals first|assumption|wp_step
   refine codeAny_mono (codeAny_call_builtin (R:=wants (fun x s2=>x=.none/\∃h' tk,s2={s with heap:=h',toks:=tk}/\h'.SetOf (strKind P w) s.heap.objs.size (fun y=>(zs.take zs.length).contains y) zs.length/\(∀b o,b < s.heap.objs.size->s.heap.get? b=some o->h'.get? b=some o)) E) PySem.F.called_set.init.plain PySem.F.entry_set_init (check_set_init_1 hT ?_)) fun r2 s2 hr2=>?_
   .obtain⟨ol,hol,hcl,nl,hdl⟩:=hl
    obtain⟨ocls,odict,odata,oslots⟩:=ol
    dsimp only at hcl hdl
    subst hcl hdl
    have hol':=Heap.get?_push_of_some (setO led) hol
    have q1:=PySem.F.sub_list_set
    have q2:=PySem.F.sub_list_frozenset
    have q3:(Value.type "list" ==Value.type "dict")=false:=by decide
    have hl1:(s.heap.push (setO led)).IsList l items:=⟨_,hol',rfl,nl,rfl⟩
    unfold Builtin.«set.__init__» noKeywords Builtin.Frozenset.updateFrom
    generalize hPI:pyIter=PI
    wp_walk
    subst hPI
    refine wpAny_pyIter_list hl1 (wpAny_bind (wpAny_runValue ?_))
    have lS:l < s.heap.objs.size:=Heap.lt_size hol
    have h3:A.in1.in1.in1.handled=none:=by simp [hh]
    have nI:l≠(s.heap.push (setO led)).objs.size:=by
     rw [Heap.size_push];exact Nat.ne_of_lt (Nat.lt_succ_of_lt lS)
    have nS:s.heap.objs.size∉ [(s.heap.push (setO led)).objs.size,l]:=by
     rw [Heap.size_push]
     intro z
     simp only [mem_cons,List.not_mem_nil,or_false] at z
     rcases z with z|z
     .exact absurd z (Nat.ne_of_lt (Nat.lt_succ_self _))
     .rw [z] at lS;exact Nat.lt_irrefl _ lS
    have ez:items.size=zs.length:=by
     have:=hi.length
     simpa using this
    have W:WalksS P w A.in1.in1.in1 _ _ _ _ items.size _ _:=(Walks.list h3 _ l nI items).toS
    rw [ez] at W
    refine setT_loop (zs:=zs) W nS nd (fun i v hv=>?_) hb (zs.length - 0) 0 _ (by omega) (Nat.zero_le _) ⟨⟨_,Heap.get?_push_size _ rfl,rfl,rfl⟩,hl1.push _⟩ ?_ ?_
    .obtain⟨y,t,e1,e2⟩:=hi.item i v (by rw [Array.getElem?_toList];exact hv)
     exact⟨y,t,e2,e1⟩
    .have hget:=Heap.get?_push_of_some {cls:=.type "list_iterator",data:=.fields #[.ref l,.int 0 0]} hS
     exact SetOf_congr ((setObjOf_fresh (knd:=strKind P w) led).setOf hget (by unfold scanBound;omega)) (fun _=>rfl) rfl
    .intro s4 hm hS4
     obtain⟨h4,g4,d4,tk4,os4⟩:=s4
     have eg:g4=s.gens:=hm.gens
     have ed:d4=s.drawn:=hm.drawn
     have eo:os4=s.os:=hm.os
     subst eg ed eo
     refine wpAny_pure ?_
     refine wpAny_pure ⟨rfl,h4,tk4,rfl,hS4,fun b o hb' e=>?_⟩
     refine hm.heap b o (fun z=>?_) (Heap.get?_push_of_some _ (Heap.get?_push_of_some _ e))
     rw [Heap.size_push] at z
     simp only [mem_cons,List.not_mem_nil,or_false] at z
     rcases z with z|z
     .rw [z] at hb';exact Nat.lt_irrefl _ hb'
     .rw [z] at hb';exact Nat.lt_irrefl _ (Nat.lt_trans (Nat.lt_succ_self _) hb')
   .cases r2 with
    |error e=>exact hr2
    |ok fl2=>
     cases fl2 with
     |ret r=>
      obtain⟨rfl,h',tk,rfl,hS',hk'⟩:=hr2
      repeat any_goals first|assumption|wp_step
      exact h _ _ hS' hk'
     |next=>exact hr2.elim
     |brk=>exact hr2.elim
     |cont=>exact hr2.elim
  |next=>exact hr.elim
  |brk=>exact hr.elim
  |cont=>exact hr.elim
end
def SetT (P:Program) (w:World) (c:Addr) (n:Nat):HO:=.ext fun h=>∃S,h.SetOf (strKind P w) c S n
def rSetT (P:Program) (w:World) (K:Frag):List V->Hp->VK->Prop:=fun xs H Q=>∃(p:Addr) (zs:List Str),xs=[.ref p]/\SqL K H p (zs.map V.str)/\zs.Nodup/\zs.length<=60/\∀c,H c=none->Q (.ref c) (upd H c (SetT P w c zs.length))
def rLenT (P:Program) (w:World):List V->Hp->VK->Prop:=fun xs H Q=>∃c n,xs=[.ref c]/\H c=some (SetT P w c n)/\Q (.int n) H
section
variable {X: Cx}
theorem call_setT (hc:X.calm=true:=by rfl):qcb X (.type "set") (rSetT X.prog X.w X.K):=by
 intro pins s σ H xs us Q I hv h
 obtain⟨p,zs,rfl,hS,nd,hz,q⟩:=h
 obtain⟨u,rfl,ru⟩:=hv.one
 cases ru
 obtain⟨its,rv,pl,hz'⟩:=I.list hS
 refine setT_call (I.ok.hd hc) (PlainL.isList pl) (zs:=zs) (by simpa using qfg rv) nd (by unfold scanBound;omega) fun h' tk hT hk=>?_
 have hg:=hT
 obtain⟨o,es,ep,t,ho,_⟩:=hg
 exact⟨.ref _,_,I.laid (a:=s.heap.objs.size) (o:=SetT X.prog X.w s.heap.objs.size zs.length) (t':=tk) (fun b ob e=>hk b ob (Heap.lt_size e) e) (Nat.le_refl _) ⟨⟨_,hT⟩,⟨o,ho⟩,fun h1 h2 ⟨S,o1,r1,r2,r3,e1,rest⟩ k=>⟨S,o1,r1,r2,r3,k _ e1,rest⟩⟩,rfl,q _ (I.hok.fresh (Nat.le_refl _))⟩
theorem call_lenT:qcb X (.builtin "len") (rLenT X.prog X.w):=by
 intro pins s σ H xs us Q I hv h
 obtain⟨c,n,rfl,e,q⟩:=h
 obtain⟨u,rfl,ru⟩:=hv.one
 cases ru
 obtain⟨⟨S,o,es,ep,t,ho,hx,hd,_,_,hb,hf,rfl⟩,_⟩:=I.hok c _ e
 refine call_len_set ho hx hd hf (by unfold scanBound at hb;omega) ⟨.int es.size,H,I.tok _,⟨_,rfl⟩,q⟩
end
section
variable {P: Program} {w: World} {K: Frag} {H: Hp} {Q: VK}
theorem r_setT {p:Addr} {zs:List Str} (hS:SqL K H p (zs.map V.str)) (nd:zs.Nodup) (hz:zs.length<=60) (h:∀c,H c=none->Q (.ref c) (upd H c (SetT P w c zs.length))):rSetT P w K [.ref p] H Q:=⟨p,zs,rfl,hS,nd,hz,h⟩
theorem r_lenT2 {c:Addr} {n:Nat} (e:H c=some (SetT P w c n)) (h:Q (.int n) H):rLenT P w [.ref c] H Q:=⟨c,n,rfl,e,h⟩
end
def rLenD:List V->Hp->VK->Prop:=fun xs H Q=>∃a kvs,xs=[V.ref a]/\H a=some (.dK kvs)/\Q (.int kvs.length) H
theorem call_lenDD {X:Cx}:qcb X (.builtin "len") rLenD:=L2.call_lenD
theorem r_lenD {H:Hp} {Q:VK} {a:Addr} {kvs:List (Key × V)} (e:H a=some (.dK kvs)) (h:Q (.int kvs.length) H):rLenD [.ref a] H Q:=⟨a,kvs,rfl,e,h⟩
end My
set_option maxHeartbeats 1000000
namespace My
open PySem PySem.Spec PyProof.Rows L2
theorem entry_ii:entryFor table "dict_itemiterator.__iter__" =some Builtin.«dict_keyiterator.__iter__»:=entryFor_alias (id':="dict_keyiterator.__iter__") (by kernel_rfl) rfl (by decide+kernel) (by kernel_rfl)
def ItI (a:Addr) (o:Obj) (kvs:List (Key × V)):It:=
 ⟨fun i H=>H a=some (.frz o (.dK kvs))/\i < kvs.length,fun i H v H'=>∃T k x,H T=none/\kvs[i]?=some (k,x)/\v=.ref T/\H'=upd H T (.tup [kV k,x]),fun i H=>H a=some (.frz o (.dK kvs))/\kvs.length<=i⟩
def ISt (it d:Addr) (n ep i:Nat) (h:Heap):Prop:=∃ok ov,IsItemIter h it d i n ep ok ov
theorem turn_items {P:Program} {w:World} {K:Frag} {elts:List Expr} {kk:Nat} {tp:Pos} {o:Obj} {kvs:List (Key × V)} {es:Array DictEntry} {ep:Nat} (d it:Addr) (hd:o.data=.dict es ep):
  Turn P w K (.Tuple elts kk tp) (ItI d o kvs) [it] it (ISt it d kvs.length ep) where
 mem:=by simp
 obj:=fun i h st b hb=>by
  have e:b=it:=by simpa using hb
  subst e
  obtain⟨ok,ov,e⟩:=st
  exact⟨_,e,fun v q=>by have q':Data.fields _=Data.cell v:=q;cases q'⟩
 keep:=fun i h h' ⟨ok,ov,e⟩ k=>⟨ok,ov,k it (by simp) _ e⟩
 item:=by
  intro X hP hw hK hc i pins s σ H E I hf st hg
  subst hP hw hK
  obtain⟨hfz,hi⟩:=hg
  obtain⟨ok,ov,st⟩:=st
  obtain⟨vs,rel,dat⟩:=frz_at I.hok hfz hd
  have hfi:=hf it (by simp)
  have hl:=rel.length
  obtain⟨u,hu,ru⟩:=kvget rel (i:=i) (k:=kvs[i].1) (v:=kvs[i].2) (by rw [getElem?_eq_getElem hi])
  rw [hl] at st
  refine wpAny_pyNext_items_item st dat hu fun key h' hkey out tup hsz keep=>?_
  have hn:H s.heap.objs.size=none:=I.hok.fresh (Nat.le_refl _)
  have hg0:s.heap.get? s.heap.objs.size=none:=Heap.get?_none_of_le (Nat.le_refl _)
  have nit:it≠s.heap.objs.size:=Nat.ne_of_lt (Heap.lt_size st)
  have I1:Inv X pins σ (upd H s.heap.objs.size (.tup [kV kvs[i].1,kvs[i].2])) {s with heap:=h'}:=Inv.turnedT (t':=s.toks) (ch:=[it]) I (fun b hb=>(mem_singleton.mp hb) ▸ hfi) (fun b o hb e=>keep b o (fun q=>hb (by simp [q])) e) hg0 hn
   ⟨by show 2<=16777216;decide, [key,u],.cons (kV_rel hkey) (.cons ru .nil),⟨_,tup,rfl,_,rfl⟩⟩
  refine⟨.ref s.heap.objs.size,rfl,wpAny_letOwnedTupleGo_items (s:={s with heap:=h'}) out fun h2 c1 sb=>?_⟩
  have I2:Inv X pins σ (upd H s.heap.objs.size (.tup [kV kvs[i].1,kvs[i].2])) {s with heap:=h2}:=I1.turned (t':=s.toks) (fun b o hb e=>(sb.2 b hb).trans e) (by rw [qa9 nit];exact hfi.1) hfi.2.1 hfi.2.2.2.1 hfi.2.2.2.2.1 hfi.2.2.2.2.2
  refine⟨.ref s.heap.objs.size,_,I2,rfl,⟨s.heap.objs.size,kvs[i].1,kvs[i].2,hn,getElem?_eq_getElem hi,rfl,rfl⟩,⟨key,u,by rw [hl];exact c1⟩,fun b hb=>?_⟩
  have e:b=it:=by simpa using hb
  subst e
  rw [qa9 nit]
  exact hfi.1
 done:=by
  intro X hP hw hK hc i pins s σ H E I hf st hg
  subst hP hw hK
  obtain⟨hfz,hi⟩:=hg
  obtain⟨ok,ov,st⟩:=st
  obtain⟨vs,rel,dat⟩:=frz_at I.hok hfz hd
  obtain⟨f0,f1,f2,f3,f4,f5⟩:=hf it (by simp)
  have hl:=rel.length
  rw [hl] at st hi
  exact wpAny_pyNext_items_end (I.ok.hd hc) st dat (by simpa using hi) fun h' eb=>⟨rfl,I.turned (t':=s.toks) (fun b ob hb e=>eb b ob hb e) f0 f1 f3 f4 f5⟩
 self:=by
  rintro A i s Q E ⟨ok,ov,st⟩ h
  have ty:s.TypeIs (.ref it) "dict_itemiterator":=⟨_,st,rfl⟩
  refine wpAny_pyIter_slot ty PySem.F.slot_dict_itemiterator_iter (wpAny_call_entry PySem.F.slot_dict_itemiterator_iter ty entry_ii ?_ (PySem.F.args_dict_itemiterator_iter_1 _))
  exact wpAny_pure ⟨_,rfl,_,_,ty,PySem.F.slot_dict_itemiterator_next.lookup,h⟩
def ViewO (v d:Addr):HO:=.ext fun h=>h.IsItemsView v d
def rItems:V->List V->Hp->VK->Prop:=fun x xs H Q=>∃p kvs,x=.ref p/\xs=[]/\Rd H p (.dK kvs)/\∀v,H v=none->Q (.ref v) (upd H v (ViewO v p))
section
variable {X: Cx}
theorem mt_items:MtR X "dict.items" rItems:=by
 intro pins s σ H x xs v us Q I rx rv h
 obtain⟨p,kvs,rfl,rfl,e,q⟩:=h
 cases rx
 have hus:=rv.zero
 subst hus
 obtain⟨z,hd,vs,rel,dd⟩:=qes I.hok e
 refine call_meetsIn PySem.F.slot_dict_items dd.typeIs PySem.F.entry_dict_items (PySem.F.args_dict_items_1 _) (meets_dict_items (qb7 X.prog X.w) p hd) ⟨⟨vs,dd⟩,?_⟩
 exact⟨.ref _,_,I.laid (a:=s.heap.objs.size) (o:=ViewO s.heap.objs.size p) (t':=s.toks) (fun b ob e=>Heap.get?_push_of_some _ e) (Nat.le_refl _) ⟨⟨_,Heap.get?_push_size _ rfl,rfl,rfl⟩,⟨_,Heap.get?_push_size _ rfl⟩,fun h1 h2 ⟨o,e1,r⟩ k=>⟨o,k _ e1,r⟩⟩,rfl,q _ (I.hok.fresh (Nat.le_refl _))⟩
def rItI (x:V) (H:Hp) (R:It->Hp->Prop):Prop:=∃v a kvs,x=.ref v/\H v=some (ViewO v a)/\H a=some (.dK kvs)/\∀o,R (ItI a o kvs) (upd H a (.frz o (.dK kvs)))
def iItems (td:TE):TI:=fun σ H R=>td σ H fun x H1=>rItI x H1 R
theorem pi_items {elts:List Expr} {kk:Nat} {tp:Pos} {l:Expr} {tl:TE} (hl:PE X l tl):PI X (.Tuple elts kk tp) l (iItems tl):=by
 intro pins s σ H R I h
 refine thn (hl pins s σ H _ I h) fun v s1 ⟨x,H1,I1,r1,q1⟩=>?_
 obtain⟨v,a,kvs,e,hv,ha,q⟩:=q1
 subst e
 cases r1
 obtain⟨o,es,ep,vs,ho,hd,rel,dat,hs⟩:=dat_of (I1.hok a _ ha)
 have hlen:=rel.length
 obtain⟨hv1,_⟩:=I1.hok v _ hv
 refine wpAny_pyIter_items hv1 dat ?_
 have I2:=Inv.freeze I1 ha ho
 refine⟨s1.heap.objs.size, [s1.heap.objs.size],_,_,_,rfl,I2.kept (t':=s1.toks) fun b ob e=>Heap.get?_push_of_some _ e,turn_items (kvs:=kvs) a _ hd,⟨.none,.none,by rw [hlen];exact Heap.get?_push_size _ rfl⟩,fun b hb=>?_,q o⟩
 have e:b=s1.heap.objs.size:=by simpa using hb
 subst e
 exact I2.fpOk (Nat.le_refl _) (I2.hok.fresh (Nat.le_refl _))
end
section
variable {σ: L2.St} {H: Hp} {D: Ends} {g: TG} {tb: TS} {tl: TE} {a: Addr} {o: Obj} {kvs: List (Key × V)} {Q: VK}
theorem r_iI {R:It->Hp->Prop} (h:tl σ H fun x H1=>rItI x H1 R):iItems tl σ H R:=h
theorem r_itI {R:It->Hp->Prop} {v:Addr} (hv:H v=some (ViewO v a)) (e:H a=some (.dK kvs)) (h:∀o,R (ItI a o kvs) (upd H a (.frz o (.dK kvs)))):rItI (.ref v) H R:=⟨v,a,kvs,rfl,hv,e,h⟩
theorem r_items {p:Addr} (e:Rd H p (.dK kvs)) (h:∀v,H v=none->Q (.ref v) (upd H v (ViewO v p))):rItems (.ref p) [] H Q:=⟨p,kvs,rfl,rfl,e,h⟩
theorem f_items (Pv:Nat->L2.St->Hp->Prop) (h0:Pv 0 σ H) (hl:∀i σ H,i<=kvs.length->Pv i σ H->H a=some (.frz o (.dK kvs)))
  (hs:∀i k v T σ H,kvs[i]?=some (k,v)->Pv i σ H->H T=none->g (.ref T) σ (upd H T (.tup [kV k,v])) fun σ2 H2=>tb {nx:=Pv (i+1),rt:=D.rt,bk:=D.nx,ct:=Pv (i+1)} σ2 H2) (hd:∀σ H,Pv kvs.length σ H->D.nx σ H):FOR (ItI a o kvs) g tb D σ H:=by
 refine⟨fun i m σ H=>m=kvs.length - i/\i<=kvs.length/\Pv i σ H,⟨kvs.length,rfl,Nat.zero_le _,h0⟩,?_⟩
 rintro i m σ H ⟨rfl,hi,p⟩
 have q:=hl i σ H hi p
 by_cases hlt:i < kvs.length
 .refine .inr ⟨⟨q,hlt⟩,Pv (i+1),fun σ' H' p'=>⟨kvs.length - (i+1),by omega,rfl,hlt,p'⟩,fun x H' y=>?_⟩
  obtain⟨T,k,v,hT,hk,rfl,rfl⟩:=y
  exact hs i k v T σ H hk p hT
 .have e:i=kvs.length:=Nat.le_antisymm hi (Nat.le_of_not_lt hlt)
  subst e
  exact .inl ⟨⟨q,Nat.le_refl _⟩,hd σ H p⟩
end
def rRepC:R2:=fun x y H Q=>∃(c:Nat) (n:Int),x=.str ⟨#[c]⟩/\y=.int n/\1<=n/\n<=100/\Q (.str ⟨(List.replicate n.toNat c).toArray⟩) H
theorem mul_c (c:Nat) {n:Int} (h:1<=n):Txt.mul ⟨#[c]⟩ n=⟨(List.replicate n.toNat c).toArray⟩:=by
 have key:∀(m:Nat) (a:Array Nat),(List.replicate m #[c]).foldl (·++·) a=a++(List.replicate m c).toArray:=by
  intro m
  induction m with
  |zero=>intro a;simp
  |succ m ih=>
   intro a
   rw [List.replicate_succ,List.foldl_cons,ih,List.replicate_succ]
   apply Array.ext'
   simp
 unfold Txt.mul
 rw [if_neg (by omega)]
 by_cases z:((n==1 ||(⟨#[c]⟩:Str).length==0)=true)
 .rw [if_pos z]
  have e:n=1:=by
   rw [Bool.or_eq_true] at z
   rcases z with z|z
   .simpa using z
   .cases z
  subst e
  rfl
 .rw [if_neg z,key]
  simp
section
variable {X: Cx}
theorem op_repC:OpR X (binaryOp .Mult) rRepC:=by
 intro pins s σ H x y v u Q I rx ry h
 obtain⟨c,n,rfl,rfl,h0,h1,q⟩:=h
 obtain⟨t,rfl⟩:=rx
 obtain⟨k,rfl⟩:=ry
 refine SB.mul ?_ fun t' k=>⟨.str ⟨(List.replicate n.toNat c).toArray⟩,H,I.tok _,⟨t',by rw [mul_c c h0]⟩,q⟩
 refine⟨by rw [decide_eq_false (by omega),decide_eq_false (by omega)];rfl,fun _ _=>?_,fun _ _=>?_⟩
 .have z:(1:Int)<=(2^63 - 1) / n:=Int.le_ediv_of_mul_le (by omega) (by omega)
  show ¬((1:Int) >(2^63 - 1) / n)
  omega
 .refine decide_eq_false (p:=(1*n.toNat > sizeLine)) ?_
  rw [sizeLine_eq]
  omega
end
theorem r_repC {H:Hp} {Q:VK} {c:Nat} {n:Int} (h0:1<=n) (h1:n<=100) (h:Q (.str ⟨(List.replicate n.toNat c).toArray⟩) H):rRepC (.str ⟨#[c]⟩) (.int n) H Q:=⟨c,n,rfl,rfl,h0,h1,h⟩
end My
namespace My
open PySem PySem.Spec PyProof.Rows L2
end My
namespace My
open PySem PySem.Spec PyProof.Rows L2 PyProof
section
variable {X: Cx}
def rUpper:V->List V->Hp->VK->Prop:=fun x xs H Q=>∃z:Str,x=.str z/\xs=[]/\Builtin.Str.tooLong (Txt.upper z).length=false/\Q (.str (Txt.upper z)) H
theorem mt_upper:MtR X "str.upper" rUpper:=by
 intro pins s σ H x xs v us Q I rx rv h
 obtain⟨z,rfl,rfl,hf,q⟩:=h
 obtain⟨t,rfl⟩:=rx
 cases rv
 exact SC.upper hf ⟨.str _,H,I.tok _,⟨_,rfl⟩,q⟩
theorem r_upper {z:Str} {H:Hp} {Q:VK} (h:Builtin.Str.tooLong (Txt.upper z).length=false) (q:Q (.str (Txt.upper z)) H):rUpper (.str z) [] H Q:=⟨z,rfl,rfl,h,q⟩
end
theorem up1:∀c:Nat,c < 123->97<=c->(Unicode.upperOf c).length=1:=by decide+kernel
theorem upper_size (x:Str):(Txt.upper x).length=(x.cps.toList.map fun c=>(Unicode.upperOf c).length).sum:=by
 show (placed x fun _ c=>Unicode.upperOf c).size=_
 unfold placed
 have e:Array.mapIdx (fun _ c=>(Unicode.upperOf c).toArray) x.cps=x.cps.map fun c=>(Unicode.upperOf c).toArray:=by
  apply Array.ext
  .simp
  .intro i h1 h2;simp
 rw [Array.size_flatten,e,Array.map_map,<-Array.sum_toList,Array.toList_map]
 rfl
theorem upper_fit {z:Str} (h8:z.length<=8) (hL:∀c∈z.cps.toList,97<=c/\c<=122):Builtin.Str.tooLong (Txt.upper z).length=false:=by
 have e:(z.cps.toList.map fun c=>(Unicode.upperOf c).length)=z.cps.toList.map fun _=>1:=List.map_congr_left fun c hc=>up1 c (by have:=(hL c hc).2;omega) (hL c hc).1
 have l:z.cps.toList.length=z.length:=by simp [Str.length]
 rw [upper_size,e]
 unfold Builtin.Str.tooLong
 refine decide_eq_false ?_
 rw [sizeLine_eq,List.map_const',List.sum_replicate_nat,l]
 omega
end My
namespace My
open PySem PySem.Spec PyProof.Rows L2
end My
namespace My
open PySem PySem.Spec PyProof.Rows L2
section
inductive OddV (K:Frag) (H:Hp):V->Prop
 |non:OddV K H .non
 |bl (b:Bool):OddV K H (.bl b)
 |int (i:Int):OddV K H (.int i)
 |lst {a:Addr} {xs:List V} (h:SqL K H a xs):OddV K H (.ref a)
 |tup {a:Addr} {xs:List V} (h:SqT K H a xs):OddV K H (.ref a)
 |dct {a:Addr} {kvs:List (Key × V)} (h:H a=some (.dK kvs)):OddV K H (.ref a)
end
end My
namespace My
open PySem PySem.Spec PyProof.Rows L2
end My
namespace My
open PySem PySem.Spec PyProof.Rows L2
theorem ints_of:∀{ns:List Int} {its:List Value},qbb (ns.map V.int) its->∃ys:List (Int × Tok),its=ys.map (fun p=>Value.int p.1 p.2)/\ys.map (·.1)=ns
 | [],_,r=>by cases r;exact⟨[],rfl,rfl⟩
 |n :: ns,_,r=>by
  cases r with
  |cons h t=>
   obtain⟨tk,rfl⟩:=h
   obtain⟨ys,e1,e2⟩:=ints_of t
   exact⟨(n,tk) :: ys,by rw [e1];rfl,by rw [map_cons,e2]⟩
theorem items_of (ys:List (Int × Tok)):(ys.map (fun p=>Value.int p.1 p.2)).toArray=intItems ys.toArray:=by
 unfold intItems
 simp
def rMaxL (K:Frag):List V->Hp->VK->Prop:=fun xs H Q=>∃(p:Addr) (ns:List Int),xs=[.ref p]/\SqL K H p (ns.map V.int)/\0 < ns.length/\∀m,m∈ns->(∀a∈ns,a<=m)->Q (.int m) H
section
variable {X: Cx}
theorem qd6 (hc:X.calm=true):qcb X (.builtin "max") (rMaxL X.K):=by
 intro pins s σ H xs us Q I hv h
 obtain⟨p,ns,rfl,hS,hn,q⟩:=h
 obtain⟨u,rfl,ru⟩:=hv.one
 cases ru
 obtain⟨its,rv,pl,hz⟩:=I.list hS
 have hl:=pl.isList
 obtain⟨ys,rfl,rfl⟩:=ints_of rv
 rw [items_of] at hl
 have hsz:0 < ys.toArray.size:=by rw [length_map] at hn;simpa using hn
 refine max_intList (I.ok.hd hc) hl hsz fun v h' tk hv hk=>?_
 obtain⟨t,rfl⟩:=intItems_at hv
 obtain⟨h1,h2⟩:=argBest_gt (numAt ys.toArray) (ys.toArray.size - 1)
 refine⟨.int _,H,I.kept (t':=tk) hk,⟨t,rfl⟩,q _ ?_ fun a ha=>?_⟩
 .rw [numAt_eq]
  have hsy:ys.toArray.size=ys.length:=by simp
  exact getD_mem (show _ <(List.map (fun x:Int × Tok=>x.fst) ys).length by rw [length_map];omega)
 .obtain⟨j,hj,rfl⟩:=mem_getD ha
  rw [length_map] at hj
  have z:=h2 j (by have:ys.toArray.size=ys.length:=(by simp);omega)
  rw [numAt_eq ys.toArray j] at z
  exact z
end
section
variable {K: Frag} {H: Hp} {Q: VK} {p: Addr} {ns: List Int}
theorem r_maxL (hS:SqL K H p (ns.map V.int)) (hn:0 < ns.length) (h:∀m,m∈ns->(∀a∈ns,a<=m)->Q (.int m) H):rMaxL K [.ref p] H Q:=⟨p,ns,rfl,hS,hn,h⟩
end
end My
namespace My
open PySem PySem.Spec PyProof.Rows L2
end My
namespace My
open PySem PySem.Spec PyProof.Rows L2
def XB (X:Cx) (E:XK) (e:Value) (s':Shared):Prop:=∃(a:Addr) (C:Value) (d:Option Addr) (σ':L2.St) (H':Hp),e=.ref a/\Inv X [] σ' H' s'/\E C d H'/\
 ∃(T:Addr) (fl:Value) (σ1:L2.St) (H1:Hp) (s1:Shared),Inv X [] σ1 H1 s1/\s1.heap.get? a=none/\s1.heap.get? T=none/\H' a=none/\H' T=none/\XTr s'.heap a C d fl T
abbrev xb (X:Cx) (E:XK):Cx:=X.wish (XB X E)
section
variable {X: Cx} {E: XK} {k: Nat} {f: Addr} {fd: FuncData} {ps: List Str} {sp: Sp} {dvs: List V} {ds: List Value} {x: Str} {e: Expr}
theorem run_fnB {pins:List (Addr × Obj)} {σ:L2.St} {H:Hp} {s:Shared} {Q:VK} {us:List Value} {vs:List V} (F:FnOk X.prog X.w X.K X.mg X.base (CX1 X.prog X.w) k f fd ps sp) (hr:Room k X.A) (hb:qan X.K fd ps ds) (hd:qbb dvs ds)
  (I:Inv (xb X E) pins σ H s) (r:qbb vs us) (h:sp (vs++dvs) H Q E):wpAny (model X.prog X.w) X.A (call (.ref f) us) (EP (xb X E) pins σ Q) (XB X E) s:=by
 have r2:qbb (vs++dvs) (us++ds):=r.append hd
 have hl:(us++ds).length=ps.length:=by rw [<-r2.length];exact F.len _ _ _ _ h
 refine wpAny_call (codeAny_mono (F.run X.A X.stack s H ⟨us, []⟩ (us++ds) (vs++dvs) Q E hr I.env0 (hb s us I.kIn hl) r2 h) fun r s' hq=>?_)
 match r,hq with
 | .error e,hq=>
  obtain⟨a,C,d,H',rfl,os,bare,un,hok,la,na,⟨T,lT,nT,x⟩,w⟩:=hq
  have J:Inv (xb X E) pins σ H' s':=I.call' (ch:=[]) os un hok bare (fun b z=>absurd z (by simp))
  exact⟨a,C,d,σ,H',rfl,J.unwish.pins_of (fun _ z=>nomatch z),w,T,.none,σ,H,s,I.unwish.pins_of (fun _ z=>nomatch z),la,lT,na,nT,x⟩
 | .ok (.ret u),hq=>exact I.after hq
 | .ok .next,hq=>exact False.elim hq
 | .ok .brk,hq=>exact False.elim hq
 | .ok .cont,hq=>exact False.elim hq
end
section
variable {X: Cx} {pins: List (Addr × Obj)} {σ: L2.St} {H: Hp} {s: Shared}
theorem block_raise {N:List Str} {scope:Scope} {cl:List (Str × Addr)} {C0:Addr} {fp:List Addr} (hst:X.stack=X.env :: X.outer) (hf:X.env.frame=some X.env.locals) (hex:X.ex=[]) (I:Inv X pins σ H s) (hfp:∀b∈fp,qfy X pins H b) (hC:C0=s.heap.objs.size)
  {E:XK} (hx:Xes X fun _=>E) {Q:Value->Shared->Prop} {acc e:Value} {s':Shared} (h:XB (cxC X N scope cl C0 s H fp) E e s'):
  notedBy (model X.prog X.w) X.A (compEnvC scope cl C0 X.env) (fun e s'=>compPost (model X.prog X.w) X.A X.xe none Q acc C0 (.error e) s') e s':=by
 obtain⟨a,C,d,σ',H',rfl,J,w,T,fl,σ1,H1,s1,J1,la,lT,na,nT,x⟩:=h
 have O:Inv X pins σ H' s':=Inv.uncomp I hfp hC J ⟨rfl,fun _ _=>rfl⟩
 have O1:Inv X pins σ H1 s1:=Inv.uncomp I hfp hC J1 ⟨rfl,fun _ _=>rfl⟩
 have pn:∀b,s1.heap.get? b=none->∀p∈X.pn++pins,p.1≠b:=fun b lb p hp z=>by
  have w:=(O1.pin p hp).1
  rw [z,lb] at w
  cases w
 obtain⟨m,⟨oC,es,ep,hoC,hdC,hsk,hnf⟩,_⟩:=id J.loc
 have hoC:s'.heap.get? C0=some oC:=hoC
 obtain⟨m1,⟨oC1,_,_,hoC1,_⟩,_⟩:=id J1.loc
 have hoC1:s1.heap.get? C0=some oC1:=hoC1
 have nC:∀b,s1.heap.get? b=none->C0≠b:=fun b lb z=>by rw [z,lb] at hoC1;cases hoC1
 have fC:qfy X pins H' C0:=I.fpOk (by rw [hC];exact Nat.le_refl _) J.free
 obtain⟨g0,g1,g2,g3,g4,g5⟩:=id fC
 have P:Inv X (pins++ [(C0,oC)]) σ H' s':=O.pins_of fun p hp=>by
  rcases mem_append.mp hp with z|z
  .exact O.pin p (mem_append_right _ z)
  .rw [mem_singleton.mp z]
   exact⟨hoC,g0,g1,g2,fun v z=>by rw [hdC] at z;cases z⟩
 have pn2:∀b,s1.heap.get? b=none->∀p∈X.pn++(pins++ [(C0,oC)]),p.1≠b:=fun b lb p hp=>by
  rw [<-List.append_assoc] at hp
  rcases mem_append.mp hp with z|z
  .exact pn b lb p z
  .rw [mem_singleton.mp z];exact nC b lb
 obtain⟨oe,vs,oT,ts,he,hc,hdd,hd,h1,hTe,hT,hdT,h3⟩:=id x
 have xin:XIn X (pins++ [(C0,oC)]) H' s'.heap a C d:=⟨⟨qf5 O1 hex la,na,pn2 a la,⟨oe,vs,he,hd⟩⟩,.inr ⟨T,⟨qf5 O1 hex lT,nT,pn2 T lT,⟨oT,ts,hT,hdT⟩⟩,fl,x⟩⟩
 show wpAny _ _ (noteFrame (.ref a) X.env) _ _ s'
 refine note_x P P.ok.frames hst hf xin fun s2 I2 x2=>?_
 have hC2:s2.heap.get? C0=some oC:=(I2.pin (C0,oC) (mem_append_right _ (mem_append_right _ (mem_singleton.mpr rfl)))).1
 refine⟨m,⟨oC,es,ep,hC2,hdC,hsk,hnf⟩,fun h' sb cenv _=>?_⟩
 obtain⟨r2,T2,rT2,oe2,vs2,oT2,ts2,he2,hc2,hdd2,hd2,h12,hTe2,hT2,hdT2,h32⟩:=x2
 have ne1:a≠C0:=(nC a la).symm
 have ne2:T2≠C0:=fun z=>rT2.pin (C0,oC) (mem_append_right _ (mem_append_right _ (mem_singleton.mpr rfl))) z.symm
 have I3:Inv X pins σ H' {s2 with heap:=h'}:=I2.unpinned.turned (t':=s2.toks) (fun b o hb e=>(sb.2 b hb).trans e) g0 g1 g3 g4 g5
 have he3:h'.get? a=some oe2:=(sb.2 a ne1).trans he2
 have hT3:h'.get? T2=some oT2:=(sb.2 T2 ne2).trans hT2
 have lessP:∀{b:Addr},(∀p∈X.pn++(pins++ [(C0,oC)]),p.1≠b)->∀p∈X.pn++pins,p.1≠b:=fun {b} hh p hp=>hh p (by
  rcases mem_append.mp hp with z|z
  .exact mem_append_left _ z
  .exact mem_append_right _ (mem_append_left _ z))
 have xh:qe3 X pins H' h' a C d (rawInt X.env.locals):=⟨⟨r2.nw,r2.un,lessP r2.pin,⟨oe2,vs2,he3,hd2⟩⟩,T2,⟨rT2.nw,rT2.un,lessP rT2.pin,⟨oT2,ts2,hT3,hdT2⟩⟩,oe2,vs2,oT2,ts2,he3,hc2,hdd2,hd2,h12,hTe2,hT3,hdT2,h32⟩
 unfold PySem.passOn
 refine wpAny_bind (wpAny_field he3 hd2 h12 ?_)
 have fin:wpAny (model X.prog X.w) X.A (do setFlight (.ref a) cenv.frame;throw (.ref a):Sem Value) (fun _ _=>False) X.xe {s2 with heap:=h'}:=
  wpAny_bind (qft cenv.frame I3 xh fun s4 I4 x4=>wpAny_throw (hx pins σ H' s4 a C d I4 x4.xin w))
 first
  |(rw [if_neg (show ¬((Value.ref T2==Value.none)=true) from by simp)];exact fin)
  |(rw [if_neg (show ¬((Value.ref T2==Value.none)=true) from by simp)];exact wpAny_bind (wpAny_pure fin))
  |(refine wpAny_bind ?_;rw [if_neg (show ¬((Value.ref T2==Value.none)=true) from by simp)];exact wpAny_pure fin)
end
section
variable {X: Cx}
theorem pe_compX {E:XK} {elt iter:Expr} {x:Str} {px:Pos} {ifs:List Expr} {scope:Scope} {cl:List (Str × Addr)} {pos:Pos} {caps:List Nat} {cn:List Str} {wi:TI} {tt:CT TT} {te:CT TE} (hst:X.stack=X.env :: X.outer) (hf:X.env.frame=some X.env.locals) (hex:X.ex=[]) (hx:Xes X fun _=>E) (Cp:Caps X x scope cl caps cn) (hc:X.calm=true)
  (hi:PI X (.Name x px) iter wi) (ht:∀C s H fp,PIfs (cxC X (x :: cn) scope cl C s H fp) ifs (tt C s H fp)) (he:∀C s H fp,PE (xb (cxC X (x :: cn) scope cl C s H fp) E) elt (te C s H fp))
  (hs:∀x,foldedSetIterable iter X.env x=pure x:=by intro _;rfl):
  PE X (.ListComp elt [⟨.Name x px,iter,ifs,0⟩] scope pos) (tComp wi caps tt te):=by
 intro pins s σ H Q I h
 rw [eval_ListComp]
 refine wpAny_comprehension_free (use:=none) rfl hs Cp.clos Cp.kind Cp.names (thn (hi pins s σ H _ I h) fun v s1 h1=>thn h1 fun itv s2 h2=>?_)
 obtain⟨it,fp,tn,J,H2,e,I2,T,st2,f2,R⟩:=h2
 subst e
 have hacc:H2 s2.heap.objs.size=none:=I2.hok.fresh (Nat.le_refl _)
 refine wpAny_newObj_type ?_
 have I3:Inv X pins σ (upd H2 s2.heap.objs.size (.lst [])) {s2 with heap:=s2.heap.push {cls:=.type "list",dict:=none,data:=.seq ([]:List Value).toArray}}:=Inv.lnew (its:=[]) (t':=s2.toks) I2 .nil (Nat.zero_le _)
 have lt2:∀b∈fp,b < s2.heap.objs.size:=fun b hb=>let ⟨o,e,_⟩:=T.obj _ _ st2 b hb;Heap.lt_size e
 have f3:∀b∈fp,qfy X pins (upd H2 s2.heap.objs.size (.lst [])) b:=fun b hb=>⟨by rw [qa9 (Nat.ne_of_lt (lt2 b hb))];exact(f2 b hb).1,(f2 b hb).2⟩
 have st3:tn 0 (s2.heap.push {cls:=.type "list",dict:=none,data:=.seq ([]:List Value).toArray}):=T.keep _ _ _ st2 fun b _ o e=>Heap.get?_push_of_some _ e
 generalize hs3:({s2 with heap:=s2.heap.push {cls:=.type "list",dict:=none,data:=.seq ([]:List Value).toArray}}:Shared)=s3 at I3 ⊢
 have st3':tn 0 s3.heap:=by rw [<-hs3];exact st3
 generalize s2.heap.objs.size=acc at hacc I3 f3 ⊢
 obtain⟨W,⟨m0,w0⟩,turn⟩:=R s3.heap.objs.size s3 (upd H2 acc (.lst [])) fp acc hacc
 have lt3:∀b∈fp,b < s3.heap.objs.size:=fun b hb=>let ⟨o,e,_⟩:=T.obj _ _ st3' b hb;Heap.lt_size e
 clear st3 hs3
 refine wpAny_newFunctionEnv Cp.cell (by intro y hy;simp at hy) (fun h₁ hns hsb=>?_) Cp.kind
 have k1:∀b o,s3.heap.get? b=some o->h₁.get? b=some o:=fun b o e=>hsb.extBut b o (Nat.ne_of_lt (Heap.lt_size e)) (Heap.get?_push_of_some _ e)
 have I4:Inv (cxC X (x :: cn) scope cl s3.heap.objs.size s3 (upd H2 acc (.lst [])) fp) [] (none :: qaz caps σ) (upd H2 acc (.lst [])) {s3 with heap:=h₁,toks:=s3.toks+([]:List (Str × Value)).length}:=
  Inv.comp Cp I3 f3 lt3 hns k1
 have st4:tn 0 h₁:=T.keep _ _ _ st3' fun b _ o e=>k1 b o e
 have br:∀(e:Value) (s':Shared),XB (cxC X (x :: cn) scope cl s3.heap.objs.size s3 (upd H2 acc (.lst [])) fp) E e s'->notedBy (model X.prog X.w) X.A (compEnvC scope cl s3.heap.objs.size X.env) (fun e s'=>compPost (model X.prog X.w) X.A X.xe none (EP X pins σ Q) (.ref acc) s3.heap.objs.size (.error e) s') e s':=fun e s' h=>block_raise hst hf hex I3 f3 rfl hx h
 generalize hX:cxC X (x :: cn) scope cl s3.heap.objs.size s3 (upd H2 acc (.lst [])) fp=X' at I4 br
 have stat:∀{H':Hp},(∀b∈fp,H' b=none)->∀b∈fp,qfy X' [] H' b:=fun hn b hb=>by
  subst hX
  obtain⟨g0,g1,g2,g3,g4,g5⟩:=f3 b hb
  refine⟨hn b hb,Nat.ne_of_lt (lt3 b hb),fun z=>?_,.inl hb,fun y c e=>g4 y c (Cp.sub y c e),fun p hp=>absurd (show p∈([]:List (Addr × Obj)) from hp) (by simp)⟩
  rcases mem_cons.mp (I3.stkSub b z) with z|z
  .exact g1 z
  .exact g2 z
 have core:codeAny (model X.prog X.w) X.A (.compLoop (.ListComp elt [⟨.Name x px,iter,ifs,0⟩] scope pos) 0 (.ref it) (.ref acc) (compEnvC scope cl s3.heap.objs.size X.env))
   (compPost (model X.prog X.w) X.A X.xe none (EP X pins σ Q) (.ref acc) s3.heap.objs.size) {s3 with heap:=h₁,toks:=s3.toks+([]:List (Str × Value)).length}:=by
  refine codeAny_loop rfl (fun n s'=>∃i a H',Inv X' [] (a :: qaz caps σ) H' s'/\tn i s'.heap/\(∀b∈fp,H' b=none)/\W i n H') (fun n s5 hI=>?_) m0 ⟨0,none,_,I4,st4,fun b hb=>(f3 b hb).1,w0⟩
  obtain⟨i,a0,H5,I5,st5,fr5,w5⟩:=hI
  show wpAny _ _ ((compTurn _ 0 _ _ _).onRaise _) _ _ s5
  refine wpAny_noted ?_
  rw [compTurn_list]
  refine wpAny_bind (wpAny_standAt (wpAny_bind ?_))
  have aX:X'.A=X.A:=by subst hX;rfl
  have pX:X'.prog=X.prog:=by subst hX;rfl
  have wX:X'.w=X.w:=by subst hX;rfl
  have kX:X'.K=X.K:=by subst hX;rfl
  have cX:X'.calm=true:=by subst hX;exact hc
  have eX:X'.env=compEnvC scope cl s3.heap.objs.size X.env:=by subst hX;rfl
  rcases turn i n H5 w5 with ⟨stop,qn⟩ |⟨go,N,hN,step⟩
  .have z:=T.done X' pX wX kX cX i [] s5 _ H5 (fun _ _=>False) I5 (stat fr5) st5 stop
   rw [aX] at z
   refine wpAny_mono z (fun r s6 ⟨hr,I6⟩=>?_) fun _ _ q=>q.elim
   subst hr
   subst hX
   obtain⟨m,hm,_⟩:=id I6.loc
   exact wpAny_pure ⟨m,hm,fun h' sb=>⟨.ref acc,H5,Inv.uncomp I3 f3 rfl I6 sb,rfl,qn⟩⟩
  .have z:=T.item X' pX wX kX cX i [] s5 _ H5 (fun _ _=>False) I5 (stat fr5) st5 go
   rw [aX] at z
   refine wpAny_mono z (fun r s6 ⟨u,hr,h6⟩=>?_) fun _ _ q=>q.elim
   subst hr
   refine wpAny_bind (wpAny_mono h6 (fun _ s7 ⟨v,H7,I7,r7,y7,st7,fr7⟩=>?_) fun _ _ q=>q.elim)
   have I7':=I7.pinned (stat fr7) (T.obj _ _ st7)
   have asg:wpAny (model X.prog X.w) X.A (assign (.Name x px) (compEnvC scope cl s3.heap.objs.size X.env) u) (fun _ s8=>Inv X' ([]++qbv fp s7.heap) (some v :: qaz caps σ) H7 s8) (fun _ _=>False) s7:=by
    subst hX
    exact wpAny_assign_Name (qd9 (X:=cxC X (x :: cn) scope cl s3.heap.objs.size s3 (upd H2 acc (.lst [])) fp) (i:=0) I7' Cp.nd rfl (.inl (lookup_relabel_local Cp.tg)) r7 (fun s' I'=>I') (.inr (lookup_relabel_local Cp.tg)))
   refine wpAny_bind (wpAny_mono asg (fun _ s8 I8=>?_) fun _ _ q=>q.elim)
   have tst:wpAny (model X.prog X.w) X.A (forIn ifs true fun c r=>if r=true then do let ok<-isTrue c (compEnvC scope cl s3.heap.objs.size X.env) (eval c (compEnvC scope cl s3.heap.objs.size X.env));pure (ForInStep.yield ok) else pure (ForInStep.yield r))
     (TP X' ([]++qbv fp s7.heap) (some v :: qaz caps σ) (fun b H9=>if b=true then te s3.heap.objs.size s3 (upd H2 acc (.lst [])) fp (some v :: qaz caps σ) H9 (fun y H3=>rApp acc N y H3) else N H9)) (fun _ _=>False) s8:=by
    subst hX
    exact ht _ _ _ _ _ s8 _ H7 _ I8 (step v H7 y7)
   refine wpAny_bind (wpAny_mono tst (fun b s9 ⟨H9,I9,q9⟩=>?_) fun _ _ q=>q.elim)
   have fin:∀{a:Option V} {H10:Hp} {s10:Shared},Inv X' ([]++qbv fp s7.heap) (a :: qaz caps σ) H10 s10->N H10->∃m',m' < n/\∃i a H',Inv X' [] (a :: qaz caps σ) H' s10/\tn i s10.heap/\(∀b∈fp,H' b=none)/\W i m' H':=fun {a H10 s10} I10 n10=>
    let ⟨m',hm,w10⟩:=hN _ n10
    ⟨m',hm,i+1,a,H10,I10.unpinned,T.keep _ _ _ st7 fun b hb o e=>(I10.pin (b,o) (mem_append_right _ (mem_append_right _ (qbu hb e)))).1,fun b hb=>by
     obtain⟨o,e,d⟩:=T.obj _ _ st7 b hb
     exact(I10.pin (b,o) (mem_append_right _ (mem_append_right _ (qbu hb e)))).2.1,w10⟩
   cases b with
   |false=>exact wpAny_pure ⟨rfl,fin I9 q9⟩
   |true=>
    have elt':wpAny (model X.prog X.w) X.A (eval elt (compEnvC scope cl s3.heap.objs.size X.env)) (EP (xb X' E) ([]++qbv fp s7.heap) (some v :: qaz caps σ) (fun y H3=>rApp acc N y H3)) (XB X' E) s9:=by
     subst hX
     exact he _ _ _ _ _ s9 _ H9 _ (I9.wish _) q9
    refine wpAny_bind (wpAny_bind (wpAny_mono elt' (fun y s10 ⟨w,H10,I10w,r10,ys,ha,hz,q10⟩=>?_) fun e' s' q=>br e' s' q))
    have I10:=I10w.unwish
    have app:wpAny (model X.prog X.w) X.A (call (.builtin "list.append") [.ref acc,y]) (EP X' ([]++qbv fp s7.heap) (some v :: qaz caps σ) fun _ H11=>H11=upd H10 acc (.lst (ys++ [w]))) (fun _ _=>False) s10:=by
     subst hX
     exact qay (X:=cxC X (x :: cn) scope cl s3.heap.objs.size s3 (upd H2 acc (.lst [])) fp) _ s10 _ H10 (.ref acc) [w] (.ref acc) [y] _ I10 rfl (.cons r10 .nil) ⟨acc,ys,w,rfl,rfl,ha,hz,rfl⟩
    refine wpAny_bind (wpAny_mono app (fun _ s11 ⟨_,H11,I11,_,e11⟩=>?_) fun _ _ q=>q.elim)
    subst e11
    exact wpAny_pure (wpAny_pure ⟨rfl,fin I11 q10⟩)
 exact codeAny_compStart_list core (T.self _ 0 _ _ _ st4 core)
end
end My
namespace My
open PySem PySem.Spec PyProof.Rows L2 PyProof PySem.Builtin.Str
end My
namespace My
open PySem PySem.Spec PyProof.Rows L2 PyProof PySem.Builtin.Str PySem.StrLaws
def hits (l:List Nat) (c:Nat) (is:List Nat):List Nat:=is.filter fun i=>decide (l[i]?=some c)
end My
namespace My
open PySem PySem.Spec PyProof.Rows L2 PyProof PySem.Builtin.Str PySem.NumText
end My
namespace My
open PySem PySem.Spec PyProof.Rows L2 PyProof PySem.Builtin.Str
end My
namespace My
open PySem PySem.Spec PyProof.Rows L2 PySem.Builtin
end My
namespace My
open PySem PySem.Spec PyProof.Rows L2
end My
namespace My
open PySem PySem.Spec PyProof.Rows L2 PyProof PySem.SeqAt
def isTx (z:Str):Value->Bool
 | .str a _=>a==z
 |_=>false
theorem isTx_at (z:Str):∀{us:List Value} {ss:List Str},StrsAre us ss->∀(j:Nat) (h1:j < us.length) (h2:j < ss.length),isTx z us[j]=(ss[j]==z)
 |_,_,.nil,j,h1,_=>absurd h1 (Nat.not_lt_zero j)
 |_,_,.cons x t h,0,_,_=>rfl
 |_,_,.cons x t h,j+1,h1,h2=>isTx_at z h j (Nat.lt_of_succ_lt_succ h1) (Nat.lt_of_succ_lt_succ h2)
theorem isTx_eq {A:Around} {s:Shared} (z:Str) (t:Tok):∀{us:List Value} {ss:List Str},StrsAre us ss->∀y∈us,EqAt A s y (.str z t) (isTx z y)
 |_,_,.nil,y,h=>by simp at h
 |_,_,.cons x u r,y,h=>by
  rcases mem_cons.mp h with rfl|h
  .exact EqAt.str_str x u z t
  .exact isTx_eq z t r y h
theorem idx_ne {z:Str}:∀{ss:List Str} {j:Nat} (h:j < ss.length),j < ss.idxOf z->ss[j]≠z
 | [],j,h,_=>absurd h (Nat.not_lt_zero j)
 |x :: ss,0,_,hj=>fun e=>by
  have e:x=z:=e
  rw [List.idxOf_cons,e] at hj
  simp at hj
 |x :: ss,j+1,h,hj=>by
  rw [List.idxOf_cons] at hj
  cases c:(x==z) with
  |true=>rw [c] at hj;simp at hj
  |false=>
   rw [c] at hj
   exact idx_ne (Nat.lt_of_succ_lt_succ h) (by simpa using hj)
section
variable {X: Cx}
def rIdxS (K:Frag):V->List V->Hp->VK->Prop:=fun x xs H Q=>∃(l:Addr) (ss:List Str) (z:Str),x=.ref l/\xs=[.str z]/\SqL K H l (ss.map V.str)/\z∈ss/\Q (.int ((ss.idxOf z:Nat):Int)) H
theorem qeo:MtR X "list.index" (rIdxS X.K):=by
 intro pins s σ H x xs v us Q I rx rv h
 obtain⟨l,ss,z,rfl,rfl,hS,hz,q⟩:=h
 cases rx
 obtain⟨u,rfl,ru⟩:=rv.one
 obtain⟨t,rfl⟩:=ru
 obtain⟨its,r1,pl,hz'⟩:=I.list hS
 have sa:=qfg r1
 have hlen:=r1.length
 rw [length_map] at hlen
 obtain⟨⟨cls,dd,data,sl⟩,ho,hc,n,hd⟩:=id pl.isList
 simp only at hc hd
 subst hc hd
 have hj:ss.idxOf z < ss.length:=List.idxOf_lt_length_iff.mpr hz
 have hz2:ss.length<=16777216:=by rw [length_map] at hz';exact hz'
 refine call_meets PySem.F.slot_list_index ⟨_,ho,rfl⟩ PySem.F.entry_list_index (PySem.F.args_list_index_2 _ _)
  (list_indexAt l its.toArray n dd sl (.str z t) (isTx z) (ss.idxOf z) (by simp;omega) (by omega) ?_ ?_) ⟨ho,fun y hy=>isTx_eq z t sa y (by simpa using hy),.int ((ss.idxOf z:Nat):Int),H,I.tok _,⟨_,rfl⟩,q⟩
 .show isTx z its[ss.idxOf z]=true
  rw [isTx_at z sa _ (by omega) hj]
  simpa using List.getElem_idxOf hj
 .intro j hjs hlt
  show isTx z its[j]=false
  rw [isTx_at z sa j (by simpa using hjs) (by omega)]
  exact beq_false_of_ne (idx_ne _ hlt)
end
section
variable {K: Frag} {H: Hp} {Q: VK}
theorem r_idxS {l:Addr} {ss:List Str} {j:Nat} (h:SqL K H l (ss.map V.str)) (nd:ss.Nodup) (hj:j < ss.length) (q:Q (.int (j:Int)) H):rIdxS K (.ref l) [.str ss[j]] H Q:=⟨l,ss,ss[j],rfl,rfl,h,getElem_mem hj,by
 have e:ss.idxOf ss[j]=j:=List.Nodup.idxOf_getElem nd j hj
 rw [e];exact q⟩
end
end My
namespace My
open PySem PySem.Spec PyProof.Rows L2
section
variable {K: Frag} {H: Hp} {Q: VK}
theorem r_menuV {p:Addr} {xs:List V} {r:Int} (hS:SqL K H p xs) (h0:0<=r) (h1:r < xs.length) (h:∀m,m∈xs->Q m H):rIxL K (.ref p) (.int r) H Q:=by
 obtain⟨j,rfl⟩:=Int.eq_ofNat_of_zero_le h0
 have hj:j < xs.length:=by omega
 exact qbf hS (qas (getElem?_eq_getElem hj)) (h _ (getElem_mem hj))
end
end My
namespace My
open PySem PySem.Spec PyProof.Rows L2
end My
namespace My
open PySem PySem.Spec PyProof.Rows L2 PyProof PySem.SeqAt
end My
namespace My
open PySem PySem.Spec PyProof.Rows L2
end My
namespace My
open PySem PySem.Spec PyProof.Rows L2
end My
namespace My
open PySem PySem.Spec PyProof.Rows L2
end My
namespace My
open PySem PySem.Spec PyProof.Rows L2
end My
namespace My
open PySem PySem.Spec PyProof.Rows L2
end My
namespace My
open PySem PySem.Spec PyProof.Rows L2
inductive PEq (K:Frag) (H:Hp):Nat->V->V->Bool->Prop
 |same {n:Nat} {a:Addr}:PEq K H n (.ref a) (.ref a) true
 |flat {n:Nat} {x y:V} (hx:qd0 x=true) (hy:qd0 y=true):PEq K H n x y (eqV x y)
 |ls {n:Nat} {a b:Addr} {xs ys:List V} {e:Nat->Bool} (ha:SqL K H a xs) (hb:SqL K H b ys) (ne:a≠b) (hl:xs.length=ys.length)
   (he:∀j (h1:j < xs.length) (h2:j < ys.length),PEq K H n xs[j] ys[j] (e j)):PEq K H (n+1) (.ref a) (.ref b) ((List.range xs.length).all e)
 |lsN {n:Nat} {a b:Addr} {xs ys:List V} (ha:SqL K H a xs) (hb:SqL K H b ys) (ne:a≠b) (hl:xs.length≠ys.length):PEq K H (n+1) (.ref a) (.ref b) false
 |ts {n:Nat} {a b:Addr} {xs ys:List V} {e:Nat->Bool} (ha:SqT K H a xs) (hb:SqT K H b ys) (ne:a≠b)
   (he:∀j (h1:j < xs.length) (h2:j < ys.length),PEq K H n xs[j] ys[j] (e j)):PEq K H (n+1) (.ref a) (.ref b) ((List.range (min xs.length ys.length)).all e && xs.length==ys.length)
end My
namespace My
open PySem PySem.Spec PyProof.Rows L2
section
variable {X: Cx} {E: XK} {k: Nat} {f C: Addr} {fd: FuncData} {ps: List Str} {ds: List Value} {dvs: List V} {sp: Sp} {m: Str} {apos pos: Pos} {o e: Expr} {es: List Expr} {ta: TE} {t: TA}
theorem pe_methB2 {pl:Sem Bool} (he:PE (xb X E) o ta) (c:Cls X.K C) (hm:Meth X.K C m f) (F:FnOk X.prog X.w X.K X.mg X.base (CX1 X.prog X.w) k f fd ps sp) (hr:Room k X.A) (hb:qan X.K fd ps ds) (hd:qbb dvs ds) (ha:PA (xb X E) (e :: es) t)
  (hst:starEach (e :: es) X.env=(false,eval e X.env) :: starEach es X.env:=by rfl) (hpl:(backTo pos (starEach es X.env)).any (·.1)=false:=by rfl)
  (ht:eval (.Call (.Attribute o m apos) (e :: es) [] pos) X.env=(do
   let ov<-eval o X.env
   standAt apos.atName
   let (f,first)<-holding [ov] (getMethod ov m pl)
   callWith pos f first (backTo pos (starEach (e :: es) X.env)) (backToKw pos (keywordEach [] X.env))):=by rfl):
  PE (xb X E) (.Call (.Attribute o m apos) (e :: es) [] pos) (tMethX C m sp dvs (fun _=>E) ta t):=by
 intro pins s σ H Q I h
 refine PySem.W.methodCall_KW (pl:=pl) (thn (he pins s σ H _ I h) fun u s1 ⟨x,H1,I1,rx,a,dx,fs,ex,ea,l,q⟩=>?_) ht
 subst ex
 obtain rfl:u=Value.ref a:=rx
 refine qcq I1 ea c hm l (PySem.W.callWith_K (first:=[.ref a]) (h₀:=X.base) I.ok.mod.kin hm.kp (thn (ha pos pins s1 σ H1 _ I1 q) fun us s2 ⟨vs,H2,I2,r,q2⟩=>⟨I2.kIn,?_⟩) hst hpl)
 exact run_fnB (us:=.ref a :: us) (vs:=.ref a :: vs) F hr hb hd I2 (.cons rfl r) q2
end
end My
namespace My
open PySem PySem.Spec PyProof.Rows L2 PyProof PySem.SeqAt
def isNu (z:Int):Value->Bool
 | .int a _=>a==z
 |_=>false
theorem isNu_at (z:Int):∀{us:List Value} {ns:List Int},qbb (ns.map V.int) us->∀(j:Nat) (h1:j < us.length) (h2:j < ns.length),isNu z us[j]=(ns[j]==z):=by
 intro us ns r j h1 h2
 have rj:=qdv r (by rw [length_map];exact h2) h1
 rw [getElem_map] at rj
 obtain⟨t,e⟩:=rj
 rw [e];rfl
theorem isNu_eq {A:Around} {s:Shared} (z:Int) (t:Tok) {us:List Value} {ns:List Int} (r:qbb (ns.map V.int) us):∀y∈us,EqAt A s y (.int z t) (isNu z y):=fun y hy=>by
 obtain⟨j,hj,rfl⟩:=mem_iff_getElem.mp hy
 have hl:=r.length
 rw [length_map] at hl
 have rj:=qdv r (by rw [length_map];omega) hj
 rw [getElem_map] at rj
 obtain⟨t',e⟩:=rj
 rw [e]
 exact EqAt.int_int _ _ _ _
theorem idxI_ne {z:Int}:∀{ss:List Int} {j:Nat} (h:j < ss.length),j < ss.idxOf z->ss[j]≠z
 | [],j,h,_=>absurd h (Nat.not_lt_zero j)
 |x :: ss,0,_,hj=>fun e=>by
  have e:x=z:=e
  rw [List.idxOf_cons,e] at hj
  simp at hj
 |x :: ss,j+1,h,hj=>by
  rw [List.idxOf_cons] at hj
  cases c:(x==z) with
  |true=>rw [c] at hj;simp at hj
  |false=>
   rw [c] at hj
   exact idxI_ne (Nat.lt_of_succ_lt_succ h) (by simpa using hj)
section
variable {X: Cx}
def rIdxI (K:Frag):V->List V->Hp->VK->Prop:=fun x xs H Q=>∃(l:Addr) (ns:List Int) (z:Int),x=.ref l/\xs=[.int z]/\SqL K H l (ns.map V.int)/\z∈ns/\Q (.int ((ns.idxOf z:Nat):Int)) H
theorem mt_idxI:MtR X "list.index" (rIdxI X.K):=by
 intro pins s σ H x xs v us Q I rx rv h
 obtain⟨l,ns,z,rfl,rfl,hS,hz,q⟩:=h
 cases rx
 obtain⟨u,rfl,ru⟩:=rv.one
 obtain⟨t,rfl⟩:=ru
 obtain⟨its,r1,pl,hz'⟩:=I.list hS
 have hlen:=r1.length
 rw [length_map] at hlen
 obtain⟨⟨cls,dd,data,sl⟩,ho,hc,n,hd⟩:=id pl.isList
 simp only at hc hd
 subst hc hd
 have hj:ns.idxOf z < ns.length:=List.idxOf_lt_length_iff.mpr hz
 have hz2:ns.length<=16777216:=by rw [length_map] at hz';exact hz'
 refine call_meets PySem.F.slot_list_index ⟨_,ho,rfl⟩ PySem.F.entry_list_index (PySem.F.args_list_index_2 _ _)
  (list_indexAt l its.toArray n dd sl (.int z t) (isNu z) (ns.idxOf z) (by simp;omega) (by omega) ?_ ?_) ⟨ho,fun y hy=>isNu_eq z t r1 y (by simpa using hy),.int ((ns.idxOf z:Nat):Int),H,I.tok _,⟨_,rfl⟩,q⟩
 .show isNu z its[ns.idxOf z]=true
  rw [isNu_at z r1 _ (by omega) hj]
  simpa using List.getElem_idxOf hj
 .intro j hjs hlt
  show isNu z its[j]=false
  rw [isNu_at z r1 j (by simpa using hjs) (by omega)]
  exact beq_false_of_ne (idxI_ne _ hlt)
end
end My
set_option exponentiation.threshold 1000
namespace Our
open PySem L2 My
def top (i:Nat):PySem.Stmt:=PySem.Challenge.pw_quotatree_k17_moves_refused.main.body.getD i (.Pass ⟨0,0,0,0⟩)
def qcw:PySem.Stmt->Nat->PySem.Stmt
 | .ClassDef _ _ _ body _ _ _ _ _ _ _,j=>body.getD j (.Pass ⟨0,0,0,0⟩)
 |s,_=>s
abbrev s_is_whole:PySem.Stmt:=top 16
abbrev s_is_name:PySem.Stmt:=top 17
abbrev s_is_whole_from:PySem.Stmt:=top 18
abbrev s_is_amount:PySem.Stmt:=top 20
abbrev s_amounts_of:PySem.Stmt:=top 21
abbrev s_above_nought:PySem.Stmt:=top 22
abbrev s_amount_of:PySem.Stmt:=top 23
abbrev s_added:PySem.Stmt:=top 24
abbrev s_beyond:PySem.Stmt:=top 25
abbrev s_total_of:PySem.Stmt:=top 26
abbrev s_are_wares:PySem.Stmt:=top 33
abbrev s_check_name:PySem.Stmt:=top 34
abbrev s_read_house:PySem.Stmt:=top 35
abbrev s_check_promises:PySem.Stmt:=top 36
abbrev s_cell_at:PySem.Stmt:=top 39
abbrev s_mixed:PySem.Stmt:=top 40
abbrev s_name:PySem.Stmt:=top 41
abbrev s_elders:PySem.Stmt:=top 45
abbrev s_promises:PySem.Stmt:=top 46
abbrev s_sums:PySem.Stmt:=top 47
abbrev s_caps:PySem.Stmt:=top 48
abbrev s_plan:PySem.Stmt:=top 49
abbrev s_tree:PySem.Stmt:=top 50
abbrev s_line:PySem.Stmt:=top 51
abbrev s_told:PySem.Stmt:=top 52
abbrev s_place:PySem.Stmt:=top 53
abbrev s_thing:PySem.Stmt:=top 54
abbrev s_tall:PySem.Stmt:=top 55
abbrev s_due:PySem.Stmt:=top 56
abbrev s_checked:PySem.Stmt:=top 57
abbrev s_done:PySem.Stmt:=top 58
abbrev s_stands:PySem.Stmt:=top 59
abbrev s_deep:PySem.Stmt:=top 60
abbrev s_tried:PySem.Stmt:=top 61
abbrev s_law:PySem.Stmt:=top 62
abbrev s_House_init:PySem.Stmt:=qcw (top 32) 0
abbrev s_Tree_init:PySem.Stmt:=qcw (top 37) 0
abbrev s_Tree_found:PySem.Stmt:=qcw (top 37) 1
abbrev s_Tree_wares:PySem.Stmt:=qcw (top 37) 2
abbrev s_Tree_names:PySem.Stmt:=qcw (top 37) 3
abbrev s_Tree_has:PySem.Stmt:=qcw (top 37) 4
abbrev s_Tree_check_house:PySem.Stmt:=qcw (top 37) 5
abbrev s_Tree_house_of:PySem.Stmt:=qcw (top 37) 6
abbrev s_Tree_elder_of:PySem.Stmt:=qcw (top 37) 7
abbrev s_Tree_cap_of:PySem.Stmt:=qcw (top 37) 9
abbrev s_Tree_kids:PySem.Stmt:=qcw (top 37) 11
abbrev s_Tree_line:PySem.Stmt:=qcw (top 37) 12
abbrev s_Tree_beneath:PySem.Stmt:=qcw (top 37) 13
abbrev s_Tree_promised_beneath:PySem.Stmt:=qcw (top 37) 14
abbrev s_Tree_floors:PySem.Stmt:=qcw (top 37) 15
abbrev s_Tree_check_more:PySem.Stmt:=qcw (top 37) 16
abbrev s_Tree_check_move:PySem.Stmt:=qcw (top 37) 17
abbrev s_Tree_move:PySem.Stmt:=qcw (top 37) 18
abbrev s_i_NoPromise:PySem.Stmt:=qcw (top 12) 0
set_option genSizeOf false in
set_option genInjectivity false in
structure Ad where
 w6n:Addr
 w5o:FuncData
 w7p:Addr
 w6i:FuncData
 w32:Addr
 w2e:FuncData
 w5v:Addr
 w4g:FuncData
 w4k:Addr
 w42:FuncData
 w3a:Addr
 w2y:FuncData
 w5s:Addr
 w52:FuncData
 waj:Addr
 w8n:FuncData
 w8s:Addr
 w7i:FuncData
 w6j:Addr
 w5m:FuncData
 w5j:Addr
 w5a:FuncData
 w50:Addr
 w41:FuncData
 w4d:Addr
 w4a:FuncData
 w2f:Addr
 w24:FuncData
 w7e:Addr
 w6l:FuncData
 wbe:Addr
 w8j:FuncData
 wcz:Addr
 wb2:FuncData
 w8v:Addr
 w7n:FuncData
 w6o:Addr
 w5u:FuncData
 wd0:Addr
 wag:FuncData
 wcd:Addr
 war:FuncData
 wdc:Addr
 wau:FuncData
 wd5:Addr
 wbc:FuncData
 wcn:Addr
 wbf:FuncData
 wd2:Addr
 was:FuncData
 wai:Addr
 w8l:FuncData
 waz:Addr
 w92:FuncData
 wck:Addr
 wan:FuncData
 we8:Addr
 wcx:FuncData
 w7q:Addr
 w6r:FuncData
 wde:Addr
 wae:FuncData
 w90:Addr
 w7g:FuncData
 wco:Addr
 wb6:FuncData
 wb3:Addr
 w96:FuncData
 wbb:Addr
 wa1:FuncData
 w4f:Addr
 w43:FuncData
 w5r:Addr
 w34:FuncData
 wax:Addr
 w0t:Value
 w4z:Addr
 w2l:FuncData
 w9c:Addr
 w0o:Value
 w6z:Addr
 w5y:FuncData
 w4p:Addr
 w48:FuncData
 w6g:Addr
 w5l:FuncData
 w1q:Addr
 w1g:FuncData
 w2w:Addr
 w2h:FuncData
 w2t:Addr
 w2g:FuncData
 w63:Addr
 w5g:FuncData
 w5k:Addr
 w4m:FuncData
 w5n:Addr
 w57:FuncData
 w0z:Addr
 w0r:FuncData
 w0w:Addr
 w0p:FuncData
 w49:Addr
 w38:FuncData
 w1y:Addr
 w1x:FuncData
 w21:Addr
 w1w:FuncData
 w5q:Addr
 w55:FuncData
 w45:Addr
 w39:FuncData
 w08:Addr
 w03:Addr
 w0a:Addr
 w0u:Addr
 w1i:Addr
 w01:Addr
 w05:Addr
 w00:Addr
 w0v:Addr
 w0f:Addr
 w0g:Addr
 w0n:Addr
 w02:Addr
 w3f:Value
 w12:Value
 w1l:Value
 w18:Value
 w13:Value
 w0l:Value
structure Tx (K:Frag) (mg:Str->Option Value) (d:Ad):Prop where
 w87:Fun K "is_whole" "is_whole" s_is_whole d.w6n d.w5o
 wby:mg "is_whole" =some (.ref d.w6n)
 wc0:qan K d.w5o ["thing"] []
 w7c:Fun K "is_name" "is_name" s_is_name d.w7p d.w6i
 w9p:mg "is_name" =some (.ref d.w7p)
 wa4:qan K d.w6i ["thing"] []
 w2m:Fun K "is_whole_from" "is_whole_from" s_is_whole_from d.w32 d.w2e
 w4x:mg "is_whole_from" =some (.ref d.w32)
 w56:qan K d.w2e ["thing","least","most"] []
 w7k:Fun K "is_amount" "is_amount" s_is_amount d.w5v d.w4g
 waf:mg "is_amount" =some (.ref d.w5v)
 wao:qan K d.w4g ["thing"] []
 w4w:Fun K "amounts_of" "amounts_of" s_amounts_of d.w4k d.w42
 w6x:mg "amounts_of" =some (.ref d.w4k)
 w6w:qan K d.w42 ["handed","wares"] []
 w5i:Fun K "above_nought" "above_nought" s_above_nought d.w3a d.w2y
 w82:mg "above_nought" =some (.ref d.w3a)
 w7x:qan K d.w2y ["amounts"] []
 w5w:Fun K "amount_of" "amount_of" s_amount_of d.w5s d.w52
 w7r:mg "amount_of" =some (.ref d.w5s)
 w7v:qan K d.w52 ["amounts","ware"] []
 wb1:Fun K "added" "added" s_added d.waj d.w8n
 wcu:mg "added" =some (.ref d.waj)
 wci:qan K d.w8n ["one","other"] []
 wbu:Fun K "beyond" "beyond" s_beyond d.w8s d.w7i
 wdn:mg "beyond" =some (.ref d.w8s)
 wdr:qan K d.w7i ["one","other"] []
 w8a:Fun K "total_of" "total_of" s_total_of d.w6j d.w5m
 wc1:mg "total_of" =some (.ref d.w6j)
 wc8:qan K d.w5m ["many"] []
 w7u:Fun K "are_wares" "are_wares" s_are_wares d.w5j d.w5a
 wap:mg "are_wares" =some (.ref d.w5j)
 wb0:qan K d.w5a ["thing"] []
 w51:Fun K "check_name" "check_name" s_check_name d.w50 d.w41
 w6u:mg "check_name" =some (.ref d.w50)
 w72:qan K d.w41 ["thing"] []
 w4v:Fun K "read_house" "read_house" s_read_house d.w4d d.w4a
 w70:mg "read_house" =some (.ref d.w4d)
 w6v:qan K d.w4a ["wares","elder","promise","cap","weight"] []
 w1f:Fun K "check_promises" "check_promises" s_check_promises d.w2f d.w24
 w2d:mg "check_promises" =some (.ref d.w2f)
 w2i:qan K d.w24 ["name","promises","cap"] []
 w1c:Fun K "_law_cell_at" "_law_cell_at" s_cell_at d.w7e d.w6l
 w1s:mg "_law_cell_at" =some (.ref d.w7e)
 w1p:qan K d.w6l ["_law_script","_law_k"] []
 wb8:Fun K "_law_mixed" "_law_mixed" s_mixed d.wbe d.w8j
 wcs:mg "_law_mixed" =some (.ref d.wbe)
 wda:qan K d.w8j ["_law_cell","_law_k"] []
 w9d:Fun K "_law_name" "_law_name" s_name d.wcz d.wb2
 wbv:mg "_law_name" =some (.ref d.wcz)
 wbl:qan K d.wb2 ["_law_cell","_law_k"] []
 wbo:Fun K "_law_elders" "_law_elders" s_elders d.w8v d.w7n
 wdg:mg "_law_elders" =some (.ref d.w8v)
 wdo:qan K d.w7n ["_law_cells","_law_shape"] []
 w89:Fun K "_law_promises" "_law_promises" s_promises d.w6o d.w5u
 wc2:mg "_law_promises" =some (.ref d.w6o)
 wca:qan K d.w5u ["_law_cells","_law_wares","_law_scale"] []
 wbg:Fun K "_law_sums" "_law_sums" s_sums d.wd0 d.wag
 wcf:mg "_law_sums" =some (.ref d.wd0)
 wcm:qan K d.wag ["_law_elders_here","_law_promises_here"] []
 we3:Fun K "_law_caps" "_law_caps" s_caps d.wcd d.war
 wex:mg "_law_caps" =some (.ref d.wcd)
 wf5:qan K d.war ["_law_cells","_law_sums_here","_law_wares","_law_scale"] []
 wdy:Fun K "_law_plan" "_law_plan" s_plan d.wdc d.wau
 wey:mg "_law_plan" =some (.ref d.wdc)
 wf3:qan K d.wau ["_law_script","_law_start","_law_count"] []
 wdz:Fun K "_law_tree" "_law_tree" s_tree d.wd5 d.wbc
 wf1:mg "_law_tree" =some (.ref d.wd5)
 wf6:qan K d.wbc ["_law_plan_here"] []
 w7h:Fun K "_law_line" "_law_line" s_line d.wcn d.wbf
 w8e:mg "_law_line" =some (.ref d.wcn)
 w8b:qan K d.wbf ["_law_elders_here","_law_k"] []
 wbw:Fun K "_law_told" "_law_told" s_told d.wd2 d.was
 wcj:mg "_law_told" =some (.ref d.wd2)
 wdb:qan K d.was ["_law_e"] []
 wd4:Fun K "_law_place" "_law_place" s_place d.wai d.w8l
 wea:mg "_law_place" =some (.ref d.wai)
 weh:qan K d.w8l ["_law_plan_here","_law_line_here","_law_more"] []
 wb4:Fun K "_law_thing" "_law_thing" s_thing d.waz d.w92
 wdd:mg "_law_thing" =some (.ref d.waz)
 wcr:qan K d.w92 ["_law_cell","_law_plan_here","_law_script"] []
 wdu:Fun K "_law_tall" "_law_tall" s_tall d.wck d.wan
 wev:mg "_law_tall" =some (.ref d.wck)
 wf0:qan K d.wan ["_law_elders_here","_law_k"] []
 wel:Fun K "_law_due" "_law_due" s_due d.we8 d.wcx
 wf4:mg "_law_due" =some (.ref d.we8)
 wew:qan K d.wcx ["_law_plan_here","_law_name_here","_law_elder"] []
 w9h:Fun K "_law_checked" "_law_checked" s_checked d.w7q d.w6r
 wd3:mg "_law_checked" =some (.ref d.w7q)
 wch:qan K d.w6r ["_law_tree_here","_law_name_here","_law_elder"] []
 wdx:Fun K "_law_done" "_law_done" s_done d.wde d.wae
 wf8:mg "_law_done" =some (.ref d.wde)
 wfe:qan K d.wae ["_law_tree_here","_law_name_here","_law_elder"] []
 w8g:Fun K "_law_stands" "_law_stands" s_stands d.w90 d.w7g
 wbt:mg "_law_stands" =some (.ref d.w90)
 wbq:qan K d.w7g ["_law_tree_here","_law_plan_here"] []
 wdw:Fun K "_law_deep" "_law_deep" s_deep d.wco d.wb6
 wf9:mg "_law_deep" =some (.ref d.wco)
 wfb:qan K d.wb6 ["_law_tree_here","_law_plan_here","_law_fresh"] []
 wbd:Fun K "_law_tried" "_law_tried" s_tried d.wb3 d.w96
 wd6:mg "_law_tried" =some (.ref d.wb3)
 wct:qan K d.w96 ["_law_tree_here","_law_plan_here","_law_name_here","_law_elder"] []
 wfg:Fun K "law" "law" s_law d.wbb d.wa1
 wfh:mg "law" =some (.ref d.wbb)
 wa2:Fun K "__init__" "House.__init__" s_House_init d.w4f d.w43
 wa9:qan K d.w43 ["self","elder","promise","cap","weight"] []
 wad:My.FunD K "__init__" "Tree.__init__" s_Tree_init d.w5r d.w34 d.wax #[d.w0t]
 we6:qan K d.w34 ["self","wares","name","promise","cap","weight"] []
 w9a:qan K d.w34 ["self","wares","name","promise","cap","weight"] [d.w0t]
 w9w:qbb [.int 1] [d.w0t]
 wa8:My.FunD K "found" "Tree.found" s_Tree_found d.w4z d.w2l d.w9c #[d.w0o]
 we2:qan K d.w2l ["self","name","elder","promise","cap","weight"] []
 w6c:qan K d.w2l ["self","name","elder","promise","cap","weight"] [d.w0o]
 w64:qbb [.int 1] [d.w0o]
 wdt:Fun K "wares" "Tree.wares" s_Tree_wares d.w6z d.w5y
 wdv:qan K d.w5y ["self"] []
 wa0:Fun K "names" "Tree.names" s_Tree_names d.w4p d.w48
 w9f:qan K d.w48 ["self"] []
 wbz:Fun K "has" "Tree.has" s_Tree_has d.w6g d.w5l
 w88:qan K d.w5l ["self","thing"] []
 w67:Fun K "check_house" "Tree.check_house" s_Tree_check_house d.w1q d.w1g
 w1u:qan K d.w1g ["self","thing"] []
 w7l:Fun K "house_of" "Tree.house_of" s_Tree_house_of d.w2w d.w2h
 w7m:qan K d.w2h ["self","name"] []
 w7t:Fun K "elder_of" "Tree.elder_of" s_Tree_elder_of d.w2t d.w2g
 w15:qan K d.w2g ["self","name"] []
 wds:Fun K "cap_of" "Tree.cap_of" s_Tree_cap_of d.w63 d.w5g
 wdk:qan K d.w5g ["self","name"] []
 waq:Fun K "kids" "Tree.kids" s_Tree_kids d.w5k d.w4m
 wb5:qan K d.w4m ["self","name"] []
 waa:Fun K "line" "Tree.line" s_Tree_line d.w5n d.w57
 w23:qan K d.w57 ["self","name"] []
 w85:Fun K "beneath" "Tree.beneath" s_Tree_beneath d.w0z d.w0r
 w3b:qan K d.w0r ["self","name"] []
 w40:Fun K "promised_beneath" "Tree.promised_beneath" s_Tree_promised_beneath d.w0w d.w0p
 w1r:qan K d.w0p ["self","name"] []
 w8u:Fun K "floors" "Tree.floors" s_Tree_floors d.w49 d.w38
 w8t:qan K d.w38 ["self","name"] []
 w6k:Fun K "check_more" "Tree.check_more" s_Tree_check_more d.w1y d.w1x
 w3n:qan K d.w1x ["self","names","more"] []
 w6p:Fun K "check_move" "Tree.check_move" s_Tree_check_move d.w21 d.w1w
 w3i:qan K d.w1w ["self","name","elder"] []
 wb9:Fun K "move" "Tree.move" s_Tree_move d.w5q d.w55
 wac:qan K d.w55 ["self","name","elder"] []
 w8w:Fun K "__init__" "NoPromise.__init__" s_i_NoPromise d.w45 d.w39
 w71:My.XClI K d.w00 d.w45
 w98:qan K d.w39 ["self","house","ware"] []
 we7:mg "House" =some (.ref d.w08)
 wf2:mg "Tree" =some (.ref d.w03)
 w3x:mg "TreeError" =some (.ref d.w0a)
 wbh:mg "NoName" =some (.ref d.w0u)
 wd1:mg "Taken" =some (.ref d.w1i)
 wa7:mg "NoHouse" =some (.ref d.w01)
 wbk:mg "NoMove" =some (.ref d.w05)
 w7o:mg "NoPromise" =some (.ref d.w00)
 w94:mg "NoWare" =some (.ref d.w0v)
 w6h:mg "NoAmount" =some (.ref d.w0f)
 w86:mg "NoNumber" =some (.ref d.w0g)
 w9i:mg "TooMany" =some (.ref d.w0n)
 w7w:mg "TooDeep" =some (.ref d.w02)
 wd9:mg "LETTERS" =some d.w3f
 w4l:qb6 (.str "abcdefghijklmnopqrstuvwxyz") d.w3f
 w84:mg "LONGEST_NAME" =some d.w12
 w1d:qb6 (.int 8) d.w12
 w9s:mg "MOST_WARES" =some d.w1l
 w26:qb6 (.int 6) d.w1l
 w8y:mg "MOST_HOUSES" =some d.w18
 w1o:qb6 (.int 40) d.w18
 w5f:mg "LONGEST_LINE" =some d.w13
 w11:qb6 (.int 12) d.w13
 w6f:mg "GREATEST_WEIGHT" =some d.w0l
 w0q:qb6 (.int 1000) d.w0l
 w9m:mg "ValueError" =none
 wfc:mg "all" =none
 wez:mg "bool" =none
 w8f:mg "dict" =none
 wf7:mg "int" =none
 w06:mg "isinstance" =none
 w1v:mg "len" =none
 we0:mg "list" =none
 wc7:mg "max" =none
 wfd:mg "min" =none
 w1a:mg "range" =none
 wff:mg "set" =none
 w5c:mg "sorted" =none
 wcv:mg "str" =none
 w1e:Cls K d.w08
 w04:Cls K d.w03
 w62:Mk K d.w08 d.w4f
 w7b:Mk K d.w03 d.w5r
 w14:My.XAt K d.w00
 kcP:kitCls K (.ref d.w00) (.ref d.w0a)=some true
 kvP:kitOne K (.ref d.w00) (.type "ValueError")=some true
 w4e:kitOne K (.ref d.w00) (.ref d.w0u)=some false
 w6a:kitOne K (.ref d.w00) (.ref d.w1i)=some false
 w3s:kitOne K (.ref d.w00) (.ref d.w01)=some false
 w4y:kitOne K (.ref d.w00) (.ref d.w0v)=some false
 w2z:kitOne K (.ref d.w00) (.ref d.w0f)=some false
 w31:kitOne K (.ref d.w00) (.ref d.w0g)=some false
 w3e:kitOne K (.ref d.w00) (.ref d.w0n)=some false
 w3w:kitOne K (.ref d.w00) (.ref d.w02)=some false
 w4q:kitOne K (.ref d.w00) (.ref d.w05)=some false
 w27:kitOne K (.ref d.w00) (.ref d.w00)=some true
 w4t:My.XAt K d.w05
 kcM:kitCls K (.ref d.w05) (.ref d.w0a)=some true
 kvM:kitOne K (.ref d.w05) (.type "ValueError")=some true
 w54:kitOne K (.ref d.w05) (.ref d.w0u)=some false
 w68:kitOne K (.ref d.w05) (.ref d.w1i)=some false
 w3k:kitOne K (.ref d.w05) (.ref d.w01)=some false
 w4o:kitOne K (.ref d.w05) (.ref d.w0v)=some false
 w2n:kitOne K (.ref d.w05) (.ref d.w0f)=some false
 w30:kitOne K (.ref d.w05) (.ref d.w0g)=some false
 w3d:kitOne K (.ref d.w05) (.ref d.w0n)=some false
 w3r:kitOne K (.ref d.w05) (.ref d.w02)=some false
 w4j:kitOne K (.ref d.w05) (.ref d.w05)=some true
 w28:kitOne K (.ref d.w05) (.ref d.w00)=some false
 w3j:My.XAt K d.w01
 kcH:kitCls K (.ref d.w01) (.ref d.w0a)=some true
 kvH:kitOne K (.ref d.w01) (.type "ValueError")=some true
 w58:kitOne K (.ref d.w01) (.ref d.w0u)=some false
 w60:kitOne K (.ref d.w01) (.ref d.w1i)=some false
 w3m:kitOne K (.ref d.w01) (.ref d.w01)=some true
 w4s:kitOne K (.ref d.w01) (.ref d.w0v)=some false
 w2q:kitOne K (.ref d.w01) (.ref d.w0f)=some false
 w2x:kitOne K (.ref d.w01) (.ref d.w0g)=some false
 w3q:kitOne K (.ref d.w01) (.ref d.w0n)=some false
 w3h:kitOne K (.ref d.w01) (.ref d.w02)=some false
 w4h:kitOne K (.ref d.w01) (.ref d.w05)=some false
 w29:kitOne K (.ref d.w01) (.ref d.w00)=some false
 w3o:My.XAt K d.w02
 kcD:kitCls K (.ref d.w02) (.ref d.w0a)=some true
 kvD:kitOne K (.ref d.w02) (.type "ValueError")=some true
 w4i:kitOne K (.ref d.w02) (.ref d.w0u)=some false
 w6e:kitOne K (.ref d.w02) (.ref d.w1i)=some false
 w3v:kitOne K (.ref d.w02) (.ref d.w01)=some false
 w4r:kitOne K (.ref d.w02) (.ref d.w0v)=some false
 w2v:kitOne K (.ref d.w02) (.ref d.w0f)=some false
 w2o:kitOne K (.ref d.w02) (.ref d.w0g)=some false
 w3g:kitOne K (.ref d.w02) (.ref d.w0n)=some false
 w3u:kitOne K (.ref d.w02) (.ref d.w02)=some true
 w4u:kitOne K (.ref d.w02) (.ref d.w05)=some false
 w2c:kitOne K (.ref d.w02) (.ref d.w00)=some false
 w2p:My.XBase K d.w0a
 weu:PySem.W.findIn K (.ref d.w00) "house" =some none
 wet:PySem.W.findIn K (.ref d.w00) "ware" =some none
 w17:Meth K d.w03 "found" d.w4z
 w2j:Meth K d.w03 "wares" d.w6z
 w1t:Meth K d.w03 "names" d.w4p
 w22:Meth K d.w03 "has" d.w6g
 w0c:Meth K d.w03 "check_house" d.w1q
 w0y:Meth K d.w03 "house_of" d.w2w
 w0b:Meth K d.w03 "elder_of" d.w2t
 w25:Meth K d.w03 "cap_of" d.w63
 w2b:Meth K d.w03 "kids" d.w5k
 w0k:Meth K d.w03 "line" d.w5n
 w0m:Meth K d.w03 "beneath" d.w0z
 w09:Meth K d.w03 "promised_beneath" d.w0w
 w1b:Meth K d.w03 "floors" d.w49
 w0h:Meth K d.w03 "check_more" d.w1y
 w0i:Meth K d.w03 "check_move" d.w21
 w2a:Meth K d.w03 "move" d.w5q
 w0j:PySem.W.findIn K (.ref d.w08) "elder" =some none
 w0e:PySem.W.findIn K (.ref d.w08) "promise" =some none
 w0s:PySem.W.findIn K (.ref d.w08) "cap" =some none
 w16:PySem.W.findIn K (.ref d.w08) "weight" =some none
 w0d:PySem.W.findIn K (.ref d.w03) "sorted_wares" =some none
 w07:PySem.W.findIn K (.ref d.w03) "houses" =some none
 wd8:My.XCls K d.w01
 w8c:My.XCls K d.w0f
 wbi:My.XCls K d.w0v
 wdq:My.XCls K d.w0u
 wc3:My.XCls K d.w0g
 weg:My.XCls K d.w1i
 wce:My.XCls K d.w0n
 w9r:My.XCls K d.w02
 wdi:My.XCls K d.w05
 w1h:kitCls K (.ref d.w0a) (.type "BaseException")=some true
def eV:Option Str->V
 |none=> .non
 |some z=> .str z
structure Ho where
 el:Option Str
 pa:Addr
 kp:List (Key × V)
 fp:Str->Option Int
 ca:Addr
 kc:List (Key × V)
 fc:Str->Option Int
 w:Int
structure He where
 n:Str
 a:Addr
 x:Ho
structure Ts where
 sw:Addr
 ws:List Str
 hs:Addr
 hl:List He
def fsH (x:Ho):List (Str × V):=[("elder",eV x.el),("promise",.ref x.pa),("cap",.ref x.ca),("weight",.int x.w)]
def HoAt (d:Ad) (H:Hp) (a:Addr) (x:Ho):Prop:=(∃dx,H a=some (.ins d.w08 dx (fsH x)))/\H x.pa=some (.dK x.kp)/\AD x.kp x.fp/\H x.ca=some (.dK x.kc)/\AD x.kc x.fc
theorem HoAt.same {d:Ad} {H H':Hp} {a:Addr} {x:Ho} (h:HoAt d H a x) (s:qb0 H H'):HoAt d H' a x:=⟨let ⟨dx,e⟩:=h.1;⟨dx,s _ _ e⟩,s _ _ h.2.1,h.2.2.1,s _ _ h.2.2.2.1,h.2.2.2.2⟩
def Ts.keys (S:Ts):List (Str × Addr):=S.hl.map fun e=>(e.n,e.a)
def Ts.at (S:Ts) (z:Str):Option He:=S.hl.find? fun e=>decide (e.n=z)
def fsT (S:Ts):List (Str × V):=[("sorted_wares",.ref S.sw),("houses",.ref S.hs)]
def qcj (d:Ad) (H:Hp) (t:Addr) (S:Ts):Prop:=(∃dx,H t=some (.ins d.w03 dx (fsT S)))/\H S.sw=some (.lst (S.ws.map V.str))/\H S.hs=some (.dK (oK S.keys))/\(S.hl.map (·.n)).Nodup/\S.hl.length<=60/\∀e∈S.hl,HoAt d H e.a e.x
theorem qcj.same {d:Ad} {H H':Hp} {t:Addr} {S:Ts} (h:qcj d H t S) (s:qb0 H H'):qcj d H' t S:=
 ⟨let ⟨dx,e⟩:=h.1;⟨dx,s _ _ e⟩,s _ _ h.2.1,s _ _ h.2.2.1,h.2.2.2.1,h.2.2.2.2.1,fun e he=>(h.2.2.2.2.2 e he).same s⟩
theorem qd2 (S:Ts) (z:Str):qd3 S.keys z=(S.at z).map (·.a):=by
 obtain⟨sw,ws,hs,hl⟩:=S
 unfold Ts.keys Ts.at
 dsimp only
 induction hl with
 |nil=>rfl
 |cons e r ih=>
  rw [map_cons,find?_cons]
  unfold qd3
  by_cases q:e.n=z
  .rw [if_pos q,decide_eq_true q];rfl
  .rw [if_neg q,decide_eq_false q];exact ih
theorem qbm {S:Ts} {z:Str} {e:He} (h:S.at z=some e):e∈S.hl/\e.n=z:=⟨List.mem_of_find?_eq_some h,by have:=List.find?_some h;simpa using this⟩
def NotS (K:Frag) (H:Hp) (x:V):Prop:=∃t,TyOf K H x t/\kitOne K t (.type "str")=some false
def qco (K:Frag) (H:Hp) (x:V):Prop:=(∃z,x=.str z)\/(NotS K H x/\∀z,x≠ .str z)
def who (S:Ts):V->Option He
 | .str z=>S.at z
 |_=>none
theorem qdu {S:Ts} {x:V} (h:∀z,x≠ .str z):who S x=none:=by
 cases x <;> first|rfl|(rename_i z;exact absurd rfl (h z))
def wam (K:Frag) (d:Ad):Sp:=fun vs H Q _=>∃(t:Addr) (S:Ts) (x:V),vs=[.ref t,x]/\qcj d H t S/\qco K H x/\Q (.bl (who S x).isSome) H
def w5p (K:Frag) (d:Ad):Sp:=fun vs H Q E=>∃(t:Addr) (S:Ts) (x:V),vs=[.ref t,x]/\qcj d H t S/\qco K H x/\(∀e,who S x=some e->Q .non H)/\(who S x=none->E (.ref d.w01) none H)
def w79 (K:Frag) (d:Ad):Sp:=fun vs H Q E=>∃(t:Addr) (S:Ts) (x:V),vs=[.ref t,x]/\qcj d H t S/\qco K H x/\(∀e,who S x=some e->Q (.ref e.a) H)/\(who S x=none->E (.ref d.w01) none H)
def w78 (K:Frag) (d:Ad):Sp:=fun vs H Q E=>∃(t:Addr) (S:Ts) (x:V),vs=[.ref t,x]/\qcj d H t S/\qco K H x/\(∀e,who S x=some e->Q (eV e.x.el) H)/\(who S x=none->E (.ref d.w01) none H)
def w8q (K:Frag) (d:Ad):Sp:=fun vs H Q _=>∃(t:Addr) (S:Ts),vs=[.ref t]/\qcj d H t S/\∀l ss,H l=none->ss.Perm (S.hl.map (·.n))->PyProof.Rows.sortedS ss=true->Q (.ref l) (upd H l (.lst (ss.map V.str)))
theorem r_notNs {H:Hp} {Q:VK} {a:Str} (h:Q (.bl true) H):rNotN (.str a) .non H Q:=⟨rfl,h⟩
theorem TyOf.same {K:Frag} {H H':Hp} {x:V} {t:Value} (h:TyOf K H x t) (s:qb0 H H'):TyOf K H' x t:=by
 cases h with
 |non=>exact .non
 |bl b=>exact .bl b
 |int i=>exact .int i
 |str z=>exact .str z
 |flt z=>exact .flt z
 |lst e=>exact .lst (s _ _ e)
 |frz e=>exact .frz (s _ _ e)
 |tup e=>exact .tup (s _ _ e)
 |dK e=>exact .dK (s _ _ e)
 |dT e=>exact .dT (s _ _ e)
 |ins e c a n k m=>exact .ins (s _ _ e) c a n k m
theorem qco.same {K:Frag} {H H':Hp} {x:V} (h:qco K H x) (s:qb0 H H'):qco K H' x:=by
 rcases h with h|⟨⟨t,a,b⟩,n⟩
 .exact .inl h
 .exact .inr ⟨⟨t,TyOf.same a s,b⟩,n⟩
inductive LineOf (S:Ts):Str->List Str->Prop
 |top {z:Str} {e:He} (h:S.at z=some e) (n:e.x.el=none):LineOf S z [z]
 |up {z y:Str} {e:He} {zs:List Str} (h:S.at z=some e) (n:e.x.el=some y) (r:LineOf S y zs):LineOf S z (z :: zs)
def RestOf (S:Ts):Option Str->List Str->Prop
 |none,zs=>zs=[]
 |some y,zs=>LineOf S y zs
theorem LineOf.open {S:Ts} {z:Str} {zs:List Str} (h:LineOf S z zs):∃e r,S.at z=some e/\zs=z :: r/\RestOf S e.x.el r:=by
 cases h with
 |top h n=>exact⟨_, [],h,rfl,by rw [n];rfl⟩
 |up h n r=>exact⟨_,_,h,rfl,by rw [n];exact r⟩
def lenAt (l:Addr) (H:Hp):Nat:=match H l with
 |some (.lst xs)=>xs.length
 |_=>0
theorem lenAt_eq {l:Addr} {H:Hp} {xs:List V} (e:H l=some (.lst xs)):lenAt l H=xs.length:=by unfold lenAt;rw [e]
def w9g (K:Frag) (d:Ad):Sp:=fun vs H Q E=>∃(t:Addr) (S:Ts) (x:V),vs=[.ref t,x]/\qcj d H t S/\
 ((∃z zs,x=.str z/\LineOf S z zs/\zs.length<=1000/\∀l,H l=none->Q (.ref l) (upd H l (.lst (zs.map V.str))))\/(qco K H x/\who S x=none/\∀l,H l=none->E (.ref d.w01) none (upd H l (.lst [x]))))
def qb8 (S:Ts) (z:Str):List Str:=(S.hl.filter fun e=>decide (e.x.el=some z)).map (·.n)
def w9v (K:Frag) (d:Ad):Sp:=fun vs H Q E=>∃(t:Addr) (S:Ts) (x:V),vs=[.ref t,x]/\qcj d H t S/\qco K H x/\(∀e,who S x=some e->∀l ss H',qb0 H H'->H l=none->H' l=some (.lst (ss.map V.str))->ss.Perm (qb8 S e.n)->PyProof.Rows.sortedS ss=true->Q (.ref l) H')/\(who S x=none->E (.ref d.w01) none H)
def w6y (K:Frag) (d:Ad):Sp:=fun vs H Q _=>∃(a:Addr) (kvs:List (Key × V)) (f:Str->Option Int) (z:Str),vs=[.ref a,.str z]/\Rd H a (.dK kvs)/\AD kvs f/\Q (.int (gN f z)) H
def w7f (K:Frag) (d:Ad):Sp:=fun vs H Q _=>∃(a:Addr) (kvs:List (Key × V)) (f:Str->Option Int),vs=[.ref a]/\H a=some (.dK kvs)/\AD kvs f/\kvs.length<=1000/\
 ∀l k' H',qb0 H H'->H l=none->H' l=some (.dK k')->AD k' (qbz f)->Q (.ref l) H'
def wdh (K:Frag) (d:Ad):Sp:=fun vs H Q _=>∃(a b:Addr) (ka kb:List (Key × V)) (f g:Str->Option Int),vs=[.ref a,.ref b]/\Rd H a (.dK ka)/\H b=some (.dK kb)/\AD ka f/\AD kb g/\ka.length<=1000/\kb.length<=1000/\
 ∀l k' H',qb0 H H'->H l=none->H' l=some (.dK k')->AD k' (qdo f g)->Q (.ref l) H'
def wcg (K:Frag) (d:Ad):Sp:=fun vs H Q _=>∃(a b:Addr) (ka kb:List (Key × V)) (f g:Str->Option Int),vs=[.ref a,.ref b]/\Rd H a (.dK ka)/\Rd H b (.dK kb)/\AD ka f/\AD kb g/\ka.length < 64/\
 (∀H',qb0 H H'->(∀y,¬qf0 f g y)->Q .non H')/\∀z H',qb0 H H'->qf0 f g z->(∀y,qf0 f g y->leS z y)->Q (.str z) H'
structure Pt where
 a:Addr
 k:List (Key × V)
 f:Str->Option Int
def qd8 (ts:List Pt):Str->Option Int:=ts.foldl (fun f t=>qdo f t.f) noF
def PtOk (H:Hp) (ws:List Str) (t:Pt):Prop:=H t.a=some (.dK t.k)/\AD t.k t.f/\∀z,t.f z≠none->z∈ws
def way (K:Frag) (d:Ad):Sp:=fun vs H Q _=>∃(L:Addr) (ts:List Pt) (ws:List Str),vs=[.ref L]/\SqL K H L (ts.map fun t=> .ref t.a)/\ws.length<=100/\(∀t∈ts,PtOk H ws t)/\
 ∀l k' H',qb0 H H'->H l=none->H' l=some (.dK k')->AD k' (qd8 ts)->Q (.ref l) H'
section
variable {K: Frag} {d: Ad} {H: Hp} {Q: VK} {E: XK}
theorem u_amount {a:Addr} {kvs:List (Key × V)} {f:Str->Option Int} {z:Str} (hR:Rd H a (.dK kvs)) (hA:AD kvs f) (q:Q (.int (gN f z)) H):w6y K d [.ref a,.str z] H Q E:=⟨a,kvs,f,z,rfl,hR,hA,q⟩
end
local macro_rules | `(tactic| walk_at "kit") => `(tactic| (with_reducible (first
 |assumption|exact kit_int_int|exact kit_int_bool|exact kit_str_str
 |exact kit_lst_lst|exact kit_dct_dct)))
local macro_rules | `(tactic| walk_at "ty") => `(tactic| (first
 |(with_reducible assumption) |(with_reducible exact TyOf.int _) |(with_reducible exact TyOf.bl _) |(with_reducible exact TyOf.str _)
 |(with_reducible exact TyOf.non) |((with_reducible refine' TyOf.tup ?h);(case h=>walk_at "heap")) |((with_reducible refine' TyOf.lst ?h);(case h=>walk_at "heap")) |((with_reducible refine' TyOf.dK ?h);(case h=>walk_at "heap"))))
local macro_rules | `(tactic| walk_at "heap") => `(tactic| first
 |with_reducible assumption|with_reducible exact qa1|((with_reducible refine' qa7 ?h ?n);(case n=>with_reducible assumption);(case h=>walk_at "heap")))
local macro_rules | `(tactic| walk_at "sqL") => `(tactic| first
 |with_reducible assumption|((with_reducible refine' qfh ?h ?n);(case n=>with_reducible assumption);(case h=>walk_at "sqL")) |((with_reducible refine' SqL.of ?h);(case h=>walk_at "heap")))
local macro_rules | `(tactic| walk_at "sqT") => `(tactic| first
 |with_reducible assumption|((with_reducible refine' SqT.of ?h);(case h=>walk_at "heap")))
local macro_rules | `(tactic| walk_at "side") => `(tactic| first
 |assumption|exact rfl|omega|decide
 |(simp only [length_cons,length_nil,length_map];omega) |exact⟨by omega,by omega⟩ |exact⟨by decide,by decide⟩ |exact⟨by omega,by assumption⟩
 |exact⟨by assumption,by assumption⟩ |exact⟨by decide,by assumption⟩ |exact⟨by decide,by decide,by decide⟩)
local macro_rules | `(tactic| walk_at "size") => `(tactic| (first
 |assumption|(simp only [length_cons,length_nil,length_map,length_take];first|decide|(show _<=16777216;omega) |(show _ < 16777216;omega)) |(show _<=16777216;omega) |(show _ < 16777216;omega)))
local macro_rules | `(tactic| walk_at "sp") => `(tactic| fail)
local macro_rules | `(tactic| walk_at "r1") => `(tactic| first
 |(with_reducible refine r_var (by with_unfolding_all exact rfl) ?_) |(with_reducible first|refine r_c ?_|refine r_op ?_|refine r_I0 ?_) |((with_reducible refine r_I ?hc ?_);(case hc=>walk_at "side")) |(with_reducible first|refine r_eqI ?_|refine r_eqS ?_|refine r_neS ?_|refine r_exb ?_|refine r_test ?_|refine r_tB ?_|refine r_and ?_|refine r_or ?_|refine r_not ?_|refine r_andV ?_|refine r_notV ?_|refine r_next ?_|refine r_seq ?_|refine r_drop ?_|refine r_ret ?_|refine r_if ?_|refine r_asg ?_)
 |(with_reducible refine r_name (by with_unfolding_all (simp only [List.set];exact rfl)) ?_) |(with_reducible first|refine r_gnil ?_|refine r_gcons ?_) |((with_reducible refine' r_gtup ?s ?n ?_);(case s=>walk_at "sqT");(case n=>exact rfl)) |(with_reducible first|refine r_for ?_|refine r_iL ?_|refine r_iR ?_)
 |((with_reducible refine' r_itL ?s ?_);(case s=>walk_at "sqL")) |((with_reducible refine' r_itR ?s ?t ?_);(case s=>walk_at "side");(case t=>walk_at "side")) |(with_reducible refine r_gone (by with_unfolding_all (simp only [List.set];exact rfl)) ?_) |(with_reducible first|refine r_nx ?_|refine r_rt ?_|refine r_nil ?_|refine r_cons ?_|refine r_tup ?_|refine r_lst ?_)
 |((with_reducible refine r_new ?n ?_);(case n=>(simp only [length_cons,length_nil];decide))) |((with_reducible refine r_fresh ?_);intro p hp) |(with_reducible first|refine r_as ?_|refine r_call ?_|refine r_callX ?_|refine r_cb ?_) |((with_reducible refine r_try ?_);intro pins)
 |(with_reducible first|refine r_raise ?_|refine r_comp ?_|refine r_true ?_|refine r_iS ?_|refine r_itS ?_|refine r_inS ?_) |((with_reducible refine' r_app ?a ?z ?_);(case a=>walk_at "heap");(case z=>walk_at "size")) |((with_reducible refine' r_catS ?z ?_);(case z=>walk_at "size")) |((with_reducible refine' r_lenS ?z ?_);(case z=>walk_at "size"))
 |(with_reducible refine r_chain ?_) |((with_reducible refine' r_lenL ?s ?_);(case s=>walk_at "sqL")) |(with_reducible first|refine r_notNn ?_|refine r_notNi ?_) |((with_reducible refine' r_isi ?t ?k ?_);(case t=>walk_at "ty");(case k=>walk_at "kit"))
 |(with_reducible first|refine i_nT ?_|refine i_nF ?_|refine iteT ?_|refine iteF ?_) |((with_reducible refine i_t ?c ?_);(case c=>walk_at "side")) |((with_reducible refine i_f ?c ?_);(case c=>walk_at "side")) |((with_reducible refine i_nf ?c ?_);(case c=>walk_at "side"))
 |walk_at "sp")
local macro_rules | `(tactic| walk_at "g") => `(tactic| repeat walk_at "r1")
local macro_rules | `(tactic| walk_at "d") => `(tactic| try dsimp only [L2.cxOf, L2.Cx.nox, L2.Cx.wish, My.xw, pnd, suite])
local macro_rules | `(tactic| walk_at "rd") => `(tactic| first
 |with_reducible assumption|((with_reducible refine' rd_new ?h ?n);(case n=>with_reducible assumption);(case h=>walk_at "rd")) |((with_reducible refine' Rd.of ?h);(case h=>walk_at "heap")))
local macro_rules | `(tactic| walk_at "same") => `(tactic| first
 |with_reducible assumption|exact qb0.refl _|((with_reducible refine' qfj ?h ?n);(case n=>with_reducible assumption);(case h=>walk_at "same")))
local macro_rules | `(tactic| walk_at "sp") => `(tactic| first
 |((with_reducible refine r_disp1 ?_);intro p hp) |((with_reducible refine' r_ds ?e ?_);(case e=>walk_at "heap")) |((with_reducible refine' r_glst ?s ?n ?_);(case s=>walk_at "sqL");(case n=>exact rfl)) |((with_reducible refine' u_amount ?r ?a ?_);(case r=>walk_at "rd");(case a=>with_reducible assumption))
 |(with_reducible refine r_intB ?_) |((with_reducible refine' qbf ?s ?e ?_);(case s=>walk_at "sqL");(case e=>exact rfl)) |(with_reducible refine r_dg2 ?_) |((with_reducible refine' r_dg2a ?r ?_);(case r=>walk_at "rd"))
 |((with_reducible refine' r_dg2b ?r ?a ?_);(case r=>walk_at "rd");(case a=>with_reducible assumption)) |(with_reducible refine r_dg ?_) |((with_reducible refine' r_dgk ?r ?a ?e ?_);(case r=>walk_at "rd");(case a=>with_reducible assumption);(case e=>with_reducible assumption)) |(with_reducible refine r_dp ?_)
 |((with_reducible refine' r_dpk ?e ?z ?_);(case e=>walk_at "heap");(case z=>walk_at "size")) |((with_reducible refine r_dnew ?_);intro p hp) |(with_reducible first|refine r_thA ?_|refine r_iD ?_) |((with_reducible refine' r_dictCp ?e ?_);(case e=>walk_at "rd");intro p hp)
 |(with_reducible first|refine r_lp ?_|refine r_max ?_|refine r_min ?_|refine r_tyS ?_|refine r_mtX ?_) |((with_reducible refine' r_mtkX ?e ?l ?_);(case e=>walk_at "heap");(case l=>exact rfl)) |(with_reducible refine r_mkX ?_) |((with_reducible refine' r_mtk ?e ?l ?_);(case e=>walk_at "heap");(case l=>exact rfl))
 |(with_reducible first|refine r_notNs ?_|refine r_di ?_) |((with_reducible refine' r_diO ?r ?_);(case r=>walk_at "rd")) |(with_reducible first|refine r_mk ?_|refine r_mt ?_|refine r_fl ?_|refine r_fs ?_) |((with_reducible refine' r_flk ?e ?c ?n ?l ?_);(case e=>walk_at "heap");(case c=>with_reducible assumption);(case n=>with_reducible assumption);(case l=>exact rfl))
 |((with_reducible refine' r_fsk ?e ?c ?n ?z ?_);(case e=>walk_at "heap");(case c=>with_reducible assumption);(case n=>with_reducible assumption);(case z=>(show _ < 1000;decide))) |(with_reducible first|refine r_bm ?_|refine r_bm0 ?_) |((with_reducible refine' r_tyL ?s ?_);(case s=>walk_at "sqL")) |((with_reducible refine' r_tyD ?s ?_);(case s=>walk_at "heap"))
 |((with_reducible refine' r_append ?h ?z ?_);(case h=>walk_at "heap");(case z=>walk_at "size")) |((with_reducible refine r_szS ?z ?_);(case z=>first|(show _<=16777216;omega) |(simp only [len_app];show _<=16777216;omega))))
theorem wav:FnScope ["thing"] ["thing"] (qab s_is_whole):=⟨rfl,rfl,rfl,by decide+kernel,rfl,by decide+kernel,by decide+kernel⟩
theorem wc5:FnScope ["thing"] ["thing"] (qab s_is_name):=⟨rfl,rfl,rfl,by decide+kernel,rfl,by decide+kernel,by decide+kernel⟩
theorem w76:FnScope ["thing","least","most"] ["thing","least","most"] (qab s_is_whole_from):=⟨rfl,rfl,rfl,by decide+kernel,rfl,by decide+kernel,by decide+kernel⟩
theorem w9k:FnScope ["thing"] ["thing"] (qab s_is_amount):=⟨rfl,rfl,rfl,by decide+kernel,rfl,by decide+kernel,by decide+kernel⟩
theorem w3y:FnScope ["handed","wares","key","ware"] ["handed","wares"] (qab s_amounts_of):=⟨rfl,rfl,rfl,by decide+kernel,rfl,by decide+kernel,by decide+kernel⟩
theorem w2r:FnScope ["amounts","told","ware"] ["amounts"] (qab s_above_nought):=⟨rfl,rfl,rfl,by decide+kernel,rfl,by decide+kernel,by decide+kernel⟩
theorem wa5:FnScope ["amounts","ware"] ["amounts","ware"] (qab s_amount_of):=⟨rfl,rfl,rfl,by decide+kernel,rfl,by decide+kernel,by decide+kernel⟩
theorem w8p:FnScope ["one","other","told","ware"] ["one","other"] (qab s_added):=⟨rfl,rfl,rfl,by decide+kernel,rfl,by decide+kernel,by decide+kernel⟩
theorem w9n:FnScope ["one","other","ware"] ["one","other"] (qab s_beyond):=⟨rfl,rfl,rfl,by decide+kernel,rfl,by decide+kernel,by decide+kernel⟩
theorem w46:FnScope ["many","total","amounts"] ["many"] (qab s_total_of):=⟨rfl,rfl,rfl,by decide+kernel,rfl,by decide+kernel,by decide+kernel⟩
theorem w9b:FnScope ["thing"] ["thing"] (qab s_are_wares):=⟨rfl,rfl,rfl,by decide+kernel,rfl,by decide+kernel,by decide+kernel⟩
theorem w8h:FnScope ["thing"] ["thing"] (qab s_check_name):=⟨rfl,rfl,rfl,by decide+kernel,rfl,by decide+kernel,by decide+kernel⟩
theorem w3z:FnScope ["wares","elder","promise","cap","weight","own_promise","own_cap"] ["wares","elder","promise","cap","weight"] (qab s_read_house):=⟨rfl,rfl,rfl,by decide+kernel,rfl,by decide+kernel,by decide+kernel⟩
theorem w3l:FnScope ["name","promises","cap","ware"] ["name","promises","cap"] (qab s_check_promises):=⟨rfl,rfl,rfl,by decide+kernel,rfl,by decide+kernel,by decide+kernel⟩
theorem wcb:FnScope ["_law_script","_law_k"] ["_law_script","_law_k"] (qab s_cell_at):=⟨rfl,rfl,rfl,by decide+kernel,rfl,by decide+kernel,by decide+kernel⟩
theorem wbx:FnScope ["_law_cell","_law_k","_law_number"] ["_law_cell","_law_k"] (qab s_mixed):=⟨rfl,rfl,rfl,by decide+kernel,rfl,by decide+kernel,by decide+kernel⟩
theorem w44:FnScope ["_law_cell","_law_k","_law_letters","_law_size","_law_at","_law_name_here","_law_j","_law_step","_law_place_here"] ["_law_cell","_law_k"] (qab s_name):=⟨rfl,rfl,rfl,by decide+kernel,rfl,by decide+kernel,by decide+kernel⟩
theorem w3c:FnScope ["_law_cells","_law_shape","_law_elders_here","_law_k","_law_at"] ["_law_cells","_law_shape"] (qab s_elders):=⟨rfl,rfl,rfl,by decide+kernel,rfl,by decide+kernel,by decide+kernel⟩
theorem w20:FnScope ["_law_cells","_law_wares","_law_scale","_law_promises_here","_law_k","_law_one","_law_j","_law_number"] ["_law_cells","_law_wares","_law_scale"] (qab s_promises):=⟨rfl,rfl,rfl,by decide+kernel,rfl,by decide+kernel,by decide+kernel⟩
theorem w5t:FnScope ["_law_elders_here","_law_promises_here","_law_sums_here","_law_k","_law_at","_law_ware","_law_many"] ["_law_elders_here","_law_promises_here"] (qab s_sums):=⟨rfl,rfl,rfl,by decide+kernel,rfl,by decide+kernel,by decide+kernel⟩
theorem w4n:FnScope ["_law_cells","_law_sums_here","_law_wares","_law_scale","_law_caps_here","_law_k","_law_one","_law_j","_law_number","_law_more","_law_many"] ["_law_cells","_law_sums_here","_law_wares","_law_scale"] (qab s_caps):=⟨rfl,rfl,rfl,by decide+kernel,rfl,by decide+kernel,by decide+kernel⟩
theorem w47:FnScope ["_law_script","_law_start","_law_count","_law_head","_law_wares","_law_scale","_law_cells","_law_elders_here","_law_promises_here","_law_caps_here","_law_names"] ["_law_script","_law_start","_law_count"] (qab s_plan):=⟨rfl,rfl,rfl,by decide+kernel,rfl,by decide+kernel,by decide+kernel⟩
theorem w59:FnScope ["_law_plan_here","_law_wares","_law_names","_law_elders_here","_law_promises_here","_law_caps_here","_law_tree_here","_law_k"] ["_law_plan_here"] (qab s_tree):=⟨rfl,rfl,rfl,by decide+kernel,rfl,by decide+kernel,by decide+kernel⟩
theorem w99:FnScope ["_law_elders_here","_law_k","_law_some_here","_law_at"] ["_law_elders_here","_law_k"] (qab s_line):=⟨rfl,rfl,rfl,by decide+kernel,rfl,by decide+kernel,by decide+kernel⟩
theorem wcp:FnScope ["_law_e","_law_kinds"] ["_law_e"] (qab s_told):=⟨rfl,rfl,rfl,by decide+kernel,rfl,by decide+kernel,by decide+kernel⟩
theorem w2k:FnScope ["_law_plan_here","_law_line_here","_law_more","_law_wares","_law_names","_law_elders_here","_law_promises_here","_law_caps_here","_law_sums_here","_law_at","_law_ware"] ["_law_plan_here","_law_line_here","_law_more"] (qab s_place):=⟨rfl,rfl,rfl,by decide+kernel,rfl,by decide+kernel,by decide+kernel⟩
theorem w6d:FnScope ["_law_cell","_law_plan_here","_law_script","_law_names","_law_name_here","_law_other"] ["_law_cell","_law_plan_here","_law_script"] (qab s_thing):=⟨rfl,rfl,rfl,by decide+kernel,rfl,by decide+kernel,by decide+kernel⟩
theorem wcw:FnScope ["_law_elders_here","_law_k","_law_lengths"] ["_law_elders_here","_law_k"] (qab s_tall):=⟨rfl,rfl,rfl,by decide+kernel,rfl,by decide+kernel,by decide+kernel⟩
theorem w5h:FnScope ["_law_plan_here","_law_name_here","_law_elder","_law_wares","_law_names","_law_elders_here","_law_promises_here","_law_caps_here","_law_k","_law_at","_law_line_here","_law_own"] ["_law_plan_here","_law_name_here","_law_elder"] (qab s_due):=⟨rfl,rfl,rfl,by decide+kernel,rfl,by decide+kernel,by decide+kernel⟩
theorem w5d:FnScope ["_law_tree_here","_law_name_here","_law_elder","_law_told_here","_law_e"] ["_law_tree_here","_law_name_here","_law_elder"] (qab s_checked):=⟨rfl,rfl,rfl,by decide+kernel,rfl,by decide+kernel,by decide+kernel⟩
theorem w93:FnScope ["_law_tree_here","_law_name_here","_law_elder","_law_told_here","_law_e"] ["_law_tree_here","_law_name_here","_law_elder"] (qab s_done):=⟨rfl,rfl,rfl,by decide+kernel,rfl,by decide+kernel,by decide+kernel⟩
theorem w2s:FnScope ["_law_tree_here","_law_plan_here","_law_wares","_law_names","_law_elders_here","_law_promises_here","_law_caps_here","_law_k"] ["_law_tree_here","_law_plan_here"] (qab s_stands):=⟨rfl,rfl,rfl,by decide+kernel,rfl,by decide+kernel,by decide+kernel⟩
theorem w7a:FnScope ["_law_tree_here","_law_plan_here","_law_fresh","_law_lengths","_law_told_here","_law_e"] ["_law_tree_here","_law_plan_here","_law_fresh"] (qab s_deep):=⟨rfl,rfl,rfl,by decide+kernel,rfl,by decide+kernel,by decide+kernel⟩
theorem wbs:FnScope ["_law_tree_here","_law_plan_here","_law_name_here","_law_elder","_law_due_here"] ["_law_tree_here","_law_plan_here","_law_name_here","_law_elder"] (qab s_tried):=⟨rfl,rfl,rfl,by decide+kernel,rfl,by decide+kernel,by decide+kernel⟩
theorem w5b:FnScope ["_law_script","_law_count","_law_plan_here","_law_tree_here","_law_k","_law_name_here","_law_elder","_law_due_here","_law_old"] ["_law_script"] (qab s_law):=⟨rfl,rfl,rfl,by decide+kernel,rfl,by decide+kernel,by decide+kernel⟩
theorem w95:FnScope ["self","elder","promise","cap","weight"] ["self","elder","promise","cap","weight"] (qab s_House_init):=⟨rfl,rfl,rfl,by decide+kernel,rfl,by decide+kernel,by decide+kernel⟩
theorem w6t:FnScope ["self","wares","name","promise","cap","weight","house"] ["self","wares","name","promise","cap","weight"] (qab s_Tree_init):=⟨rfl,rfl,rfl,by decide+kernel,rfl,by decide+kernel,by decide+kernel⟩
theorem w4b:FnScope ["self","name","elder","promise","cap","weight","house","elders"] ["self","name","elder","promise","cap","weight"] (qab s_Tree_found):=⟨rfl,rfl,rfl,by decide+kernel,rfl,by decide+kernel,by decide+kernel⟩
theorem w8o:FnScope ["self"] ["self"] (qab s_Tree_names):=⟨rfl,rfl,rfl,by decide+kernel,rfl,by decide+kernel,by decide+kernel⟩
theorem wba:FnScope ["self","thing"] ["self","thing"] (qab s_Tree_has):=⟨rfl,rfl,rfl,by decide+kernel,rfl,by decide+kernel,by decide+kernel⟩
theorem w5x:FnScope ["self","thing"] ["self","thing"] (qab s_Tree_check_house):=⟨rfl,rfl,rfl,by decide+kernel,rfl,by decide+kernel,by decide+kernel⟩
theorem w73:FnScope ["self","name"] ["self","name"] (qab s_Tree_house_of):=⟨rfl,rfl,rfl,by decide+kernel,rfl,by decide+kernel,by decide+kernel⟩
theorem w75:FnScope ["self","name"] ["self","name"] (qab s_Tree_elder_of):=⟨rfl,rfl,rfl,by decide+kernel,rfl,by decide+kernel,by decide+kernel⟩
theorem w9o:FnScope ["self","name"] ["self","name"] (qab s_Tree_kids):=⟨rfl,rfl,rfl,by decide+kernel,rfl,by decide+kernel,by decide+kernel⟩
theorem w33:FnScope ["self","name","told","elder"] ["self","name"] (qab s_Tree_line):=⟨rfl,rfl,rfl,by decide+kernel,rfl,by decide+kernel,by decide+kernel⟩
theorem w2u:FnScope ["self","name","told","kid"] ["self","name"] (qab s_Tree_beneath):=⟨rfl,rfl,rfl,by decide+kernel,rfl,by decide+kernel,by decide+kernel⟩
theorem w3p:FnScope ["self","name"] ["self","name"] (qab s_Tree_promised_beneath):=⟨rfl,rfl,rfl,by decide+kernel,rfl,by decide+kernel,by decide+kernel⟩
theorem w5e:FnScope ["self","name","deepest"] ["self","name"] (qab s_Tree_floors):=⟨rfl,rfl,rfl,by decide+kernel,rfl,by decide+kernel,by decide+kernel⟩
theorem w37:FnScope ["self","names","more","name"] ["self","names","more"] (qab s_Tree_check_more):=⟨rfl,rfl,rfl,by decide+kernel,rfl,by decide+kernel,by decide+kernel⟩
theorem w1n:FnScope ["self","name","elder","own_line","elders"] ["self","name","elder"] (qab s_Tree_check_move):=⟨rfl,rfl,rfl,by decide+kernel,rfl,by decide+kernel,by decide+kernel⟩
theorem w9u:FnScope ["self","name","elder"] ["self","name","elder"] (qab s_Tree_move):=⟨rfl,rfl,rfl,by decide+kernel,rfl,by decide+kernel,by decide+kernel⟩
theorem w7y:FnScope ["self","house","ware"] ["self","house","ware"] (qab s_i_NoPromise):=⟨rfl,rfl,rfl,by decide+kernel,rfl,by decide+kernel,by decide+kernel⟩
variable {P: Program} {w: World} {K: Frag} {mg: Str -> Option Value} {base: Heap} {d: Ad} (T: Tx K mg d)
include T in
theorem w7s:FnOk P w K mg base CX0 1 d.w6g d.w5l ["self","thing"] (wam K d):=by
 refine T.wbz.ok wba (fun vs H Q E h=>?_) (fun cdv A outer s H vs Q E hr h=>?_)
 .obtain⟨t,S,x,rfl,_⟩:=h;rfl
 obtain⟨t,S,x,rfl,hT,hx,q⟩:=h
 refine⟨_,(qa5 (qaj (pe_and (qac qby rfl T.w06 PyProof.Rows.boot_isinstance (qa0 (pv 1) (qa0 (qcl (v:=.ty "str") rfl T.wcv PyProof.Rows.boot_str rfl) qa3))) (pe_one (pe_cmp (pc_din (qce hr) (pv 1) (qbt (pv 0) rfl))))))),?_⟩
 walk_at "d"
 refine qah (σ:=[some (.ref t),some (x)]) rfl ?_
 obtain⟨⟨dx,ht⟩,hw,hh,nd,hz,hE⟩:=hT
 have ct:=T.w04
 have nh:qar K d.w03 "houses":=T.w07
 rcases hx with ⟨z,rfl⟩ |⟨⟨ty,ht1,ht2⟩,nz⟩
 .walk_at "g"
  rw [qd2,Option.isSome_map]
  exact q
 .walk_at "g"
  rw [qdu nz] at q
  exact q
include T in
theorem w1j:FnOk P w K mg base (My.CX1 P w) 2 d.w1q d.w1g ["self","thing"] (w5p K d):=by
 refine okX T.w67 w5x (fun vs H Q E h=>?_) (fun cdv A outer s H vs Q E hr h=>?_)
 .obtain⟨t,S,x,rfl,_⟩:=h;rfl
 obtain⟨t,S,x,rfl,hT,hx,q1,q2⟩:=h
 refine⟨_,(qa5 (qb2 (qcd (qbc (pe_meth (pv 0) T.w04 T.w22 ((w7s T).mono (by decide)) hr T.w88 .nil qav (qa0 (pv 1) qa3)))) (qa5 (qbp rfl T.wd8 rfl T.wa7 qaq (qa0 qb1 qa3))) qag)),?_⟩
 walk_at "d"
 refine qah (σ:=[some (.ref t),some (x)]) rfl ?_
 have hT0:=hT
 obtain⟨⟨dx,ht⟩,hw,hh,nd,hz,hE⟩:=hT
 have ct:=T.w04
 have nh:qar K d.w03 "houses":=T.w07
 walk_at "g"
 refine⟨t,S,x,rfl,hT0,hx,?_⟩
 cases hw':who S x with
 |none=>
  walk_at "g"
  show if (!false)=true then _ else _
  walk_at "g"
  exact q2 hw'
 |some e=>
  walk_at "g"
  exact q1 e hw'
include T in
theorem w77:FnOk P w K mg base (My.CX1 P w) 3 d.w2w d.w2h ["self","name"] (w79 K d):=by
 refine okX T.w7l w73 (fun vs H Q E h=>?_) (fun cdv A outer s H vs Q E hr h=>?_)
 .obtain⟨t,S,x,rfl,_⟩:=h;rfl
 obtain⟨t,S,x,rfl,hT,hx,q1,q2⟩:=h
 refine⟨_,(qa4 (qat (qap (pv 0) T.w04 T.w0c ((w1j T).mono (by decide)) hr T.w1u .nil qaq (qa0 (pv 1) qa3)))
  (qa5 (qaj (qck (qce hr) (qbt (pv 0) rfl) (pv 1) (fun _ _=>rfl))))),?_⟩
 walk_at "d"
 refine qah (σ:=[some (.ref t),some (x)]) rfl ?_
 have hT0:=hT
 obtain⟨⟨dx,ht⟩,hw,hh,nd,hz,hE⟩:=hT
 have ct:=T.w04
 have nh:qar K d.w03 "houses":=T.w07
 walk_at "g"
 refine⟨t,S,x,rfl,hT0,hx,fun e he=>?_,q2⟩
 have hz':∃z,x=.str z:=by
  rcases hx with h|⟨_,nz⟩
  .exact h
  .rw [qdu nz] at he;cases he
 obtain⟨z,rfl⟩:=hz'
 walk_at "g"
 refine r_dgO (.inl hh) (h:=e.a) (by rw [qd2];show (S.at z).map _=_;rw [show S.at z=some e from he];rfl) ?_
 walk_at "g"
 exact q1 e he
include T in
theorem w0x:FnOk P w K mg base (My.CX1 P w) 4 d.w2t d.w2g ["self","name"] (w78 K d):=by
 refine okX T.w7t w75 (fun vs H Q E h=>?_) (fun cdv A outer s H vs Q E hr h=>?_)
 .obtain⟨t,S,x,rfl,_⟩:=h;rfl
 obtain⟨t,S,x,rfl,hT,hx,q1,q2⟩:=h
 refine⟨_,(qa5 (qaj (qbt (qap (pv 0) T.w04 T.w0y ((w77 T).mono (by decide)) hr T.w7m .nil qaq (qa0 (pv 1) qa3)) rfl))),?_⟩
 walk_at "d"
 refine qah (σ:=[some (.ref t),some (x)]) rfl ?_
 have hT0:=hT
 obtain⟨⟨dx,ht⟩,hw,hh,nd,hz,hE⟩:=hT
 have ct:=T.w04
 have nh:qar K d.w03 "houses":=T.w07
 walk_at "g"
 refine⟨t,S,x,rfl,hT0,hx,fun e he=>?_,q2⟩
 obtain⟨z,rfl⟩:∃z,x=.str z:=by
  rcases hx with h|⟨_,nz⟩
  .exact h
  .rw [qdu nz] at he;cases he
 obtain⟨⟨dh,ho⟩,hp,hpA,hc,hcA⟩:=hE e (qbm he).1
 have ch:=T.w1e
 have nf:qar K d.w08 "elder":=T.w0j
 have hRp:Rd H e.x.pa (.dK e.x.kp):=.inl hp
 have hRc:Rd H e.x.ca (.dK e.x.kc):=.inl hc
 walk_at "g"
 exact q1 e he
include T in
theorem w8x:FnOk P w K mg base CX0 1 d.w4p d.w48 ["self"] (w8q K d):=by
 refine T.wa0.ok w8o (fun vs H Q E h=>?_) (fun cdv A outer s H vs Q E hr h=>?_)
 .obtain⟨t,S,rfl,_⟩:=h;rfl
 obtain⟨t,S,rfl,hT,q⟩:=h
 refine⟨_,(qa5 (qaj (qac (qfc rfl) rfl T.w5c PyProof.Rows.boot_sorted (qa0 (qbt (pv 0) rfl) qa3)))),?_⟩
 walk_at "d"
 refine qah (σ:=[some (.ref t)]) rfl ?_
 obtain⟨⟨dx,ht⟩,hw,hh,nd,hz,hE⟩:=hT
 have ct:=T.w04
 have nh:qar K d.w03 "houses":=T.w07
 walk_at "g"
 refine r_sortD (ss:=S.hl.map (·.n)) (.inl hh) (by rw [oK_keys];congr 1;unfold Ts.keys;rw [map_map];rfl) (by rw [length_map];omega) fun l ss hl hp hs=>?_
 walk_at "g"
 exact q l ss hl hp hs
include T in
theorem w6s:FnOk P w K mg base CX0 1 d.w5s d.w52 ["amounts","ware"] (w6y K d):=by
 refine T.w5w.ok wa5 (fun vs H Q E h=>?_) (fun cdv A outer s H vs Q E hr h=>?_)
 .obtain⟨a,kvs,f,z,rfl,_⟩:=h;rfl
 obtain⟨a,kvs,f,z,rfl,hR,hA,q⟩:=h
 refine⟨_,(qa5 (qaj (qda (qce hr) (pv 0) (pv 1) qaa ⟨rfl,rfl,rfl,rfl⟩))),?_⟩
 walk_at "d"
 refine qah (σ:=[some (.ref a),some (.str z)]) rfl ?_
 walk_at "g"
 exact q
include T in
theorem w7j:FnOk P w K mg base CX0 1 d.w3a d.w2y ["amounts"] (w7f K d):=by
 refine T.w5i.ok w2r (fun vs H Q E h=>?_) (fun cdv A outer s H vs Q E hr h=>?_)
 .obtain⟨a,kvs,f,rfl,_⟩:=h;rfl
 obtain⟨a,kvs,f,rfl,hH,hA,hz,q⟩:=h
 refine⟨_,(qa4 (qae (i:=1) w2r.nd rfl (Or.inl rfl) qct)
  (qa4 (ps_thA (qbl PassesOwn.never rfl (qeh (pv 0)) (qam (i:=2) w2r.nd rfl (Or.inl rfl)) (qa5 (qbk (qb2 (qai qfn (qck (qce hr) (pv 0) (pv 2) (fun _ _=>rfl)) qaa (qau _)) (qa5 (qdx (qce hr) (pv 1) (pv 2) (qck (qce hr) (pv 0) (pv 2) (fun _ _=>rfl)) rfl)) qag)))))
  (qa5 (qaj (pv 1))))),?_⟩
 walk_at "d"
 refine qah (σ:=[some (.ref a),none,none]) rfl ?_
 walk_at "g"
 rename_i l hl
 have ea:=qa7 (o':=.dK []) hH hl
 have nla:l≠a:=(qa8 hH hl).symm
 refine r_itD ea fun o=>?_
 refine f_dict (fun i σ H'=>∃(k':List (Key × V)) (w:Option V),σ=[some (.ref a),some (.ref l),w]/\SameBut a H H'/\H' a=some (.frz o (.dK kvs))/\H' l=some (.dK k')/\k'.length<=i/\AD k' (fun y=>if y∈(qc9 kvs).take i then qbz f y else none))
  ⟨[],none,rfl,SameBut.at (SameBut.of (qa2 hl _)),qa1,by rw [qa9 nla];exact qa1,Nat.le_refl _,AD.nil.cast fun z=>by simp [noF]⟩ ?_ ?_ ?_
 .rintro i σ H' _ ⟨k',w,rfl,sb,fz,hl',_⟩;exact fz
 .rintro i k v σ H' hk ⟨k',w,rfl,sb,fz,hl',hlen,hA'⟩
  obtain⟨z,n,rfl,rfl,hf,hzi⟩:=hA.at hk
  have hi:i < kvs.length:=(List.getElem?_eq_some_iff.mp hk).1
  have hRd:Rd H' a (.dK kvs):=.inr ⟨o,fz⟩
  show gName _ (.str z) _ _ _
  walk_at "g"
  refine qf3 ?_
  walk_at "g"
  refine i_2 (fun c=>?_) (fun c=>?_)
  .walk_at "g"
   refine⟨_,_,rfl,?_,by rw [qa9 nla.symm];exact fz,qa1,?_,(hA'.put z n).cast fun y=>?_⟩
   .exact sb_put sb hl
   .have:=qbr k' (Sum.inr z) (.int n);omega
   .exact step_put hzi (qbz f) (fun _=>none) (by unfold qbz;rw [hf];exact if_pos c) y
  .walk_at "g"
   refine⟨_,_,rfl,sb,fz,hl',by omega,hA'.cast fun y=>?_⟩
   exact step_no hzi (qbz f) (fun _=>none) (by unfold qbz;rw [hf];exact if_neg c) y
 .rintro σ H' ⟨k',w,rfl,sb,fz,hl',_,hA'⟩
  refine r_thNx (thaw1 fz (qdb hH)) ?_
  walk_at "g"
  refine q l k' _ (qcp hH sb) hl (by rw [qa9 nla];exact hl') (hA'.cast fun y=>?_)
  exact step_end hA (qbz f) (fun _=>none) (fun y e=>by unfold qbz;rw [e]) y
include T in
theorem wbj:FnOk P w K mg base CX0 2 d.waj d.w8n ["one","other"] (wdh K d):=by
 refine T.wb1.ok w8p (fun vs H Q E h=>?_) (fun cdv A outer s H vs Q E hr h=>?_)
 .obtain⟨a,b,ka,kb,f,g,rfl,_⟩:=h;rfl
 obtain⟨a,b,ka,kb,f,g,rfl,hRa,hb,hA,hB,za,zb,q⟩:=h
 refine⟨_,(qa4 (qae (i:=2) w8p.nd rfl (Or.inl rfl) (qc1 qcr rfl T.w8f PyProof.Rows.boot_dict (qa0 (pv 0) qa3)))
  (qa4 (ps_thA (qbl PassesOwn.never rfl (qeh (pv 1)) (qam (i:=3) w8p.nd rfl (Or.inl rfl)) (qa5 (qdx (qce hr) (pv 2) (pv 3) (qal qba (qad ((w6s T).mono (by decide)) hr rfl T.w7r T.w5w.kp T.w7v .nil qav (qa0 (pv 0) (qa0 (pv 3) qa3))) (qck (qce hr) (pv 1) (pv 3) (fun _ _=>rfl))) rfl))))
  (qa5 (qaj (pv 2))))),?_⟩
 walk_at "d"
 refine qah (σ:=[some (.ref a),some (.ref b),none,none]) rfl ?_
 walk_at "g"
 rename_i l hl
 have eb:=qa7 (o':=.dK ka) hb hl
 have nlb:l≠b:=(qa8 hb hl).symm
 refine r_itD eb fun o=>?_
 refine f_dict (fun i σ H'=>∃(k':List (Key × V)) (w:Option V),σ=[some (.ref a),some (.ref b),some (.ref l),w]/\SameBut b H H'/\H' b=some (.frz o (.dK kb))/\H' l=some (.dK k')/\k'.length<=1000+i/\AD k' (fun y=>if y∈(qc9 kb).take i then qdo f g y else f y))
  ⟨ka,none,rfl,SameBut.at (SameBut.of (qa2 hl _)),qa1,by rw [qa9 nlb];exact qa1,by omega,hA.cast fun z=>by simp⟩ ?_ ?_ ?_
 .rintro i σ H' _ ⟨k',w,rfl,sb,fz,hl',_⟩;exact fz
 .rintro i k v σ H' hk ⟨k',w,rfl,sb,fz,hl',hlen,hA'⟩
  obtain⟨z,n,rfl,rfl,hf,hzi⟩:=hB.at hk
  have hi:i < kb.length:=(List.getElem?_eq_some_iff.mp hk).1
  have hRb:Rd H' b (.dK kb):=.inr ⟨o,fz⟩
  have hRa':Rd H' a (.dK ka):=rd_in hRa hb sb fz
  show gName _ (.str z) _ _ _
  walk_at "g"
  refine⟨_,_,rfl,sb_put sb hl,by rw [qa9 nlb.symm];exact fz,qa1,?_,(hA'.put z _).cast fun y=>?_⟩
  .have:=qbr k' (Sum.inr z) (.int (gN f z+n));omega
  .exact step_put hzi (qdo f g) f (by unfold qdo;rw [hf]) y
 .rintro σ H' ⟨k',w,rfl,sb,fz,hl',_,hA'⟩
  refine r_thNx (thaw1 fz (qdb hb)) ?_
  walk_at "g"
  refine q l k' _ (qcp hb sb) hl (by rw [qa9 nlb];exact hl') (hA'.cast fun y=>?_)
  exact step_end hB (qdo f g) f (fun y e=>by unfold qdo;rw [e]) y
include T in
theorem wcq:FnOk P w K mg base CX0 2 d.w8s d.w7i ["one","other"] (wcg K d):=by
 refine T.wbu.ok w9n (fun vs H Q E h=>?_) (fun cdv A outer s H vs Q E hr h=>?_)
 .obtain⟨a,b,ka,kb,f,g,rfl,_⟩:=h;rfl
 obtain⟨a,b,ka,kb,f,g,rfl,hRa,hRb,hA,hB,za,qn,qs⟩:=h
 refine⟨_,(qa4 (qbl PassesOwn.never rfl (qc4 (qac (qfc rfl) rfl T.w5c PyProof.Rows.boot_sorted (qa0 (pv 0) qa3))) (qam (i:=2) w9n.nd rfl (Or.inl rfl)) (qa5 (qb2 (qai qfn (qck (qce hr) (pv 0) (pv 2) (fun _ _=>rfl)) (qad ((w6s T).mono (by decide)) hr rfl T.w7r T.w5w.kp T.w7v .nil qav (qa0 (pv 1) (qa0 (pv 2) qa3))) (qau _)) (qa5 (qaj (pv 2))) qag)))
  (qa5 (qaj qdi))),?_⟩
 walk_at "d"
 refine qah (σ:=[some (.ref a),some (.ref b),none]) rfl ?_
 walk_at "g"
 refine r_sortD hRa hA.keys (by rw [hA.klen];exact za) fun l ss hl hp hs=>?_
 have pw:=qdq hs
 have hin:∀y,y∈ss↔f y≠none:=fun y=>(hp.mem_iff).trans (hA.kin y)
 walk_at "g"
 have sm:=qa2 hl (.lst (ss.map V.str))
 have hRa':=rd_new hRa hl (u:=.lst (ss.map V.str))
 have hRb':=rd_new hRb hl (u:=.lst (ss.map V.str))
 refine qfa (xs:=ss.map V.str) (fun i σ H'=>H'=upd H l (.lst (ss.map V.str))/\(∃w,σ=[some (.ref a),some (.ref b),w])/\∀j y,j < i->ss[j]?=some y->¬qf0 f g y) ⟨rfl,⟨_,rfl⟩,fun j y hj=>absurd hj (Nat.not_lt_zero j)⟩ ?_ ?_ ?_
 .rintro i σ H' _ ⟨rfl,_⟩;exact SqL.of qa1
 .rintro i v σ H' hv ⟨rfl,⟨w,rfl⟩,hno⟩
  rw [getElem?_map] at hv
  obtain⟨z,hz,rfl⟩:=Option.map_eq_some_iff.mp hv
  have hfz:=(hin z).mp (mem_of_getElem? hz)
  obtain⟨n,hn⟩:∃n,f z=some n:=by
   cases e:f z with
   |none=>exact absurd e hfz
   |some n=>exact⟨n,rfl⟩
  have gz:gN f z=n:=by unfold gN;rw [hn];rfl
  walk_at "g"
  refine i_2 (fun c=>?_) (fun c=>?_)
  .walk_at "g"
   refine qs z _ sm ⟨hfz,by rw [gz];exact c⟩ fun y hy=>?_
   obtain⟨j,hj,e⟩:=mem_iff_getElem.mp ((hin y).mpr hy.1)
   have hji:i<=j:=by
    rcases Nat.lt_or_ge j i with h|h
    .exact absurd hy (hno j y h (by rw [getElem?_eq_getElem hj,e]))
    .exact h
   obtain⟨hi,ez⟩:=List.getElem?_eq_some_iff.mp hz
   rcases Nat.eq_or_lt_of_le hji with h|h
   .subst h;rw [ez] at e;subst e;exact leS_refl _
   .have:=pairwise_iff_getElem.mp pw i j hi hj h
    rw [ez,e] at this;exact this
  .walk_at "g"
   refine⟨rfl,⟨_,rfl⟩,fun j y hj hy=>?_⟩
   rcases Nat.lt_or_ge j i with h|h
   .exact hno j y h hy
   .have e:j=i:=by omega
    subst e
    rw [hz] at hy
    cases hy
    exact fun hv=>c (by have:=hv.2;rw [gz] at this;exact this)
 .rintro σ H' ⟨rfl,⟨w,rfl⟩,hno⟩
  walk_at "g"
  refine qn _ sm fun y hy=>?_
  obtain⟨j,hj,e⟩:=mem_iff_getElem.mp ((hin y).mpr hy.1)
  exact hno j y (by rw [length_map];exact hj) (by rw [getElem?_eq_getElem hj,e]) hy
theorem sum_sup {ts:List Pt} {ws:List Str} (h:∀t∈ts,∀z,t.f z≠none->z∈ws):∀f0:Str->Option Int,(∀z,f0 z≠none->z∈ws)->∀z,ts.foldl (fun f t=>qdo f t.f) f0 z≠none->z∈ws:=by
 induction ts with
 |nil=>intro f0 h0 z hz;exact h0 z hz
 |cons t ts ih=>intro f0 h0 z hz;exact ih (fun t' ht=>h t' (mem_cons_of_mem _ ht)) (qdo f0 t.f) (qfw h0 (h t (mem_cons_self ..))) z hz
include T in
theorem wat:FnOk P w K mg base CX0 3 d.w6j d.w5m ["many"] (way K d):=by
 refine T.w8a.ok w46 (fun vs H Q E h=>?_) (fun cdv A outer s H vs Q E hr h=>?_)
 .obtain⟨L,ts,ws,rfl,_⟩:=h;rfl
 obtain⟨L,ts,ws,rfl,hS,hw,hts,q⟩:=h
 refine⟨_,(qa4 (qae (i:=1) w46.nd rfl (Or.inl rfl) qct)
  (qa4 (qbl PassesOwn.never rfl (qc4 (pv 0)) (qam (i:=2) w46.nd rfl (Or.inl rfl)) (qa5 (qae (i:=1) w46.nd rfl (Or.inl rfl) (qad ((wbj T).mono (by decide)) hr rfl T.wcu T.wb1.kp T.wci .nil qav (qa0 (pv 1) (qa0 (pv 2) qa3))))))
  (qa5 (qaj (pv 1))))),?_⟩
 walk_at "d"
 refine qah (σ:=[some (.ref L),none,none]) rfl ?_
 walk_at "g"
 rename_i l0 hl0
 refine qfa (xs:=ts.map fun t=> .ref t.a) (fun i σ H'=>∃(l:Addr) (k':List (Key × V)) (w:Option V),σ=[some (.ref L),some (.ref l),w]/\qb0 H H'/\H l=none/\H' l=some (.dK k')/\AD k' (qd8 (ts.take i))) ⟨l0, [],none,rfl,qa2 hl0 _,hl0,qa1,AD.nil⟩ ?_ ?_ ?_
 .rintro i σ H' _ ⟨l,k',w,rfl,sm,_⟩;exact sm.seq hS
 .rintro i v σ H' hv ⟨l,k',w,rfl,sm,hl,hl',hA'⟩
  rw [getElem?_map] at hv
  obtain⟨t,ht,rfl⟩:=Option.map_eq_some_iff.mp hv
  have hm:=mem_of_getElem? ht
  obtain⟨h1,h2,h3⟩:=hts t hm
  have sup:∀z,qd8 (ts.take i) z≠none->z∈ws:=sum_sup (fun t' ht'=>(hts t' (List.mem_of_mem_take ht')).2.2) noF (fun z h=>absurd rfl h)
  have c1:=hA'.le sup
  have c2:=h2.le h3
  walk_at "g"
  refine⟨l,t.a,k',t.k,qd8 (ts.take i),t.f,rfl,.inl hl',sm _ _ h1,hA',h2,by omega,by omega,fun l2 k2 H2 sm2 hl2 e2 hA2=>?_⟩
  walk_at "g"
  refine⟨l2,k2,_,rfl,sm.trans sm2,sm.free hl2,e2,?_⟩
  have e:ts.take (i+1)=ts.take i++ [t]:=by rw [take_add_one,ht];rfl
  rw [e]
  unfold qd8
  rw [List.foldl_append]
  exact hA2
 .rintro σ H' ⟨l,k',w,rfl,sm,hl,hl',hA'⟩
  rw [length_map,take_length] at hA'
  walk_at "g"
  exact q l k' H' sm hl hl' hA'
include T in
theorem w1k:FnOk P w K mg base (My.CX1 P w) 5 d.w5n d.w57 ["self","name"] (w9g K d):=by
 refine okX T.waa w33 (fun vs H Q E h=>?_) (fun cdv A outer s H vs Q E hr h=>?_)
 .obtain⟨t,S,x,rfl,_⟩:=h;rfl
 obtain⟨t,S,x,rfl,hT,q⟩:=h
 refine⟨_,(qa4 (qae (i:=2) w33.nd rfl (Or.inl rfl) (qak (qa0 (pv 1) qa3)))
  (qa4 (qae (i:=3) w33.nd rfl (Or.inl rfl) (qap (pv 0) T.w04 T.w0b ((w0x T).mono (by decide)) hr T.w15 .nil qaq (qa0 (pv 1) qa3)))
  (qa4 (qfl (qek rfl rfl) (qai qdr (pv 3) qdi (qau _)) (qa4 (qat (qcg PySem.F.plainAttrs_list PySem.F.slot_list_append PySem.F.type_list_append qay (pv 2) (qa0 (pv 3) qa3)))
  (qa5 (qae (i:=3) w33.nd rfl (Or.inl rfl) (qap (pv 0) T.w04 T.w0b ((w0x T).mono (by decide)) hr T.w15 .nil qaq (qa0 (pv 3) qa3))))))
  (qa5 (qaj (pv 2)))))),?_⟩
 walk_at "d"
 refine qah (σ:=[some (.ref t),some (x),none,none]) rfl ?_
 have ct:=T.w04
 obtain⟨dx,ht⟩:=hT.1
 walk_at "g"
 rename_i l hl
 have sl:=qa2 hl (.lst [x])
 rcases q with ⟨z,zs,rfl,hL,hz,q⟩ |⟨hx,hn,q⟩
 .obtain⟨e0,r0,h0,rfl,hr0⟩:=hL.open
  refine⟨t,S,.str z,rfl,hT.same sl,.inl ⟨z,rfl⟩,fun e he=>?_,fun he=>?_⟩
  .have ee:e0=e:=Option.some.inj (h0.symm.trans he)
   subst ee
   walk_at "g"
   refine qfd (fun σ H'=>∃(ys rs:List Str) (o:Option Str),σ=[some (.ref t),some (.str z),some (.ref l),some (eV o)]/\H'=upd H l (.lst (ys.map V.str))/\ys++rs=z :: r0/\RestOf S o rs) (fun _ H'=>(r0.length+1) - lenAt l H') ⟨[z],r0,_,rfl,rfl,rfl,hr0⟩ ?_ ?_
   .rintro σ H' ⟨ys,rs,o,rfl,rfl,hyr,hR⟩
    have hlen:=congrArg List.length hyr
    rw [length_append,length_cons] at hlen
    have hz2:(z :: r0).length<=1000:=hz
    rw [length_cons] at hz2
    cases o with
    |none=>
     have:rs=[]:=hR
     subst this
     rw [append_nil] at hyr
     subst hyr
     rw [show eV none=V.non from rfl]
     walk_at "g"
     exact q l hl
    |some y=>
     obtain⟨e1,r1,h1,rfl,hr1⟩:=LineOf.open hR
     have sy:=qa2 hl (.lst (ys.map V.str))
     have eL:upd H l (.lst (ys.map V.str)) l=some (.lst (ys.map V.str)):=qa1
     have hzz:(ys.map V.str).length < sizeLine:=by rw [length_map];show _ < 16777216;omega
     rw [show eV (some y)=V.str y from rfl]
     walk_at "g"
     rw [qbq]
     have s2:=qa2 hl (.lst (ys.map V.str++ [.str y]))
     have ht2:=s2 _ _ ht
     walk_at "g"
     refine⟨t,S,.str y,rfl,hT.same s2,.inl ⟨y,rfl⟩,fun e he=>?_,fun he=>?_⟩
     .have ee:e1=e:=Option.some.inj (h1.symm.trans he)
      subst ee
      walk_at "g"
      rw [length_cons] at hlen
      refine⟨⟨ys++ [y],r1,_,rfl,by rw [map_append];rfl,by rw [List.append_assoc];exact hyr,hr1⟩,?_⟩
      have g1:=lenAt_eq eL
      have g2:lenAt l (upd H l (.lst (ys.map V.str++ [V.str y])))=(ys.map V.str++ [V.str y]).length:=lenAt_eq qa1
      rw [length_append,length_map] at g2
      rw [length_map] at g1
      rw [g1,g2]
      simp only [length_cons,length_nil]
      omega
     .rw [show who S (.str y)=some e1 from h1] at he;cases he
   .rintro σ H' Q1 Q2 hm ⟨v,hv,w,k,hk,hq⟩
    exact⟨v,hv,w,k,hk,hm _ _ hq⟩
  .rw [show who S (.str z)=some e0 from h0] at he;cases he
 .refine⟨t,S,x,rfl,hT.same sl,hx.same sl,fun e he=>?_,fun _=>q l hl⟩
  rw [hn] at he;cases he
theorem qev {S:Ts} {e:He} (nd:(S.hl.map (·.n)).Nodup) (h:e∈S.hl):S.at e.n=some e:=by
 have q:qd3 S.keys e.n=some e.a:=lookO_of (by unfold Ts.keys;rw [map_map];exact nd) (mem_map.mpr ⟨e,h,rfl⟩)
 unfold Ts.at
 revert nd h
 obtain⟨sw,ws,hs,hl⟩:=S
 dsimp only
 clear q
 intro nd h
 induction hl with
 |nil=>simp at h
 |cons y r ih=>
  rw [map_cons,nodup_cons] at nd
  rw [find?_cons]
  rcases mem_cons.mp h with h|h
  .subst h;rw [decide_eq_true rfl]
  .have ne:y.n≠e.n:=fun z=>nd.1 (by rw [z];exact mem_map.mpr ⟨e,h,rfl⟩)
   rw [decide_eq_false ne]
   exact ih nd.2 h
theorem keys_at {S:Ts} {i:Nat} {k:Key} {v:V} (h:(oK S.keys)[i]?=some (k,v)):∃e,S.hl[i]?=some e/\k=Sum.inr e.n/\v=.ref e.a:=by
 unfold oK Ts.keys at h
 rw [getElem?_map,getElem?_map] at h
 cases q:S.hl[i]? with
 |none=>rw [q] at h;cases h
 |some e=>rw [q] at h;cases h;exact⟨e,rfl,rfl,rfl⟩
theorem qe9 (S:Ts):(oK S.keys).length=S.hl.length:=by unfold oK Ts.keys;rw [length_map,length_map]
theorem dec_el {o:Option Str} {z:Str}:decide (eV o=V.str z)=decide (o=some z):=by
 cases o with
 |none=>rfl
 |some y=>
  by_cases h:y=z
  .subst h;show decide (V.str y=V.str y)=_;rw [decide_eq_true rfl,decide_eq_true rfl]
  .rw [decide_eq_false (fun q=>h (by cases q;rfl)),decide_eq_false (fun q=>h (Option.some.inj q))]
theorem scal_el {o:Option Str} {z:Str}:scal (eV o) (V.str z)=true:=by cases o <;> rfl
include T in
theorem w9y:FnOk P w K mg base (My.CX1 P w) 3 d.w5k d.w4m ["self","name"] (w9v K d):=by
 refine okX T.waq w9o (fun vs H Q E h=>?_) (fun cdv A outer s H vs Q E hr h=>?_)
 .obtain⟨t,S,x,rfl,_⟩:=h;rfl
 obtain⟨t,S,x,rfl,hT,hx,q1,q2⟩:=h
 refine⟨_,(qa4 (qat (qap (pv 0) T.w04 T.w0c ((w1j T).mono (by decide)) hr T.w1u .nil qaq (qa0 (pv 1) qa3)))
  (qa5 (qaj (qac qde rfl T.w5c PyProof.Rows.boot_sorted (qa0 (pe_thV (qdk (caps:=[0,1]) (cn:=["self","name"]) (qbw rfl rfl (by rfl) (by rfl) rfl ⟨rfl,⟨rfl,trivial⟩⟩ (by rfl) rfl ⟨⟨rfl,rfl,rfl,rfl,_,rfl⟩,⟨⟨rfl,rfl,rfl,rfl,_,rfl⟩,trivial⟩⟩ (by decide)) rfl (qeh (qbt (pv 0) rfl)) (fun _ _ _ _=>(pf_one (qai qdl (qbt (qck (qce hr) (qbt (pv 1) rfl) (pv 0) (fun _ _=>rfl)) rfl) (pv 2) (qau _)))) (fun _ _ _ _=>(pv 0)))) qa3))))),?_⟩
 walk_at "d"
 dsimp only [cxC]
 refine qah (σ:=[some (.ref t),some (x)]) rfl ?_
 have hT0:=hT
 obtain⟨⟨dx,ht⟩,hw,hh,nd,hz,hE⟩:=hT
 have ct:=T.w04
 have ch:=T.w1e
 have nh:qar K d.w03 "houses":=T.w07
 have nf:qar K d.w08 "elder":=T.w0j
 walk_at "g"
 refine⟨t,S,x,rfl,hT0,hx,fun e he=>?_,q2⟩
 obtain⟨z,rfl⟩:∃z,x=.str z:=by
  rcases hx with h|⟨_,nz⟩
  .exact h
  .rw [qdu nz] at he;cases he
 obtain⟨hme,rfl⟩:=qbm he
 walk_at "g"
 refine r_thV ?_
 walk_at "g"
 refine r_itD hh fun o=>?_
 intro C s0 H0 fp na hna
 have hF:upd H S.hs (.frz o (.dK (oK S.keys))) S.hs=some (.frz o (.dK (oK S.keys))):=qa1
 have sb:SameBut S.hs H (upd H S.hs (.frz o (.dK (oK S.keys)))):=sb_frz hh
 have ht2:=sb _ _ (ne_of ht hh (by intro z;cases z)) ht
 have hna0:H na=none:=by
  by_cases z:na=S.hs
  .subst z;rw [hF] at hna;cases hna
  .rw [qa9 z] at hna;exact hna
 have hE2:∀e∈S.hl,∃dx,upd H S.hs (.frz o (.dK (oK S.keys))) e.a=some (.ins d.w08 dx (fsH e.x)):=fun e he=>by
  obtain⟨⟨dx,q⟩,_⟩:=hE e he
  exact⟨dx,sb _ _ (ne_of q hh (by intro z;cases z)) q⟩
 generalize upd H S.hs (.frz o (.dK (oK S.keys)))=HF at*
 refine c_by S.hl.length (fun i H'=>H'=upd HF na (.lst ((((S.hl.take i).filter fun y=>decide (y.x.el=some e.n)).map (·.n)).map V.str))) rfl ?_ ?_ ?_ ?_
 .rintro i H' hi rfl
  exact⟨qa7 hF hna,by rw [qe9];exact hi⟩
 .rintro H' rfl
  exact⟨qa7 hF hna,by rw [qe9];exact Nat.le_refl _⟩
 .rintro i H' v H'' hi rfl ⟨rfl,k,v',hk,rfl⟩
  obtain⟨y,hy,rfl,rfl⟩:=keys_at hk
  have hym:=mem_of_getElem? hy
  obtain⟨dy,hya⟩:=hE2 y hym
  have nx:(S.hl.take (i+1)).filter (fun y=>decide (y.x.el=some e.n))=(S.hl.take i).filter (fun y=>decide (y.x.el=some e.n))++(if decide (y.x.el=some e.n)=true then [y] else []):=by
   rw [take_add_one,hy,List.filter_append]
   congr 1
   simp only [Option.toList_some,filter_cons,List.filter_nil]
  have hlen:((S.hl.take i).filter (fun y=>decide (y.x.el=some e.n))).length<=S.hl.length:=Nat.le_trans (List.length_filter_le ..) (by rw [length_take];omega)
  walk_at "g"
  refine r_dgO (h:=y.a) (rd_new (.inr ⟨o,hF⟩) hna) (by rw [qd2,qev nd hym];rfl) ?_
  walk_at "g"
  refine⟨scal_el,?_⟩
  rw [dec_el]
  refine⟨_,rfl,?_⟩
  refine i_2 (fun c=>?_) (fun c=>?_)
  .walk_at "g"
   rw [qbq,nx,if_pos (decide_eq_true c),map_append,map_append];rfl
  .rw [nx,if_neg (by rw [decide_eq_false c];decide),append_nil]
 rintro H' rfl
 rw [take_length]
 have nns:na≠S.hs:=fun z=>by subst z;rw [hF] at hna;cases hna
 have eN:upd (upd HF na (.lst ((qb8 S e.n).map V.str))) S.hs (.dK (oK S.keys)) na=some (.lst ((qb8 S e.n).map V.str)):=by rw [qa9 nns];exact qa1
 have sm:qb0 H (upd (upd HF na (.lst ((qb8 S e.n).map V.str))) S.hs (.dK (oK S.keys))):=qcp hh (sb_put sb hna0)
 have hkl:(qb8 S e.n).length<=60:=by unfold qb8;rw [length_map];exact Nat.le_trans (List.length_filter_le ..) hz
 refine⟨_,thaw1 (qa7 hF hna) (qdb hh),?_⟩
 show tNil _ (upd (upd HF na (.lst ((qb8 S e.n).map V.str))) S.hs (.dK (oK S.keys))) _
 generalize upd (upd HF na (.lst ((qb8 S e.n).map V.str))) S.hs (.dK (oK S.keys))=H3 at*
 walk_at "g"
 refine qfk (SqL.of eN) (by omega) fun l ss hl hp hs=>?_
 walk_at "g"
 exact q1 e he l ss _ (qfj sm hl) (sm.free hl) qa1 hp hs
theorem r_extend {H:Hp} {Q:VK} {l b:Addr} {xs zs:List V} (h:H l=some (.lst xs)) (hb:H b=some (.lst zs)) (hz:xs.length+zs.length<=sizeLine) (q:Q .non (upd H l (.lst (xs++zs)))):rExtend (.ref l) [.ref b] H Q:=⟨l,b,xs,zs,rfl,rfl,h,hb,hz,q⟩
def flat (parts:List (Str × List Str)):List Str:=(parts.map (·.2)).flatten
def Ben (S:Ts):Nat->Str->List Str->Prop
 |0,z,zs=>∃parts:List (Str × List Str),(parts.map (·.1)).Perm (qb8 S z)/\zs=z :: flat parts/\∀p∈parts,False
 |n+1,z,zs=>∃parts:List (Str × List Str),(parts.map (·.1)).Perm (qb8 S z)/\zs=z :: flat parts/\∀p∈parts,Ben S n p.1 p.2
def BenP (S:Ts):Nat->Str->List Str->Prop
 |0,z,zs=>∃(parts:List (Str × List Str)) (rest:List Str),(parts.map (·.1)++rest).Perm (qb8 S z)/\zs=z :: flat parts/\∀p∈parts,False
 |n+1,z,zs=>∃(parts:List (Str × List Str)) (rest:List Str),(parts.map (·.1)++rest).Perm (qb8 S z)/\zs=z :: flat parts/\∀p∈parts,BenP S n p.1 p.2
theorem Ben.part {S:Ts}:∀{n:Nat} {z:Str} {zs:List Str},Ben S n z zs->BenP S n z zs
 |0,_,_,⟨parts,a,b,c⟩=>⟨parts, [],by rw [append_nil];exact a,b,c⟩
 |n+1,_,_,⟨parts,a,b,c⟩=>⟨parts, [],by rw [append_nil];exact a,b,fun p hp=>Ben.part (c p hp)⟩
def BenK (S:Ts):Nat->Str->List Str->Prop
 |0,_,_=>False
 |n+1,z,zs=>Ben S n z zs
theorem ben_of {S:Ts} {n:Nat} {z:Str} {parts:List (Str × List Str)} (h:(parts.map (·.1)).Perm (qb8 S z)) (hp:∀p∈parts,BenK S n p.1 p.2):Ben S n z (z :: flat parts):=by
 cases n with
 |zero=>exact⟨parts,h,rfl,hp⟩
 |succ n=>exact⟨parts,h,rfl,hp⟩
theorem benP_of {S:Ts} {n:Nat} {z:Str} {parts:List (Str × List Str)} {rest:List Str} (h:(parts.map (·.1)++rest).Perm (qb8 S z)) (hp:∀p∈parts,BenK S n p.1 p.2):BenP S n z (z :: flat parts):=by
 cases n with
 |zero=>exact⟨parts,rest,h,rfl,hp⟩
 |succ n=>exact⟨parts,rest,h,rfl,fun p q=>Ben.part (hp p q)⟩
def Slim (S:Ts):Prop:=∀n z zs,BenP S n z zs->zs.length<=1000
def Dep (S:Ts):Nat->Str->Prop
 |0,z=>qb8 S z=[]
 |n+1,z=>∀y∈qb8 S z,Dep S n y
def wbn (n:Nat) (K:Frag) (d:Ad):Sp:=fun vs H Q E=>∃(t:Addr) (S:Ts) (x:V),vs=[.ref t,x]/\qcj d H t S/\Slim S/\qco K H x/\(∀e,who S x=some e->Dep S n e.n/\∀l zs H',qb0 H H'->H l=none->H' l=some (.lst (zs.map V.str))->Ben S n e.n zs->Q (.ref l) H')/\(who S x=none->∀l,H l=none->E (.ref d.w01) none (upd H l (.lst [x])))
theorem kid_at {S:Ts} {y z:Str} (nd:(S.hl.map (·.n)).Nodup) (h:y∈qb8 S z):∃e,S.at y=some e/\e.n=y:=by
 obtain⟨e,he,rfl⟩:=mem_map.mp h
 exact⟨e,qev nd (mem_filter.mp he).1,rfl⟩
theorem flat_app (a b:List (Str × List Str)):flat (a++b)=flat a++flat b:=by unfold flat;rw [map_append,List.flatten_append]
theorem ben_step {P:Program} {w:World} {K:Frag} {mg:Str->Option Value} {base:Heap} {d:Ad} (T:Tx K mg d) (n:Nat) (spi:Sp) (IH:FnOk P w K mg base (My.CX1 P w) (3+n) d.w0z d.w0r ["self","name"] spi)
  (use:∀(t:Addr) (S:Ts) (z y:Str) (e:He) (H:Hp) (Q:VK) (E:XK),qcj d H t S->Slim S->Dep S n z->y∈qb8 S z->S.at y=some e->e.n=y->(∀l zs H',qb0 H H'->H l=none->H' l=some (.lst (zs.map V.str))->BenK S n y zs->Q (.ref l) H')->spi [.ref t,.str y] H Q E):
  FnOk P w K mg base (My.CX1 P w) (3+n+1) d.w0z d.w0r ["self","name"] (wbn n K d):=by
 refine okX T.w85 w2u (fun vs H Q E h=>?_) (fun cdv A outer s H vs Q E hr h=>?_)
 .obtain⟨t,S,x,rfl,_⟩:=h;rfl
 obtain⟨t,S,x,rfl,hT,hS,hx,q1,q2⟩:=h
 refine⟨_,(qa4 (qae (i:=2) w2u.nd rfl (Or.inl rfl) (qak (qa0 (pv 1) qa3)))
  (qa4 (qbl (qek rfl rfl) rfl (qc4 (qap (pv 0) T.w04 T.w2b ((w9y T).mono (by omega)) hr T.wb5 .nil qaq (qa0 (pv 1) qa3))) (qam (i:=3) w2u.nd rfl (Or.inl rfl)) (qa5 (qat (qcg PySem.F.plainAttrs_list PySem.F.slot_list_extend PySem.F.type_list_extend mt_extend (pv 2) (qa0 (qap (pv 0) T.w04 T.w0m IH hr T.w3b .nil qaq (qa0 (pv 3) qa3)) qa3)))))
  (qa5 (qaj (pv 2))))),?_⟩
 walk_at "d"
 refine qah (σ:=[some (.ref t),some (x),none,none]) rfl ?_
 have ct:=T.w04
 obtain⟨dx,ht⟩:=hT.1
 have nd:=hT.2.2.2.1
 walk_at "g"
 rename_i lt hlt
 have sl:=qa2 hlt (.lst [x])
 refine⟨t,S,x,rfl,hT.same sl,hx.same sl,fun e he=>?_,fun he=>q2 he lt hlt⟩
 obtain⟨hD,q⟩:=q1 e he
 obtain⟨z,rfl⟩:∃z,x=.str z:=by
  rcases hx with h|⟨_,nz⟩
  .exact h
  .rw [qdu nz] at he;cases he
 obtain⟨hme,rfl⟩:=qbm he
 intro lk ss H1 s1 hlk ek hp hs
 have eT:=s1 _ _ (qa1 (H:=H) (a:=lt) (o:=.lst [V.str e.n]))
 walk_at "g"
 have ntk:lk≠lt:=fun z=>by subst z;rw [qa1] at hlk;cases hlk
 refine qfa (xs:=ss.map V.str) (fun i σ H'=>∃(parts:List (Str × List Str)) (w:Option V),σ=[some (.ref t),some (.str e.n),some (.ref lt),w]/\parts.map (·.1)=ss.take i/\(∀p∈parts,BenK S n p.1 p.2)/\qb0 H H'/\H' lk=some (.lst (ss.map V.str))/\H' lt=some (.lst ((e.n :: flat parts).map V.str)))
  ⟨[],_,rfl,rfl,fun p hp=>absurd hp (by simp),sl.trans s1,ek,eT⟩ ?_ ?_ ?_
 .rintro i σ H' _ ⟨parts,w,_,_,_,_,ek',_⟩;exact SqL.of ek'
 .rintro i v σ H' hv ⟨parts,w,rfl,hps,hB,sm,ek',eT'⟩
  rw [getElem?_map] at hv
  obtain⟨y,hy,rfl⟩:=Option.map_eq_some_iff.mp hv
  have hyk:y∈qb8 S e.n:=hp.mem_iff.mp (mem_of_getElem? hy)
  obtain⟨ey,h1,h2⟩:=kid_at nd hyk
  have ht':=sm _ _ ht
  walk_at "g"
  refine use t S e.n y ey H' _ _ (hT.same sm) hS hD hyk h1 h2 fun l zs H2 s2 hl el hBy=>?_
  have eT2:=s2 _ _ eT'
  have hps2:(parts++ [(y,zs)]).map (·.1)=ss.take (i+1):=by rw [map_append,hps,take_add_one,hy];rfl
  have hB2:∀p∈parts++ [(y,zs)],BenK S n p.1 p.2:=fun p hp=>by
   rcases mem_append.mp hp with h|h
   .exact hB p h
   .have:=mem_singleton.mp h
    subst this;exact hBy
  have ef:flat (parts++ [(y,zs)])=flat parts++zs:=by rw [flat_app];congr 1;simp [flat]
  have hlen:=hS _ _ _ (benP_of (n:=n) (z:=e.n) (parts:=parts++ [(y,zs)]) (rest:=ss.drop (i+1)) (by rw [hps2,List.take_append_drop];exact hp) hB2)
  rw [ef,length_cons,length_append] at hlen
  walk_at "g"
  refine r_extend eT2 el (by rw [length_map,length_map,length_cons];show _<=16777216;omega) ?_
  walk_at "g"
  refine⟨parts++ [(y,zs)],_,rfl,hps2,hB2,qbe (sm.trans s2) hlt,by rw [qa9 ntk];exact s2 _ _ ek',?_⟩
  rw [ef,<-map_append];exact qa1
 .rintro σ H' ⟨parts,w,rfl,hps,hB,sm,ek',eT'⟩
  rw [length_map,take_length] at hps
  walk_at "g"
  exact q lt _ H' sm hlt eT' (ben_of (by rw [hps];exact hp) hB)
theorem web {P:Program} {w:World} {K:Frag} {mg:Str->Option Value} {base:Heap} {CX:CXT} {k:Nat} {f:Addr} {fd:FuncData} {ps:List Str}:FnOk P w K mg base CX k f fd ps (fun _ _ _ _=>False):=
 ⟨fun _ _ _ _ h=>h.elim,fun _ _ _ _ _ _ _ _ _ _ _ _ _ h=>h.elim⟩
theorem we4 {P:Program} {w:World} {K:Frag} {mg:Str->Option Value} {base:Heap} {d:Ad} (T:Tx K mg d):∀n:Nat,FnOk P w K mg base (My.CX1 P w) (3+n+1) d.w0z d.w0r ["self","name"] (wbn n K d)
 |0=>ben_step T 0 (fun _ _ _ _=>False) web fun t S z y e H Q E _ _ hD hy _ _ _=>by
  have:qb8 S z=[]:=hD
  rw [this] at hy;simp at hy
 |n+1=>ben_step T (n+1) (wbn n K d) (we4 T n) fun t S z y e H Q E hT hS hD hy h1 h2 q=>by
  refine⟨t,S,.str y,rfl,hT,hS,.inl ⟨y,rfl⟩,fun e' he'=>?_,fun he'=>?_⟩
  .have ee:e=e':=Option.some.inj (h1.symm.trans he')
   subst ee
   rw [h2]
   exact⟨hD y hy,fun l zs H' sm hl el hB=>q l zs H' sm hl el hB⟩
  .rw [show who S (.str y)=some e from h1] at he';cases he'
def w7d (K:Frag) (d:Ad):Sp:=wbn 12 K d
include T in
theorem w53:FnOk P w K mg base (My.CX1 P w) 16 d.w0z d.w0r ["self","name"] (w7d K d):=we4 T 12
def upS (S:Ts) (y:Str):Option Str:=(S.at y).bind fun e=>e.x.el
def anc (S:Ts):Nat->Str->Option Str
 |0,y=>some y
 |k+1,y=>(upS S y).bind (anc S k)
theorem qdn {S:Ts}:∀(i j:Nat) (y:Str),anc S (i+j) y=(anc S i y).bind (anc S j)
 |0,j,y=>by rw [Nat.zero_add];rfl
 |i+1,j,y=>by
  rw [show i+1+j=(i+j)+1 by omega]
  show (upS S y).bind (anc S (i+j))=((upS S y).bind (anc S i)).bind (anc S j)
  cases upS S y with
  |none=>rfl
  |some u=>exact qdn i j u
def WF (S:Ts):Prop:=(S.hl.map (·.n)).Nodup/\∀e∈S.hl,∃zs,LineOf S e.n zs
theorem up_of {S:Ts} {z:Str} {e:He} (h:S.at z=some e):upS S z=e.x.el:=by unfold upS;rw [h];rfl
theorem line_end {S:Ts} {z:Str} {zs:List Str} (h:LineOf S z zs):anc S zs.length z=none:=by
 induction h with
 |top h n=>show (upS S _).bind _=none;rw [up_of h,n];rfl
 |up h n r ih=>show (upS S _).bind _=none;rw [up_of h,n];exact ih
theorem no_cycle {S:Ts} (w:WF S) {k:Nat} {z:Str}:anc S (k+1) z≠some z:=by
 intro c
 cases hz:S.at z with
 |none=>
  have:anc S (k+1) z=none:=by show (upS S z).bind _=none;unfold upS;rw [hz];rfl
  rw [this] at c;cases c
 |some e=>
  obtain⟨zs,hl⟩:=w.2 e (qbm hz).1
  rw [(qbm hz).2] at hl
  have he:=line_end hl
  have rep:∀m,anc S (m*(k+1)) z=some z:=by
   intro m
   induction m with
   |zero=>rw [Nat.zero_mul];rfl
   |succ m ih=>rw [Nat.succ_mul,qdn,ih];exact c
  have h1:=rep zs.length
  have h2:zs.length*(k+1)=zs.length+zs.length*k:=by rw [Nat.mul_add,Nat.mul_one];omega
  rw [h2,qdn,he] at h1
  cases h1
theorem kid_up {S:Ts} (w:WF S) {y z:Str} (h:y∈qb8 S z):upS S y=some z:=by
 obtain⟨e,he,rfl⟩:=mem_map.mp h
 obtain⟨hm,hd⟩:=mem_filter.mp he
 unfold upS
 rw [qev w.1 hm]
 exact of_decide_eq_true hd
theorem kids_nodup {S:Ts} (w:WF S) (z:Str):(qb8 S z).Nodup:=by
 unfold qb8
 exact List.Nodup.sublist (List.Sublist.map _ List.filter_sublist) w.1
theorem ben_anc {S:Ts} (w:WF S):∀{n:Nat} {z:Str} {zs:List Str},BenP S n z zs->∀y∈zs,∃k,anc S k y=some z
 |0,z,_,⟨parts,rest,hp,rfl,hb⟩,y,hy=>by
  rcases mem_cons.mp hy with rfl|hy
  .exact⟨0,rfl⟩
  .obtain⟨l,hl,_⟩:=mem_flatten.mp hy
   obtain⟨p,hpp,_⟩:=mem_map.mp hl
   exact(hb p hpp).elim
 |n+1,z,_,⟨parts,rest,hp,rfl,hb⟩,y,hy=>by
  rcases mem_cons.mp hy with rfl|hy
  .exact⟨0,rfl⟩
  .obtain⟨l,hl,hyl⟩:=mem_flatten.mp hy
   obtain⟨p,hpp,rfl⟩:=mem_map.mp hl
   obtain⟨k,hk⟩:=ben_anc w (hb p hpp) y hyl
   have hu:=kid_up w (hp.mem_iff.mp (mem_append_left _ (mem_map.mpr ⟨p,hpp,rfl⟩)))
   exact⟨k+1,by rw [qdn,hk];show (upS S p.1).bind _=_;rw [hu];rfl⟩
theorem apart {S:Ts} (w:WF S) {p q z y:Str} {i j:Nat} (hp:upS S p=some z) (hq:upS S q=some z) (ne:p≠q) (hi:anc S i y=some p) (hj:anc S j y=some q) (le:i<=j):False:=by
 obtain⟨c,rfl⟩:=Nat.exists_eq_add_of_le le
 rw [qdn,hi] at hj
 have hj':anc S c p=some q:=hj
 cases c with
 |zero=>exact ne (Option.some.inj hj')
 |succ c=>
  have h1:(upS S p).bind (anc S c)=some q:=hj'
  rw [hp] at h1
  have h2:anc S c z=some q:=h1
  refine no_cycle w (k:=c) (z:=z) ?_
  rw [qdn,h2]
  show (upS S q).bind _=_
  rw [hq];rfl
theorem qel {S:Ts} (w:WF S) {z:Str}:∀{parts:List (Str × List Str)},(parts.map (·.1)).Nodup->(∀p∈parts,upS S p.1=some z)->(∀p∈parts,p.2.Nodup/\∀y∈p.2,∃k,anc S k y=some p.1)->(flat parts).Nodup
 | [],_,_,_=>nodup_nil
 |p :: r,nd,hu,hb=>by
  rw [map_cons,nodup_cons] at nd
  have ih:=qel w (z:=z) nd.2 (fun q hq=>hu q (mem_cons_of_mem _ hq)) fun q hq=>hb q (mem_cons_of_mem _ hq)
  show (p.2++flat r).Nodup
  rw [nodup_append]
  refine⟨(hb p (mem_cons_self ..)).1,ih,fun a ha b hbm e=>?_⟩
  subst e
  obtain⟨l,hl,hal⟩:=mem_flatten.mp hbm
  obtain⟨q,hq,rfl⟩:=mem_map.mp hl
  obtain⟨i,hi⟩:=(hb p (mem_cons_self ..)).2 a ha
  obtain⟨j,hj⟩:=(hb q (mem_cons_of_mem _ hq)).2 a hal
  have ne:p.1≠q.1:=fun z=>nd.1 (by rw [z];exact mem_map.mpr ⟨q,hq,rfl⟩)
  have up:=hu p (mem_cons_self ..)
  have uq:=hu q (mem_cons_of_mem _ hq)
  rcases Nat.le_total i j with h|h
  .exact apart w up uq ne hi hj h
  .exact apart w uq up ne.symm hj hi h
theorem qc3 {S:Ts} (w:WF S):∀{n:Nat} {z:Str} {zs:List Str},BenP S n z zs->zs.Nodup/\∀y∈zs,y=z\/y∈S.hl.map (·.n)
 |0,z,_,⟨parts,rest,hp,rfl,hb⟩=>by
  have:parts=[]:=by
   cases parts with
   |nil=>rfl
   |cons p r=>exact(hb p (mem_cons_self ..)).elim
  subst this
  exact⟨by simp [flat],fun y hy=> .inl (by simpa [flat] using hy)⟩
 |n+1,z,_,⟨parts,rest,hp,rfl,hb⟩=>by
  have kd:=kids_nodup w z
  have hk:∀p∈parts,p.1∈qb8 S z:=fun p h=>hp.mem_iff.mp (mem_append_left _ (mem_map.mpr ⟨p,h,rfl⟩))
  have hu:∀p∈parts,upS S p.1=some z:=fun p h=>kid_up w (hk p h)
  have hn:(parts.map (·.1)).Nodup:=(nodup_append.mp (hp.nodup_iff.mpr kd)).1
  have fl:=qel w (z:=z) hn hu fun p h=>⟨(qc3 w (hb p h)).1,ben_anc w (hb p h)⟩
  refine⟨nodup_cons.mpr ⟨fun hm=>?_,fl⟩,fun y hy=>?_⟩
  .obtain⟨l,hl,hal⟩:=mem_flatten.mp hm
   obtain⟨q,hq,rfl⟩:=mem_map.mp hl
   obtain⟨k,hk'⟩:=ben_anc w (hb q hq) z hal
   refine no_cycle w (k:=k) (z:=z) ?_
   rw [qdn,hk']
   show (upS S q.1).bind _=_
   rw [hu q hq];rfl
  .rcases mem_cons.mp hy with rfl|hy
   .exact .inl rfl
   .obtain⟨l,hl,hal⟩:=mem_flatten.mp hy
    obtain⟨q,hq,rfl⟩:=mem_map.mp hl
    have hq1:q.1∈S.hl.map (·.n):=by
     obtain⟨e,he,e1⟩:=mem_map.mp (hk q hq)
     rw [<-e1];exact mem_map.mpr ⟨e,(mem_filter.mp he).1,rfl⟩
    rcases(qc3 w (hb q hq)).2 y hal with rfl|h
    .exact .inr hq1
    .exact .inr h
theorem qfi {S:Ts} (w:WF S) (hz:S.hl.length<=60):Slim S:=fun n z zs h=>by
 obtain⟨nd,hm⟩:=qc3 w h
 have:=nd_le (m:=z :: S.hl.map (·.n)) nd fun y hy=>by
  rcases hm y hy with rfl|h
  .exact mem_cons_self ..
  .exact mem_cons_of_mem _ h
 rw [length_cons,length_map] at this
 omega
def qd1 (S:Ts) (y:Str):Pt:=match S.at y with
 |some e=>⟨e.x.pa,e.x.kp,e.x.fp⟩
 |none=>⟨0, [],noF⟩
theorem qdw {S:Ts} {y:Str} {e:He} (h:S.at y=some e):qd1 S y=⟨e.x.pa,e.x.kp,e.x.fp⟩:=by unfold qd1;rw [h]
def qe4 (S:Ts):Prop:=S.ws.length<=100/\∀e∈S.hl,∀z,e.x.fp z≠none->z∈S.ws
def w3t (K:Frag) (d:Ad):Sp:=fun vs H Q E=>∃(t:Addr) (S:Ts) (x:V),vs=[.ref t,x]/\qcj d H t S/\WF S/\qe4 S/\qco K H x/\
 (∀e,who S x=some e->Dep S 12 e.n/\∀l zs k' H',qb0 H H'->H l=none->H' l=some (.dK k')->Ben S 12 e.n zs->AD k' (qd8 (zs.map (qd1 S)))->Q (.ref l) H')/\(who S x=none->∀l,H l=none->E (.ref d.w01) none (upd H l (.lst [x])))
include T in
theorem w1m:FnOk P w K mg base (My.CX1 P w) 17 d.w0w d.w0p ["self","name"] (w3t K d):=by
 refine okX T.w40 w3p (fun vs H Q E h=>?_) (fun cdv A outer s H vs Q E hr h=>?_)
 .obtain⟨t,S,x,rfl,_⟩:=h;rfl
 obtain⟨t,S,x,rfl,hT,hW,hO,hx,q1,q2⟩:=h
 refine⟨_,(qa5 (qaj (qad ((wat T).mono (by decide)) hr rfl T.wc1 T.w8a.kp T.wc8 .nil qav (qa0 (qdk (caps:=[0]) (cn:=["self"]) (qbw rfl rfl (by rfl) (by rfl) rfl ⟨rfl,trivial⟩ (by rfl) rfl ⟨⟨rfl,rfl,rfl,rfl,_,rfl⟩,trivial⟩ (by decide)) rfl (qc4 (qap (pv 0) T.w04 T.w0m ((w53 T).mono (by decide)) hr T.w3b .nil qaq (qa0 (pv 1) qa3))) (fun _ _ _ _=>qdh) (fun _ _ _ _=>(qbt (qck (qce hr) (qbt (pv 1) rfl) (pv 0) (fun _ _=>rfl)) rfl))) qa3)))),?_⟩
 walk_at "d"
 dsimp only [cxC]
 refine qah (σ:=[some (.ref t),some (x)]) rfl ?_
 have ct:=T.w04
 have ch:=T.w1e
 have nh:qar K d.w03 "houses":=T.w07
 have nf:qar K d.w08 "promise":=T.w0e
 obtain⟨dx,ht⟩:=hT.1
 have nd:=hT.2.2.2.1
 walk_at "g"
 refine⟨t,S,x,rfl,hT,qfi hW hT.2.2.2.2.1,hx,fun e he=>⟨(q1 e he).1,?_⟩,q2⟩
 obtain⟨hD,q⟩:=q1 e he
 intro lb zs H1 s1 hlb eb hB
 walk_at "g"
 have hT1:=hT.same s1
 obtain⟨⟨_,ht1⟩,hw,hh,_,hz,hE⟩:=hT1
 have hbn:=qc3 hW (Ben.part hB)
 have hzs:=qfi hW hz 12 _ _ (Ben.part hB)
 have hin:∀y∈zs,∃ey,S.at y=some ey/\ey∈S.hl:=fun y hy=>by
  have hy':y∈S.hl.map (·.n):=by
   rcases hbn.2 y hy with rfl|h
   .obtain⟨z,rfl⟩:∃z,x=.str z:=by
     rcases hx with h|⟨_,nz⟩
     .exact h
     .rw [qdu nz] at he;cases he
    exact mem_map.mpr ⟨e,(qbm he).1,rfl⟩
   .exact h
  obtain⟨ey,hm,rfl⟩:=mem_map.mp hy'
  exact⟨ey,qev nd hm,hm⟩
 intro C s0 H0 fp na hna
 refine c_by zs.length (fun i H'=>H'=upd H1 na (.lst (((zs.take i).map (qd1 S)).map fun u=> .ref u.a))) rfl ?_ ?_ ?_ ?_
 .rintro i H' hi rfl
  exact⟨_,.str zs[i],SqL.of (qa7 eb hna),by rw [getElem?_map,getElem?_eq_getElem hi];rfl⟩
 .rintro H' rfl
  exact⟨_,SqL.of (qa7 eb hna),by rw [length_map];exact Nat.le_refl _⟩
 .rintro i H' v H'' hi rfl ⟨rfl,hy⟩
  have hv:=hy _ (SqL.of (qa7 eb hna))
  rw [getElem?_map,getElem?_eq_getElem hi] at hv
  cases hv
  obtain⟨ey,h1,hm⟩:=hin _ (getElem_mem hi)
  obtain⟨⟨dy,hya⟩,_⟩:=hE ey hm
  walk_at "g"
  refine r_dgO (h:=ey.a) (rd_new (.inl hh) hna) (by rw [qd2,h1];rfl) ?_
  walk_at "g"
  rw [qbq,take_add_one,getElem?_eq_getElem hi]
  congr 2
  simp only [Option.toList_some,map_append,map_cons,List.map_nil,qdw h1]
 rintro H' rfl
 rw [take_length]
 have s2:=qa2 hna (.lst ((zs.map (qd1 S)).map fun u=>V.ref u.a))
 have eN:upd H1 na (.lst ((zs.map (qd1 S)).map fun u=>V.ref u.a)) na=some (.lst ((zs.map (qd1 S)).map fun u=>V.ref u.a)):=qa1
 walk_at "g"
 refine⟨na,zs.map (qd1 S),S.ws,rfl,SqL.of eN,hO.1,fun u hu=>?_,fun l k' H2 s3 hl el hA=>q l zs k' H2 ((s1.trans s2).trans s3) ((s1.trans s2).free hl) el hB hA⟩
 obtain⟨y,hy,rfl⟩:=mem_map.mp hu
 obtain⟨ey,h1,hm⟩:=hin y hy
 obtain⟨_,hp,hA,_⟩:=hE ey hm
 rw [qdw h1]
 exact⟨s2 _ _ hp,hA,hO.2 ey hm⟩
def w83 (K:Frag) (d:Ad):Sp:=fun vs H Q _=>∃(a:Addr) (z1 z2:Str),vs=[.ref a,.str z1,.str z2]/\z1.length<=100/\z2.length<=100/\H a=some (XS a d.w00 none)/\
 ∀dx H',H dx=none->dx≠a->H' a=some (XS a d.w00 (some dx))->H' dx=some (XD dx [("house",.str z1),("ware",.str z2)])->(∀b,b≠a->b≠dx->H' b=H b)->Q .non H'
theorem len_app (x y:Str):(x++y).length=x.length+y.length:=by
 show (x.cps++y.cps).size=x.cps.size+y.cps.size
 simp
section
local macro_rules | `(tactic| walk_at "sp") => `(tactic| first
 |(with_reducible first|refine r_fmt ?_|refine r_join ?_|refine r_part0 ?_|refine r_part1 ?_|refine r_rI ?_|refine r_xi ?_|refine r_sxf ?_|refine r_txf ?_|refine r_exs ?_) |((with_reducible refine r_szS ?z ?_);(case z=>first|(show _<=16777216;omega) |(simp only [len_app];show _<=16777216;omega))))
include T in
theorem w7z:FnOk P w K mg base CX0 1 d.w45 d.w39 ["self","house","ware"] (w83 K d):=by
 refine T.w8w.ok w7y (fun vs H Q E h=>?_) (fun cdv A outer s H vs Q E hr h=>?_)
 .obtain⟨a,z1,z2,rfl,_⟩:=h;rfl
 obtain⟨a,z1,z2,rfl,l1,l2,ha,q⟩:=h
 refine⟨_,(qa4 (qat (pe_xinit T.w71 T.w2p rfl T.w3x (qa0 (pv 0) (qa0 (pe_join (My.PJ.cons qb1 (My.PJ.cons (pe_fmt (pv 1)) (My.PJ.cons qb1 (My.PJ.cons (pe_fmt (pv 2)) My.PJ.nil))))) qa3))))
  (qa4 (ps_xf (pv 0) (pv 1))
  (qa5 (ps_xf (pv 0) (pv 2))))),?_⟩
 walk_at "d"
 refine qah (σ:=[some (.ref a),some (.str z1),some (.str z2)]) rfl ?_
 have e0:Str.empty.length=0:=by decide
 have e1:(Str.ofString "too much is promised at ").length=24:=by decide
 have e2:(Str.ofString " in ").length=4:=by decide
 walk_at "g"
 refine⟨a,none,_,rfl,(show 1<=16777216 by decide),ha,?_⟩
 walk_at "g"
 refine r_xf0 T.w14 T.weu ha fun dx hd ne=>?_
 walk_at "g"
 refine r_xf1 (dx:=dx) (fs:=[(_,_)]) T.w14 T.wet qa1 (by rw [qa9 ne];exact qa1) (by show 1 < 1000;decide) ?_
 walk_at "g"
 refine q dx _ hd ne ?_ ?_ ?_
 .rw [qa9 (Ne.symm ne)];exact qa1
 .rw [qa1];rfl
 .intro b h1 h2
  rw [qa9 h2,qa9 h1,qa9 h2]
def NoP (d:Ad) (H:Hp) (z1 z2:Str) (E:XK):Prop:=∀dx H',qb0 H H'->H dx=none->H' dx=some (XD dx [("house",.str z1),("ware",.str z2)])->E (.ref d.w00) (some dx) H'
theorem NoP.same {d:Ad} {H H':Hp} {z1 z2:Str} {E:XK} (h:NoP d H z1 z2 E) (s:qb0 H H'):NoP d H' z1 z2 E:=fun dx H2 s2 hd e=>h dx H2 (s.trans s2) (s.free hd) e
def w6m (K:Frag) (d:Ad):Sp:=fun vs H Q E=>∃(x:Str) (a b:Addr) (ka kb:List (Key × V)) (f g:Str->Option Int),vs=[.str x,.ref a,.ref b]/\Rd H a (.dK ka)/\Rd H b (.dK kb)/\AD ka f/\AD kb g/\ka.length < 64/\x.length<=100/\(∀z,f z≠none->z.length<=100)/\
 ((∀y,¬qf0 f g y)->∀H',qb0 H H'->Q .non H')/\∀z,qf0 f g z->(∀y,qf0 f g y->leS z y)->NoP d H x z E
local macro_rules | `(tactic| walk_at "sp") => `(tactic| (with_reducible refine r_rI ?_))
include T in
theorem w1z:FnOk P w K mg base (My.CX1 P w) 3 d.w2f d.w24 ["name","promises","cap"] (w6m K d):=by
 refine okX T.w1f w3l (fun vs H Q E h=>?_) (fun cdv A outer s H vs Q E hr h=>?_)
 .obtain⟨x,a,b,ka,kb,f,g,rfl,_⟩:=h;rfl
 obtain⟨x,a,b,ka,kb,f,g,rfl,ha,hb,hf,hg,hz,hx,hl,q1,q2⟩:=h
 refine⟨_,(qa4 (qae (i:=3) w3l.nd rfl (Or.inl rfl) (qad ((wcq T).mono (by decide)) hr rfl T.wdn T.wbu.kp T.wdr .nil qav (qa0 (pv 1) (qa0 (pv 2) qa3))))
  (qa5 (qb2 (qai qdr (pv 3) qdi (qau _)) (qa5 (ps_raiseI rfl T.w71 ((w7z T).mono (by decide)) hr T.w98 rfl T.w7o qaq (qa0 (pv 0) (qa0 (pv 3) qa3)))) qag))),?_⟩
 walk_at "d"
 refine qah (σ:=[some (.str x),some (.ref a),some (.ref b),none]) rfl ?_
 walk_at "g"
 refine⟨a,b,ka,kb,f,g,rfl,ha,hb,hf,hg,hz,fun H1 s1 hn=>?_,fun z H1 s1 hv hle=>?_⟩
 .walk_at "g"
  exact q1 hn _ s1
 .have hzl:=hl z hv.1
  walk_at "g"
  rename_i p hp
  refine⟨p,x,z,rfl,hx,hzl,qa1,fun dx H' hd ne ha hx rest=>⟨rfl,some dx,ha,?_⟩⟩
  rw [qa9 ne] at hd
  refine q2 z hv hle dx _ (fun b o e=>?_) (s1.free hd) (by rw [qcy ne];exact hx)
  have e1:=s1 _ _ e
  have h:b≠p:=qa8 e1 hp
  rw [qcy h,rest b h (qa8 e1 hd),qa9 h];exact e1
def Fine (S:Ts) (fm:Str->Option Int) (y:Str):Prop:=∃e bs,S.at y=some e/\Ben S 12 y bs/\∀v,¬qf0 (qdo (qd8 (bs.map (qd1 S))) fm) e.x.fc v
def w5z (K:Frag) (d:Ad):Sp:=fun vs H Q E=>∃(t lb m:Addr) (S:Ts) (zs:List Str) (km:List (Key × V)) (fm:Str->Option Int),vs=[.ref t,.ref lb,.ref m]/\qcj d H t S/\WF S/\qe4 S/\SqL K H lb (zs.map V.str)/\H m=some (.dK km)/\AD km fm/\S.ws.length<=50/\(∀z∈S.ws,z.length<=100)/\(∀z,fm z≠none->z∈S.ws)/\
 (∀y∈zs,y.length<=100/\Dep S 12 y/\∃e,S.at y=some e)/\((∀y∈zs,Fine S fm y)->∀H',qb0 H H'->Q .non H')/\
 ∀(i:Nat) (y:Str) (e:He) (bs:List Str) (z:Str),zs[i]?=some y->S.at y=some e->Ben S 12 y bs->qf0 (qdo (qd8 (bs.map (qd1 S))) fm) e.x.fc z->(∀v,qf0 (qdo (qd8 (bs.map (qd1 S))) fm) e.x.fc v->leS z v)->(∀(j:Nat) (y':Str),j < i->zs[j]?=some y'->Fine S fm y')->NoP d H y z E
include T in
theorem w36:FnOk P w K mg base (My.CX1 P w) 18 d.w1y d.w1x ["self","names","more"] (w5z K d):=by
 refine okX T.w6k w37 (fun vs H Q E h=>?_) (fun cdv A outer s H vs Q E hr h=>?_)
 .obtain⟨t,lb,m,S,zs,km,fm,rfl,_⟩:=h;rfl
 obtain⟨t,lb,m,S,zs,km,fm,rfl,hT,hW,hO,hL,hm,hA,hws,hw100,hfm,hy,q1,q2⟩:=h
 refine⟨_,(qa5 (qbl (qek rfl rfl) rfl (qc4 (pv 1)) (qam (i:=3) w37.nd rfl (Or.inl rfl)) (qa5 (qat (qc8 ((w1z T).mono (by decide)) hr rfl T.w2d T.w1f.kp T.w2i .nil qaq (qa0 (pv 3) (qa0 (qad ((wbj T).mono (by decide)) hr rfl T.wcu T.wb1.kp T.wci .nil qav (qa0 (qap (pv 0) T.w04 T.w09 ((w1m T).mono (by decide)) hr T.w1r .nil qaq (qa0 (pv 3) qa3)) (qa0 (pv 2) qa3))) (qa0 (qbt (qck (qce hr) (qbt (pv 0) rfl) (pv 3) (fun _ _=>rfl)) rfl) qa3)))))))),?_⟩
 walk_at "d"
 refine qah (σ:=[some (.ref t),some (.ref lb),some (.ref m),none]) rfl ?_
 have ct:=T.w04
 have ch:=T.w1e
 have nh:qar K d.w03 "houses":=T.w07
 have nf:qar K d.w08 "cap":=T.w0s
 walk_at "g"
 refine qfa (xs:=zs.map V.str) (fun i σ H'=>qb0 H H'/\(∃w,σ=[some (.ref t),some (.ref lb),some (.ref m),w])/\∀(j:Nat) (y':Str),j < i->zs[j]?=some y'->Fine S fm y') ⟨qb0.refl _,⟨_,rfl⟩,fun j y' h=>absurd h (by omega)⟩ ?_ ?_ ?_
 .rintro i σ H' _ ⟨sm,_⟩;exact sm.seq hL
 .rintro i v σ H' hv ⟨sm,⟨w,rfl⟩,hall⟩
  rw [getElem?_map] at hv
  obtain⟨y,hyi,rfl⟩:=Option.map_eq_some_iff.mp hv
  obtain⟨hyl,hD,e,h1⟩:=hy y (mem_of_getElem? hyi)
  obtain⟨dx,ht⟩:=(hT.same sm).1
  walk_at "g"
  have sup:∀bs:List Str,(∀b∈bs,∃eb,S.at b=some eb/\eb∈S.hl)->∀z,qd8 (bs.map (qd1 S)) z≠none->z∈S.ws:=fun bs hbs=>by
   refine sum_sup (fun u hu z hz=>?_) noF (fun z hz=>absurd rfl hz)
   obtain⟨b,hb1,rfl⟩:=mem_map.mp hu
   obtain⟨eb,h3,h4⟩:=hbs b hb1
   rw [qdw h3] at hz
   exact hO.2 eb h4 z hz
  refine⟨t,S,.str y,rfl,hT.same sm,hW,hO,.inl ⟨y,rfl⟩,fun e' he'=>?_,fun hn=>?_⟩
  .have ee:e=e':=Option.some.inj (h1.symm.trans he')
   subst ee
   have hme:=qbm h1
   rw [hme.2]
   refine⟨hD,fun l bs k' H2 s2 hl el hB hA2=>?_⟩
   have hbs:∀b∈bs,∃eb,S.at b=some eb/\eb∈S.hl:=fun b hb1=>by
    have hb2:b∈S.hl.map (·.n):=by
     rcases(qc3 hW (Ben.part hB)).2 b hb1 with rfl|h
     .exact mem_map.mpr ⟨e,hme.1,hme.2⟩
     .exact h
    obtain⟨eb,h3,rfl⟩:=mem_map.mp hb2
    exact⟨eb,qev hW.1 h3,h3⟩
   have l1:=hA2.le (sup bs hbs)
   have l2:=hA.le hfm
   walk_at "g"
   refine⟨l,m,k',km,_,fm,rfl,.inl el,(sm.trans s2) _ _ hm,hA2,hA,by omega,by omega,fun lx kx H3 s3 hlx elx hA3=>?_⟩
   have sx:=(sm.trans s2).trans s3
   obtain⟨⟨dx3,ht3⟩,_,hh3,_,_,hE3⟩:=hT.same sx
   obtain⟨⟨dh,ho⟩,_,_,hc,hcA⟩:=hE3 e hme.1
   walk_at "g"
   refine r_dgO (h:=e.a) (.inl hh3) (by rw [qd2,h1];rfl) ?_
   walk_at "g"
   have l3:=hA3.le (ws:=S.ws) (qfw (sup bs hbs) hfm)
   refine⟨y,lx,e.x.ca,kx,e.x.kc,_,e.x.fc,rfl,.inl elx,.inl hc,hA3,hcA,by omega,hyl,fun z hz=>hw100 z (qfw (sup bs hbs) hfm z hz),fun hn H4 s4=>?_,fun z hv hle=>?_⟩
   .refine⟨sx.trans s4,⟨_,rfl⟩,fun j y' hj hy'=>?_⟩
    by_cases c:j=i
    .subst c
     rw [hyi] at hy'
     cases hy'
     exact⟨e,bs,h1,hB,hn⟩
    .exact hall j y' (by omega) hy'
   .exact(q2 i y e bs z hyi h1 hB hv hle hall).same sx
  .rw [show who S (.str y)=some e from h1] at hn;cases hn
 .rintro σ H' ⟨sm,⟨w,rfl⟩,hall⟩
  rw [length_map] at hall
  walk_at "g"
  refine q1 (fun y hy=>?_) _ sm
  obtain⟨j,hj,e⟩:=mem_iff_getElem.mp hy
  exact hall j y hj (by rw [getElem?_eq_getElem hj,e])
end
def wak (K:Frag) (d:Ad):Sp:=fun vs H Q _=>∃i:Int,vs=[.int i]/\Q (.bl true) H
def w74 (K:Frag) (d:Ad):Sp:=fun vs H Q _=>∃i a b:Int,vs=[.int i,.int a,.int b]/\a<=i/\i<=b/\Q (.bl true) H
def w9l (K:Frag) (d:Ad):Sp:=fun vs H Q _=>∃i:Int,vs=[.int i]/\0<=i/\i<=10^30/\Q (.bl true) H
include T in
theorem waw:FnOk P w K mg base CX0 1 d.w6n d.w5o ["thing"] (wak K d):=by
 refine T.w87.ok wav (fun vs H Q E h=>?_) (fun cdv A outer s H vs Q E hr h=>?_)
 .obtain⟨i,rfl,_⟩:=h;rfl
 obtain⟨i,rfl,q⟩:=h
 refine⟨_,(qa5 (qaj (pe_and (qac qby rfl T.w06 PyProof.Rows.boot_isinstance (qa0 (pv 0) (qa0 (qcl (v:=.ty "int") rfl T.wf7 PyProof.Rows.boot_int rfl) qa3))) (pe_one (pe_not (qac qby rfl T.w06 PyProof.Rows.boot_isinstance (qa0 (pv 0) (qa0 (qcl (v:=.ty "bool") rfl T.wez PyProof.Rows.boot_bool rfl) qa3)))))))),?_⟩
 walk_at "d"
 refine qah (σ:=[some (.int i)]) rfl ?_
 walk_at "g"
 exact q
include T in
theorem w4c:FnOk P w K mg base CX0 2 d.w32 d.w2e ["thing","least","most"] (w74 K d):=by
 refine T.w2m.ok w76 (fun vs H Q E h=>?_) (fun cdv A outer s H vs Q E hr h=>?_)
 .obtain⟨i,a,b,rfl,_⟩:=h;rfl
 obtain⟨i,a,b,rfl,h1,h2,q⟩:=h
 refine⟨_,(qa5 (qaj (pe_and (qad ((waw T).mono (by decide)) hr rfl T.wby T.w87.kp T.wc0 .nil qav (qa0 (pv 0) qa3)) (pe_one (pe_chain op_le op_le (pv 1) (pv 0) (pv 2)))))),?_⟩
 walk_at "d"
 refine qah (σ:=[some (.int i),some (.int a),some (.int b)]) rfl ?_
 walk_at "g"
 refine⟨i,rfl,?_⟩
 walk_at "g"
 rw [decide_eq_true h2]
 exact q
include T in
theorem w9t:FnOk P w K mg base CX0 3 d.w5v d.w4g ["thing"] (w9l K d):=by
 refine T.w7k.ok w9k (fun vs H Q E h=>?_) (fun cdv A outer s H vs Q E hr h=>?_)
 .obtain⟨i,rfl,_⟩:=h;rfl
 obtain⟨i,rfl,h1,h2,q⟩:=h
 refine⟨_,(qa5 (qaj (qad ((w4c T).mono (by decide)) hr rfl T.w4x T.w2m.kp T.w56 .nil qav (qa0 (pv 0) (qa0 qaa (qa0 (qal op_pow qaa qaa) qa3)))))),?_⟩
 walk_at "d"
 refine qah (σ:=[some (.int i)]) rfl ?_
 walk_at "g"
 refine⟨i,0,_,rfl,h1,?_,?_⟩
 .exact h2
 walk_at "g"
 exact q
theorem inV_str {z:Str} {ws:List Str} (h:z∈ws):inV (.str z) (ws.map V.str)=true:=by
 unfold inV
 rw [List.any_eq_true]
 exact⟨.str z,mem_map.mpr ⟨z,h,rfl⟩,by simp [eqV]⟩
theorem r_notInT {K:Frag} {H:Hp} {Q:VK} {p:Addr} {z:Str} {ws:List Str} (hS:SqL K H p (ws.map V.str)) (h:z∈ws) (q:Q (.bl false) H):rIn K true (.str z) (.ref p) H Q:=by
 refine⟨p,_,rfl,.inl hS,rfl,?_,?_⟩
 .rw [all_eq_true]
  intro x hx
  obtain⟨y,_,rfl⟩:=mem_map.mp hx
  rfl
 .rw [inV_str h];exact q
def w8r (K:Frag) (d:Ad):Sp:=fun vs H Q _=>∃(a w:Addr) (k:List (Key × V)) (f:Str->Option Int) (ws:List Str),vs=[.ref a,.ref w]/\H a=some (.dK k)/\AD k f/\k.length<=1000/\H w=some (.lst (ws.map V.str))/\(∀z n,f z=some n->z∈ws/\0<=n/\n<=10^30)/\
 ∀l k' H',qb0 H H'->H l=none->H' l=some (.dK k')->AD k' (qbz f)->Q (.ref l) H'
include T in
theorem w66:FnOk P w K mg base (My.CX1 P w) 4 d.w4k d.w42 ["handed","wares"] (w8r K d):=by
 refine okX T.w4w w3y (fun vs H Q E h=>?_) (fun cdv A outer s H vs Q E hr h=>?_)
 .obtain⟨a,w,k,f,ws,rfl,_⟩:=h;rfl
 obtain⟨a,w,kvs,f,ws,rfl,ha,hA,hz,hw,hf,q⟩:=h
 refine⟨_,(qa4 (qb2 (qcd (qbc (qac qby rfl T.w06 PyProof.Rows.boot_isinstance (qa0 (pv 0) (qa0 (qcl (v:=.ty "dict") rfl T.w8f PyProof.Rows.boot_dict rfl) qa3))))) (qa5 (qbp rfl T.w8c rfl T.w6h qaq (qa0 qb1 qa3))) qag)
  (qa4 (ps_thA (qbl (qek rfl rfl) rfl (qeh (pv 0)) (qam (i:=2) w3y.nd rfl (Or.inl rfl)) (qa5 (qb2 (PW.pt (qe6 (qcd (qbc (qac qby rfl T.w06 PyProof.Rows.boot_isinstance (qa0 (pv 2) (qa0 (qcl (v:=.ty "str") rfl T.wcv PyProof.Rows.boot_str rfl) qa3))))) (qdg (qai qc2 (pv 2) (pv 1) (by rfl))))) (qa5 (qbp rfl T.wbi rfl T.w94 qaq (qa0 qb1 qa3))) qag))))
  (qa4 (ps_thA (qbl (qek rfl rfl) rfl (qeh (pv 0)) (qam (i:=3) w3y.nd rfl (Or.inl rfl)) (qa5 (qb2 (qcd (qbc (qad ((w9t T).mono (by decide)) hr rfl T.waf T.w7k.kp T.wao .nil qav (qa0 (qck (qce hr) (pv 0) (pv 3) (fun _ _=>rfl)) qa3)))) (qa5 (qbp rfl T.w8c rfl T.w6h qaq (qa0 qb1 qa3))) qag))))
  (qa5 (qaj (qad ((w7j T).mono (by decide)) hr rfl T.w82 T.w5i.kp T.w7x .nil qav (qa0 (pv 0) qa3))))))),?_⟩
 walk_at "d"
 refine qah (σ:=[some (.ref a),some (.ref w),none,none]) rfl ?_
 walk_at "g"
 refine r_itD ha fun o=>?_
 have hwa:w≠a:=ne_of hw ha (by intro z;cases z)
 refine f_dict (fun i σ H'=>H'=upd H a (.frz o (.dK kvs))/\∃w2 w3,σ=[some (.ref a),some (.ref w),w2,w3]) ⟨rfl,_,_,rfl⟩ ?_ ?_ ?_
 .rintro i σ H' _ ⟨rfl,_⟩;exact qa1
 .rintro i k v σ H' hk ⟨rfl,w2,w3,rfl⟩
  obtain⟨z,n,rfl,rfl,hfz,hzi⟩:=hA.at hk
  have hw':upd H a (.frz o (.dK kvs)) w=some (.lst (ws.map V.str)):=by rw [qa9 hwa];exact hw
  show gName _ (.str z) _ _ _
  walk_at "g"
  refine r_notInT (SqL.of hw') (hf z n hfz).1 ?_
  walk_at "g"
  exact⟨rfl,_,_,rfl⟩
 .rintro σ H' ⟨rfl,w2,w3,rfl⟩
  refine r_thNx (thaw1 qa1 (qdb ha)) ?_
  have s2:=qcp ha (sb_frz (o:=o) ha)
  have ha2:upd (upd H a (.frz o (.dK kvs))) a (.dK kvs) a=some (.dK kvs):=qa1
  generalize upd (upd H a (.frz o (.dK kvs))) a (.dK kvs)=H2 at*
  walk_at "g"
  refine r_itD ha2 fun o2=>?_
  refine f_dict (fun i σ H'=>H'=upd H2 a (.frz o2 (.dK kvs))/\∃w3,σ=[some (.ref a),some (.ref w),w2,w3]) ⟨rfl,_,rfl⟩ ?_ ?_ ?_
  .rintro i σ H' _ ⟨rfl,_⟩;exact qa1
  .rintro i k v σ H' hk ⟨rfl,w3,rfl⟩
   obtain⟨z,n,rfl,rfl,hfz,hzi⟩:=hA.at hk
   have hRd:Rd (upd H2 a (.frz o2 (.dK kvs))) a (.dK kvs):=.inr ⟨o2,qa1⟩
   show gName _ (.str z) _ _ _
   walk_at "g"
   refine⟨n,rfl,(hf z n hfz).2.1,(hf z n hfz).2.2,?_⟩
   walk_at "g"
   exact⟨rfl,_,rfl⟩
  .rintro σ H' ⟨rfl,w3,rfl⟩
   refine r_thNx (thaw1 qa1 ?_) ?_
   .exact qdb ha
   have s3:=qcp ha2 (sb_frz (o:=o2) ha2)
   have ha3:upd (upd H2 a (.frz o2 (.dK kvs))) a (.dK kvs) a=some (.dK kvs):=qa1
   generalize upd (upd H2 a (.frz o2 (.dK kvs))) a (.dK kvs)=H3 at*
   walk_at "g"
   refine⟨a,kvs,f,rfl,ha3,hA,hz,fun l k' H4 s4 hl el hA4=>?_⟩
   walk_at "g"
   exact q l k' H4 ((s2.trans s3).trans s4) ((s2.trans s3).free hl) el hA4
def w8k (K:Frag) (d:Ad):Sp:=fun vs H Q _=>∃(x dx:Addr) (o:Ho),vs=[.ref x,eV o.el,.ref o.pa,.ref o.ca,.int o.w]/\H x=some (.ins d.w08 dx [])/\∀H',H' x=some (.ins d.w08 dx (fsH o))->SameBut x H H'->Q .non H'
include T in
theorem w8i:FnOk P w K mg base CX0 1 d.w4f d.w43 ["self","elder","promise","cap","weight"] (w8k K d):=by
 refine T.wa2.ok w95 (fun vs H Q E h=>?_) (fun cdv A outer s H vs Q E hr h=>?_)
 .obtain⟨x,dx,o,rfl,_⟩:=h;rfl
 obtain⟨x,dx,o,rfl,hx,q⟩:=h
 refine⟨_,(qa4 (qef (pv 0) (pv 1) rfl)
  (qa4 (qef (pv 0) (pv 2) rfl)
  (qa4 (qef (pv 0) (pv 3) rfl)
  (qa5 (qef (pv 0) (pv 4) rfl))))),?_⟩
 walk_at "d"
 refine qah (σ:=[some (.ref x),some (eV o.el),some (.ref o.pa),some (.ref o.ca),some (.int o.w)]) rfl ?_
 have cl:=T.w1e
 have n1:qar K d.w08 "elder":=T.w0j
 have n2:qar K d.w08 "promise":=T.w0e
 have n3:qar K d.w08 "cap":=T.w0s
 have n4:qar K d.w08 "weight":=T.w16
 walk_at "g"
 refine r_fsk qa1 cl n2 (by show 1 < 1000;decide) ?_
 walk_at "g"
 refine r_fsk qa1 cl n3 (by show 2 < 1000;decide) ?_
 walk_at "g"
 refine r_fsk qa1 cl n4 (by show 3 < 1000;decide) ?_
 walk_at "g"
 refine q _ (by rw [qa1];rfl) fun b u hb e=>?_
 rw [qa9 hb,qa9 hb,qa9 hb,qa9 hb]
 exact e
def w8m (K:Frag) (d:Ad):Sp:=fun vs H Q _=>∃(w a b:Addr) (el:Option Str) (ws:List Str) (ka kb:List (Key × V)) (f g:Str->Option Int) (wt:Int),vs=[.ref w,eV el,.ref a,.ref b,.int wt]/\H w=some (.lst (ws.map V.str))/\
 H a=some (.dK ka)/\AD ka f/\ka.length<=1000/\H b=some (.dK kb)/\AD kb g/\kb.length<=1000/\(∀z n,f z=some n->z∈ws/\0<=n/\n<=10^30)/\(∀z n,g z=some n->z∈ws/\0<=n/\n<=10^30)/\1<=wt/\wt<=1000/\
 ∀h o H',qb0 H H'->H h=none->H o.pa=none->H o.ca=none->HoAt d H' h o->o.el=el->o.w=wt->(∀z,o.fp z=qbz f z)->(∀z,o.fc z=qbz g z)->Q (.ref h) H'
include T in
theorem w65:FnOk P w K mg base (My.CX1 P w) 5 d.w4d d.w4a ["wares","elder","promise","cap","weight"] (w8m K d):=by
 refine okX T.w4v w3z (fun vs H Q E h=>?_) (fun cdv A outer s H vs Q E hr h=>?_)
 .obtain⟨w,a,b,el,ws,ka,kb,f,g,wt,rfl,_⟩:=h;rfl
 obtain⟨w,a,b,el,ws,ka,kb,f,g,wt,rfl,hw,ha,hA,hz,hb,hB,hz2,hf,hg,w0,w1,q⟩:=h
 refine⟨_,(qa4 (qae (i:=5) w3z.nd rfl (Or.inl rfl) (qc8 ((w66 T).mono (by decide)) hr rfl T.w6x T.w4w.kp T.w6w .nil qaq (qa0 (pv 2) (qa0 (pv 0) qa3))))
  (qa4 (qae (i:=6) w3z.nd rfl (Or.inl rfl) (qc8 ((w66 T).mono (by decide)) hr rfl T.w6x T.w4w.kp T.w6w .nil qaq (qa0 (pv 3) (qa0 (pv 0) qa3))))
  (qa4 (qb2 (qcd (qbc (qad ((w4c T).mono (by decide)) hr rfl T.w4x T.w2m.kp T.w56 .nil qav (qa0 (pv 4) (qa0 qaa (qa0 (qbi rfl T.w6f T.w0q) qa3)))))) (qa5 (qbp rfl T.wc3 rfl T.w86 qaq (qa0 qb1 qa3))) qag)
  (qa5 (qaj (pe_make T.w62 ((w8i T).mono (by decide)) hr rfl T.we7 T.wa9 .nil qav (qa0 (pv 1) (qa0 (pv 5) (qa0 (pv 6) (qa0 (pv 4) qa3)))))))))),?_⟩
 walk_at "d"
 refine qah (σ:=[some (.ref w),some (eV el),some (.ref a),some (.ref b),some (.int wt),none,none]) rfl ?_
 walk_at "g"
 refine⟨a,w,ka,f,ws,rfl,ha,hA,hz,hw,hf,fun lp kp H1 s1 hlp ep hAp=>?_⟩
 walk_at "g"
 refine⟨b,w,kb,g,ws,rfl,s1 _ _ hb,hB,hz2,s1 _ _ hw,hg,fun lc kc H2 s2 hlc ec hAc=>?_⟩
 walk_at "g"
 refine⟨wt,1,1000,rfl,w0,w1,?_⟩
 walk_at "g"
 intro x dx hx hdx ne
 have ep2:=s2 _ _ ep
 refine⟨x,dx,⟨el,lp,kp,qbz f,lc,kc,qbz g,wt⟩,rfl,qa1,fun H3 ex sb=>⟨rfl,?_⟩⟩
 have s3:qb0 H2 H3:=fun c o hc=>sb c o (qa8 hc hx) (by rw [qa9 (qa8 hc hx),qa9 (qa8 hc hdx)];exact hc)
 walk_at "g"
 exact q x ⟨el,lp,kp,qbz f,lc,kc,qbz g,wt⟩ H3 ((s1.trans s2).trans s3) ((s1.trans s2).free hx) hlp (s1.free hlc) ⟨⟨dx,ex⟩,s3 _ _ ep2,hAp,s3 _ _ ec,hAc⟩ rfl rfl (fun _=>rfl) fun _=>rfl
theorem qbe {H H':Hp} {a:Addr} {o:HO} (s:qb0 H H') (n:H a=none):qb0 H (upd H' a o):=fun b u e=>by rw [qa9 (qa8 e n)];exact s b u e
def isL (c:Nat):Bool:=decide (97<=c) && decide (c<=122)
theorem inL:∀c:Nat,c < 128->(!(Builtin.Str.occurrences (Str.ofString "abcdefghijklmnopqrstuvwxyz") ⟨#[c]⟩ 0 (Str.ofString "abcdefghijklmnopqrstuvwxyz").length 1).isEmpty)=isL c:=by decide+kernel
def qe2 (x:Str):List Nat:=x.cps.toList
def qcz (x:Str):Bool:=decide (1<=x.length) && decide (x.length<=8) && (qe2 x).all isL
theorem len_codes (x:Str):(qe2 x).length=x.length:=by simp [qe2,Str.length]
theorem qca {z:Str} (h:qcz z=true):1<=z.length/\z.length<=8/\∀c∈qe2 z,isL c=true:=by
 unfold qcz at h
 rw [Bool.and_eq_true,Bool.and_eq_true,all_eq_true] at h
 exact⟨of_decide_eq_true h.1.1,of_decide_eq_true h.1.2,h.2⟩
theorem isL_lt {c:Nat} (h:isL c=true):c < 128:=by
 unfold isL at h
 rw [Bool.and_eq_true] at h
 have:=of_decide_eq_true h.2
 omega
def wc9 (K:Frag) (d:Ad):Sp:=fun vs H Q _=>∃z,vs=[.str z]/\qcz z=true/\∀H',qb0 H H'->Q (.bl true) H'
include T in
theorem w8d:FnOk P w K mg base CX0 1 d.w7p d.w6i ["thing"] (wc9 K d):=by
 refine T.w7c.ok wc5 (fun vs H Q E h=>?_) (fun cdv A outer s H vs Q E hr h=>?_)
 .obtain⟨z,rfl,_⟩:=h;rfl
 obtain⟨z,rfl,hg,q⟩:=h
 obtain⟨h1,h8,hL⟩:=qca hg
 have lz:=len_codes z
 refine⟨_,(qa4 (qb2 (qcd (qbc (qac qby rfl T.w06 PyProof.Rows.boot_isinstance (qa0 (pv 0) (qa0 (qcl (v:=.ty "str") rfl T.wcv PyProof.Rows.boot_str rfl) qa3))))) (qa5 (qaj qej)) qag)
  (qa4 (qb2 (PW.pt (qe6 (qai op_lt (qac call_lenS rfl T.w1v PySem.boot_len (qa0 (pv 0) qa3)) qaa (qau _)) (qdg (qai qfn (qac call_lenS rfl T.w1v PySem.boot_len (qa0 (pv 0) qa3)) (qbi rfl T.w84 T.w1d) (qau _))))) (qa5 (qaj qej)) qag)
  (qa5 (qaj (qac (call_allB rfl) rfl T.wfc PyProof.Rows.boot_all (qa0 (qdk (caps:=[]) (cn:=[]) (qbw rfl rfl (by rfl) (by rfl) rfl trivial (by rfl) rfl trivial (by decide)) rfl (pi_str (pv 0)) (fun _ _ _ _=>qdh) (fun _ _ _ _=>(qdz op_inS (pv 0) (qbi rfl T.wd9 T.w4l) (by rfl)))) qa3)))))),?_⟩
 walk_at "d"
 try dsimp only [cxC]
 refine qah (σ:=[some (.str z)]) rfl ?_
 walk_at "g"
 intro C s0 H0 fp acc hacc
 refine c_by z.length (fun i H'=>H'=upd H acc (.lst (((qe2 z).take i).map fun c=>V.bl (isL c)))) (by simp) (fun i H' hi _=>hi) (fun H' _=>rfl) ?_ ?_
 .rintro i H' v H'' hi rfl ⟨rfl,c,hc,rfl⟩
  have hc':(qe2 z)[i]?=some c:=by unfold qe2;rw [Array.getElem?_toList];exact hc
  have c128:=isL_lt (hL c (mem_of_getElem? hc'))
  walk_at "g"
  rw [inL c c128,qbq]
  congr 2
  rw [take_add_one,hc',map_append]
  rfl
 .rintro H' rfl
  walk_at "g"
  have e1:((qe2 z).take z.length).map (fun c=>V.bl (isL c))=((qe2 z).map isL).map V.bl:=by
   rw [<-lz,take_length,map_map];rfl
  rw [e1]
  refine r_all (bs:=(qe2 z).map isL) (SqL.of qa1) ?_
  have e2:((qe2 z).map isL).all id=true:=by
   rw [List.all_map,all_eq_true]
   exact hL
  rw [e2]
  walk_at "g"
  exact q _ (qa2 hacc _)
def w8z (K:Frag) (d:Ad):Sp:=fun vs H Q _=>∃z,vs=[.str z]/\qcz z=true/\∀H',qb0 H H'->Q .non H'
include T in
theorem w69:FnOk P w K mg base (My.CX1 P w) 2 d.w50 d.w41 ["thing"] (w8z K d):=by
 refine okX T.w51 w8h (fun vs H Q E h=>?_) (fun cdv A outer s H vs Q E hr h=>?_)
 .obtain⟨z,rfl,_⟩:=h;rfl
 obtain⟨z,rfl,hg,q⟩:=h
 refine⟨_,(qa5 (qb2 (qcd (qbc (qad ((w8d T).mono (by decide)) hr rfl T.w9p T.w7c.kp T.wa4 .nil qav (qa0 (pv 0) qa3)))) (qa5 (qbp rfl T.wdq rfl T.wbh qaq (qa0 qb1 qa3))) qag)),?_⟩
 walk_at "d"
 refine qah (σ:=[some (.str z)]) rfl ?_
 walk_at "g"
 refine⟨z,rfl,hg,fun H' sm=>?_⟩
 walk_at "g"
 exact q _ sm
structure GoodT (ws:List Str):Prop where
 lo:1<=ws.length
 hi:ws.length<=6
 ok:∀z∈ws,qcz z=true
 nd:ws.Nodup
def w9z (K:Frag) (d:Ad):Sp:=fun vs H Q _=>∃(a:Addr) (ws:List Str),vs=[.ref a]/\H a=some (.lst (ws.map V.str))/\GoodT ws/\∀H',qb0 H H'->Q (.bl true) H'
include T in
theorem wa3:FnOk P w K mg base CX0 2 d.w5j d.w5a ["thing"] (w9z K d):=by
 refine T.w7u.ok w9b (fun vs H Q E h=>?_) (fun cdv A outer s H vs Q E hr h=>?_)
 .obtain⟨a,ws,rfl,_⟩:=h;rfl
 obtain⟨a,ws,rfl,ha,g,q⟩:=h
 have g1:=g.lo
 have g2:=g.hi
 have hl:(ws.map V.str).length=ws.length:=length_map _
 refine⟨_,(qa4 (qb2 (PW.pt (qe6 (qcd (qbc (qac qby rfl T.w06 PyProof.Rows.boot_isinstance (qa0 (pv 0) (qa0 (qcl (v:=.ty "list") rfl T.we0 PyProof.Rows.boot_list rfl) qa3))))) (qe6 (qai op_lt (qac qao rfl T.w1v PySem.boot_len (qa0 (pv 0) qa3)) qaa (qau _)) (qdg (qai qfn (qac qao rfl T.w1v PySem.boot_len (qa0 (pv 0) qa3)) (qbi rfl T.w9s T.w26) (qau _)))))) (qa5 (qaj qej)) qag)
  (qa5 (qaj (pe_and (qac (call_allB rfl) rfl T.wfc PyProof.Rows.boot_all (qa0 (qdk (caps:=[]) (cn:=[]) (qbw rfl rfl (by rfl) (by rfl) rfl trivial (by rfl) rfl trivial (by decide)) rfl (qc4 (pv 0)) (fun _ _ _ _=>qdh) (fun _ _ _ _=>(qad ((w8d T).mono (by decide)) hr rfl T.w9p T.w7c.kp T.wa4 .nil qav (qa0 (pv 0) qa3)))) qa3)) (pe_one (qdz qdl (qac call_lenT rfl T.w1v PySem.boot_len (qa0 (qc1 call_setT rfl T.wff PyProof.Rows.boot_set (qa0 (pv 0) qa3)) qa3)) (qac qao rfl T.w1v PySem.boot_len (qa0 (pv 0) qa3)) (qau _))))))),?_⟩
 walk_at "d"
 try dsimp only [cxC]
 refine qah (σ:=[some (.ref a)]) rfl ?_
 walk_at "g"
 intro C s0 H0 fp acc hacc
 refine c_by ws.length (fun i H'=>qb0 H H'/\H' acc=some (.lst ((List.replicate i true).map V.bl))) ⟨qa2 hacc _,qa1⟩ ?_ ?_ ?_ ?_
 .rintro i H' hi ⟨sm,_⟩
  exact⟨_,.str ws[i],SqL.of (sm _ _ ha),by rw [getElem?_map,getElem?_eq_getElem hi];rfl⟩
 .rintro H' ⟨sm,_⟩
  exact⟨_,SqL.of (sm _ _ ha),by rw [hl];exact Nat.le_refl _⟩
 .rintro i H' v H'' hi ⟨sm,ea⟩ ⟨rfl,hy⟩
  have hv:=hy _ (SqL.of (sm _ _ ha))
  rw [getElem?_map,getElem?_eq_getElem hi] at hv
  cases hv
  walk_at "g"
  refine⟨ws[i],rfl,g.ok _ (getElem_mem hi),fun H2 s2=>?_⟩
  refine⟨_,s2 _ _ ea,by rw [length_map,List.length_replicate];show _ < 16777216;omega,qbe (sm.trans s2) hacc,?_⟩
  rw [qa1,List.replicate_succ',map_append];rfl
 rintro H' ⟨sm,ea⟩
 walk_at "g"
 refine r_all (bs:=List.replicate ws.length true) (SqL.of ea) ?_
 have e2:(List.replicate ws.length true).all id=true:=by simp
 rw [e2]
 walk_at "g"
 refine r_setT (zs:=ws) (SqL.of (sm _ _ ha)) g.nd (by omega) fun c hc=>?_
 walk_at "g"
 refine r_lenT2 qa1 ?_
 walk_at "g"
 refine r_lenL (SqL.of (qa7 (sm _ _ ha) hc)) ?_
 walk_at "g"
 rw [hl,decide_eq_true rfl]
 exact q _ (sm.trans (qa2 hc _))
def Fin (ws:List Str) (f:Str->Option Int):Prop:=∀z n,f z=some n->z∈ws/\0<=n/\n<=10^30
theorem posF_some {f:Str->Option Int} {y:Str} {n:Int} (h:qbz f y=some n):f y=some n/\0 < n:=by
 unfold qbz at h
 cases e:f y with
 |none=>rw [e] at h;cases h
 |some m=>
  rw [e] at h
  by_cases c:0 < m
  .have h':some m=some n:=by simpa [c] using h
   cases h'
   exact⟨rfl,c⟩
  .exact absurd h (by simp [c])
theorem qd5 {ws:List Str} {f:Str->Option Int} (hf:Fin ws f) (y:Str):gN (qbz f) y=gN f y:=by
 unfold gN qbz
 cases e:f y with
 |none=>rfl
 |some m=>
  have:=(hf y m e).2.1
  by_cases c:0 < m
  .simp [c]
  .have z:m=0:=by omega
   subst z
   rfl
theorem pos_le {ws:List Str} {f g:Str->Option Int} (hg:Fin ws g) (h:∀y,gN f y<=gN g y):∀z n,qbz f z=some n->n<=gN (qbz g) z:=fun z n e=>by
 have e1:=(posF_some e).1
 have:=h z
 rw [qd5 hg]
 unfold gN at this ⊢
 rw [e1] at this
 exact this
theorem qeg {ws:List Str} {f:Str->Option Int} (hf:Fin ws f):∀z,qbz f z≠none->z∈ws:=fun z h=>by
 cases e:qbz f z with
 |none=>exact absurd e h
 |some n=>exact(hf z n (posF_some e).1).1
def w9q (K:Frag) (d:Ad):Sp:=fun vs H Q _=>∃(x dx w a b:Addr) (z:Str) (ws:List Str) (ka kb:List (Key × V)) (f g:Str->Option Int) (wt:Int),vs=[.ref x,.ref w,.str z,.ref a,.ref b,.int wt]/\H x=some (.ins d.w03 dx [])/\
 H w=some (.lst (ws.map V.str))/\GoodT ws/\qcz z=true/\H a=some (.dK ka)/\AD ka f/\ka.length<=1000/\H b=some (.dK kb)/\AD kb g/\kb.length<=1000/\Fin ws f/\Fin ws g/\1<=wt/\wt<=1000/\(∀y,gN f y<=gN g y)/\
 ∀(S:Ts) (e:He) H',SameBut x H H'->qcj d H' x S->H S.hs=none->H S.sw=none->H e.a=none->H e.x.pa=none->H e.x.ca=none->S.hl=[e]->e.n=z->e.x.el=none->e.x.w=wt->(∀y,e.x.fp y=qbz f y)->(∀y,e.x.fc y=qbz g y)->S.ws.Perm ws->PyProof.Rows.sortedS S.ws=true->Q .non H'
include T in
theorem w9e:FnOk P w K mg base (My.CX1 P w) 6 d.w5r d.w34 ["self","wares","name","promise","cap","weight"] (w9q K d):=by
 refine okDX T.wad w6t (fun vs H Q E h=>?_) (fun cdv A outer s H vs Q E hr h=>?_)
 .obtain⟨x,dx,w,a,b,z,ws,ka,kb,f,g,wt,rfl,_⟩:=h;rfl
 obtain⟨x,dx,w,a,b,z,ws,ka,kb,f,g,wt,rfl,hx,hw,gt,gz,ha,hA,za,hb,hB,zb,ff,fg,w0,w1,le,q⟩:=h
 have g2:=gt.hi
 refine⟨_,(qa4 (qb2 (qcd (qbc (qad ((wa3 T).mono (by decide)) hr rfl T.wap T.w7u.kp T.wb0 .nil qav (qa0 (pv 1) qa3)))) (qa5 (qbp rfl T.wbi rfl T.w94 qaq (qa0 qb1 qa3))) qag)
  (qa4 (qat (qc8 ((w69 T).mono (by decide)) hr rfl T.w6u T.w51.kp T.w72 .nil qaq (qa0 (pv 2) qa3)))
  (qa4 (qae (i:=6) w6t.nd rfl (Or.inl rfl) (qc8 ((w65 T).mono (by decide)) hr rfl T.w70 T.w4v.kp T.w6v .nil qaq (qa0 (pv 1) (qa0 qdi (qa0 (pv 3) (qa0 (pv 4) (qa0 (pv 5) qa3)))))))
  (qa4 (qat (qc8 ((w1z T).mono (by decide)) hr rfl T.w2d T.w1f.kp T.w2i .nil qaq (qa0 (pv 2) (qa0 (qbt (pv 6) rfl) (qa0 (qbt (pv 6) rfl) qa3)))))
  (qa4 (qef (pv 0) (qac qde rfl T.w5c PyProof.Rows.boot_sorted (qa0 (pv 1) qa3)) rfl)
  (qa5 (qef (pv 0) (pe_disp (pps_cons (pv 2) (pv 6) pps_nil) rfl rfl (by simp) (by decide)) rfl))))))),?_⟩
 walk_at "d"
 refine qah (σ:=[some (.ref x),some (.ref w),some (.str z),some (.ref a),some (.ref b),some (.int wt),none]) rfl ?_
 have ct:=T.w04
 have ch:=T.w1e
 have n1:qar K d.w03 "sorted_wares":=T.w0d
 have n2:qar K d.w03 "houses":=T.w07
 have n3:qar K d.w08 "promise":=T.w0e
 have n4:qar K d.w08 "cap":=T.w0s
 walk_at "g"
 refine⟨w,ws,rfl,hw,gt,fun H1 s1=>?_⟩
 walk_at "g"
 refine⟨z,rfl,gz,fun H2 s2=>?_⟩
 have t2:=s1.trans s2
 walk_at "g"
 refine⟨w,a,b,none,ws,ka,kb,f,g,wt,rfl,t2 _ _ hw,t2 _ _ ha,hA,za,t2 _ _ hb,hB,zb,ff,fg,w0,w1,fun h o H3 s3 nh np nc hO eel ew efp efc=>?_⟩
 obtain⟨⟨dh,ho⟩,hp,hpA,hc,hcA⟩:=id hO
 have efp':o.fp=qbz f:=funext efp
 have efc':o.fc=qbz g:=funext efc
 have lk:o.kp.length<=ws.length:=hpA.le (by rw [efp'];exact qeg ff)
 walk_at "g"
 refine⟨z,o.pa,o.ca,o.kp,o.kc,o.fp,o.fc,rfl,.inl hp,.inl hc,hpA,hcA,by omega,by have:=(qca gz).2.1;omega,fun y hy=>?_,fun _ H4 s4=>?_,fun y hv _=>?_⟩
 .rw [efp'] at hy
  have:=(qca (gt.ok y (qeg ff y hy))).2.1
  omega
 rotate_left
 .obtain⟨h1,h2⟩:=hv
  cases e:o.fp y with
  |none=>exact absurd e h1
  |some n=>
   have h3:=pos_le fg le y n (by rw [<-efp'];exact e)
   have h4:gN o.fp y=n:=by unfold gN;rw [e];rfl
   rw [efc'] at h2
   omega
 have t4:=(t2.trans s3).trans s4
 have hx4:=t4 _ _ hx
 have hO4:=hO.same s4
 walk_at "g"
 refine qfk (SqL.of (t4 _ _ hw)) (by omega) fun l ss hl hpm hs=>?_
 walk_at "g"
 rename_i p hpp
 rw [qbq]
 refine r_fsk (qa7 qa1 hpp) ct n2 (by show 1 < 1000;decide) ?_
 walk_at "g"
 have npx:p≠x:=fun e=>by subst e;rw [qa1] at hpp;cases hpp
 have np4':upd H4 l (.lst (ss.map V.str)) p=none:=by rw [qa9 npx] at hpp;exact hpp
 have nlx:x≠l:=qa8 hx4 hl
 have npl:p≠l:=fun e=>by subst e;rw [qa1] at np4';cases np4'
 have np4:H4 p=none:=by rw [qa9 npl] at np4';exact np4'
 have sF:∀b u,b≠x->H4 b=some u->upd (upd (upd (upd H4 l (.lst (ss.map V.str))) x (.ins d.w03 dx (qdp "sorted_wares" (V.ref l) []))) p (.dK [(Sum.inr z,V.ref h)])) x (.ins d.w03 dx (qdp "houses" (V.ref p) (qdp "sorted_wares" (V.ref l) []))) b=some u:=fun b u hb e=>by
  rw [qa9 hb,qa9 (qa8 e np4),qa9 hb,qa9 (qa8 e hl)];exact e
 obtain⟨⟨dh4,ho4⟩,hp4,hpA4,hc4,hcA4⟩:=hO4
 refine q ⟨l,ss,p, [⟨z,h,o⟩]⟩ ⟨z,h,o⟩ _ (fun b u hb e=>sF b u hb (t4 _ _ e)) ⟨⟨dx,by rw [qa1];rfl⟩,?_,?_,nodup_cons.mpr ⟨by simp,nodup_nil⟩,by show 1<=60;decide,fun e he=>?_⟩ (t4.free np4) (t4.free hl) (t2.free nh) (t2.free np) (t2.free nc) rfl rfl eel ew efp efc hpm hs
 .show upd _ _ _ l=_
  rw [qa9 nlx.symm,qa9 npl.symm,qa9 nlx.symm,qa1]
 .show upd _ _ _ p=_
  rw [qa9 npx,qa1]
  rfl
 .have e':e=⟨z,h,o⟩:=by simpa using he
  subst e'
  have n1:∀{b:Addr} {u:HO},H4 b=some u->u≠ .ins d.w03 dx []->b≠x:=fun e1 e2 e3=>by
   subst e3;rw [hx4] at e1;exact e2 (Option.some.inj e1).symm
  refine⟨⟨dh4,sF _ _ (n1 ho4 fun e=>?_) ho4⟩,sF _ _ (n1 hp4 fun e=>by cases e) hp4,hpA4,sF _ _ (n1 hc4 fun e=>by cases e) hc4,hcA4⟩
  have:=congrArg (fun u:HO=>match u with| .ins _ _ fs=>fs.length|_=>0) e
  simp [fsH] at this
inductive LnN (el:Nat->Nat):Nat->List Nat->Prop
 |top:LnN el 0 [0]
 |up {k:Nat} {l:List Nat} (k0:0 < k) (h:LnN el (el k) l):LnN el k (k :: l)
theorem LnN.uniq {el:Nat->Nat} {k:Nat} {l m:List Nat} (h:LnN el k l) (h':LnN el k m):l=m:=by
 induction h generalizing m with
 |top=>cases h' with
  |top=>rfl
  |up k0 _=>omega
 |up k0 h ih=>cases h' with
  |top=>omega
  |up _ h2=>rw [ih h2]
theorem LnN.self {el:Nat->Nat} {k:Nat} {l:List Nat} (h:LnN el k l):k∈l:=by
 cases h with
 |top=>exact mem_cons_self ..
 |up=>exact mem_cons_self ..
theorem LnN.zero {el:Nat->Nat} {k:Nat} {l:List Nat} (h:LnN el k l):0∈l:=by
 induction h with
 |top=>exact mem_cons_self ..
 |up _ _ ih=>exact mem_cons_of_mem _ ih
theorem LnN.tail {el:Nat->Nat} {k:Nat} {l:List Nat} (h:LnN el k l) {j:Nat} (hj:j∈l):∃p m,l=p++m/\LnN el j m:=by
 induction h with
 |top=>
  have:=mem_singleton.mp hj
  subst this
  exact⟨[], [0],rfl,.top⟩
 | @up k l k0 h ih=>
  rcases mem_cons.mp hj with e|e
  .subst e;exact⟨[],_,rfl,.up k0 h⟩
  .obtain⟨p,m,e1,e2⟩:=ih e
   exact⟨k :: p,m,by rw [e1];rfl,e2⟩
theorem LnN.nodup {el:Nat->Nat} {k:Nat} {l:List Nat} (h:LnN el k l):l.Nodup:=by
 induction h with
 |top=>exact nodup_cons.mpr ⟨by simp,nodup_nil⟩
 | @up k l k0 h ih=>
  refine nodup_cons.mpr ⟨fun hm=>?_,ih⟩
  obtain⟨p,m,e1,e2⟩:=h.tail hm
  have e3:=e2.uniq (.up k0 h)
  have:=congrArg List.length e1
  rw [e3,length_append,length_cons] at this
  omega
open Classical in
noncomputable def qa6 (el:Nat->Nat) (k:Nat):List Nat:=if h:∃l,LnN el k l then choose h else []
theorem qci {el:Nat->Nat} {k:Nat} {l:List Nat} (h:LnN el k l):qa6 el k=l:=by
 unfold qa6
 have hx:∃l,LnN el k l:=⟨l,h⟩
 rw [dif_pos hx]
 exact(Classical.choose_spec hx).uniq h
theorem qc0 (el:Nat->Nat):qa6 el 0=[0]:=qci .top
def Ac (el:Nat->Nat) (n:Nat):Prop:=∀k,k < n->∃l,LnN el k l/\∀j∈l,j < n
section
variable {el: Nat -> Nat} {n k: Nat}
theorem Ac.ln (ac:Ac el n) (kn:k < n):LnN el k (qa6 el k):=by
 obtain⟨l,h,_⟩:=ac k kn
 rw [qci h];exact h
theorem Ac.lt (ac:Ac el n) (kn:k < n):∀j∈qa6 el k,j < n:=by
 obtain⟨l,h,q⟩:=ac k kn
 rw [qci h];exact q
theorem Ac.up (ac:Ac el n) (k0:0 < k) (kn:k < n):qa6 el k=k :: qa6 el (el k):=by
 obtain⟨l,h,_⟩:=ac k kn
 rw [qci h]
 cases h with
 |top=>omega
 |up _ h2=>rw [qci h2]
theorem Ac.elt (ac:Ac el n) (k0:0 < k) (kn:k < n):el k < n:=by
 obtain⟨l,h,q⟩:=ac k kn
 cases h with
 |top=>omega
 |up _ h2=>exact q _ (mem_cons_of_mem _ h2.self)
theorem Ac.self (ac:Ac el n) (kn:k < n):k∈qa6 el k:=(ac.ln kn).self
theorem Ac.tl (ac:Ac el n) (kn:k < n) {j:Nat} (hj:j∈qa6 el k):∃p,qa6 el k=p++qa6 el j:=by
 obtain⟨p,m,e1,e2⟩:=(ac.ln kn).tail hj
 exact⟨p,by rw [qci e2];exact e1⟩
theorem Ac.trans (ac:Ac el n) (kn:k < n) {i j:Nat} (hj:j∈qa6 el k) (hi:i∈qa6 el j):i∈qa6 el k:=by
 obtain⟨p,e⟩:=ac.tl kn hj
 rw [e];exact mem_append_right _ hi
theorem Ac.inn (ac:Ac el n) (kn:k < n) {j:Nat} (j0:0 < j) (hj:j∈qa6 el k):el j∈qa6 el k:=by
 have jn:=ac.lt kn j hj
 refine ac.trans kn hj ?_
 rw [ac.up j0 jn]
 exact mem_cons_of_mem _ (ac.self (ac.elt j0 jn))
theorem Ac.nd (ac:Ac el n) (kn:k < n):(qa6 el k).Nodup:=(ac.ln kn).nodup
end
theorem nd_nat:∀{n:Nat} {l:List Nat},l.Nodup->(∀a∈l,a < n)->l.length<=n
 |0,l,_,h=>by
  cases l with
  |nil=>exact Nat.le_refl _
  |cons a r=>exact absurd (h a (mem_cons_self ..)) (by omega)
 |n+1,l,nd,h=>by
  by_cases m:n∈l
  .have e:=List.length_erase_of_mem m
   have:=nd_nat (n:=n) (nd.erase n) fun a ha=>by
    have h1:=h a (List.mem_of_mem_erase ha)
    have:a≠n:=fun z=>by subst z;exact(List.Nodup.not_mem_erase nd) ha
    omega
   omega
  .have:=nd_nat (n:=n) nd fun a ha=>by
    have h1:=h a ha
    have:a≠n:=fun z=>m (z ▸ ha)
    omega
   omega
theorem Ac.len {el:Nat->Nat} {n k:Nat} (ac:Ac el n) (kn:k < n):(qa6 el k).length<=n:=nd_nat (ac.nd kn) (ac.lt kn)
def Low (el:Nat->Nat) (n:Nat):Prop:=∀k,0 < k->k < n->el k < k
theorem Low.ln {el:Nat->Nat} {n:Nat} (lo:Low el n):∀k,k < n->∃l,LnN el k l/\∀j∈l,j<=k:=by
 intro k
 induction k using Nat.strongRecOn with
 |ind k ih=>
  intro kn
  by_cases k0:k=0
  .subst k0;exact⟨_,.top,fun j hj=>by have:=mem_singleton.mp hj;omega⟩
  .have l:=lo k (by omega) kn
   obtain⟨m,h1,h2⟩:=ih (el k) l (by omega)
   refine⟨k :: m,.up (by omega) h1,fun j hj=>?_⟩
   rcases mem_cons.mp hj with e|e
   .omega
   .have:=h2 j e;omega
theorem Low.ac {el:Nat->Nat} {n:Nat} (lo:Low el n):Ac el n:=fun k kn=>by
 obtain⟨l,h1,h2⟩:=lo.ln k kn
 exact⟨l,h1,fun j hj=>by have:=h2 j hj;omega⟩
theorem qe8 {el:Nat->Nat} {n k:Nat} (lo:Low el n) (k0:0 < k) (kn:k < n):qa6 el k=k :: qa6 el (el k):=lo.ac.up k0 kn
theorem lineN_self {el:Nat->Nat} {n k:Nat} (lo:Low el n) (kn:k < n):k∈qa6 el k:=lo.ac.self kn
theorem lineN_le {el:Nat->Nat} {n:Nat} (lo:Low el n):∀k,k < n->∀j∈qa6 el k,j<=k:=fun k kn=>by
 obtain⟨l,h1,h2⟩:=lo.ln k kn
 rw [qci h1];exact h2
theorem lineN_len {el:Nat->Nat} {n:Nat} (lo:Low el n) (k:Nat) (kn:k < n):(qa6 el k).length<=k+1:=nd_nat (lo.ac.nd kn) fun j hj=>by have:=lineN_le lo k kn j hj;omega
structure Pl (S:Ts) (nm:Nat->Str) (el:Nat->Nat) (n:Nat):Prop where
 len:S.hl.length=n
 nam:∀k e,S.hl[k]?=some e->e.n=nm k/\e.x.el=if k=0 then none else some (nm (el k))
 inj:∀i j,i < n->j < n->nm i=nm j->i=j
 ac:Ac el n
section
variable {S: Ts} {nm: Nat -> Str} {el: Nat -> Nat} {n: Nat}
theorem Pl.get (p:Pl S nm el n) {k:Nat} (kn:k < n):∃e,S.hl[k]?=some e/\e.n=nm k/\e.x.el=if k=0 then none else some (nm (el k)):=by
 have h:k < S.hl.length:=by rw [p.len];exact kn
 have e:=getElem?_eq_getElem h
 exact⟨_,e,p.nam k _ e⟩
theorem Pl.ix (p:Pl S nm el n) {e:He} (h:e∈S.hl):∃k,k < n/\S.hl[k]?=some e/\e.n=nm k/\e.x.el=if k=0 then none else some (nm (el k)):=by
 obtain⟨k,hk,q⟩:=mem_iff_getElem.mp h
 have e1:S.hl[k]?=some e:=by rw [getElem?_eq_getElem hk,q]
 exact⟨k,by rw [<-p.len];exact hk,e1,p.nam k e e1⟩
theorem Pl.nodup (p:Pl S nm el n):(S.hl.map (·.n)).Nodup:=by
 show List.Pairwise _ _
 rw [List.pairwise_map,pairwise_iff_getElem]
 intro i j hi hj lt q
 have h1:=(p.nam i _ (getElem?_eq_getElem hi)).1
 have h2:=(p.nam j _ (getElem?_eq_getElem hj)).1
 have:=p.inj i j (by rw [<-p.len];exact hi) (by rw [<-p.len];exact hj) (by rw [<-h1,<-h2];exact q)
 omega
theorem Pl.at (p:Pl S nm el n) {k:Nat} (kn:k < n):∃e,S.at (nm k)=some e/\S.hl[k]?=some e/\e.x.el=if k=0 then none else some (nm (el k)):=by
 obtain⟨e,h1,h2,h3⟩:=p.get kn
 have:=qev p.nodup (mem_of_getElem? h1)
 rw [h2] at this
 exact⟨e,this,h1,h3⟩
theorem Pl.lineL (p:Pl S nm el n) {k:Nat} {l:List Nat} (h:LnN el k l):k < n->LineOf S (nm k) (l.map nm):=by
 induction h with
 |top=>
  intro kn
  obtain⟨e,h1,_,h3⟩:=p.at kn
  exact .top h1 h3
 | @up k l k0 h ih=>
  intro kn
  obtain⟨e,h1,_,h3⟩:=p.at kn
  rw [if_neg (by omega)] at h3
  exact .up h1 h3 (ih (p.ac.elt k0 kn))
theorem Pl.line (p:Pl S nm el n) (k:Nat) (kn:k < n):LineOf S (nm k) ((qa6 el k).map nm):=p.lineL (p.ac.ln kn) kn
theorem Pl.wf (p:Pl S nm el n):WF S:=⟨p.nodup,fun e he=>by
 obtain⟨k,kn,_,h,_⟩:=p.ix he
 rw [h]
 exact⟨_,p.line k kn⟩⟩
theorem Pl.kid (p:Pl S nm el n) {j:Nat} {y:Str} (jn:j < n) (h:y∈qb8 S (nm j)):∃k,0 < k/\k < n/\el k=j/\y=nm k:=by
 obtain⟨e,he,rfl⟩:=mem_map.mp h
 obtain⟨hm,hd⟩:=mem_filter.mp he
 obtain⟨k,kn,_,h1,h2⟩:=p.ix hm
 have hd':e.x.el=some (nm j):=of_decide_eq_true hd
 rw [h2] at hd'
 by_cases z:k=0
 .rw [if_pos z] at hd';cases hd'
 .rw [if_neg z] at hd'
  exact⟨k,by omega,kn,p.inj _ _ (p.ac.elt (by omega) kn) jn (Option.some.inj hd'),h1⟩
theorem Pl.depL (p:Pl S nm el n) {L:Nat} (hL:∀k,k < n->(qa6 el k).length<=L):∀m j,j < n->L<=(qa6 el j).length+m->Dep S m (nm j):=by
 intro m
 induction m with
 |zero=>
  intro j jn hn
  show qb8 S (nm j)=[]
  cases e:qb8 S (nm j) with
  |nil=>rfl
  |cons y r=>
   obtain⟨k,k0,kn,ke,_⟩:=p.kid jn (y:=y) (by rw [e];exact mem_cons_self ..)
   have h1:=hL k kn
   rw [p.ac.up k0 kn,length_cons,ke] at h1
   omega
 |succ m ih=>
  intro j jn hn y hy
  obtain⟨k,k0,kn,ke,rfl⟩:=p.kid jn hy
  refine ih k kn ?_
  rw [p.ac.up k0 kn,length_cons,ke]
  omega
theorem Pl.ben (p:Pl S nm el n):∀(m j:Nat) (zs:List Str),j < n->BenP S m (nm j) zs->∀y∈zs,∃k,k < n/\y=nm k/\j∈qa6 el k:=by
 intro m
 induction m with
 |zero=>
  rintro j _ jn ⟨parts,rest,hp,rfl,hb⟩ y hy
  rcases mem_cons.mp hy with h|h
  .exact⟨j,jn,h,p.ac.self jn⟩
  .obtain⟨l,hl,_⟩:=mem_flatten.mp h
   obtain⟨q,hq,_⟩:=mem_map.mp hl
   exact(hb q hq).elim
 |succ m ih=>
  rintro j _ jn ⟨parts,rest,hp,rfl,hb⟩ y hy
  rcases mem_cons.mp hy with h|h
  .exact⟨j,jn,h,p.ac.self jn⟩
  .obtain⟨l,hl,hyl⟩:=mem_flatten.mp h
   obtain⟨q,hq,rfl⟩:=mem_map.mp hl
   obtain⟨k,k0,kn,ke,e⟩:=p.kid jn (hp.mem_iff.mp (mem_append_left _ (mem_map.mpr ⟨q,hq,rfl⟩)))
   have hB:=hb q hq
   rw [e] at hB
   obtain⟨i,i1,i2,i3⟩:=ih k q.2 kn hB y hyl
   refine⟨i,i1,i2,?_⟩
   have:=p.ac.inn i1 k0 i3
   rw [ke] at this
   exact this
end
def qc6:Nat->(Nat->Int)->Int
 |0,_=>0
 |n+1,f=>qc6 n f+f n
theorem sumR_le {f g:Nat->Int}:∀{n:Nat},(∀k,k < n->f k<=g k)->qc6 n f<=qc6 n g
 |0,_=>Int.le_refl _
 |n+1,h=>by
  have h1:=sumR_le (n:=n) fun k hk=>h k (by omega)
  have h2:=h n (by omega)
  show qc6 n f+f n<=qc6 n g+g n
  omega
theorem sumR_nn {f:Nat->Int}:∀{n:Nat},(∀k,k < n->0<=f k)->0<=qc6 n f
 |0,_=>Int.le_refl _
 |n+1,h=>by
  have h1:=sumR_nn (n:=n) fun k hk=>h k (by omega)
  have h2:=h n (by omega)
  show 0<=qc6 n f+f n
  omega
theorem sumR_mono {f:Nat->Int} {n m:Nat} (hm:n<=m) (h:∀k,k < m->0<=f k):qc6 n f<=qc6 m f:=by
 induction m with
 |zero=>have:n=0:=(by omega);subst this;exact Int.le_refl _
 |succ m ih=>
  rcases Nat.lt_or_ge n (m+1) with c|c
  .have h1:=ih (by omega) fun k hk=>h k (by omega)
   have h2:=h m (by omega)
   show _<=qc6 m f+f m
   omega
  .have:n=m+1:=by omega
   subst this;exact Int.le_refl _
def sumL (f:Nat->Int):List Nat->Int
 | []=>0
 |k :: r=>f k+sumL f r
theorem sumL_perm {f:Nat->Int} {a b:List Nat} (h:a.Perm b):sumL f a=sumL f b:=by
 induction h with
 |nil=>rfl
 |cons x _ ih=>show _+_=_+_;rw [ih]
 |swap x y l=>show f y+(f x+sumL f l)=f x+(f y+sumL f l);omega
 |trans _ _ h1 h2=>rw [h1,h2]
theorem qff {f:Nat->Int}:∀{n:Nat} {ks:List Nat},ks.Nodup->(∀k∈ks,k < n)->(∀k,k < n->0<=f k)->sumL f ks<=qc6 n f
 |0,ks,_,h,_=>by
  cases ks with
  |nil=>exact Int.le_refl _
  |cons k r=>exact absurd (h k (mem_cons_self ..)) (by omega)
 |n+1,ks,nd,h,p=>by
  show _<=qc6 n f+f n
  by_cases m:n∈ks
  .rw [sumL_perm (List.perm_cons_erase m)]
   have nd2:=nd.erase n
   have:=qff (n:=n) nd2 (fun k hk=>by
    have h1:=h k (List.mem_of_mem_erase hk)
    have:k≠n:=fun z=>by subst z;exact(List.Nodup.not_mem_erase nd) hk
    omega) fun k hk=>p k (by omega)
   show f n+_<=_
   omega
  .have:=qff (n:=n) nd (fun k hk=>by
    have h1:=h k hk
    have:k≠n:=fun z=>m (z ▸ hk)
    omega) fun k hk=>p k (by omega)
   have:=p n (by omega)
   omega
theorem qf9 (f g:Str->Option Int) (z:Str):gN (qdo f g) z=gN f z+gN g z:=by
 unfold gN qdo
 cases e:g z with
 |none=>simp
 |some b=>rfl
theorem gN_sum (z:Str):∀(ts:List Pt) (f0:Str->Option Int),gN (ts.foldl (fun f t=>qdo f t.f) f0) z=gN f0 z+(ts.map fun t=>gN t.f z).sum
 | [],f0=>by simp
 |t :: ts,f0=>by
  rw [List.foldl_cons,gN_sum z ts,qf9,map_cons,List.sum_cons]
  omega
section
variable {S: Ts} {nm: Nat -> Str} {el: Nat -> Nat} {n: Nat}
theorem Pl.sums (p:Pl S nm el n) {v:Str} {pr:Nat->Int} (hp:∀k e,S.hl[k]?=some e->gN e.x.fp v=pr k) (h0:∀k,k < n->0<=pr k) {m j:Nat} {bs:List Str} (jn:j < n) (hb:Ben S m (nm j) bs):
  gN (qd8 (bs.map (qd1 S))) v<=qc6 n fun k=>if j∈qa6 el k then pr k else 0:=by
 have nd:=(qc3 p.wf hb.part).1
 have hk:=p.ben m j bs jn hb.part
 have key:∀bs:List Str,bs.Nodup->(∀y∈bs,∃k,k < n/\y=nm k/\j∈qa6 el k)->∃ks:List Nat,ks.Nodup/\(∀k∈ks,k < n/\nm k∈bs)/\((bs.map (qd1 S)).map fun t=>gN t.f v).sum=sumL (fun k=>if j∈qa6 el k then pr k else 0) ks:=by
  intro bs
  induction bs with
  |nil=>intro _ _;exact⟨[],nodup_nil,fun k hk=>absurd hk (by simp),rfl⟩
  |cons y r ih=>
   intro nd h
   rw [nodup_cons] at nd
   obtain⟨ks,k1,k2,k3⟩:=ih nd.2 fun y' hy=>h y' (mem_cons_of_mem _ hy)
   obtain⟨k,kn,rfl,kj⟩:=h y (mem_cons_self ..)
   obtain⟨e,e1,e2,_⟩:=p.at kn
   refine⟨k :: ks,nodup_cons.mpr ⟨fun m=>nd.1 (k2 k m).2,k1⟩,fun k' hk'=>?_,?_⟩
   .rcases mem_cons.mp hk' with rfl|hk'
    .exact⟨kn,mem_cons_self ..⟩
    .exact⟨(k2 k' hk').1,mem_cons_of_mem _ (k2 k' hk').2⟩
   .rw [map_cons,map_cons,List.sum_cons,k3,qdw e1]
    show gN e.x.fp v+_=(if j∈qa6 el k then pr k else 0)+_
    rw [hp k e e2,if_pos kj]
 obtain⟨ks,k1,k2,k3⟩:=key bs nd hk
 unfold qd8
 rw [gN_sum,k3]
 have z:gN noF v=0:=rfl
 rw [z,Int.zero_add]
 exact qff k1 (fun k hk=>(k2 k hk).1) fun k hk=>by
  split
  .exact h0 k hk
  .exact Int.le_refl _
end
theorem ad_oK {k:List (Key × V)} {f:Str->Option Int} (hk:AD k f) {ks:List (Str × Addr)} {z:Str} {h:Addr} (hl:qd3 ks z=some h):HO.dK k≠ .dK (oK ks):=fun e=>by
 have e2:k=oK ks:=by injection e
 subst e2
 have g1:=hk.get z
 rw [qfe,hl] at g1
 cases hf:f z with
 |none=>rw [hf] at g1;cases g1
 |some n=>rw [hf] at g1;cases g1
def w97 (K:Frag) (d:Ad):Sp:=fun vs H Q E=>∃(t a b:Addr) (S:Ts) (z y:Str) (e:He) (zs:List Str) (ka kb:List (Key × V)) (f g:Str->Option Int) (wt:Int),vs=[.ref t,.str z,.str y,.ref a,.ref b,.int wt]/\qcj d H t S/\qcz z=true/\S.at z=none/\S.at y=some e/\
 WF S/\qe4 S/\S.ws.length<=50/\(∀v∈S.ws,v.length<=100)/\H a=some (.dK ka)/\AD ka f/\ka.length<=1000/\H b=some (.dK kb)/\AD kb g/\kb.length<=1000/\Fin S.ws f/\Fin S.ws g/\1<=wt/\wt<=1000/\S.hl.length < 40/\LineOf S y zs/\zs.length<=1000/\(∀u∈zs,u.length<=100/\Dep S 12 u/\∃e',S.at u=some e')/\
  (12<=zs.length->∀H',qb0 H H'->E (.ref d.w02) none H')/\(zs.length < 12->((∀v,¬qf0 (qbz f) (qbz g) v)->(∀u∈zs,Fine S (qbz f) u)->∀(e2:He) H',SameBut S.hs H H'->H e2.a=none->H e2.x.pa=none->H e2.x.ca=none->qcj d H' t {S with hl:=S.hl++ [e2]}->e2.n=z->e2.x.el=some y->e2.x.w=wt->(∀v,e2.x.fp v=qbz f v)->(∀v,e2.x.fc v=qbz g v)->Q .non H')/\
  (∀v,qf0 (qbz f) (qbz g) v->(∀u,qf0 (qbz f) (qbz g) u->leS v u)->NoP d H z v E)/\
  ((∀v,¬qf0 (qbz f) (qbz g) v)->∀(i:Nat) (u:Str) (e':He) (bs:List Str) (v:Str),zs[i]?=some u->S.at u=some e'->Ben S 12 u bs->qf0 (qdo (qd8 (bs.map (qd1 S))) (qbz f)) e'.x.fc v->(∀v',qf0 (qdo (qd8 (bs.map (qd1 S))) (qbz f)) e'.x.fc v'->leS v v')->(∀(j:Nat) (u':Str),j < i->zs[j]?=some u'->Fine S (qbz f) u')->NoP d H u v E))
include T in
theorem w6b:FnOk P w K mg base (My.CX1 P w) 19 d.w4z d.w2l ["self","name","elder","promise","cap","weight"] (w97 K d):=by
 refine okDX T.wa8 w4b (fun vs H Q E h=>?_) (fun cdv A outer s H vs Q E hr h=>?_)
 .obtain⟨t,a,b,S,z,y,e,zs,ka,kb,f,g,wt,rfl,_⟩:=h;rfl
 obtain⟨t,a,b,S,z,y,e,zs,ka,kb,f,g,wt,rfl,hT,gz,nz,he,hW,hO,hws,hw100,ha,hA,za,hb,hB,zb,ff,fg,w0,w1,h40,hL,hz12,hy,qt,qq⟩:=h
 have ey:e.n=y:=(qbm he).2
 refine⟨_,(qa4 (qat (qc8 ((w69 T).mono (by decide)) hr rfl T.w6u T.w51.kp T.w72 .nil qaq (qa0 (pv 1) qa3)))
  (qa4 (qb2 (qbc (pe_meth (pv 0) T.w04 T.w22 ((w7s T).mono (by decide)) hr T.w88 .nil qav (qa0 (pv 1) qa3))) (qa5 (qbp rfl T.weg rfl T.wd1 qaq (qa0 qb1 qa3))) qag)
  (qa4 (qat (qap (pv 0) T.w04 T.w0c ((w1j T).mono (by decide)) hr T.w1u .nil qaq (qa0 (pv 2) qa3)))
  (qa4 (qae (i:=6) w4b.nd rfl (Or.inl rfl) (qc8 ((w65 T).mono (by decide)) hr rfl T.w70 T.w4v.kp T.w6v .nil qaq (qa0 (qbt (pv 0) rfl) (qa0 (pv 2) (qa0 (pv 3) (qa0 (pv 4) (qa0 (pv 5) qa3)))))))
  (qa4 (qb2 (qai op_ge (qac call_lenDD rfl T.w1v PySem.boot_len (qa0 (qbt (pv 0) rfl) qa3)) (qbi rfl T.w8y T.w1o) (qau _)) (qa5 (qbp rfl T.wce rfl T.w9i qaq (qa0 qb1 qa3))) qag)
  (qa4 (qae (i:=7) w4b.nd rfl (Or.inl rfl) (qap (pv 0) T.w04 T.w0k ((w1k T).mono (by decide)) hr T.w23 .nil qaq (qa0 (pv 2) qa3)))
  (qa4 (qb2 (qai op_ge (qac qao rfl T.w1v PySem.boot_len (qa0 (pv 7) qa3)) (qbi rfl T.w5f T.w11) (qau _)) (qa5 (qbp rfl T.w9r rfl T.w7w qaq (qa0 qb1 qa3))) qag)
  (qa4 (qat (qc8 ((w1z T).mono (by decide)) hr rfl T.w2d T.w1f.kp T.w2i .nil qaq (qa0 (pv 1) (qa0 (qbt (pv 6) rfl) (qa0 (qbt (pv 6) rfl) qa3)))))
  (qa4 (qat (qap (pv 0) T.w04 T.w0h ((w36 T).mono (by decide)) hr T.w3n .nil qaq (qa0 (pv 7) (qa0 (qbt (pv 6) rfl) qa3))))
  (qa5 (qdx (qce hr) (qbt (pv 0) rfl) (pv 1) (pv 6) rfl))))))))))),?_⟩
 walk_at "d"
 refine qah (σ:=[some (.ref t),some (.str z),some (.str y),some (.ref a),some (.ref b),some (.int wt),none,none]) rfl ?_
 have ct:=T.w04
 have ch:=T.w1e
 have n1:qar K d.w03 "sorted_wares":=T.w0d
 have n2:qar K d.w03 "houses":=T.w07
 have n3:qar K d.w08 "promise":=T.w0e
 have n4:qar K d.w08 "cap":=T.w0s
 walk_at "g"
 refine⟨z,rfl,gz,fun H1 s1=>?_⟩
 have hT1:=hT.same s1
 obtain⟨dx,ht⟩:=id hT1.1
 walk_at "g"
 refine⟨t,S,.str z,rfl,hT1,.inl ⟨z,rfl⟩,?_⟩
 rw [show who S (.str z)=none from nz]
 walk_at "g"
 show if false=true then _ else _
 walk_at "g"
 refine⟨t,S,.str y,rfl,hT1,.inl ⟨y,rfl⟩,fun e1 he1=>?_,fun hn=>?_⟩
 rotate_left
 .rw [show who S (.str y)=some e from he] at hn;cases hn
 have hsw:=hT1.2.1
 walk_at "g"
 refine⟨S.sw,a,b,some y,S.ws,ka,kb,f,g,wt,rfl,hsw,s1 _ _ ha,hA,za,s1 _ _ hb,hB,zb,ff,fg,w0,w1,fun h o H3 s3 nh np nc hOo eel ew efp efc=>?_⟩
 obtain⟨⟨dh,ho⟩,hp,hpA,hc,hcA⟩:=id hOo
 have efp':o.fp=qbz f:=funext efp
 have efc':o.fc=qbz g:=funext efc
 have lk:o.kp.length<=S.ws.length:=hpA.le (by rw [efp'];exact qeg ff)
 have hT3:=hT1.same s3
 obtain⟨⟨dx3,ht3⟩,hw3,hh3,nd3,hz3,hE3⟩:=id hT3
 walk_at "g"
 refine r_lenD hh3 ?_
 rw [qe9]
 walk_at "g"
 refine⟨t,S,.str y,rfl,hT3,.inl ⟨y,zs,rfl,hL,by omega,fun l hl=>?_⟩⟩
 have s4:=qa2 hl (.lst (zs.map V.str))
 have eL:upd H3 l (.lst (zs.map V.str)) l=some (.lst (zs.map V.str)):=qa1
 have hzl:(zs.map V.str).length=zs.length:=length_map _
 generalize upd H3 l (.lst (zs.map V.str))=H4 at*
 have ho4:=s4 _ _ ho
 have hp4:=s4 _ _ hp
 have hc4:=s4 _ _ hc
 have t4:=(s1.trans s3).trans s4
 by_cases c12:12<=zs.length
 .walk_at "g"
  exact qt c12 _ t4
 obtain⟨q,qo,qm⟩:=qq (by omega)
 walk_at "g"
 refine⟨z,o.pa,o.ca,o.kp,o.kc,o.fp,o.fc,rfl,.inl hp4,.inl hc4,hpA,hcA,by omega,by have:=(qca gz).2.1;omega,fun v hv=>?_,fun hn H5 s5=>?_,fun v hv hle=>?_⟩
 .rw [efp'] at hv
  exact hw100 v (qeg ff v hv)
 rotate_left
 .rw [efp',efc'] at hv hle
  exact(qo v hv hle).same t4
 rw [efp',efc'] at hn
 have s35:=s4.trans s5
 have ho5:=s35 _ _ ho
 have hT5:=hT3.same s35
 obtain⟨dx5,ht5⟩:=id hT5.1
 walk_at "g"
 refine⟨t,l,o.pa,S,zs,o.kp,o.fp,rfl,hT5,hW,hO,SqL.of (s5 _ _ eL),s35 _ _ hp,hpA,hws,hw100,by rw [efp'];exact qeg ff,hy,fun hfi H6 s6=>?_,fun i u e' bs v h1 h2 h3 h4 h5 h6=>?_⟩
 rotate_left
 .rw [efp'] at h4 h5 h6
  exact(qm hn i u e' bs v h1 h2 h3 h4 h5 h6).same (t4.trans s5)
 rw [efp'] at hfi
 have s36:=s35.trans s6
 have s16:=s3.trans s36
 have s06:=s1.trans s16
 obtain⟨⟨dx6,ht6⟩,hw6,hh6,nd6,hz6,hE6⟩:=hT3.same s36
 walk_at "g"
 have lkn:qd3 S.keys z=none:=by rw [qd2,nz];rfl
 have hksz:(oK S.keys).length < sizeLine:=by rw [qe9];show _ < 16777216;omega
 refine r_dpk hh6 hksz ?_
 rw [putK_oK lkn]
 walk_at "g"
 have sF:∀b u,b≠S.hs->H6 b=some u->upd H6 S.hs (.dK (oK (S.keys++ [(z,h)]))) b=some u:=fun b u hb e=>by rw [qa9 hb];exact e
 have nH:∀{b:Addr} {u:HO},H6 b=some u->u≠ .dK (oK S.keys)->b≠S.hs:=fun e1 e2 e3=>by
  subst e3;rw [hh6] at e1;exact e2 (Option.some.inj e1).symm
 have hT1':=hT1
 have fresh:∀{b:Addr} {u:HO},H1 b=none->H6 b=some u->b≠S.hs:=fun e1 _ e3=>by
  subst e3;rw [hT1'.2.2.1] at e1;cases e1
 refine q hn hfi ⟨z,h,o⟩ _ (fun b u hb e=>sF b u hb (s06 _ _ e)) (s1.free nh) (s1.free np) (s1.free nc) ⟨⟨dx6,sF _ _ (nH ht6 (by intro e;cases e)) ht6⟩,sF _ _ (nH hw6 (by intro e;cases e)) hw6,?_,?_,?_,fun e1 he1=>?_⟩ rfl eel ew efp efc
 .show upd _ _ _ S.hs=some (.dK (oK (Ts.keys _)))
  rw [qa1]
  unfold Ts.keys
  rw [map_append];rfl
 .show (List.map _ (S.hl++ [_])).Nodup
  rw [map_append,nodup_append]
  refine⟨nd6,nodup_cons.mpr ⟨by simp,nodup_nil⟩,fun x hx1 y' hy1 e=>?_⟩
  have:y'=z:=by simpa using hy1
  subst this
  subst e
  obtain⟨e2,m2,rfl⟩:=mem_map.mp hx1
  rw [qev nd6 m2] at nz
  cases nz
 .show (S.hl++ [_]).length<=60
  rw [length_append]
  show _+1<=60
  omega
 .rcases mem_append.mp he1 with m|m
  .obtain⟨⟨dy,hy1⟩,hy2,hy3,hy4,hy5⟩:=hE6 e1 m
   have no:∀{k:List (Key × V)} {f:Str->Option Int},AD k f->HO.dK k≠ .dK (oK S.keys):=fun hk=>ad_oK hk (z:=e1.n) (h:=e1.a) (by rw [qd2,qev nd6 m];rfl)
   exact⟨⟨dy,sF _ _ (nH hy1 (by intro e;cases e)) hy1⟩,sF _ _ (nH hy2 (no hy3)) hy2,hy3,sF _ _ (nH hy4 (no hy5)) hy4,hy5⟩
  .have:e1=⟨z,h,o⟩:=by simpa using m
   subst this
   have h6:=s36 _ _ ho
   refine⟨⟨dh,sF _ _ (fresh nh h6) h6⟩,sF _ _ (fresh np (s36 _ _ hp)) (s36 _ _ hp),hpA,sF _ _ (fresh nc (s36 _ _ hc)) (s36 _ _ hc),hcA⟩
theorem LineOf.uniq {S:Ts} {z:Str} {l m:List Str} (h:LineOf S z l) (h':LineOf S z m):l=m:=by
 induction h generalizing m with
 |top h n=>cases h' with
  |top=>rfl
  |up h2 n2 r2=>rw [h] at h2;cases h2;rw [n] at n2;cases n2
 |up h n r ih=>cases h' with
  |top h2 n2=>rw [h] at h2;cases h2;rw [n] at n2;cases n2
  |up h2 n2 r2=>
   rw [h] at h2;cases h2;rw [n] at n2;cases n2
   rw [ih r2]
def w80 (K:Frag) (d:Ad):Sp:=fun vs H Q _=>∃(t:Addr) (S:Ts) (z:Str) (e:He) (zs:List Str),vs=[.ref t,.str z]/\qcj d H t S/\WF S/\S.at z=some e/\Dep S 12 z/\LineOf S z zs/\zs.length<=1000/\(∀bs,Ben S 12 z bs->∀u∈bs,∃us,LineOf S u us/\us.length<=1000)/\
 ∀(bs:List Str) (u:Str) (us:List Str) H',qb0 H H'->Ben S 12 z bs->u∈bs->LineOf S u us->(∀u'∈bs,∀us',LineOf S u' us'->us'.length<=us.length)->Q (.int (((us.length:Nat):Int) - ((zs.length:Nat):Int)+1)) H'
include T in
theorem w81:FnOk P w K mg base (My.CX1 P w) 17 d.w49 d.w38 ["self","name"] (w80 K d):=by
 refine okX T.w8u w5e (fun vs H Q E h=>?_) (fun cdv A outer s H vs Q E hr h=>?_)
 .obtain⟨t,S,z,e,zs,rfl,_⟩:=h;rfl
 obtain⟨t,S,z,e,zs,rfl,hT,hW,ae,hD,hL,hz,hlb,q⟩:=h
 refine⟨_,(qa4 (qae (i:=2) w5e.nd rfl (Or.inl rfl) (qac (qd6 rfl) rfl T.wc7 PyProof.Rows.boot_max (qa0 (pe_compX rfl rfl rfl qaq (caps:=[0]) (cn:=["self"]) (qbw rfl rfl (by rfl) (by rfl) rfl ⟨rfl,trivial⟩ (by rfl) rfl ⟨⟨rfl,rfl,rfl,rfl,_,rfl⟩,trivial⟩ (by decide)) rfl (qc4 (qap (pv 0) T.w04 T.w0m ((w53 T).mono (by decide)) hr T.w3b .nil qaq (qa0 (pv 1) qa3))) (fun _ _ _ _=>qdh) (fun _ _ _ _=>(qac qao rfl T.w1v PySem.boot_len (qa0 (pe_methB2 (pv 1) T.w04 T.w0k ((w1k T).mono (by decide)) hr T.w23 .nil (qa0 (pv 0) qa3)) qa3)))) qa3)))
  (qa5 (qaj (qal qba (qal op_sub (pv 2) (qac qao rfl T.w1v PySem.boot_len (qa0 (qap (pv 0) T.w04 T.w0k ((w1k T).mono (by decide)) hr T.w23 .nil qaq (qa0 (pv 1) qa3)) qa3))) qaa)))),?_⟩
 walk_at "d"
 try dsimp only [cxC]
 refine qah (σ:=[some (.ref t),some (.str z),none]) rfl ?_
 have ct:=T.w04
 obtain⟨dx,ht⟩:=id hT.1
 have een:=(qbm ae).2
 walk_at "g"
 refine⟨t,S,.str z,rfl,hT,qfi hW hT.2.2.2.2.1,.inl ⟨_,rfl⟩,fun e' he'=>?_,fun hn=>?_⟩
 rotate_left
 .rw [show who S (.str z)=some e from ae] at hn;cases hn
 have ee:e=e':=Option.some.inj (ae.symm.trans he')
 subst ee
 rw [een]
 refine⟨hD,fun lb zb H1 s1 hlb1 elb hBen=>?_⟩
 have hub:=hlb zb hBen
 have hT1:=hT.same s1
 have ht1:=s1 _ _ ht
 have zb1000:zb.length<=1000:=qfi hW hT.2.2.2.2.1 12 z zb hBen.part
 clear ht he'
 walk_at "g"
 intro C s0 H0 fp acc hacc
 refine c_by zb.length (fun i H'=>∃ns:List Int,qb0 H1 H'/\H' acc=some (.lst (ns.map V.int))/\ns.length=i/\(∀m∈ns,∃u∈zb,∃us,LineOf S u us/\m=((us.length:Nat):Int))/\∀u∈zb.take i,∃us,LineOf S u us/\((us.length:Nat):Int)∈ns) ⟨[],qa2 hacc _,qa1,rfl,fun m hm=>by simp at hm,fun u hu=>by simp at hu⟩ ?_ ?_ ?_ ?_
 .rintro i H' hi ⟨ns,sm,_⟩
  exact⟨_,.str zb[i],SqL.of (sm _ _ elb),by rw [getElem?_map,getElem?_eq_getElem hi];rfl⟩
 .rintro H' ⟨ns,sm,_⟩
  exact⟨_,SqL.of (sm _ _ elb),by rw [length_map];exact Nat.le_refl _⟩
 .rintro i H' v H'' hi ⟨ns,sm,ea,hln,hns,hal⟩ ⟨rfl,hv⟩
  have hv:=hv _ (SqL.of (sm _ _ elb))
  rw [getElem?_map,getElem?_eq_getElem hi] at hv
  cases hv
  have hm:=getElem_mem hi
  have tk:zb.take (i+1)=zb.take i++ [zb[i]]:=by rw [take_add_one,getElem?_eq_getElem hi];rfl
  generalize zb[i]=u at*
  obtain⟨us,hLu,hu1⟩:=hub u hm
  have ht2:=sm _ _ ht1
  have zl:(ns.map V.int).length < sizeLine:=by rw [length_map];show _ < 16777216;omega
  clear hv
  walk_at "g"
  refine⟨t,S,.str u,rfl,hT1.same sm,.inl ⟨u,us,rfl,hLu,hu1,fun ll hll=>?_⟩⟩
  have s2:=qa2 hll (.lst (us.map V.str))
  have ell:upd H'' ll (.lst (us.map V.str)) ll=some (.lst (us.map V.str)):=qa1
  have ea2:=qa7 (o':=.lst (us.map V.str)) ea hll
  have hlen:(us.map V.str).length=us.length:=length_map _
  generalize upd H'' ll (.lst (us.map V.str))=H3 at*
  walk_at "g"
  rw [hlen]
  refine⟨ns++ [((us.length:Nat):Int)],qbe (sm.trans s2) hacc,by rw [qa1,map_append];rfl,by rw [length_append,hln];rfl,fun m hm2=>?_,fun w hw=>?_⟩
  rcases mem_append.mp hm2 with h|h
  .exact hns m h
  .exact⟨u,hm,us,hLu,mem_singleton.mp h⟩
  rw [tk] at hw
  rcases mem_append.mp hw with h|h
  .obtain⟨vs,h1,h2⟩:=hal w h
   exact⟨vs,h1,mem_append_left _ h2⟩
  .rw [mem_singleton.mp h]
   exact⟨us,hLu,mem_append_right _ (mem_cons_self ..)⟩
 rintro H2 ⟨ns,s2,en,hln,hns,hal⟩
 rw [take_length] at hal
 have z0:0 < zb.length:=by
  cases hBen with
  |intro parts hb=>rw [hb.2.1];exact Nat.succ_pos _
 walk_at "g"
 refine r_maxL (SqL.of en) (by omega) fun m hm hmx=>?_
 obtain⟨u,hu,us,hLu,rfl⟩:=hns m hm
 have ht3:=s2 _ _ ht1
 walk_at "g"
 refine⟨t,S,.str z,rfl,hT1.same s2,.inl ⟨z,zs,rfl,hL,hz,fun ll hll=>?_⟩⟩
 have s3:=qa2 hll (.lst (zs.map V.str))
 have ell:upd H2 ll (.lst (zs.map V.str)) ll=some (.lst (zs.map V.str)):=qa1
 have hlen:(zs.map V.str).length=zs.length:=length_map _
 generalize upd H2 ll (.lst (zs.map V.str))=H3 at*
 walk_at "g"
 rw [hlen]
 exact q zb u us H3 ((s1.trans s2).trans s3) hBen hu hLu fun u' hu' us' hL'=>by
  obtain⟨vs,h1,h2⟩:=hal u' hu'
  have h3:=hmx _ h2
  rw [hL'.uniq h1]
  omega
def qe0 (ys zs:List Str):List Str:=ys.filter fun u=>!decide (u∈zs)
theorem flat_strs (L:List Str):((L.map V.str).all fun v=>qd0 v)=true:=by
 rw [List.all_map]
 exact all_eq_true.mpr fun _ _=>rfl
theorem inV_st (x:Str):∀L:List Str,inV (.str x) (L.map V.str)=decide (x∈L)
 | []=>rfl
 |y :: L=>by
  have ih:=inV_st x L
  unfold inV at ih ⊢
  rw [map_cons,any_cons,ih]
  by_cases c:y=x
  .subst c
   rw [show eqV (V.str y) (V.str y)=true from beq_self_eq_true _,decide_eq_true (mem_cons_self ..)]
   rfl
  .rw [show eqV (V.str y) (V.str x)=false from beq_false_of_ne c,Bool.false_or]
   by_cases m:x∈L
   .rw [decide_eq_true m,decide_eq_true (mem_cons_of_mem _ m)]
   .rw [decide_eq_false m,decide_eq_false fun h=>(mem_cons.mp h).elim (fun e=>c e.symm) m]
theorem r_inSt {K:Frag} {H:Hp} {Q:VK} {p:Addr} {x:Str} {L:List Str} (h:SqL K H p (L.map V.str)) (q:Q (.bl (decide (x∈L))) H):rIn K false (.str x) (.ref p) H Q:=⟨p,_,rfl,.inl h,rfl,flat_strs L,by rw [inV_st];exact q⟩
theorem qee {K:Frag} {H:Hp} {Q:VK} {p:Addr} {x:Str} {L:List Str} (h:SqL K H p (L.map V.str)) (q:Q (.bl (!decide (x∈L))) H):rIn K true (.str x) (.ref p) H Q:=⟨p,_,rfl,.inl h,rfl,flat_strs L,by rw [inV_st];exact q⟩
structure MvAt (K:Frag) (d:Ad) (H:Hp) (t:Addr) (S:Ts) (z y:Str) (ez ey:He) (zs ys:List Str):Prop where
 tr:qcj d H t S
 wf:WF S
 ow:qe4 S
 az:S.at z=some ez
 ay:S.at y=some ey
 lz:LineOf S z zs
 l1:zs.length<=1000
 ly:LineOf S y ys
 l2:ys.length<=1000
 dz:Dep S 12 z
 w5:S.ws.length<=50
 wl:∀v∈S.ws,v.length<=100
 hy:∀u∈ys,u.length<=100/\Dep S 12 u/\∃e,S.at u=some e
 bl:∀bs,Ben S 12 z bs->∀u∈bs,∃us,LineOf S u us/\us.length<=1000
 rt:ez.x.el=none->z∈ys
theorem MvAt.same {K:Frag} {d:Ad} {H H':Hp} {t:Addr} {S:Ts} {z y:Str} {ez ey:He} {zs ys:List Str} (h:MvAt K d H t S z y ez ey zs ys) (s:qb0 H H'):MvAt K d H' t S z y ez ey zs ys:=⟨h.tr.same s,h.wf,h.ow,h.az,h.ay,h.lz,h.l1,h.ly,h.l2,h.dz,h.w5,h.wl,h.hy,h.bl,h.rt⟩
structure MvQ (K:Frag) (d:Ad) (H:Hp) (t:Addr) (S:Ts) (z y:Str) (ez ey:He) (zs ys:List Str) (E:XK) (done:Prop):Prop where
 mv:(z∈ys\/ez.x.el=some y)->∀H',qb0 H H'->E (.ref d.w05) none H'
 dp:z∉ys->ez.x.el≠some y->∀bs,Ben S 12 z bs->∀u∈bs,∀us,LineOf S u us->12+zs.length < ys.length+us.length+1->∀H',qb0 H H'->E (.ref d.w02) none H'
 ok:z∉ys->ez.x.el≠some y->(∃bs,Ben S 12 z bs/\∀u∈bs,∀us,LineOf S u us->ys.length+us.length+1<=12+zs.length)->∀bs,Ben S 12 z bs->(∀u∈qe0 ys zs,Fine S (qd8 (bs.map (qd1 S))) u)->done
 no:z∉ys->ez.x.el≠some y->(∃bs,Ben S 12 z bs/\∀u∈bs,∀us,LineOf S u us->ys.length+us.length+1<=12+zs.length)->∀bs,Ben S 12 z bs->∀(i:Nat) (u:Str) (e':He) (cs:List Str) (v:Str),(qe0 ys zs)[i]?=some u->S.at u=some e'->Ben S 12 u cs->qf0 (qdo (qd8 (cs.map (qd1 S))) (qd8 (bs.map (qd1 S)))) e'.x.fc v->(∀v',qf0 (qdo (qd8 (cs.map (qd1 S))) (qd8 (bs.map (qd1 S)))) e'.x.fc v'->leS v v')->(∀(j:Nat) (u':Str),j < i->(qe0 ys zs)[j]?=some u'->Fine S (qd8 (bs.map (qd1 S))) u')->NoP d H u v E
def w61 (K:Frag) (d:Ad):Sp:=fun vs H Q E=>∃(t:Addr) (S:Ts) (x y:V),vs=[.ref t,x,y]/\qcj d H t S/\
 ((qco K H x/\who S x=none/\∀H',qb0 H H'->E (.ref d.w01) none H')\/
  (∃z zs,x=.str z/\LineOf S z zs/\zs.length<=1000/\qco K H y/\who S y=none/\∀H',qb0 H H'->E (.ref d.w01) none H')\/
  ∃(z w:Str) (ez ey:He) (zs ys:List Str),x=.str z/\y=.str w/\MvAt K d H t S z w ez ey zs ys/\MvQ K d H t S z w ez ey zs ys E (∀H',qb0 H H'->Q .non H'))
include T in
theorem w35:FnOk P w K mg base (My.CX1 P w) 19 d.w21 d.w1w ["self","name","elder"] (w61 K d):=by
 refine okX T.w6p w1n (fun vs H Q E h=>?_) (fun cdv A outer s H vs Q E hr h=>?_)
 .obtain⟨t,S,x,y,rfl,_⟩:=h;rfl
 obtain⟨t,S,x,yv,rfl,hT,hq⟩:=h
 refine⟨_,(qa4 (qae (i:=3) w1n.nd rfl (Or.inr rfl) (qap (pv 0) T.w04 T.w0k ((w1k T).mono (by decide)) hr T.w23 .nil qaq (qa0 (pv 1) qa3)))
  (qa4 (qae (i:=4) w1n.nd rfl (Or.inl rfl) (qap (pv 0) T.w04 T.w0k ((w1k T).mono (by decide)) hr T.w23 .nil qaq (qa0 (pv 2) qa3)))
  (qa4 (qb2 (PW.pt (qe6 (qai qem (pv 1) (pv 4) (by rfl)) (qdg (qai qdl (pv 2) (qap (pv 0) T.w04 T.w0b ((w0x T).mono (by decide)) hr T.w15 .nil qaq (qa0 (pv 1) qa3)) (qau _))))) (qa5 (qbp rfl T.wdi rfl T.wbk qaq (qa0 qb1 qa3))) qag)
  (qa4 (qb2 (qai qfn (qal qba (qac qao rfl T.w1v PySem.boot_len (qa0 (pv 4) qa3)) (qap (pv 0) T.w04 T.w1b ((w81 T).mono (by decide)) hr T.w8t .nil qaq (qa0 (pv 1) qa3))) (qbi rfl T.w5f T.w11) (qau _)) (qa5 (qbp rfl T.w9r rfl T.w7w qaq (qa0 qb1 qa3))) qag)
  (qa5 (qat (qap (pv 0) T.w04 T.w0h ((w36 T).mono (by decide)) hr T.w3n .nil qaq (qa0 (qdk (caps:=[3]) (cn:=["own_line"]) (qbw rfl rfl (by rfl) (by rfl) rfl ⟨rfl,trivial⟩ (by rfl) rfl ⟨⟨rfl,rfl,rfl,rfl,_,rfl⟩,trivial⟩ (by decide)) rfl (qc4 (pv 4)) (fun _ _ _ _=>(pf_one (qai qc2 (pv 0) (pv 1) (by rfl)))) (fun _ _ _ _=>(pv 0))) (qa0 (qap (pv 0) T.w04 T.w09 ((w1m T).mono (by decide)) hr T.w1r .nil qaq (qa0 (pv 1) qa3)) qa3))))))))),?_⟩
 walk_at "d"
 try dsimp only [cxC]
 refine qah (σ:=[some (.ref t),some (x),some (yv),none,none]) rfl ?_
 have ct:=T.w04
 obtain⟨dx,ht⟩:=id hT.1
 walk_at "g"
 rcases hq with ⟨hx,hn,q⟩ |⟨z,zs,rfl,hL,hz,hx,hn,q⟩ |⟨z,y,ez,ey,zs,ys,rfl,rfl,hM,hq⟩
 .exact⟨t,S,x,rfl,hT,.inr ⟨hx,hn,fun l hl=>q _ (qa2 hl _)⟩⟩
 .refine⟨t,S,.str z,rfl,hT,.inl ⟨z,zs,rfl,hL,hz,fun lz hlz=>?_⟩⟩
  have s1:=qa2 hlz (.lst (zs.map V.str))
  generalize upd H lz (.lst (zs.map V.str))=H1 at*
  have ht1:=s1 _ _ ht
  walk_at "g"
  exact⟨t,S,yv,rfl,hT.same s1,.inr ⟨hx.same s1,hn,fun l hl=>q _ (s1.trans (qa2 hl _))⟩⟩
 have q1:=hq.mv
 refine⟨t,S,.str z,rfl,hM.tr,.inl ⟨z,zs,rfl,hM.lz,hM.l1,fun lz hlz=>?_⟩⟩
 have s1:=qa2 hlz (.lst (zs.map V.str))
 have elz:upd H lz (.lst (zs.map V.str)) lz=some (.lst (zs.map V.str)):=qa1
 generalize upd H lz (.lst (zs.map V.str))=H1 at*
 have ht1:=s1 _ _ ht
 walk_at "g"
 refine⟨t,S,.str y,rfl,hM.tr.same s1,.inl ⟨y,ys,rfl,hM.ly,hM.l2,fun ly hly=>?_⟩⟩
 have s2:=qa2 hly (.lst (ys.map V.str))
 have ely:upd H1 ly (.lst (ys.map V.str)) ly=some (.lst (ys.map V.str)):=qa1
 have elz2:=qa7 (o':=.lst (ys.map V.str)) elz hly
 generalize upd H1 ly (.lst (ys.map V.str))=H2 at*
 have t2:=s1.trans s2
 have hM2:=hM.same t2
 have ht2:=t2 _ _ ht
 clear ht ht1 elz hlz hly
 walk_at "g"
 refine r_inSt (SqL.of ely) ?_
 refine⟨_,rfl,?_⟩
 by_cases c1:z∈ys
 .rw [decide_eq_true c1]
  walk_at "g"
  exact q1 (.inl c1) _ t2
 rw [decide_eq_false c1]
 walk_at "g"
 refine⟨t,S,.str z,rfl,hM2.tr,.inl ⟨z,rfl⟩,fun e he=>?_,fun hn=>?_⟩
 rotate_left
 .rw [show who S (.str z)=some ez from hM.az] at hn;cases hn
 have ee:ez=e:=Option.some.inj (hM.az.symm.trans he)
 subst ee
 cases hel:ez.x.el with
 |none=>exact absurd (hM.rt hel) c1
 |some u=>
  rw [show eV (some u)=V.str u from rfl]
  walk_at "g"
  by_cases c2:y=u
  .rw [decide_eq_true c2]
   walk_at "g"
   exact q1 (.inr (by rw [hel,c2])) _ t2
  rw [decide_eq_false c2]
  have c2':ez.x.el≠some y:=fun e=>c2 (by rw [hel] at e;exact(Option.some.inj e).symm)
  have hyl:(ys.map V.str).length=ys.length:=length_map _
  walk_at "g"
  refine⟨t,S,z,ez,zs,rfl,hM2.tr,hM.wf,hM.az,hM.dz,hM.lz,hM.l1,hM.bl,fun bs0 u0 us0 H3 s3 hB0 hu0 hL0 hmx0=>?_⟩
  have t3:=t2.trans s3
  have ely3:=s3 _ _ ely
  have elz3:=s3 _ _ elz2
  have ht3:=s3 _ _ ht2
  have hM3:=hM2.same s3
  clear ely elz2 ht2 hM2 q1
  have qd:=hq.dp c1 c2' bs0 hB0 u0 hu0 us0 hL0
  walk_at "g"
  rw [hyl]
  by_cases cd:12+zs.length < ys.length+us0.length+1
  .rw [if_pos (decide_eq_true (by omega))]
   walk_at "g"
   exact qd cd _ t3
  have hal:∃bs,Ben S 12 z bs/\∀u∈bs,∀us,LineOf S u us->ys.length+us.length+1<=12+zs.length:=⟨bs0,hB0,fun u hu us hus=>by have:=hmx0 u hu us hus;omega⟩
  have qa':=hq.ok c1 c2' hal
  have qb':=hq.no c1 c2' hal
  rw [if_neg (by rw [decide_eq_false (by omega)];exact Bool.false_ne_true)]
  clear qd hmx0 hB0 hu0 hL0 hq hal
  walk_at "g"
  intro C s0 H0 fp ln hln
  refine c_by ys.length (fun i H'=>qb0 H3 H'/\H' ln=some (.lst ((qe0 (ys.take i) zs).map V.str))) ⟨qa2 hln _,qa1⟩ ?_ ?_ ?_ ?_
  .rintro i H' hi ⟨sm,_⟩
   exact⟨_,.str ys[i],SqL.of (sm _ _ ely3),by rw [getElem?_map,getElem?_eq_getElem hi];rfl⟩
  .rintro H' ⟨sm,_⟩
   exact⟨_,SqL.of (sm _ _ ely3),by rw [length_map];exact Nat.le_refl _⟩
  .rintro i H' v H'' hi ⟨sm,ea⟩ ⟨rfl,hv⟩
   have hv:=hv _ (SqL.of (sm _ _ ely3))
   rw [getElem?_map,getElem?_eq_getElem hi] at hv
   cases hv
   have tk:ys.take (i+1)=ys.take i++ [ys[i]]:=by rw [take_add_one,getElem?_eq_getElem hi];rfl
   generalize ys[i]=w at*
   have elz4:=sm _ _ elz3
   have zl:((qe0 (ys.take i) zs).map V.str).length < sizeLine:=by
    rw [length_map]
    have h1:=List.length_filter_le (fun u=>!decide (u∈zs)) (ys.take i)
    rw [length_take] at h1
    have:=hM.l2
    show (qe0 (ys.take i) zs).length < 16777216
    unfold qe0
    omega
   clear hv
   walk_at "g"
   refine qee (SqL.of elz4) ?_
   by_cases c:w∈zs
   .rw [decide_eq_true c]
    walk_at "g"
    refine⟨sm,?_⟩
    rw [ea,tk]
    unfold qe0
    rw [List.filter_append,filter_cons,if_neg (by rw [decide_eq_true c];exact Bool.false_ne_true),List.filter_nil,append_nil]
   .rw [decide_eq_false c]
    walk_at "g"
    refine⟨qbe sm hln,?_⟩
    rw [qa1,tk]
    unfold qe0
    rw [List.filter_append,filter_cons,if_pos (by rw [decide_eq_false c];rfl),map_append];rfl
  rintro H4 ⟨s4,eln⟩
  rw [take_length] at eln
  have ht4:=s4 _ _ ht3
  have hM4:=hM3.same s4
  have t4:=t3.trans s4
  clear ely3 elz3 ht3 hM3 hln
  walk_at "g"
  refine⟨t,S,.str z,rfl,hM4.tr,hM.wf,hM.ow,.inl ⟨z,rfl⟩,fun e1 he1=>?_,fun hn=>?_⟩
  rotate_left
  .rw [show who S (.str z)=some ez from hM.az] at hn;cases hn
  have ee:ez=e1:=Option.some.inj (hM.az.symm.trans he1)
  subst ee
  rw [(qbm hM.az).2]
  refine⟨hM.dz,fun lp bs kp H5 s5 hlp elp hB hAp=>?_⟩
  have qa:=qa' bs hB
  have qb:=qb' bs hB
  have hM5:=hM4.same s5
  have ht5:=s5 _ _ ht4
  have t5:=t4.trans s5
  have hbs:∀b∈bs,∃eb,S.at b=some eb/\eb∈S.hl:=fun b hb1=>by
   have hb2:b∈S.hl.map (·.n):=by
    rcases(qc3 hM.wf (Ben.part hB)).2 b hb1 with rfl|h
    .exact mem_map.mpr ⟨ez,(qbm hM.az).1,(qbm hM.az).2⟩
    .exact h
   obtain⟨eb,h3,rfl⟩:=mem_map.mp hb2
   exact⟨eb,qev hM.wf.1 h3,h3⟩
  have sup:∀v,qd8 (bs.map (qd1 S)) v≠none->v∈S.ws:=by
   refine sum_sup (fun u hu v hv=>?_) noF (fun v hv=>absurd rfl hv)
   obtain⟨b,hb1,rfl⟩:=mem_map.mp hu
   obtain⟨eb,h3,h4⟩:=hbs b hb1
   rw [qdw h3] at hv
   exact hM.ow.2 eb h4 v hv
  walk_at "g"
  refine⟨t,ln,lp,S,qe0 ys zs,kp,_,rfl,hM5.tr,hM.wf,hM.ow,SqL.of (s5 _ _ eln),elp,hAp,hM.w5,hM.wl,sup,fun u hu=>hM.hy u (mem_filter.mp hu).1,fun hf H6 s6=>?_,fun i u e' cs v h1 h2 h3 h4 h5 h6=>?_⟩
  .walk_at "g"
   exact qa hf _ (t5.trans s6)
  .exact(qb i u e' cs v h1 h2 h3 h4 h5 h6).same t5
def mvE (z y:Str) (e:He):He:=if e.n=z then {e with x:={e.x with el:=some y}} else e
def mvS (S:Ts) (z y:Str):Ts:={S with hl:=S.hl.map (mvE z y)}
theorem mvE_n (z y:Str) (e:He):(mvE z y e).n=e.n:=by unfold mvE;split <;> rfl
theorem mvE_a (z y:Str) (e:He):(mvE z y e).a=e.a:=by unfold mvE;split <;> rfl
theorem mvS_keys (S:Ts) (z y:Str):(mvS S z y).keys=S.keys:=by
 unfold Ts.keys mvS
 dsimp only
 rw [map_map]
 exact List.map_congr_left fun e _=>by show ((mvE z y e).n,(mvE z y e).a)=_;rw [mvE_n,mvE_a]
theorem mvS_names (S:Ts) (z y:Str):(mvS S z y).hl.map (·.n)=S.hl.map (·.n):=by
 unfold mvS
 dsimp only
 rw [map_map]
 exact List.map_congr_left fun e _=>mvE_n z y e
def w9x (K:Frag) (d:Ad):Sp:=fun vs H Q E=>∃(t:Addr) (S:Ts) (x y:V),vs=[.ref t,x,y]/\qcj d H t S/\
 ((qco K H x/\who S x=none/\∀H',qb0 H H'->E (.ref d.w01) none H')\/
  (∃z zs,x=.str z/\LineOf S z zs/\zs.length<=1000/\qco K H y/\who S y=none/\∀H',qb0 H H'->E (.ref d.w01) none H')\/
  ∃(z w:Str) (ez ey:He) (zs ys:List Str),x=.str z/\y=.str w/\MvAt K d H t S z w ez ey zs ys/\(S.hl.map (·.a)).Nodup/\MvQ K d H t S z w ez ey zs ys E (∀H',SameBut ez.a H H'->qcj d H' t (mvS S z w)->Q .non H'))
include T in
theorem wa6:FnOk P w K mg base (My.CX1 P w) 20 d.w5q d.w55 ["self","name","elder"] (w9x K d):=by
 refine okX T.wb9 w9u (fun vs H Q E h=>?_) (fun cdv A outer s H vs Q E hr h=>?_)
 .obtain⟨t,S,x,y,rfl,_⟩:=h;rfl
 obtain⟨t,S,x,yv,rfl,hT,hq⟩:=h
 refine⟨_,(qa4 (qat (qap (pv 0) T.w04 T.w0i ((w35 T).mono (by decide)) hr T.w3i .nil qaq (qa0 (pv 1) (qa0 (pv 2) qa3))))
  (qa5 (qef (qck (qce hr) (qbt (pv 0) rfl) (pv 1) (fun _ _=>rfl)) (pv 2) rfl))),?_⟩
 walk_at "d"
 refine qah (σ:=[some (.ref t),some (x),some (yv)]) rfl ?_
 have ct:=T.w04
 have ch:=T.w1e
 have nh:qar K d.w03 "houses":=T.w07
 have ne':qar K d.w08 "elder":=T.w0j
 obtain⟨dx,ht⟩:=id hT.1
 walk_at "g"
 rcases hq with ⟨hx,hn,q⟩ |⟨z,zs,rfl,hL,hz,hx,hn,q⟩ |⟨z,y,ez,ey,zs,ys,rfl,rfl,hM,nda,hq⟩
 .exact⟨t,S,x,yv,rfl,hT,.inl ⟨hx,hn,q⟩⟩
 .exact⟨t,S,.str z,yv,rfl,hT,.inr (.inl ⟨z,zs,rfl,hL,hz,hx,hn,q⟩)⟩
 refine⟨t,S,.str z,.str y,rfl,hT,.inr (.inr ⟨z,y,ez,ey,zs,ys,rfl,rfl,hM,⟨hq.mv,hq.dp,fun c1 c2 c3 bs hB hf H1 s1=>?_,hq.no⟩⟩)⟩
 have q:=hq.ok c1 c2 c3 bs hB hf
 have hM1:=hM.same s1
 obtain⟨⟨dx1,ht1⟩,hw1,hh1,nd1,hz1,hE1⟩:=id hM1.tr
 have hme:=qbm hM.az
 obtain⟨⟨dh,ho⟩,hp,hpA,hc,hcA⟩:=hE1 ez hme.1
 clear ht
 walk_at "g"
 refine r_dgO (h:=ez.a) (.inl hh1) (by rw [qd2,hM.az];rfl) ?_
 walk_at "g"
 refine r_fsk ho ch ne' (by show 4 < 1000;decide) ?_
 have ef:qdp "elder" (.str y) (fsH ez.x)=fsH {ez.x with el:=some y}:=rfl
 rw [ef]
 walk_at "g"
 have sb:∀b u,b≠ez.a->H1 b=some u->upd H1 ez.a (.ins d.w08 dh (fsH {ez.x with el:=some y})) b=some u:=fun b u hb e=>by rw [qa9 hb];exact e
 have nk:∀{b:Addr} {u:HO},H1 b=some u->(∀dy f,u≠ .ins d.w08 dy f)->b≠ez.a:=fun e1 e2 e3=>by
  rw [e3,ho] at e1
  exact e2 _ _ (Option.some.inj e1).symm
 have ndT:d.w03≠d.w08\/True:=.inr trivial
 refine q _ (fun b u hb e=>sb b u hb (s1 _ _ e)) ⟨⟨dx1,?_⟩,sb _ _ (nk hw1 (fun _ _ e=>by cases e)) hw1,?_,?_,?_,fun e he=>?_⟩
 .by_cases c:t=ez.a
  .rw [c] at ht1
   rw [ht1] at ho
   have h1:=Option.some.inj ho
   injection h1 with h1 h2 h3
   exact absurd (congrArg List.length h3) (show ¬2=4 by decide)
  .exact sb _ _ c ht1
 .rw [mvS_keys]
  exact sb _ _ (nk hh1 (fun _ _ e=>by cases e)) hh1
 .rw [mvS_names];exact nd1
 .show (S.hl.map (mvE z y)).length<=60
  rw [length_map];exact hz1
 .obtain⟨e0,he0,rfl⟩:=mem_map.mp he
  obtain⟨⟨dy,h1⟩,h2,h3,h4,h5⟩:=hE1 e0 he0
  have p2:=sb _ _ (nk h2 (fun _ _ e=>by cases e)) h2
  have p4:=sb _ _ (nk h4 (fun _ _ e=>by cases e)) h4
  by_cases c:e0.n=z
  .have e1:e0=ez:=Option.some.inj (by rw [<-hM.az,<-c];exact(qev nd1 he0).symm)
   subst e1
   unfold mvE
   rw [if_pos c]
   exact⟨⟨dh,qa1⟩,p2,h3,p4,h5⟩
  .unfold mvE
   rw [if_neg c]
   have na:e0.a≠ez.a:=fun ea=>by
    obtain⟨i,hi,ei⟩:=mem_iff_getElem.mp he0
    obtain⟨j,hj,ej⟩:=mem_iff_getElem.mp hme.1
    have hij:i≠j:=fun x=>c (by subst x;rw [<-ei,ej];exact hme.2)
    have pw:=pairwise_iff_getElem.mp (show List.Pairwise (·≠·) (S.hl.map (·.a)) from nda)
    rcases Nat.lt_or_gt_of_ne hij with lt|lt
    .have:=pw i j (by rw [length_map];exact hi) (by rw [length_map];exact hj) lt
     rw [getElem_map,getElem_map,ei,ej] at this
     exact this ea
    .have:=pw j i (by rw [length_map];exact hj) (by rw [length_map];exact hi) lt
     rw [getElem_map,getElem_map,ei,ej] at this
     exact this ea.symm
   exact⟨⟨dy,sb _ _ na h1⟩,p2,h3,p4,h5⟩
abbrev ABC:Str:=Str.ofString "abcdefghijklmnopqrstuvwxyz"
def letc (i:Int):Nat:=97+(i%26).toNat
theorem letAt (g:Int):atI ABC.cps.toList (g%26)=some (letc g):=by
 have e0:=Int.emod_nonneg g (show (26:Int)≠0 by decide)
 have e1:=Int.emod_lt_of_pos g (show (0:Int) < 26 by decide)
 have h:∀k:Nat,k < 26->ABC.cps.toList[k]?=some (97+k):=by decide+kernel
 have e:g%26=(((g%26).toNat:Nat):Int):=by omega
 rw [e]
 rw [qas (h (g%26).toNat (by omega))]
 rfl
theorem letc_isL (g:Int):isL (letc g)=true:=by
 have e0:=Int.emod_nonneg g (show (26:Int)≠0 by decide)
 have e1:=Int.emod_lt_of_pos g (show (0:Int) < 26 by decide)
 unfold isL letc
 rw [Bool.and_eq_true,decide_eq_true_iff,decide_eq_true_iff]
 omega
theorem letc_inj {g g':Int} (h:letc g=letc g'):g%26=g'%26:=by
 have e0:=Int.emod_nonneg g (show (26:Int)≠0 by decide)
 have f0:=Int.emod_nonneg g' (show (26:Int)≠0 by decide)
 unfold letc at h
 omega
def nmJ (c k:Int) (j:Nat):Nat:=letc (c.fdiv 192+(0+(j:Int))*(c.fdiv 7%11)+k*if decide (0+(j:Int)=c.fdiv 24%(1+c.fdiv 3%8))=true then 1 else 0)
def nmL (c k:Int):List Nat:=if c%3=0 then List.replicate (1+(k+c.fdiv 78)%8).toNat (letc (c.fdiv 3+k.fdiv 8)) else (List.range (1+c.fdiv 3%8).toNat).map (nmJ c k)
def ofL (l:List Nat):Str:=⟨l.toArray⟩
def nmS (c k:Int):Str:=ofL (nmL c k)
theorem qet (l:List Nat):qe2 (ofL l)=l:=by simp [qe2,ofL]
theorem ofL_inj {l m:List Nat} (h:ofL l=ofL m):l=m:=by rw [<-qet l,<-qet m,h]
theorem ofL_snoc (l:List Nat) (c:Nat):ofL l++(⟨#[c]⟩:Str)=ofL (l++ [c]):=by
 have e:(ofL l++(⟨#[c]⟩:Str)).cps=(ofL (l++ [c])).cps:=by
  rw [Str.cps_append]
  simp [ofL]
 exact congrArg Str.mk e
theorem ofL_len (l:List Nat):(ofL l).length=l.length:=by simp [ofL,Str.length]
theorem qfp (c k:Int):qcz (nmS c k)=true:=by
 have a0:=Int.emod_nonneg (k+c.fdiv 78) (show (8:Int)≠0 by decide)
 have a1:=Int.emod_lt_of_pos (k+c.fdiv 78) (show (0:Int) < 8 by decide)
 have b0:=Int.emod_nonneg (c.fdiv 3) (show (8:Int)≠0 by decide)
 have b1:=Int.emod_lt_of_pos (c.fdiv 3) (show (0:Int) < 8 by decide)
 unfold qcz nmS
 rw [ofL_len,qet,Bool.and_eq_true,Bool.and_eq_true,decide_eq_true_iff,decide_eq_true_iff,all_eq_true]
 unfold nmL
 by_cases z:c%3=0
 .rw [if_pos z,List.length_replicate]
  refine⟨by omega,fun x hx=>?_⟩
  rw [(List.mem_replicate.mp hx).2]
  exact letc_isL _
 .rw [if_neg z,length_map,length_range]
  refine⟨by omega,fun x hx=>?_⟩
  obtain⟨j,_,rfl⟩:=mem_map.mp hx
  exact letc_isL _
theorem nmS_inj {c k k':Int} (h0:0<=k) (h1:k<=20) (g0:0<=k') (g1:k'<=20) (h:nmS c k=nmS c k'):k=k':=by
 have hl:=ofL_inj h
 unfold nmL at hl
 by_cases z:c%3=0
 .rw [if_pos z,if_pos z] at hl
  have hn:=congrArg List.length hl
  rw [List.length_replicate,List.length_replicate] at hn
  have a0:=Int.emod_nonneg (k+c.fdiv 78) (show (8:Int)≠0 by decide)
  have b0:=Int.emod_nonneg (k'+c.fdiv 78) (show (8:Int)≠0 by decide)
  have hc:letc (c.fdiv 3+k.fdiv 8)=letc (c.fdiv 3+k'.fdiv 8):=by
   have m:letc (c.fdiv 3+k.fdiv 8)∈List.replicate (1+(k+c.fdiv 78)%8).toNat (letc (c.fdiv 3+k.fdiv 8)):=List.mem_replicate.mpr ⟨by omega,rfl⟩
   rw [hl] at m
   exact(List.mem_replicate.mp m).2
  have hc':=letc_inj hc
  rw [Int.fdiv_eq_ediv_of_nonneg k (by decide),Int.fdiv_eq_ediv_of_nonneg k' (by decide)] at hc'
  generalize c.fdiv 78=x at*
  generalize c.fdiv 3=y at*
  omega
 .rw [if_neg z,if_neg z] at hl
  have b0:=Int.emod_nonneg (c.fdiv 3) (show (8:Int)≠0 by decide)
  have at0:=Int.emod_nonneg (c.fdiv 24) (show (1+c.fdiv 3%8:Int)≠0 by omega)
  have at1:=Int.emod_lt_of_pos (c.fdiv 24) (show (0:Int) < 1+c.fdiv 3%8 by omega)
  have hj:=congrArg (fun l:List Nat=>l[(c.fdiv 24%(1+c.fdiv 3%8)).toNat]?) hl
  simp only [getElem?_map] at hj
  rw [List.getElem?_range (by omega)] at hj
  have hj':nmJ c k (c.fdiv 24%(1+c.fdiv 3%8)).toNat=nmJ c k' (c.fdiv 24%(1+c.fdiv 3%8)).toNat:=by simpa using hj
  unfold nmJ at hj'
  have e:(0:Int)+(((c.fdiv 24%(1+c.fdiv 3%8)).toNat:Nat):Int)=c.fdiv 24%(1+c.fdiv 3%8):=by omega
  rw [e,decide_eq_true rfl,if_pos rfl] at hj'
  have:=letc_inj hj'
  generalize c.fdiv 192+c.fdiv 24%(1+c.fdiv 3%8)*(c.fdiv 7%11)=x at*
  omega
def wcc (K:Frag) (d:Ad):Sp:=fun vs H Q _=>∃(a:Addr) (ns:List Int) (k:Int),vs=[.ref a,.int k]/\SqL K H a (ns.map V.int)/\0<=k/\Q (.int (cell ns k)) H
include T in
theorem w19:FnOk P w K mg base CX0 1 d.w7e d.w6l ["_law_script","_law_k"] (wcc K d):=by
 refine T.w1c.ok wcb (fun vs H Q E h=>?_) (fun cdv A outer s H vs Q E hr h=>?_)
 .obtain⟨a,ns,k,rfl,_⟩:=h;rfl
 obtain⟨a,ns,k,rfl,hS,h0,q⟩:=h
 refine⟨_,(qa4 (qb2 (qai op_lt (pv 1) (qac qao rfl T.w1v PySem.boot_len (qa0 (pv 0) qa3)) (qau _)) (qa5 (qaj (qaw qaf (pv 0) (pv 1) (fun _ _=>rfl)))) qag)
  (qa5 (qaj qaa))),?_⟩
 walk_at "d"
 refine qah (σ:=[some (.ref a),some (.int k)]) rfl ?_
 walk_at "g"
 have hl:(ns.map V.int).length=ns.length:=length_map _
 refine i_2 (fun c=>?_) (fun c=>?_)
 .rw [hl] at c
  walk_at "g"
  refine qbf hS (qfu h0 c) ?_
  exact q
 .rw [hl] at c
  walk_at "g"
  rw [cell_out c h0] at q;exact q
def wdf (K:Frag) (d:Ad):Sp:=fun vs H Q _=>∃c k:Int,vs=[.int c,.int k]/\0<=k/\k<=10000/\∀r:Int,0<=r->Q (.int r) H
include T in
theorem wbm:FnOk P w K mg base CX0 1 d.wbe d.w8j ["_law_cell","_law_k"] (wdf K d):=by
 refine T.wb8.ok wbx (fun vs H Q E h=>?_) (fun cdv A outer s H vs Q E hr h=>?_)
 .obtain⟨c,k,rfl,_⟩:=h;rfl
 obtain⟨c,k,rfl,k0,k1,q⟩:=h
 refine⟨_,(qa4 (qae (i:=2) wbx.nd rfl (Or.inl rfl) (qal qbh (qal qba (qal qba (pv 0) (qal qc5 qaa (pv 1))) qaa) qaa))
  (qa5 (qaj (qal qbh (qal qc5 (qal qbh (qal qc5 (pv 2) (pv 2)) qaa) qaa) qaa)))),?_⟩
 walk_at "d"
 refine qah (σ:=[some (.int c),some (.int k),none]) rfl ?_
 walk_at "g"
 have m0:=Int.emod_nonneg (c+7919*k+12345) (show (2147483629:Int)≠0 by decide)
 have m1:=Int.emod_lt_of_pos (c+7919*k+12345) (show (0:Int) < 2147483629 by decide)
 generalize (c+7919*k+12345)%2147483629=u at*
 walk_at "g"
 have n0:=Int.emod_nonneg (u*u) (show (2147483629:Int)≠0 by decide)
 have n1:=Int.emod_lt_of_pos (u*u) (show (0:Int) < 2147483629 by decide)
 generalize u*u%2147483629=y at*
 walk_at "g"
 exact q _ (Int.emod_nonneg _ (by decide))
def wej (K:Frag) (d:Ad):Sp:=fun vs H Q _=>∃c k:Int,vs=[.int c,.int k]/\0<=k/\k<=1000/\Q (.str (nmS c k)) H
include T in
theorem w91:FnOk P w K mg base CX0 1 d.wcz d.wb2 ["_law_cell","_law_k"] (wej K d):=by
 refine T.w9d.ok w44 (fun vs H Q E h=>?_) (fun cdv A outer s H vs Q E hr h=>?_)
 .obtain⟨c,k,rfl,_⟩:=h;rfl
 obtain⟨c,k,rfl,k0,k1,q⟩:=h
 refine⟨_,(qa4 (qae (i:=2) w44.nd rfl (Or.inl rfl) qb1)
  (qa4 (qb2 (qai qdl (qal qbh (pv 0) qaa) qaa (qau _)) (qa5 (qaj (qal op_repC (qaw ix_str (pv 2) (qal qbh (qal qba (qal qb9 (pv 0) qaa) (qal qb9 (pv 1) qaa)) qaa) (fun _ _=>rfl)) (qal qba qaa (qal qbh (qal qba (pv 1) (qal qb9 (pv 0) qaa)) qaa))))) qag)
  (qa4 (qae (i:=3) w44.nd rfl (Or.inl rfl) (qal qba qaa (qal qbh (qal qb9 (pv 0) qaa) qaa)))
  (qa4 (qae (i:=4) w44.nd rfl (Or.inl rfl) (qal qbh (qal qb9 (pv 0) qaa) (pv 3)))
  (qa4 (qae (i:=5) w44.nd rfl (Or.inl rfl) qb1)
  (qa4 (qbl PassesOwn.never rfl (qb5 rfl T.w1a (qa0 (pv 3) qa3)) (qam (i:=6) w44.nd rfl (Or.inl rfl)) (qa4 (qae (i:=7) w44.nd rfl (Or.inl rfl) (qal qc5 (pv 1) (qc1 call_intB rfl T.wf7 PyProof.Rows.boot_int (qa0 (qdz qdl (pv 6) (pv 4) (qau _)) qa3))))
  (qa4 (qae (i:=8) w44.nd rfl (Or.inl rfl) (qal qba (qal qba (qal qb9 (pv 0) qaa) (qal qc5 (pv 6) (qal qbh (qal qb9 (pv 0) qaa) qaa))) (pv 7)))
  (qa5 (qae (i:=5) w44.nd rfl (Or.inl rfl) (qal op_catS (pv 5) (qaw ix_str (pv 2) (qal qbh (pv 8) qaa) (fun _ _=>rfl))))))))
  (qa5 (qaj (pv 5))))))))),?_⟩
 walk_at "d"
 refine qah (σ:=[some (.int c),some (.int k),none,none,none,none,none,none,none]) rfl ?_
 walk_at "g"
 refine i_2 (fun z=>?_) (fun z=>?_)
 .walk_at "g"
  refine r_ixS (by decide) (letAt _) ?_
  walk_at "g"
  have a0:=Int.emod_nonneg (k+c.fdiv 78) (show (8:Int)≠0 by decide)
  have a1:=Int.emod_lt_of_pos (k+c.fdiv 78) (show (0:Int) < 8 by decide)
  refine r_repC (by omega) (by omega) ?_
  unfold nmS nmL at q
  rw [if_pos z] at q
  exact q
 .walk_at "g"
  have b0:=Int.emod_nonneg (c.fdiv 3) (show (8:Int)≠0 by decide)
  have b1:=Int.emod_lt_of_pos (c.fdiv 3) (show (0:Int) < 8 by decide)
  have d0:=Int.emod_nonneg (c.fdiv 7) (show (11:Int)≠0 by decide)
  have d1:=Int.emod_lt_of_pos (c.fdiv 7) (show (0:Int) < 11 by decide)
  have ks:k.natAbs < 2^600:=Nat.lt_of_le_of_lt (show k.natAbs<=1000 by omega) (by decide)
  have ds:(c.fdiv 7%11).natAbs < 2^600:=Nat.lt_of_le_of_lt (show (c.fdiv 7%11).natAbs<=11 by omega) (by decide)
  refine qcn (fun i σ H'=>H'=H/\∃w1 w2 w3,σ=[some (V.int c),some (V.int k),some (V.str ABC),some (V.int (1+c.fdiv 3%8)),some (V.int (c.fdiv 24%(1+c.fdiv 3%8))),some (V.str (ofL ((List.range i).map (nmJ c k)))),w1,w2,w3]) ⟨rfl,none,none,none,rfl⟩ ?_ ?_
  .rintro i σ H' hi ⟨rfl,w1,w2,w3,rfl⟩
   have is:((0:Int)+(i:Int)).natAbs < 2^600:=Nat.lt_of_le_of_lt (show ((0:Int)+(i:Int)).natAbs<=8 by omega) (by decide)
   walk_at "g"
   refine r_ixS (by decide) (letAt _) ?_
   have lz:(ofL ((List.range i).map (nmJ c k))).length=i:=by rw [ofL_len,length_map,length_range]
   refine r_catS ?_ ?_
   .rw [lz];show _+1<=16777216;omega
   walk_at "g"
   have ee:(List.range (i+1)).map (nmJ c k)=(List.range i).map (nmJ c k)++ [nmJ c k i]:=by rw [List.range_succ,map_append];rfl
   rw [ofL_snoc,ee]
   exact⟨rfl,_,_,_,rfl⟩
  .rintro σ H' ⟨rfl,w1,w2,w3,rfl⟩
   walk_at "g"
   unfold nmS nmL at q
   rw [if_neg z] at q
   exact q
def iV (e:Nat):V:=.int (e:Int)
def wd7 (K:Frag) (d:Ad):Sp:=fun vs H Q _=>∃(lc:Addr) (cs:List Int) (sh:Int),vs=[.ref lc,.int sh]/\SqL K H lc (cs.map V.int)/\cs.length<=20/\
 ∀(l:Addr) (es:List Nat),H l=none->es.length=cs.length->(∀(k e:Nat),es[k]?=some e->e<=k)->((∀(k e:Nat),es[k]?=some e->e<=10)\/∀(k e:Nat),es[k]?=some e->e+1<=k\/k=0)->Q (.ref l) (upd H l (.lst (.non :: es.map iV)))
include T in
theorem wcl:FnOk P w K mg base CX0 1 d.w8v d.w7n ["_law_cells","_law_shape"] (wd7 K d):=by
 refine T.wbo.ok w3c (fun vs H Q E h=>?_) (fun cdv A outer s H vs Q E hr h=>?_)
 .obtain⟨lc,cs,sh,rfl,_⟩:=h;rfl
 obtain⟨lc,cs,sh,rfl,hS,hn,q⟩:=h
 refine⟨_,(qa4 (qae (i:=2) w3c.nd rfl (Or.inl rfl) (qak (qa0 qdi qa3)))
  (qa4 (qbl PassesOwn.never rfl (qb5 rfl T.w1a (qa0 (qac qao rfl T.w1v PySem.boot_len (qa0 (pv 0) qa3)) qa3)) (qam (i:=3) w3c.nd rfl (Or.inl rfl)) (qa4 (qae (i:=4) w3c.nd rfl (Or.inl rfl) (qal qbh (qaw qaf (pv 0) (pv 3) (fun _ _=>rfl)) (qac (call_minR rfl) rfl T.wfd PyProof.Rows.boot_min (qa0 (qal qba (pv 3) qaa) (qa0 qaa qa3)))))
  (qa4 (qbk (qb2 (qai qdl (pv 1) qaa (qau _)) (qa5 (qae (i:=4) w3c.nd rfl (Or.inl rfl) (qac (call_minR rfl) rfl T.wfd PyProof.Rows.boot_min (qa0 (pv 3) (qa0 qaa qa3))))) qag))
  (qa4 (qbk (qb2 (qai qdl (pv 1) qaa (qau _)) (qa5 (qae (i:=4) w3c.nd rfl (Or.inl rfl) (qac (call_maxR rfl) rfl T.wc7 PyProof.Rows.boot_max (qa0 qaa (qa0 (qal op_sub (pv 3) qaa) qa3))))) qag))
  (qa5 (qat (qcg PySem.F.plainAttrs_list PySem.F.slot_list_append PySem.F.type_list_append qay (pv 2) (qa0 (pv 4) qa3))))))))
  (qa5 (qaj (pv 2))))),?_⟩
 walk_at "d"
 refine qah (σ:=[some (.ref lc),some (.int sh),none,none,none]) rfl ?_
 have hl:(cs.map V.int).length=cs.length:=length_map _
 walk_at "g"
 rename_i l hl0
 refine qcn (fun i σ H'=>∃(es:List Nat) (w1 w2:Option V),σ=[some (.ref lc),some (.int sh),some (.ref l),w1,w2]/\H'=upd H l (.lst (.non :: es.map iV))/\es.length=i/\∀(k e:Nat),es[k]?=some e->e<=k/\(sh≠2->e<=10)/\(sh=2->e+1<=k\/k=0)) ⟨[],none,none,rfl,rfl,rfl,fun k e h=>by simp at h⟩ ?_ ?_
 .rintro i σ H' hi ⟨es,w1,w2,rfl,rfl,hes,hp⟩
  have hi':i < cs.length:=by omega
  have eL:upd H l (.lst (.non :: es.map iV)) l=some (.lst (.non :: es.map iV)):=qa1
  have hS':=qfh (o:=.lst (.non :: es.map iV)) hS hl0
  walk_at "g"
  refine qbf hS' (qfu (by omega) (by omega)) ?_
  walk_at "g"
  generalize hm:(if (11:Int) < 0+(i:Int)+1 then (11:Int) else 0+(i:Int)+1)=m
  have m0:0 < m/\m<=(i:Int)+1/\m<=11:=by rw [<-hm];split <;> omega
  have a0:=Int.emod_nonneg (cell cs (0+(i:Int))) (show m≠0 by omega)
  have a1:=Int.emod_lt_of_pos (cell cs (0+(i:Int))) m0.1
  generalize cell cs (0+(i:Int))%m=a at*
  refine r_cut (fun σ H'=>∃a:Int,σ=[some (.ref lc),some (.int sh),some (.ref l),some (.int (0+(i:Int))),some (.int a)]/\H'=upd H l (.lst (.non :: es.map iV))/\0<=a/\a<=i/\a<=10) ?_ ?_
  .walk_at "g"
   refine i_2 (fun c=>?_) (fun c=>?_)
   .walk_at "g"
    exact⟨_,rfl,rfl,by split <;> omega,by split <;> omega,by split <;> omega⟩
   .walk_at "g"
    exact⟨_,rfl,rfl,by omega,by omega,by omega⟩
  rintro σ' H' ⟨a,rfl,rfl,a0,a1,a2⟩
  walk_at "g"
  refine r_cut (fun σ H'=>∃a:Int,σ=[some (.ref lc),some (.int sh),some (.ref l),some (.int (0+(i:Int))),some (.int a)]/\H'=upd H l (.lst (.non :: es.map iV))/\0<=a/\a<=i/\(sh≠2->a<=10)/\(sh=2->a+1<=i\/i=0)) ?_ ?_
  .walk_at "g"
   refine i_2 (fun c=>?_) (fun c=>?_)
   .walk_at "g"
    refine⟨_,rfl,rfl,by split <;> omega,by split <;> omega,fun h=>absurd c h,fun _=>by split <;> omega⟩
   .walk_at "g"
    exact⟨_,rfl,rfl,by omega,by omega,fun _=>by omega,fun h=>absurd h c⟩
  rintro σ' H' ⟨a,rfl,rfl,a0,a1,a2,a3⟩
  have hzz:(V.non :: es.map iV).length < sizeLine:=by rw [length_cons,length_map];show _ < 16777216;omega
  walk_at "g"
  rw [qbq]
  have ea:V.int a=iV a.toNat:=by unfold iV;rw [Int.toNat_of_nonneg a0]
  refine⟨es++ [a.toNat],_,_,rfl,by rw [ea,map_append];rfl,by rw [length_append,hes];rfl,fun k e he=>?_⟩
  rcases Nat.lt_or_ge k es.length with h|h
  .rw [List.getElem?_append_left h] at he
   exact hp k e he
  .have hk:=(List.getElem?_eq_some_iff.mp he).1
   rw [length_append,length_singleton] at hk
   have ek:k=es.length:=by omega
   subst ek
   rw [List.getElem?_append_right (Nat.le_refl _),Nat.sub_self] at he
   have:a.toNat=e:=by simpa using he
   refine⟨by omega,fun h=>by have:=a2 h;omega,fun h=>by have:=a3 h;omega⟩
 .rintro σ H' ⟨es,w1,w2,rfl,rfl,hes,hp⟩
  walk_at "g"
  refine q l es hl0 (by omega) (fun k e h=>(hp k e h).1) ?_
  by_cases c:sh=2
  .exact .inr fun k e h=>(hp k e h).2.2 c
  .exact .inl fun k e h=>(hp k e h).2.1 c
theorem at_ws {ws:List Str} {i:Nat} (hi:i < ws.length) {k:Int} (e:k=(i:Int)):atI (ws.map V.str) k=some (.str ws[i]):=by
 subst e
 exact qas (by rw [getElem?_map,getElem?_eq_getElem hi];rfl)
def qfz (ws:List Str) (B:Int) (f:Str->Option Int):Prop:=∀z n,f z=some n->z∈ws/\0<=n/\n<=B
theorem qfz.put {ws:List Str} {B:Int} {f:Str->Option Int} (h:qfz ws B f) {z:Str} {n:Int} (hz:z∈ws) (h0:0<=n) (h1:n<=B):qfz ws B (qe7 f z n):=fun y m e=>by
 unfold qe7 at e
 by_cases c:y=z
 .rw [if_pos c] at e;cases e;rw [c];exact⟨hz,h0,h1⟩
 .rw [if_neg c] at e;exact h y m e
theorem finB_nil {ws:List Str} {B:Int}:qfz ws B noF:=fun z n e=>by cases e
structure PtN (H H':Hp) (ws:List Str) (B:Int) (t:Pt):Prop where
 fr:H t.a=none
 loc:H' t.a=some (.dK t.k)
 ad:AD t.k t.f
 fn:qfz ws B t.f
structure ScOk (sc:Int):Prop where
 lo:0<=sc
 hi:sc<=10^27
def wah (K:Frag) (d:Ad):Sp:=fun vs H Q _=>∃(lc lw:Addr) (cs:List Int) (ws:List Str) (sc:Int),vs=[.ref lc,.ref lw,.int sc]/\SqL K H lc (cs.map V.int)/\cs.length<=20/\SqL K H lw (ws.map V.str)/\ws.length<=3/\ScOk sc/\
 ∀(l:Addr) (ts:List Pt) H',qb0 H H'->H l=none->H' l=some (.lst (ts.map fun t=> .ref t.a))->ts.length=cs.length->(∀t∈ts,PtN H H' ws (5*10^27) t)->Q (.ref l) H'
include T in
theorem wab:FnOk P w K mg base CX0 2 d.w6o d.w5u ["_law_cells","_law_wares","_law_scale"] (wah K d):=by
 refine T.w89.ok w20 (fun vs H Q E h=>?_) (fun cdv A outer s H vs Q E hr h=>?_)
 .obtain⟨lc,lw,cs,ws,sc,rfl,_⟩:=h;rfl
 obtain⟨lc,lw,cs,ws,sc,rfl,hS,hn,hW,hw,sk,q⟩:=h
 refine⟨_,(qa4 (qae (i:=3) w20.nd rfl (Or.inl rfl) (qak qa3))
  (qa4 (qbl PassesOwn.never rfl (qb5 rfl T.w1a (qa0 (qac qao rfl T.w1v PySem.boot_len (qa0 (pv 0) qa3)) qa3)) (qam (i:=4) w20.nd rfl (Or.inl rfl)) (qa4 (qae (i:=5) w20.nd rfl (Or.inl rfl) qct)
  (qa4 (qbl PassesOwn.never rfl (qb5 rfl T.w1a (qa0 (qac qao rfl T.w1v PySem.boot_len (qa0 (pv 1) qa3)) qa3)) (qam (i:=6) w20.nd rfl (Or.inl rfl)) (qa4 (qae (i:=7) w20.nd rfl (Or.inl rfl) (qad ((wbm T).mono (by decide)) hr rfl T.wcs T.wb8.kp T.wda .nil qav (qa0 (qal qb9 (qaw qaf (pv 0) (pv 4) (fun _ _=>rfl)) qaa) (qa0 (qal qba (qal qc5 qaa (pv 4)) (pv 6)) qa3))))
  (qa5 (qbk (qb2 (qai qfn (qal qbh (pv 7) qaa) qaa (qau _)) (qa5 (qdx (qce hr) (pv 5) (qaw qaf (pv 1) (pv 6) (fun _ _=>rfl)) (qal qc5 (qal qbh (qal qb9 (pv 7) qaa) qaa) (pv 2)) rfl)) qag)))))
  (qa5 (qat (qcg PySem.F.plainAttrs_list PySem.F.slot_list_append PySem.F.type_list_append qay (pv 3) (qa0 (pv 5) qa3)))))))
  (qa5 (qaj (pv 3))))),?_⟩
 walk_at "d"
 refine qah (σ:=[some (.ref lc),some (.ref lw),some (.int sc),none,none,none,none,none]) rfl ?_
 have hl:(cs.map V.int).length=cs.length:=length_map _
 have hl2:(ws.map V.str).length=ws.length:=length_map _
 walk_at "g"
 rename_i l hl0
 refine qcn (fun i σ H'=>∃(ts:List Pt) (w1 w2 w3 w4:Option V),σ=[some (.ref lc),some (.ref lw),some (.int sc),some (.ref l),w1,w2,w3,w4]/\qb0 H H'/\H' l=some (.lst (ts.map fun t=> .ref t.a))/\ts.length=i/\∀t∈ts,PtN H H' ws (5*10^27) t) ⟨[],none,none,none,none,rfl,qa2 hl0 _,qa1,rfl,fun t h=>by simp at h⟩ ?_ ?_
 .rintro i σ H' hi ⟨ts,w1,w2,w3,w4,rfl,sm,eL,hts,hp⟩
  have hi':i < cs.length:=by omega
  have hW1:=sm.seq hW
  have hS1:=sm.seq hS
  walk_at "g"
  rename_i p hpn
  have hp0:H p=none:=sm.free hpn
  have nlp:l≠p:=fun z=>by subst z;rw [eL] at hpn;cases hpn
  refine qcn (fun j σ H2=>∃(k':List (Key × V)) (f:Str->Option Int) (w3 w4:Option V),σ=[some (.ref lc),some (.ref lw),some (.int sc),some (.ref l),some (.int (0+(i:Int))),some (.ref p),w3,w4]/\H2=upd H' p (.dK k')/\AD k' f/\qfz ws (5*10^27) f/\k'.length<=j) ⟨[],noF,w3,w4,rfl,rfl,AD.nil,finB_nil,Nat.le_refl _⟩ ?_ ?_
  .rintro j σ H2 hj ⟨k',f,w3,w4,rfl,rfl,hA,hF,hk⟩
   have hj':j < ws.length:=by omega
   have s2:=qa2 hpn (.dK k')
   have hS2:=(sm.trans s2).seq hS
   have hW2:=(sm.trans s2).seq hW
   walk_at "g"
   refine qbf hS2 (qfu (by omega) (by omega)) ?_
   walk_at "g"
   refine⟨_,_,rfl,by omega,by omega,fun r r0=>?_⟩
   walk_at "g"
   have e0:=Int.emod_nonneg (r.fdiv 4) (show (6:Int)≠0 by decide)
   have e1:=Int.emod_lt_of_pos (r.fdiv 4) (show (0:Int) < 6 by decide)
   have sb:sc.natAbs < 2^600:=by
    have a:=sk.lo
    have b:=sk.hi
    exact Nat.lt_of_le_of_lt (show sc.natAbs<=10^27 by omega) (by decide)
   have eb:(r.fdiv 4%6).natAbs < 2^600:=Nat.lt_of_le_of_lt (show (r.fdiv 4%6).natAbs<=6 by omega) (by decide)
   have v0:0<=r.fdiv 4%6*sc:=Int.mul_nonneg e0 sk.lo
   have v1:r.fdiv 4%6*sc<=5*10^27:=Int.mul_le_mul (by omega) sk.hi sk.lo (by decide)
   refine qf3 ?_
   walk_at "g"
   refine i_2 (fun c=>?_) (fun c=>?_)
   .walk_at "g"
    refine qbf hW2 (at_ws hj' (by omega)) ?_
    walk_at "g"
    rw [qbq]
    have:=qbr k' (Sum.inr ws[j]) (.int (r.fdiv 4%6*sc))
    exact⟨_,_,_,_,rfl,rfl,hA.put ws[j] _,hF.put (getElem_mem hj') v0 v1,by omega⟩
   .walk_at "g"
    exact⟨_,_,_,_,rfl,rfl,hA,hF,by omega⟩
  .rintro σ H2 ⟨k',f,w3,w4,rfl,rfl,hA,hF,hk⟩
   have eL2:upd H' p (.dK k') l=some (.lst (ts.map fun t=> .ref t.a)):=by rw [qa9 nlp];exact eL
   walk_at "g"
   refine⟨ts++ [⟨p,k',f⟩],_,_,_,_,rfl,qbe (qbe sm hp0) hl0,by rw [qa1,map_append];rfl,by rw [length_append,hts];rfl,fun t ht=>?_⟩
   have s3:∀b o,b≠l->b≠p->H' b=some o->upd (upd H' p (.dK k')) l (.lst (ts.map (fun t=>V.ref t.a)++ [V.ref p])) b=some o:=fun b o h1 h2 e=>by rw [qa9 h1,qa9 h2];exact e
   rcases mem_append.mp ht with h|h
   .have z:=hp t h
    refine⟨z.fr,s3 _ _ (fun e=>by have:=z.loc;rw [e,eL] at this;cases this) (fun e=>?_) z.loc,z.ad,z.fn⟩
    have:=z.loc
    rw [e,hpn] at this
    cases this
   .have:t=⟨p,k',f⟩:=by simpa using h
    subst this
    exact⟨hp0,by rw [qa9 nlp.symm];exact qa1,hA,hF⟩
 .rintro σ H' ⟨ts,w1,w2,w3,w4,rfl,sm,eL,hts,hp⟩
  walk_at "g"
  exact q l ts H' sm hl0 eL (by omega) hp
def elN (es:List Nat) (k:Nat):Nat:=(es[k - 1]?).getD 0
def ptN (ts:List Pt) (k:Nat) (v:Str):Int:=match ts[k]? with
 |some t=>gN t.f v
 |none=>0
def qc7 (H:Hp) (ws:List Str) (qs:List Addr) (G:Nat->Str->Int):Prop:=∀(j:Nat) (q:Addr),qs[j]?=some q->∃(k:List (Key × V)) (f:Str->Option Int),H q=some (.dK k)/\AD k f/\(∀z,f z≠none->z∈ws)/\∀v,gN f v=G j v
theorem qc7.cast {H:Hp} {ws:List Str} {qs:List Addr} {G G':Nat->Str->Int} (h:qc7 H ws qs G) (e:∀j v,j < qs.length->G j v=G' j v):qc7 H ws qs G':=fun j q hq=>by
 obtain⟨k,f,a,b,c,g⟩:=h j q hq
 have hj:=(List.getElem?_eq_some_iff.mp hq).1
 exact⟨k,f,a,b,c,fun v=>by rw [g,e j v hj]⟩
theorem qc7.same {H H':Hp} {ws:List Str} {qs:List Addr} {G:Nat->Str->Int} (h:qc7 H ws qs G) (s:∀q∈qs,∀o,H q=some o->H' q=some o):qc7 H' ws qs G:=fun j q hq=>by
 obtain⟨k,f,a,r⟩:=h j q hq
 exact⟨k,f,s q (mem_of_getElem? hq) _ a,r⟩
theorem gN_put (f:Str->Option Int) (z:Str) (n:Int) (v:Str):gN (qe7 f z n) v=if v=z then n else gN f v:=by
 unfold gN qe7
 by_cases c:v=z
 .rw [if_pos c,if_pos c];rfl
 .rw [if_neg c,if_neg c]
theorem qc7.put {H:Hp} {ws:List Str} {qs:List Addr} {G:Nat->Str->Int} (nd:qs.Nodup) (h:qc7 H ws qs G) {at_:Nat} {q:Addr} (hq:qs[at_]?=some q) {k:List (Key × V)} {f:Str->Option Int} (hA:AD k f) (hf:∀z,f z≠none->z∈ws) (hg:∀v,gN f v=G at_ v) {z:Str} (hz:z∈ws) {n:Int}:
  qc7 (upd H q (.dK (qdj k (Sum.inr z) (.int n)))) ws qs (fun j v=>if j=at_/\v=z then n else G j v):=fun j r hr=>by
 by_cases e:j=at_
 .subst e
  rw [hq] at hr;cases hr
  refine⟨_,_,qa1,hA.put z n,fun y hy=>?_,fun v=>?_⟩
  .unfold qe7 at hy
   by_cases c:y=z
   .rw [c];exact hz
   .rw [if_neg c] at hy;exact hf y hy
  .show _=if j=j/\v=z then n else G j v
   rw [gN_put]
   by_cases c:v=z
   .rw [if_pos c,if_pos ⟨rfl,c⟩]
   .rw [if_neg c,if_neg (fun x=>c x.2),hg]
 .obtain⟨k',f',a,b,c,g⟩:=h j r hr
  have ne:r≠q:=fun x=>by
   subst x
   obtain⟨h1,e1⟩:=List.getElem?_eq_some_iff.mp hr
   obtain⟨h2,e2⟩:=List.getElem?_eq_some_iff.mp hq
   rcases Nat.lt_or_ge j at_ with lt|ge
   .exact(pairwise_iff_getElem.mp nd) j at_ h1 h2 lt (by rw [e1,e2])
   .exact(pairwise_iff_getElem.mp nd) at_ j h2 h1 (by omega) (by rw [e1,e2])
  exact⟨k',f',by rw [qa9 ne];exact a,b,c,fun v=>by show _=if j=at_/\v=z then n else G j v;rw [g,if_neg (fun x=>e x.1)]⟩
def oV:Option Nat->V
 |none=> .non
 |some a=> .int (a:Int)
noncomputable def restL (el:Nat->Nat):Option Nat->List Nat
 |none=> []
 |some a=>qa6 el a
noncomputable def meas4 (es:List Nat) (σ:L2.St):Nat:=match σ[4]? with
 |some (some (V.int a))=>(qa6 (elN es) a.toNat).length
 |_=>0
def wes (K:Frag) (d:Ad):Sp:=fun vs H Q _=>∃(le lp:Addr) (es:List Nat) (ts:List Pt) (ws:List Str),vs=[.ref le,.ref lp]/\H le=some (.lst (.non :: es.map iV))/\SqL K H lp (ts.map fun t=> .ref t.a)/\ts.length=es.length+1/\ts.length<=20/\ws.length<=3/\
 Ac (elN es) ts.length/\(∀t∈ts,H t.a=some (.dK t.k)/\AD t.k t.f/\∀z,t.f z≠none->z∈ws)/\
 ∀(l:Addr) (qs:List Addr) H',qb0 H H'->H l=none->H' l=some (.lst (qs.map V.ref))->qs.length=ts.length->(∀q∈qs,H q=none)->qc7 H' ws qs (fun j v=>qc6 ts.length fun k=>if j∈qa6 (elN es) k then ptN ts k v else 0)->Q (.ref l) H'
include T in
theorem wal:FnOk P w K mg base CX0 1 d.wd0 d.wag ["_law_elders_here","_law_promises_here"] (wes K d):=by
 refine T.wbg.ok w5t (fun vs H Q E h=>?_) (fun cdv A outer s H vs Q E hr h=>?_)
 .obtain⟨le,lp,es,ts,ws,rfl,_⟩:=h;rfl
 obtain⟨le,lp,es,ts,ws,rfl,hE,hP,hn,h13,hw,ac,hts,q⟩:=h
 refine⟨_,(qa4 (qdy (j:=2) (caps:=[]) (cn:=[]) (qbw rfl rfl (by rfl) (by rfl) rfl trivial (by rfl) rfl trivial (by decide)) rfl w5t.nd rfl rfl (qc4 (pv 1)) (fun _ _ _ _=>qdh) (fun _ _ _ _=>qct))
  (qa4 (qbl PassesOwn.never rfl (qb5 rfl T.w1a (qa0 (qac qao rfl T.w1v PySem.boot_len (qa0 (pv 0) qa3)) qa3)) (qam (i:=3) w5t.nd rfl (Or.inl rfl)) (qa4 (qae (i:=4) w5t.nd rfl (Or.inl rfl) (pv 3))
  (qa5 (qfl PassesOwn.never (qai qdr (pv 4) qdi (qau _)) (qa4 (ps_thA (qbl PassesOwn.never rfl (pi_items (pe_bm0 PySem.F.plainAttrs_dict PySem.F.slot_dict_items PySem.F.type_dict_items mt_items (qaw qaf (pv 1) (pv 3) (fun _ _=>rfl)))) (pg_tup rfl (qax (qam (i:=5) w5t.nd rfl (Or.inl rfl)) (qax (qam (i:=6) w5t.nd rfl (Or.inl rfl)) qei))) (qa5 (qdx (qce hr) (qaw qaf (pv 2) (pv 4) (fun _ _=>rfl)) (pv 5) (qal qba (qda (qce hr) (qaw qaf (pv 2) (pv 4) (fun _ _=>rfl)) (pv 5) qaa ⟨rfl,rfl,rfl,rfl⟩) (pv 6)) rfl))))
  (qa5 (qae (i:=4) w5t.nd rfl (Or.inl rfl) (qaw qaf (pv 0) (pv 4) (fun _ _=>rfl)))))))))
  (qa5 (qaj (pv 2))))),?_⟩
 walk_at "d"
 try dsimp only [cxC]
 refine qah (σ:=[some (.ref le),some (.ref lp),none,none,none,none,none]) rfl ?_
 have hl:(ts.map fun t=>V.ref t.a).length=ts.length:=length_map _
 walk_at "g"
 intro C s0 H0 fp na hna
 refine c_by ts.length (fun i H'=>∃qs:List Addr,qs.length=i/\qs.Nodup/\(∀q∈qs,H q=none/\q≠na/\H' q=some (.dK []))/\qb0 H H'/\H' na=some (.lst (qs.map V.ref))) ⟨[],rfl,nodup_nil,fun q h=>by simp at h,qa2 hna _,qa1⟩ ?_ ?_ ?_ ?_
 .rintro i H' hi ⟨qs,_,_,_,sm,_⟩
  exact⟨_,.ref ts[i].a,sm.seq hP,by rw [getElem?_map,getElem?_eq_getElem hi];rfl⟩
 .rintro H' ⟨qs,_,_,_,sm,_⟩
  exact⟨_,sm.seq hP,by rw [hl];exact Nat.le_refl _⟩
 .rintro i H' v H'' hi ⟨qs,e1,e2,e3,sm,eN⟩ ⟨rfl,hy⟩
  walk_at "g"
  rename_i p hpn
  have npn:p≠na:=fun z=>by subst z;rw [eN] at hpn;cases hpn
  refine⟨qs++ [p],by rw [length_append,e1];rfl,?_,fun q hq=>?_,qbe (qbe sm (sm.free hpn)) hna,by rw [qa1,map_append];rfl⟩
  .rw [nodup_append]
   refine⟨e2,nodup_cons.mpr ⟨by simp,nodup_nil⟩,fun a ha b hb e=>?_⟩
   have:b=p:=by simpa using hb
   subst this
   subst e
   rw [(e3 a ha).2.2] at hpn
   cases hpn
  .rcases mem_append.mp hq with h|h
   .obtain⟨a1,a2,a3⟩:=e3 q h
    exact⟨a1,a2,by rw [qa9 a2,qa9 (qa8 a3 hpn)];exact a3⟩
   .have:q=p:=by simpa using h
    subst this
    exact⟨sm.free hpn,npn,by rw [qa9 npn];exact qa1⟩
 rintro H' ⟨qs,e1,e2,e3,sm,eN⟩
 have hE':=sm _ _ hE
 have fq:∀q∈qs,H q=none/\q≠na:=fun q hq=>⟨(e3 q hq).1,(e3 q hq).2.1⟩
 walk_at "g"
 have hll:(V.non :: es.map iV).length=ts.length:=by rw [length_cons,length_map,hn]
 refine qcn (fun i σ H2=>∃w1 w2 w3 w4,σ=[some (.ref le),some (.ref lp),some (.ref na),w1,w2,w3,w4]/\qb0 H H2/\H2 na=some (.lst (qs.map V.ref))/\qc7 H2 ws qs (fun j v=>qc6 i fun k=>if j∈qa6 (elN es) k then ptN ts k v else 0)) ⟨none,none,none,none,rfl,sm,eN,fun j q hq=>?_⟩ ?_ ?_
 .exact⟨[],noF,(e3 q (mem_of_getElem? hq)).2.2,AD.nil,fun z h=>absurd rfl h,fun v=>rfl⟩
 .rintro i σ H2 hi ⟨w1,w2,w3,w4,rfl,s2,eN2,hG⟩
  have hi':i < ts.length:=by omega
  have tm:=getElem_mem hi'
  generalize ht:ts[i]=t at tm
  obtain⟨ht1,ht2,ht3⟩:=hts t tm
  have pt:∀v,ptN ts i v=gN t.f v:=fun v=>by unfold ptN;rw [getElem?_eq_getElem hi',ht]
  walk_at "g"
  simp only [Int.zero_add]
  refine qfd (fun σ H3=>∃(done:List Nat) (o:Option Nat) (w5 w6:Option V),σ=[some (.ref le),some (.ref lp),some (.ref na),some (.int (i:Int)),some (oV o),w5,w6]/\done++restL (elN es) o=qa6 (elN es) i/\(∀a,o=some a->a < ts.length)/\qb0 H H3/\H3 na=some (.lst (qs.map V.ref))/\qc7 H3 ws qs (fun j v=>(qc6 i fun k=>if j∈qa6 (elN es) k then ptN ts k v else 0)+if j∈done then gN t.f v else 0)) (fun σ _=>meas4 es σ) ⟨[],some i,w3,w4,rfl,rfl,fun a h=>by cases h;exact hi',s2,eN2,hG.cast fun j v _=>by simp⟩ ?_ ?_
  .rintro σ H3 ⟨done,o,w5,w6,rfl,hd,ha,s3,eN3,hG3⟩
   cases o with
   |none=>
    rw [show oV none=V.non from rfl]
    walk_at "g"
    have hd':done=qa6 (elN es) i:=by rw [<-hd];exact(append_nil _).symm
    refine⟨_,_,_,_,rfl,s3,eN3,hG3.cast fun j v _=>?_⟩
    rw [hd',<-pt v]
    rfl
   |some a=>
    have hai:=ha a rfl
    have haq:a < qs.length:=by omega
    rw [show oV (some a)=V.int (a:Int) from rfl]
    have hP3:=s3.seq hP
    have ht1':=s3 _ _ ht1
    walk_at "g"
    refine r_iI ?_
    walk_at "g"
    refine qbf hP3 (qas (j:=i) (by rw [getElem?_map,getElem?_eq_getElem hi',ht];rfl)) ?_
    walk_at "g"
    refine r_items (.inl ht1') fun vw hvw=>?_
    refine r_itI qa1 (qa7 ht1' hvw) fun o2=>?_
    have nqt:∀q∈qs,q≠t.a:=fun q hq=>(qa8 ht1 (fq q hq).1).symm
    have nnt:na≠t.a:=(qa8 ht1 hna).symm
    have sb0:SameBut t.a H (upd (upd H3 vw (ViewO vw t.a)) t.a (.frz o2 (.dK t.k))):=SameBut.at (SameBut.of (s3.trans (qa2 hvw _)))
    refine f_items (fun m σ H4=>∃(w5 w6:Option V),σ=[some (.ref le),some (.ref lp),some (.ref na),some (.int (i:Int)),some (.int (a:Int)),w5,w6]/\SameBut t.a H H4/\H4 t.a=some (.frz o2 (.dK t.k))/\H4 na=some (.lst (qs.map V.ref))/\
     qc7 H4 ws qs (fun j v=>((qc6 i fun k=>if j∈qa6 (elN es) k then ptN ts k v else 0)+if j∈done then gN t.f v else 0)+if j=a/\v∈(qc9 t.k).take m then gN t.f v else 0)) ⟨w5,w6,rfl,sb0,qa1,by rw [qa9 nnt,qa9 (qa8 eN3 hvw)];exact eN3,?_⟩ ?_ ?_ ?_
    .refine(hG3.same fun q hq o e=>?_).cast fun j v _=>by simp
     rw [qa9 (nqt q hq),qa9 (qa8 e hvw)];exact e
    .rintro m σ H4 _ ⟨w5,w6,rfl,sb,fz,_⟩;exact fz
    .rintro m k x T σ H4 hk ⟨w5,w6,rfl,sb,fz,eN4,hG4⟩ hT
     obtain⟨z,n,rfl,rfl,hf,hzm⟩:=ht2.at hk
     obtain⟨kq,gq,q1,q2,q3,q4⟩:=hG4 a qs[a] (getElem?_eq_getElem haq)
     have s5:=qa2 hT (.tup [.str z,.int n])
     have eT:upd H4 T (.tup [.str z,.int n]) T=some (.tup [.str z,.int n]):=qa1
     have eN5:=s5 _ _ eN4
     have q1':=s5 _ _ q1
     have fz5:=s5 _ _ fz
     have hG5:=hG4.same (H':=upd H4 T (.tup [.str z,.int n])) fun q _ o e=>s5 _ _ e
     have sb5:=sb.same s5
     show gTup K _ _ (.ref T) _ (upd H4 T (.tup [.str z,.int n])) _
     generalize upd H4 T (.tup [.str z,.int n])=H5 at*
     have hRq:Rd H5 qs[a] (.dK kq):=.inl q1'
     have atq:atI (qs.map V.ref) (a:Int)=some (.ref qs[a]):=qas (by rw [getElem?_map,getElem?_eq_getElem haq];rfl)
     walk_at "g"
     refine qbf (SqL.of eN5) atq ?_
     walk_at "g"
     refine qbf (SqL.of eN5) atq ?_
     have hkq:kq.length < sizeLine:=by have:=q2.le q3;show _ < 16777216;omega
     walk_at "g"
     have mq:=getElem_mem haq
     refine⟨_,_,rfl,sb_put sb5 (fq _ mq).1,by rw [qa9 (nqt _ mq).symm];exact fz5,by rw [qa9 (fq _ mq).2.symm];exact eN5,(qc7.put e2 hG5 (getElem?_eq_getElem haq) q2 q3 q4 (ht3 z (by rw [hf];simp))).cast fun j v _=>?_⟩
     have q4z:gN gq z=((qc6 i fun k=>if a∈qa6 (elN es) k then ptN ts k z else 0)+if a∈done then gN t.f z else 0)+(if a=a/\z∈(qc9 t.k).take m then gN t.f z else 0):=q4 z
     have nz:z∉(qc9 t.k).take m:=fun h=>by
      have:=take_in ht2.knd hzm
      rw [List.contains_iff_mem.mpr h] at this
      cases this
     have gz:gN t.f z=n:=by unfold gN;rw [hf];rfl
     have ts1:=qbd hzm v
     by_cases c:j=a/\v=z
     .rw [if_neg (show ¬(a=a/\z∈(qc9 t.k).take m) from fun h=>nz h.2)] at q4z
      rw [if_pos c,q4z,if_pos (show j=a/\v∈(qc9 t.k).take (m+1) from⟨c.1,ts1.mpr (.inr c.2)⟩),c.1,c.2,gz]
      omega
     .rw [if_neg c]
      congr 1
      by_cases d1:j=a
      .have d2:v≠z:=fun h=>c ⟨d1,h⟩
       have d3:(j=a/\v∈(qc9 t.k).take m)=(j=a/\v∈(qc9 t.k).take (m+1)):=propext ⟨fun h=>⟨h.1,ts1.mpr (.inl h.2)⟩,fun h=>⟨h.1,(ts1.mp h.2).resolve_right d2⟩⟩
       simp only [d3]
      .rw [if_neg (show ¬(j=a/\v∈(qc9 t.k).take m) from fun h=>d1 h.1),if_neg (show ¬(j=a/\v∈(qc9 t.k).take (m+1)) from fun h=>d1 h.1)]
    .rintro σ H4 ⟨w5,w6,rfl,sb,fz,eN4,hG4⟩
     refine r_thNx (thaw1 fz (qdb ht1)) ?_
     have s6:=qcp ht1 sb
     have eN6:upd H4 t.a (.dK t.k) na=some (.lst (qs.map V.ref)):=by rw [qa9 nnt];exact eN4
     have hG6:qc7 (upd H4 t.a (.dK t.k)) ws qs _:=hG4.same fun q hq o e=>by rw [qa9 (nqt q hq)];exact e
     generalize upd H4 t.a (.dK t.k)=H6 at*
     have eE:=s6 _ _ hE
     have hai':a < ts.length:=hai
     have pw:=ac.nd hi'
     rw [<-hd] at pw
     have nda:a∉done:=fun h=>by
      exact(nodup_append.mp pw).2.2 a h a (by show a∈qa6 (elN es) a;exact ac.self hai') rfl
     have gE:∀j v,j < qs.length->((qc6 i fun k=>if j∈qa6 (elN es) k then ptN ts k v else 0)+if j∈done then gN t.f v else 0)+(if j=a/\v∈(qc9 t.k).take t.k.length then gN t.f v else 0)=(qc6 i fun k=>if j∈qa6 (elN es) k then ptN ts k v else 0)+if j∈done++ [a] then gN t.f v else 0:=fun j v _=>by
      rw [<-ht2.klen,take_length]
      have z0:v∉qc9 t.k->gN t.f v=0:=fun h=>by
       have:t.f v=none:=by
        cases e:t.f v with
        |none=>rfl
        |some n=>exact absurd ((ht2.kin v).mpr (by rw [e];simp)) h
       unfold gN;rw [this];rfl
      by_cases d1:j=a
      .subst d1
       rw [if_neg nda,if_pos (mem_append_right _ (mem_singleton.mpr rfl))]
       by_cases d2:v∈qc9 t.k
       .rw [if_pos ⟨rfl,d2⟩];omega
       .rw [if_neg (show ¬(j=j/\v∈qc9 t.k) from fun h=>d2 h.2),z0 d2];omega
      .rw [if_neg (show ¬(j=a/\v∈qc9 t.k) from fun h=>d1 h.1)]
       have d3:(j∈done++ [a])=(j∈done):=propext ⟨fun h=>(mem_append.mp h).resolve_right (fun h=>d1 (mem_singleton.mp h)),fun h=>mem_append_left _ h⟩
       simp only [d3]
       omega
     walk_at "g"
     cases a with
     |zero=>
      refine qbf (SqL.of eE) (qas (j:=0) rfl) ?_
      walk_at "g"
      refine⟨⟨done++ [0],none,_,_,rfl,by rw [<-hd];show (done++ [0])++ []=done++qa6 (elN es) 0;rw [append_nil,qc0],fun a h=>(by cases h),s6,eN6,hG6.cast gE⟩,?_⟩
      show 0 <(qa6 (elN es) (((0:Nat):Int)).toNat).length
      rw [show (((0:Nat):Int)).toNat=0 from rfl,qc0]
      decide
     |succ b=>
      have hb:b < es.length:=by omega
      have eb:elN es (b+1)=es[b]:=by unfold elN;rw [Nat.add_sub_cancel,getElem?_eq_getElem hb];rfl
      have lb:=ac.elt (by omega) hai'
      refine qbf (v:=iV es[b]) (SqL.of eE) (qas (j:=b+1) (by rw [getElem?_cons_succ,getElem?_map,getElem?_eq_getElem hb];rfl)) ?_
      walk_at "g"
      refine⟨⟨done++ [b+1],some es[b],_,_,rfl,?_,fun a h=>by cases h;rw [eb] at lb;exact lb,s6,eN6,hG6.cast gE⟩,?_⟩
      .rw [<-hd,List.append_assoc]
       show done++([b+1]++qa6 (elN es) es[b])=done++qa6 (elN es) (b+1)
       rw [ac.up (by omega) hai',eb];rfl
      .show (qa6 (elN es) (((es[b]:Nat):Int)).toNat).length <(qa6 (elN es) ((((b+1:Nat)):Int)).toNat).length
       rw [show (((es[b]:Nat):Int)).toNat=es[b] by omega,show ((((b+1:Nat)):Int)).toNat=b+1 by omega,ac.up (by omega) hai',eb,length_cons]
       omega
  .rintro σ H1 Q1 Q2 h ⟨v,hv,w,k,hk,hq⟩
   exact⟨v,hv,w,k,hk,h _ _ hq⟩
 .rintro σ H2 ⟨w1,w2,w3,w4,rfl,s2,eN2,hG⟩
  walk_at "g"
  exact q na qs H2 s2 hna eN2 e1 (fun q hq=>(fq q hq).1) (hG.cast fun j v _=>by rw [hll];rfl)
theorem qfz.nn {ws:List Str} {B:Int} {f:Str->Option Int} (h:qfz ws B f) (v:Str):0<=gN f v:=by
 unfold gN
 cases e:f v with
 |none=>exact Int.le_refl _
 |some n=>exact(h v n e).2.1
def wef (K:Frag) (d:Ad):Sp:=fun vs H Q _=>∃(lc ls lw:Addr) (cs:List Int) (qs:List Addr) (ws:List Str) (sc:Int) (G:Nat->Str->Int),vs=[.ref lc,.ref ls,.ref lw,.int sc]/\SqL K H lc (cs.map V.int)/\cs.length<=20/\SqL K H ls (qs.map V.ref)/\qs.length=cs.length/\SqL K H lw (ws.map V.str)/\ws.length<=3/\ScOk sc/\
 qc7 H ws qs G/\(∀j v,j < qs.length->0<=G j v/\G j v<=10^29)/\
 ∀(l:Addr) (ts:List Pt) H',qb0 H H'->H l=none->H' l=some (.lst (ts.map fun t=> .ref t.a))->ts.length=cs.length->(∀(j:Nat) (t:Pt),ts[j]?=some t->PtN H H' ws (2*10^29) t/\∀v∈ws,G j v<=gN t.f v)->Q (.ref l) H'
include T in
theorem wer:FnOk P w K mg base CX0 2 d.wcd d.war ["_law_cells","_law_sums_here","_law_wares","_law_scale"] (wef K d):=by
 refine T.we3.ok w4n (fun vs H Q E h=>?_) (fun cdv A outer s H vs Q E hr h=>?_)
 .obtain⟨lc,ls,lw,cs,qs,ws,sc,G,rfl,_⟩:=h;rfl
 obtain⟨lc,ls,lw,cs,qs,ws,sc,G,rfl,hS,hn,hQ,hqn,hW,hw,sk,hG,hB,q⟩:=h
 refine⟨_,(qa4 (qae (i:=4) w4n.nd rfl (Or.inl rfl) (qak qa3))
  (qa4 (qbl PassesOwn.never rfl (qb5 rfl T.w1a (qa0 (qac qao rfl T.w1v PySem.boot_len (qa0 (pv 0) qa3)) qa3)) (qam (i:=5) w4n.nd rfl (Or.inl rfl)) (qa4 (qae (i:=6) w4n.nd rfl (Or.inl rfl) qct)
  (qa4 (qbl PassesOwn.never rfl (qb5 rfl T.w1a (qa0 (qac qao rfl T.w1v PySem.boot_len (qa0 (pv 2) qa3)) qa3)) (qam (i:=7) w4n.nd rfl (Or.inl rfl)) (qa4 (qae (i:=8) w4n.nd rfl (Or.inl rfl) (qad ((wbm T).mono (by decide)) hr rfl T.wcs T.wb8.kp T.wda .nil qav (qa0 (qal qb9 (qaw qaf (pv 0) (pv 5) (fun _ _=>rfl)) qaa) (qa0 (qal qba (qal qba (qal qc5 qaa (pv 5)) (pv 7)) qaa) qa3))))
  (qa4 (qae (i:=9) w4n.nd rfl (Or.inl rfl) (qaw qaf (qak (qa0 qaa (qa0 (pv 3) (qa0 qaa (qa0 (qal qc5 qaa (pv 3)) (qa0 (qal qc5 qaa (pv 3)) (qa0 qaa (qa0 (qal op_pow qaa qaa) (qa0 qaa qa3))))))))) (qal qbh (pv 8) qaa) (fun _ _=>rfl)))
  (qa4 (qae (i:=10) w4n.nd rfl (Or.inl rfl) (qal qba (qda (qce hr) (qaw qaf (pv 1) (pv 5) (fun _ _=>rfl)) (qaw qaf (pv 2) (pv 7) (fun _ _=>rfl)) qaa ⟨rfl,rfl,rfl,rfl⟩) (pv 9)))
  (qa5 (qbk (qb2 (PW.pt (qe6 (qai qfn (pv 10) qaa (qau _)) (qdg (qai qdl (qal qbh (qal qb9 (pv 8) qaa) qaa) qaa (qau _))))) (qa5 (qdx (qce hr) (pv 6) (qaw qaf (pv 2) (pv 7) (fun _ _=>rfl)) (pv 10) rfl)) qag)))))))
  (qa5 (qat (qcg PySem.F.plainAttrs_list PySem.F.slot_list_append PySem.F.type_list_append qay (pv 4) (qa0 (pv 6) qa3)))))))
  (qa5 (qaj (pv 4))))),?_⟩
 walk_at "d"
 refine qah (σ:=[some (.ref lc),some (.ref ls),some (.ref lw),some (.int sc),none,none,none,none,none,none,none]) rfl ?_
 have hl:(cs.map V.int).length=cs.length:=length_map _
 have hl2:(ws.map V.str).length=ws.length:=length_map _
 walk_at "g"
 rename_i l hl0
 refine qcn (fun i σ H'=>∃(ts:List Pt) (w1 w2 w3 w4 w5 w6:Option V),σ=[some (.ref lc),some (.ref ls),some (.ref lw),some (.int sc),some (.ref l),w1,w2,w3,w4,w5,w6]/\qb0 H H'/\H' l=some (.lst (ts.map fun t=> .ref t.a))/\ts.length=i/\∀(j:Nat) (t:Pt),ts[j]?=some t->PtN H H' ws (2*10^29) t/\∀v∈ws,G j v<=gN t.f v) ⟨[],none,none,none,none,none,none,rfl,qa2 hl0 _,qa1,rfl,fun j t h=>by simp at h⟩ ?_ ?_
 .rintro i σ H' hi ⟨ts,w1,w2,w3,w4,w5,w6,rfl,sm,eL,hts,hp⟩
  have hi':i < cs.length:=by omega
  have hW1:=sm.seq hW
  have hS1:=sm.seq hS
  have hiq:i < qs.length:=by omega
  obtain⟨kq,fq,hq1,hq2,hq3,hq4⟩:=hG i qs[i] (getElem?_eq_getElem hiq)
  have eix:atI (qs.map V.ref) (0+(i:Int))=some (.ref qs[i]):=by rw [Int.zero_add];exact qas (by rw [getElem?_map,getElem?_eq_getElem hiq];rfl)
  walk_at "g"
  rename_i p hpn
  have hp0:H p=none:=sm.free hpn
  have nlp:l≠p:=fun z=>by subst z;rw [eL] at hpn;cases hpn
  refine qcn (fun j σ H2=>∃(k':List (Key × V)) (f:Str->Option Int) (w3 w4 w5 w6:Option V),σ=[some (.ref lc),some (.ref ls),some (.ref lw),some (.int sc),some (.ref l),some (.int (0+(i:Int))),some (.ref p),w3,w4,w5,w6]/\qb0 H' H2/\H2 p=some (.dK k')/\AD k' f/\qfz ws (2*10^29) f/\k'.length<=j/\∀v∈ws.take j,G i v<=gN f v) ⟨[],noF,w3,w4,w5,w6,rfl,qa2 hpn _,qa1,AD.nil,finB_nil,Nat.le_refl _,fun v h=>by simp at h⟩ ?_ ?_
  .rintro j σ H2 hj ⟨k',f,w3,w4,w5,w6,rfl,s2,eP,hA,hF,hk,hg⟩
   have hj':j < ws.length:=by omega
   have hS2:=(sm.trans s2).seq hS
   have hW2:=(sm.trans s2).seq hW
   have hQ2:=(sm.trans s2).seq hQ
   have hq1':=(sm.trans s2) _ _ hq1
   walk_at "g"
   refine qbf hS2 (qfu (by omega) (by omega)) ?_
   walk_at "g"
   refine⟨_,_,rfl,by omega,by omega,fun r r0=>?_⟩
   have slo:=sk.lo
   have sb:sc.natAbs < 2^600:=by
    have b:=sk.hi
    exact Nat.lt_of_le_of_lt (show sc.natAbs<=10^27 by omega) (by decide)
   walk_at "g"
   rename_i pm hpm
   have s3:=qa2 hpm (.lst [V.int 0,V.int sc,V.int 0,V.int (2*sc),V.int (7*sc),V.int 1,V.int (10^Int.toNat 29),V.int 0])
   have eM:upd H2 pm (.lst [V.int 0,V.int sc,V.int 0,V.int (2*sc),V.int (7*sc),V.int 1,V.int (10^Int.toNat 29),V.int 0]) pm=some (.lst ([0,sc,0,2*sc,7*sc,1,10^Int.toNat 29,0].map V.int)):=qa1
   generalize upd H2 pm (.lst [V.int 0,V.int sc,V.int 0,V.int (2*sc),V.int (7*sc),V.int 1,V.int (10^Int.toNat 29),V.int 0])=H3 at*
   have m8:=Int.emod_nonneg r (show (8:Int)≠0 by decide)
   have m9:=Int.emod_lt_of_pos r (show (0:Int) < 8 by decide)
   refine r_menu (xs:=[0,sc,0,2*sc,7*sc,1,10^Int.toNat 29,0]) (SqL.of eM) m8 m9 fun m hm=>?_
   have mb:0<=m/\m<=10^29:=by
    have b:=sk.hi
    simp only [mem_cons,List.not_mem_nil,or_false] at hm
    have e29:(10:Int)^Int.toNat 29=10^29:=rfl
    rw [e29] at hm
    omega
   clear hm
   have s23:=s2.trans s3
   have hS3:=s3.seq hS2
   have hW3:=s3.seq hW2
   have hQ3:=s3.seq hQ2
   have hq1'':=s3 _ _ hq1'
   have eP3:=s3 _ _ eP
   have hRq:Rd H3 qs[i] (.dK kq):=.inl hq1''
   walk_at "g"
   refine qbf hQ3 eix ?_
   walk_at "g"
   refine qbf hW3 (at_ws hj' (by omega)) ?_
   walk_at "g"
   have gq:gN fq ws[j]=G i ws[j]:=hq4 _
   have gB:=hB i ws[j] hiq
   have tk:∀v,v∈ws.take (j+1)->v∈ws.take j\/v=ws[j]:=fun v hv=>by
    rw [take_add_one,getElem?_eq_getElem hj'] at hv
    rcases mem_append.mp hv with h|h
    .exact .inl h
    .exact .inr (by simpa using h)
   have fin:∀many:Int,many=gN fq ws[j]+m->AD (qdj k' (Sum.inr ws[j]) (.int many)) (qe7 f ws[j] many)/\qfz ws (2*10^29) (qe7 f ws[j] many)/\(qdj k' (Sum.inr ws[j]) (.int many)).length<=j+1/\∀v,v∈ws.take (j+1)->G i v<=gN (qe7 f ws[j] many) v:=fun many em=>by
    have:=qbr k' (Sum.inr ws[j]) (.int many)
    refine⟨hA.put ws[j] many,hF.put (getElem_mem hj') (by omega) (by omega),by omega,fun v hv=>?_⟩
    rw [gN_put]
    by_cases c:v=ws[j]
    .rw [if_pos c,c];omega
    .rw [if_neg c]
     rcases tk v hv with h|h
     .exact hg v h
     .exact absurd h c
   refine qf3 ?_
   walk_at "g"
   refine i_2 (fun c=>?_) (fun c=>?_)
   .walk_at "g"
    refine qbf hW3 (at_ws hj' (by omega)) ?_
    walk_at "g"
    obtain⟨f1,f2,f3,f4⟩:=fin _ rfl
    exact⟨_,_,_,_,_,_,rfl,qbe s23 hpn,qa1,f1,f2,f3,f4⟩
   .walk_at "g"
    refine i_2 (fun c2=>?_) (fun c2=>?_)
    .walk_at "g"
     refine qbf hW3 (at_ws hj' (by omega)) ?_
     walk_at "g"
     obtain⟨f1,f2,f3,f4⟩:=fin _ rfl
     exact⟨_,_,_,_,_,_,rfl,qbe s23 hpn,qa1,f1,f2,f3,f4⟩
    .walk_at "g"
     refine⟨_,_,_,_,_,_,rfl,s23,eP3,hA,hF,by omega,fun v hv=>?_⟩
     rcases tk v hv with h|h
     .exact hg v h
     .have:=hF.nn v
      rw [h] at this ⊢
      omega
  .rintro σ H2 ⟨k',f,w3,w4,w5,w6,rfl,s2,eP,hA,hF,hk,hg⟩
   have eL2:=s2 _ _ eL
   walk_at "g"
   refine⟨ts++ [⟨p,k',f⟩],_,_,_,_,_,_,rfl,qbe (sm.trans s2) hl0,by rw [qa1,map_append];rfl,by rw [length_append,hts];rfl,fun j t ht=>?_⟩
   rw [List.take_of_length_le (by omega)] at hg
   rcases Nat.lt_or_ge j ts.length with h|h
   .rw [List.getElem?_append_left h] at ht
    obtain⟨z,zz⟩:=hp j t ht
    refine⟨⟨z.fr,?_,z.ad,z.fn⟩,zz⟩
    have n1:t.a≠l:=fun e=>by have:=z.loc;rw [e,eL] at this;cases this
    rw [qa9 n1]
    exact s2 _ _ z.loc
   .have e:j=i:=by
     have:=(List.getElem?_eq_some_iff.mp ht).1
     rw [length_append,length_singleton] at this
     omega
    subst e
    rw [List.getElem?_append_right h,hts,Nat.sub_self] at ht
    have:t=⟨p,k',f⟩:=by simpa using ht.symm
    subst this
    exact⟨⟨hp0,by rw [qa9 nlp.symm];exact eP,hA,hF⟩,hg⟩
 .rintro σ H' ⟨ts,w1,w2,w3,w4,w5,w6,rfl,sm,eL,hts,hp⟩
  walk_at "g"
  exact q l ts H' sm hl0 eL (by omega) hp
def wed (K:Frag) (d:Ad):Sp:=fun vs H Q _=>∃(le:Addr) (es:List Nat) (k:Nat),vs=[.ref le,.int (k:Int)]/\H le=some (.lst (.non :: es.map iV))/\Ac (elN es) (es.length+1)/\k<=es.length/\es.length<=20/\
 ∀l,H l=none->Q (.ref l) (upd H l (.lst ((qa6 (elN es) k).map iV)))
theorem elN_low {es:List Nat} (lo:∀(k e:Nat),es[k]?=some e->e<=k) (n:Nat):Low (elN es) n:=fun k k0 kn=>by
 unfold elN
 cases e:es[k - 1]? with
 |none=>exact k0
 |some a=>have:=lo _ _ e;show a < k;omega
theorem qer {es:List Nat} {b:Nat} (hb:b < es.length):elN es (b+1)=es[b]:=by unfold elN;rw [Nat.add_sub_cancel,getElem?_eq_getElem hb];rfl
noncomputable def meas3 (es:List Nat) (σ:L2.St):Nat:=match σ[3]? with
 |some (some (V.int a))=>(qa6 (elN es) a.toNat).length
 |_=>0
include T in
theorem w6q:FnOk P w K mg base CX0 1 d.wcn d.wbf ["_law_elders_here","_law_k"] (wed K d):=by
 refine T.w7h.ok w99 (fun vs H Q E h=>?_) (fun cdv A outer s H vs Q E hr h=>?_)
 .obtain⟨le,es,k,rfl,_⟩:=h;rfl
 obtain⟨le,es,k,rfl,hE,ac,hk,h12,q⟩:=h
 refine⟨_,(qa4 (qae (i:=2) w99.nd rfl (Or.inl rfl) (qak qa3))
  (qa4 (qae (i:=3) w99.nd rfl (Or.inl rfl) (pv 1))
  (qa4 (qfl PassesOwn.never (qai qdr (pv 3) qdi (qau _)) (qa4 (qat (qcg PySem.F.plainAttrs_list PySem.F.slot_list_append PySem.F.type_list_append qay (pv 2) (qa0 (pv 3) qa3)))
  (qa5 (qae (i:=3) w99.nd rfl (Or.inl rfl) (qaw qaf (pv 0) (pv 3) (fun _ _=>rfl))))))
  (qa5 (qaj (pv 2)))))),?_⟩
 walk_at "d"
 refine qah (σ:=[some (.ref le),some (.int (k:Int)),none,none]) rfl ?_
 generalize hki:((k:Nat):Int)=ki
 walk_at "g"
 rename_i l hl
 refine qfd (fun σ H'=>∃(done:List Nat) (o:Option Nat),σ=[some (.ref le),some (.int ki),some (.ref l),some (oV o)]/\H'=upd H l (.lst (done.map iV))/\done++restL (elN es) o=qa6 (elN es) k/\(∀a,o=some a->a < es.length+1)) (fun σ _=>meas3 es σ) ⟨[],some k,by rw [<-hki];rfl,rfl,rfl,fun a h=>by cases h;omega⟩ ?_ ?_
 .rintro σ H' ⟨done,o,rfl,rfl,hd,ha⟩
  have hdl:done.length<=22:=by
   have h1:=congrArg List.length hd
   rw [length_append] at h1
   have h2:=ac.len (k:=k) (by omega)
   omega
  cases o with
  |none=>
   rw [show oV none=V.non from rfl]
   have hd':done=qa6 (elN es) k:=by rw [<-hd];exact(append_nil _).symm
   rw [hd']
   walk_at "g"
   exact q l hl
  |some a=>
   have hak:=ha a rfl
   rw [show oV (some a)=V.int (a:Int) from rfl]
   have eE:=qa7 (o':=.lst (done.map iV)) hE hl
   have eL:upd H l (.lst (done.map iV)) l=some (.lst (done.map iV)):=qa1
   have hz:(done.map iV).length < sizeLine:=by rw [length_map];show _ < 16777216;omega
   generalize hai:((a:Nat):Int)=ai
   walk_at "g"
   rw [qbq]
   have eIv:V.int ai=iV a:=by rw [<-hai];rfl
   have eE2:=qa7 (o':=.lst (done.map iV++ [V.int ai])) hE hl
   have fin:done.map iV++ [V.int ai]=(done++ [a]).map iV:=by rw [eIv,map_append];rfl
   cases a with
   |zero=>
    refine qbf (v:=.non) (SqL.of eE2) (by rw [<-hai];exact qas (j:=0) rfl) ?_
    walk_at "g"
    refine⟨⟨done++ [0],none,rfl,by rw [fin],by rw [<-hd];show (done++ [0])++ []=done++qa6 (elN es) 0;rw [append_nil,qc0],fun a h=>(by cases h)⟩,?_⟩
    show 0 <(qa6 (elN es) ai.toNat).length
    rw [<-hai,show (((0:Nat):Int)).toNat=0 from rfl,qc0]
    decide
   |succ b=>
    have hb:b < es.length:=by omega
    have eb:=qer hb
    have lb:=ac.elt (k:=b+1) (by omega) hak
    refine qbf (v:=iV es[b]) (SqL.of eE2) (by rw [<-hai];exact qas (j:=b+1) (by rw [getElem?_cons_succ,getElem?_map,getElem?_eq_getElem hb];rfl)) ?_
    walk_at "g"
    refine⟨⟨done++ [b+1],some es[b],rfl,by rw [fin],?_,fun a h=>by cases h;rw [eb] at lb;exact lb⟩,?_⟩
    .rw [<-hd,List.append_assoc]
     show done++([b+1]++qa6 (elN es) es[b])=done++qa6 (elN es) (b+1)
     rw [ac.up (k:=b+1) (by omega) hak,eb];rfl
    .show (qa6 (elN es) (((es[b]:Nat):Int)).toNat).length <(qa6 (elN es) ai.toNat).length
     rw [<-hai,show (((es[b]:Nat):Int)).toNat=es[b] by omega,show ((((b+1:Nat)):Int)).toNat=b+1 by omega,ac.up (k:=b+1) (by omega) hak,eb,length_cons]
     omega
 .rintro σ H1 Q1 Q2 h ⟨v,hv,w,k,hk,hq⟩
  exact⟨v,hv,w,k,hk,h _ _ hq⟩
structure PL where
 lw:Addr
 ln:Addr
 le:Addr
 lp:Addr
 lc:Addr
 ws:List Str
 nm:List Str
 es:List Nat
 tp:List Pt
 tc:List Pt
structure PlF (P:PL):Prop where
 w1:1<=P.ws.length
 w3:P.ws.length<=3
 wg:∀z∈P.ws,qcz z=true
 wn:P.ws.Nodup
 nl:P.nm.length=P.es.length+1
 n12:P.nm.length<=17
 ng:∀z∈P.nm,qcz z=true
 nn:P.nm.Nodup
 lo:∀(k e:Nat),P.es[k]?=some e->e<=k
 l12:∀k,k < P.nm.length->(qa6 (elN P.es) k).length<=12
 pl:P.tp.length=P.nm.length
 cl:P.tc.length=P.nm.length
 pa:∀t∈P.tp,AD t.k t.f/\qfz P.ws (5*10^27) t.f
 ca:∀t∈P.tc,AD t.k t.f/\qfz P.ws (2*10^29) t.f
 le:∀(j:Nat) (t:Pt),P.tc[j]?=some t->∀v∈P.ws,(qc6 P.tp.length fun k=>if j∈qa6 (elN P.es) k then ptN P.tp k v else 0)<=gN t.f v
structure Dst (p w n e q c:Addr):Prop where
 pw:w≠p
 pn:n≠p
 pe:e≠p
 pq:q≠p
 pc:c≠p
 wn:w≠n
 we:w≠e
 wq:w≠q
 wc:w≠c
 ne:e≠n
 nq:q≠n
 nc:c≠n
 eq:e≠q
 ec:e≠c
 qc:q≠c
structure PlAt (H:Hp) (p:Addr) (P:PL):Prop where
 top:H p=some (.lst [.ref P.lw,.ref P.ln,.ref P.le,.ref P.lp,.ref P.lc])
 w:H P.lw=some (.lst (P.ws.map V.str))
 n:H P.ln=some (.lst (P.nm.map V.str))
 e:H P.le=some (.lst (.non :: P.es.map iV))
 pr:H P.lp=some (.lst (P.tp.map fun t=> .ref t.a))
 cp:H P.lc=some (.lst (P.tc.map fun t=> .ref t.a))
 pd:∀t∈P.tp,H t.a=some (.dK t.k)
 cd:∀t∈P.tc,H t.a=some (.dK t.k)
theorem PlAt.same {H H':Hp} {p:Addr} {P:PL} (h:PlAt H p P) (s:qb0 H H'):PlAt H' p P:=
 ⟨s _ _ h.top,s _ _ h.w,s _ _ h.n,s _ _ h.e,s _ _ h.pr,s _ _ h.cp,fun t m=>s _ _ (h.pd t m),fun t m=>s _ _ (h.cd t m)⟩
theorem l12_of {es:List Nat} (lo:∀(k e:Nat),es[k]?=some e->e<=k) (h:(∀(k e:Nat),es[k]?=some e->e<=10)\/∀(k e:Nat),es[k]?=some e->e+1<=k\/k=0) (hl:es.length<=16):∀k,k < es.length+1->(qa6 (elN es) k).length<=12:=by
 have low:=elN_low lo (es.length+1)
 rcases h with h|h
 .intro k kn
  by_cases k0:k=0
  .rw [k0,qc0];decide
  .have lk:=low k (by omega) kn
   rw [qe8 low (by omega) kn,length_cons]
   have hl:=lineN_len low (elN es k) (by omega)
   have:elN es k<=10:=by
    obtain⟨b,rfl⟩:∃b,k=b+1:=⟨k - 1,by omega⟩
    have hb:b < es.length:=by omega
    rw [qer hb]
    exact h b _ (getElem?_eq_getElem hb)
   omega
 .have key:∀k,k < es.length+1->2*(qa6 (elN es) k).length<=k+4:=by
   intro k
   induction k using Nat.strongRecOn with
   |ind k ih=>
    intro kn
    by_cases k0:k=0
    .rw [k0,qc0];decide
    .have lk:=low k (by omega) kn
     rw [qe8 low (by omega) kn,length_cons]
     have hi:=ih _ lk (by omega)
     obtain⟨b,rfl⟩:∃b,k=b+1:=⟨k - 1,by omega⟩
     have hb:b < es.length:=by omega
     rw [qer hb] at hi ⊢
     rcases h b _ (getElem?_eq_getElem hb) with h1|h1
     .omega
     .subst h1
      have:=lo 0 _ (getElem?_eq_getElem hb)
      have e0:es[0]=0:=by omega
      rw [e0,qc0];decide
  intro k kn
  have:=key k kn
  omega
theorem nm_nodup (c:Int) {n:Nat} (hn:n<=20):((List.range n).map fun k:Nat=>nmS c (0+(k:Int))).Nodup:=by
 show List.Pairwise _ _
 rw [List.pairwise_map]
 refine List.Pairwise.imp_of_mem (R:=fun a b=>a < b) (fun {a b} ha hb lt e=>?_) List.pairwise_lt_range
 have h1:=mem_range.mp ha
 have h2:=mem_range.mp hb
 have:=nmS_inj (by omega) (by omega) (by omega) (by omega) e
 omega
theorem sumR_bd {f:Nat->Int} {B:Int}:∀{n:Nat},(∀k,k < n->f k<=B)->qc6 n f<=n*B
 |0,_=>by show (0:Int)<=((0:Nat):Int)*B;rw [Int.natCast_zero,Int.zero_mul];exact Int.le_refl _
 |n+1,h=>by
  have h1:=sumR_bd (n:=n) fun k hk=>h k (by omega)
  have h2:=h n (by omega)
  show qc6 n f+f n<=((n+1:Nat):Int)*B
  rw [Int.natCast_add,Int.add_mul]
  have:((1:Nat):Int)*B=B:=by rw [Int.natCast_one,Int.one_mul]
  omega
theorem qfz.gb {ws:List Str} {B:Int} {f:Str->Option Int} (h:qfz ws B f) (b0:0<=B) (v:Str):gN f v<=B:=by
 unfold gN
 cases e:f v with
 |none=>exact b0
 |some n=>exact(h v n e).2.2
theorem ptN_bd {ws:List Str} {B:Int} {ts:List Pt} (b0:0<=B) (h:∀t∈ts,qfz ws B t.f) (k:Nat) (v:Str):0<=ptN ts k v/\ptN ts k v<=B:=by
 unfold ptN
 cases e:ts[k]? with
 |none=>exact⟨Int.le_refl _,b0⟩
 |some t=>exact⟨(h t (mem_of_getElem? e)).nn v,(h t (mem_of_getElem? e)).gb b0 v⟩
def weo (K:Frag) (d:Ad):Sp:=fun vs H Q _=>∃(a:Addr) (ns:List Int) (st:Int) (ct:Nat),vs=[.ref a,.int st,.int ct]/\SqL K H a (ns.map V.int)/\0<=st/\ct<=16/\
 ∀(p:Addr) (P:PL) H',qb0 H H'->PlF P->PlAt H' p P->P.nm.length=ct+1->P.nm=((List.range (ct+1)).map fun k:Nat=>nmS (cell ns 2) (0+(k:Int)))->Dst p P.lw P.ln P.le P.lp P.lc->Q (.ref p) H'
include T in
theorem wen:FnOk P w K mg base CX0 3 d.wdc d.wau ["_law_script","_law_start","_law_count"] (weo K d):=by
 refine T.wdy.ok w47 (fun vs H Q E h=>?_) (fun cdv A outer s H vs Q E hr h=>?_)
 .obtain⟨a,ns,st,ct,rfl,_⟩:=h;rfl
 obtain⟨a,ns,st,ct,rfl,hS,h0,h11,q⟩:=h
 refine⟨_,(qa4 (qae (i:=3) w47.nd rfl (Or.inr rfl) (qdk (caps:=[0]) (cn:=["_law_script"]) (qbw rfl rfl (by rfl) (by rfl) rfl ⟨rfl,trivial⟩ (by rfl) rfl ⟨⟨rfl,rfl,rfl,rfl,_,rfl⟩,trivial⟩ (by decide)) rfl (qb5 rfl T.w1a (qa0 qaa qa3)) (fun _ _ _ _=>qdh) (fun _ _ _ _=>(qad ((w19 T).mono (by decide)) hr rfl T.w1s T.w1c.kp T.w1p .nil qav (qa0 (pv 1) (qa0 (pv 0) qa3))))))
  (qa4 (qdy (j:=4) (caps:=[3]) (cn:=["_law_head"]) (qbw rfl rfl (by rfl) (by rfl) rfl ⟨rfl,trivial⟩ (by rfl) rfl ⟨⟨rfl,rfl,rfl,rfl,_,rfl⟩,trivial⟩ (by decide)) rfl w47.nd rfl rfl (qb5 rfl T.w1a (qa0 (qal qba qaa (qal qbh (qaw qaf (pv 3) qaa (fun _ _=>rfl)) qaa)) qa3)) (fun _ _ _ _=>qdh) (fun _ _ _ _=>(qad ((w91 T).mono (by decide)) hr rfl T.wbv T.w9d.kp T.wbl .nil qav (qa0 (qaw qaf (pv 1) qaa (fun _ _=>rfl)) (qa0 (pv 0) qa3)))))
  (qa4 (qae (i:=5) w47.nd rfl (Or.inl rfl) (qaw qaf (qak (qa0 qaa (qa0 qaa (qa0 qaa (qa0 (qal op_pow qaa qaa) qa3))))) (qal qbh (qal qb9 (qaw qaf (pv 3) qaa (fun _ _=>rfl)) qaa) qaa) (fun _ _=>rfl)))
  (qa4 (qdy (j:=6) (caps:=[0,1]) (cn:=["_law_script","_law_start"]) (qbw rfl rfl (by rfl) (by rfl) rfl ⟨rfl,⟨rfl,trivial⟩⟩ (by rfl) rfl ⟨⟨rfl,rfl,rfl,rfl,_,rfl⟩,⟨⟨rfl,rfl,rfl,rfl,_,rfl⟩,trivial⟩⟩ (by decide)) rfl w47.nd rfl rfl (qb5 rfl T.w1a (qa0 (pv 2) qa3)) (fun _ _ _ _=>qdh) (fun _ _ _ _=>(qad ((w19 T).mono (by decide)) hr rfl T.w1s T.w1c.kp T.w1p .nil qav (qa0 (pv 1) (qa0 (qal qba (pv 2) (pv 0)) qa3)))))
  (qa4 (qae (i:=7) w47.nd rfl (Or.inl rfl) (qad ((wcl T).mono (by decide)) hr rfl T.wdg T.wbo.kp T.wdo .nil qav (qa0 (pv 6) (qa0 (qal qbh (qaw qaf (pv 3) qaa (fun _ _=>rfl)) qaa) qa3))))
  (qa4 (qae (i:=8) w47.nd rfl (Or.inl rfl) (qad ((wab T).mono (by decide)) hr rfl T.wc2 T.w89.kp T.wca .nil qav (qa0 (qal op_cat (qak (qa0 (qaw qaf (pv 3) qaa (fun _ _=>rfl)) qa3)) (pv 6)) (qa0 (pv 4) (qa0 (pv 5) qa3)))))
  (qa4 (qae (i:=9) w47.nd rfl (Or.inl rfl) (qad ((wer T).mono (by decide)) hr rfl T.wex T.we3.kp T.wf5 .nil qav (qa0 (qal op_cat (qak (qa0 (qaw qaf (pv 3) qaa (fun _ _=>rfl)) qa3)) (pv 6)) (qa0 (qad ((wal T).mono (by decide)) hr rfl T.wcf T.wbg.kp T.wcm .nil qav (qa0 (pv 7) (qa0 (pv 8) qa3))) (qa0 (pv 4) (qa0 (pv 5) qa3))))))
  (qa4 (qdy (j:=10) (caps:=[3]) (cn:=["_law_head"]) (qbw rfl rfl (by rfl) (by rfl) rfl ⟨rfl,trivial⟩ (by rfl) rfl ⟨⟨rfl,rfl,rfl,rfl,_,rfl⟩,trivial⟩ (by decide)) rfl w47.nd rfl rfl (qb5 rfl T.w1a (qa0 (qal qba (pv 2) qaa) qa3)) (fun _ _ _ _=>qdh) (fun _ _ _ _=>(qad ((w91 T).mono (by decide)) hr rfl T.wbv T.w9d.kp T.wbl .nil qav (qa0 (qaw qaf (pv 1) qaa (fun _ _=>rfl)) (qa0 (pv 0) qa3)))))
  (qa5 (qaj (qak (qa0 (pv 4) (qa0 (pv 10) (qa0 (pv 7) (qa0 (pv 8) (qa0 (pv 9) qa3)))))))))))))))),?_⟩
 walk_at "d"
 try dsimp only [cxC]
 refine qah (σ:=[some (.ref a),some (.int st),some (.int ct),none,none,none,none,none,none,none,none]) rfl ?_
 generalize hci:((ct:Nat):Int)=ci
 walk_at "g"
 intro C s0 H0 fp lh hlh
 refine c_by 4 (fun i H'=>H'=upd H lh (.lst (((List.range i).map fun k:Nat=>cell ns (0+(k:Int))).map V.int))) rfl (fun i H' hi _=>hi) (fun H' _=>Nat.le_refl _) ?_ ?_
 .rintro i H' v H'' hi rfl ⟨rfl,rfl⟩
  have hS':=qfh (o:=.lst (((List.range i).map fun k:Nat=>cell ns (0+(k:Int))).map V.int)) hS hlh
  walk_at "g"
  refine⟨a,ns,_,rfl,hS',by omega,?_⟩
  refine⟨_,qa1,by rw [length_map,length_map,length_range];show _ < 16777216;omega,?_⟩
  rw [qbq,List.range_succ,map_append,map_append];rfl
 rintro H' rfl
 have eH:upd H lh (.lst (((List.range 4).map fun k:Nat=>cell ns (0+(k:Int))).map V.int)) lh=some (.lst [.int (cell ns (0+((0:Nat):Int))),.int (cell ns (0+((1:Nat):Int))),.int (cell ns (0+((2:Nat):Int))),.int (cell ns (0+((3:Nat):Int)))]):=qa1
 have s1:=qa2 hlh (.lst (((List.range 4).map fun k:Nat=>cell ns (0+(k:Int))).map V.int))
 generalize upd H lh (.lst (((List.range 4).map fun k:Nat=>cell ns (0+(k:Int))).map V.int))=H1 at*
 generalize cell ns (0+((0:Nat):Int))=c0 at*
 generalize cell ns (0+((1:Nat):Int))=c1 at*
 rw [show (0:Int)+((2:Nat):Int)=2 from rfl] at eH
 generalize hc2:cell ns 2=c2 at*
 generalize cell ns (0+((3:Nat):Int))=c3 at*
 have k0:=Int.emod_nonneg c0 (show (3:Int)≠0 by decide)
 have k1:=Int.emod_lt_of_pos c0 (show (0:Int) < 3 by decide)
 walk_at "g"
 intro C2 s2' H02 fp2 lw hlw
 generalize hnw:(1+c0%3).toNat=nw
 have nw1:1<=nw/\nw<=3:=by omega
 refine c_by nw (fun i H'=>H'=upd H1 lw (.lst (((List.range i).map fun k:Nat=>nmS c1 (0+(k:Int))).map V.str))) rfl (fun i H' hi _=>hi) (fun H' _=>Nat.le_refl _) ?_ ?_
 .rintro i H' v H'' hi rfl ⟨rfl,rfl⟩
  have eH':=qa7 (o':=.lst (((List.range i).map fun k:Nat=>nmS c1 (0+(k:Int))).map V.str)) eH hlw
  walk_at "g"
  refine⟨_,_,rfl,by omega,by omega,?_⟩
  refine⟨_,qa1,by rw [length_map,length_map,length_range];show _ < 16777216;omega,?_⟩
  rw [qbq,List.range_succ,map_append,map_append];rfl
 rintro H' rfl
 have hwl:((List.range nw).map fun k:Nat=>nmS c1 (0+(k:Int))).length=nw:=by rw [length_map,length_range]
 have hwg:∀z∈(List.range nw).map fun k:Nat=>nmS c1 (0+(k:Int)),qcz z=true:=fun z hz=>by
  obtain⟨k,_,rfl⟩:=mem_map.mp hz
  exact qfp _ _
 have hwn:=nm_nodup c1 (n:=nw) (by omega)
 generalize ((List.range nw).map fun k:Nat=>nmS c1 (0+(k:Int)))=ws at*
 have s2:=qa2 hlw (.lst (ws.map V.str))
 have eW:upd H1 lw (.lst (ws.map V.str)) lw=some (.lst (ws.map V.str)):=qa1
 generalize upd H1 lw (.lst (ws.map V.str))=H2 at*
 have eH2:=s2 _ _ eH
 walk_at "g"
 rename_i pm hpm
 have s3:=qa2 hpm (.lst [V.int 1,V.int 1,V.int 7000000001,V.int (10^Int.toNat 27)])
 have m0:=Int.emod_nonneg (c0.fdiv 3) (show (4:Int)≠0 by decide)
 have m1:=Int.emod_lt_of_pos (c0.fdiv 3) (show (0:Int) < 4 by decide)
 refine r_menu (xs:=[1,1,7000000001,10^Int.toNat 27]) (SqL.of qa1) m0 m1 fun sc hsc=>?_
 have sk:ScOk sc:=by
  simp only [mem_cons,List.not_mem_nil,or_false] at hsc
  have e27:(10:Int)^Int.toNat 27=10^27:=rfl
  rw [e27] at hsc
  exact⟨by omega,by omega⟩
 clear hsc
 generalize upd H2 pm (.lst [V.int 1,V.int 1,V.int 7000000001,V.int (10^Int.toNat 27)])=H3 at*
 have s13:=(s1.trans s2).trans s3
 have eH3:=s3 _ _ eH2
 have eW3:=s3 _ _ eW
 walk_at "g"
 intro C3 s3' H03 fp3 lc hlc
 have ect:ci.toNat=ct:=by omega
 refine c_by ci.toNat (fun i H'=>∃cs:List Int,H'=upd H3 lc (.lst (cs.map V.int))/\cs.length=i) ⟨[],rfl,rfl⟩ (fun i H' hi _=>hi) (fun H' _=>Nat.le_refl _) ?_ ?_
 .rintro i H' v H'' hi ⟨cs,rfl,hc⟩ ⟨rfl,rfl⟩
  have hS':=qfh (o:=.lst (cs.map V.int)) (s13.seq hS) hlc
  walk_at "g"
  refine⟨a,ns,_,rfl,hS',by omega,?_⟩
  refine⟨_,qa1,by rw [length_map];show _ < 16777216;omega,?_⟩
  exact⟨cs++ [_],by rw [qbq,map_append];rfl,by rw [length_append,hc];rfl⟩
 rintro H' ⟨cs,rfl,hc⟩
 have s4:=qa2 hlc (.lst (cs.map V.int))
 have eC:upd H3 lc (.lst (cs.map V.int)) lc=some (.lst (cs.map V.int)):=qa1
 generalize upd H3 lc (.lst (cs.map V.int))=H4 at*
 have eH4:=s4 _ _ eH3
 have eW4:=s4 _ _ eW3
 walk_at "g"
 refine⟨lc,cs,_,rfl,SqL.of eC,by omega,fun le es hle hel hlo hlt=>?_⟩
 have s5:=qa2 hle (.lst (.non :: es.map iV))
 have eE:upd H4 le (.lst (.non :: es.map iV)) le=some (.lst (.non :: es.map iV)):=qa1
 generalize upd H4 le (.lst (.non :: es.map iV))=H5 at*
 have eH5:=s5 _ _ eH4
 have eW5:=s5 _ _ eW4
 have eC5:=s5 _ _ eC
 walk_at "g"
 rename_i p1 hp1
 have hcl:(cs.map V.int).length=cs.length:=length_map _
 refine r_cat qa1 (qa7 eC5 hp1) (by rw [hcl];show 1+_<=16777216;omega) fun p2 hp2=>?_
 have s6:=(qa2 hp1 (.lst [V.int c3])).trans (qa2 hp2 (.lst ([V.int c3]++cs.map V.int)))
 have e6:upd (upd H5 p1 (.lst [V.int c3])) p2 (.lst ([V.int c3]++cs.map V.int)) p2=some (.lst ((c3 :: cs).map V.int)):=qa1
 generalize upd (upd H5 p1 (.lst [V.int c3])) p2 (.lst ([V.int c3]++cs.map V.int))=H6 at*
 walk_at "g"
 refine⟨p2,lw,c3 :: cs,ws,sc,rfl,SqL.of e6,by rw [length_cons];omega,SqL.of (s6 _ _ eW5),by omega,sk,fun lp tp H7 s7 hlp elp htl htp=>?_⟩
 rw [length_cons] at htl
 have s57:=s6.trans s7
 have eH7:=s57 _ _ eH5
 have eC7:=s57 _ _ eC5
 have eW7:=s57 _ _ eW5
 have eE7:=s57 _ _ eE
 walk_at "g"
 rename_i p3 hp3
 refine r_cat qa1 (qa7 eC7 hp3) (by rw [hcl];show 1+_<=16777216;omega) fun p4 hp4=>?_
 have s8:=(qa2 hp3 (.lst [V.int c3])).trans (qa2 hp4 (.lst ([V.int c3]++cs.map V.int)))
 have e8:upd (upd H7 p3 (.lst [V.int c3])) p4 (.lst ([V.int c3]++cs.map V.int)) p4=some (.lst ((c3 :: cs).map V.int)):=qa1
 generalize upd (upd H7 p3 (.lst [V.int c3])) p4 (.lst ([V.int c3]++cs.map V.int))=H8 at*
 walk_at "g"
 have tpf:∀t∈tp,qfz ws (5*10^27) t.f:=fun t m=>(htp t m).fn
 refine⟨le,lp,es,tp,ws,rfl,s8 _ _ eE7,SqL.of (s8 _ _ elp),by omega,by omega,by omega,(elN_low hlo _).ac,fun t m=>⟨s8 _ _ (htp t m).loc,(htp t m).ad,fun z hz=>?_⟩,fun ls qs H9 s9 hls els hql hqf hG=>?_⟩
 .cases e:t.f z with
  |none=>exact absurd e hz
  |some n=>exact(tpf t m z n e).1
 have s89:=s8.trans s9
 walk_at "g"
 refine⟨p4,ls,lw,c3 :: cs,qs,ws,sc,_,rfl,SqL.of (s9 _ _ e8),by rw [length_cons];omega,SqL.of els,by rw [length_cons];omega,SqL.of (s89 _ _ eW7),by omega,sk,hG,fun j v hj=>⟨?_,?_⟩,fun lcp tc H10 s10 hlcp elcp htcl htc=>?_⟩
 .refine sumR_nn fun k hk=>?_
  split
  .exact(ptN_bd (by decide) tpf k v).1
  .exact Int.le_refl _
 .have z:=sumR_bd (n:=tp.length) (f:=fun k=>if j∈qa6 (elN es) k then ptN tp k v else 0) (B:=5*10^27) fun k hk=>by
   show (if j∈qa6 (elN es) k then ptN tp k v else 0)<=_
   split
   .exact(ptN_bd (by decide) tpf k v).2
   .decide
  have z2:(tp.length:Int)*(5*10^27)<=17*(5*10^27):=Int.mul_le_mul_of_nonneg_right (by omega) (by decide)
  omega
 rw [length_cons] at htcl
 have s710:=s89.trans s10
 have eH10:=s710 _ _ eH7
 walk_at "g"
 intro C4 s4' H04 fp4 ln hln
 generalize hnn:(ci+1).toNat=nn
 have nn1:nn=ct+1:=by omega
 refine c_by nn (fun i H'=>H'=upd H10 ln (.lst (((List.range i).map fun k:Nat=>nmS c2 (0+(k:Int))).map V.str))) rfl (fun i H' hi _=>hi) (fun H' _=>Nat.le_refl _) ?_ ?_
 .rintro i H' v H'' hi rfl ⟨rfl,rfl⟩
  have eH':=qa7 (o':=.lst (((List.range i).map fun k:Nat=>nmS c2 (0+(k:Int))).map V.str)) eH10 hln
  walk_at "g"
  refine⟨_,_,rfl,by omega,by omega,?_⟩
  refine⟨_,qa1,by rw [length_map,length_map,length_range];show _ < 16777216;omega,?_⟩
  rw [qbq,List.range_succ,map_append,map_append];rfl
 rintro H' rfl
 have hnl:((List.range nn).map fun k:Nat=>nmS c2 (0+(k:Int))).length=nn:=by rw [length_map,length_range]
 have hng:∀z∈(List.range nn).map fun k:Nat=>nmS c2 (0+(k:Int)),qcz z=true:=fun z hz=>by
  obtain⟨k,_,rfl⟩:=mem_map.mp hz
  exact qfp _ _
 have hnd:=nm_nodup c2 (n:=nn) (by omega)
 have hnmE:((List.range nn).map fun k:Nat=>nmS c2 (0+(k:Int)))=(List.range (ct+1)).map fun k:Nat=>nmS c2 (0+(k:Int)):=by rw [nn1]
 generalize hnmG:((List.range nn).map fun k:Nat=>nmS c2 (0+(k:Int)))=nm at*
 have s11:=qa2 hln (.lst (nm.map V.str))
 have eN:upd H10 ln (.lst (nm.map V.str)) ln=some (.lst (nm.map V.str)):=qa1
 generalize upd H10 ln (.lst (nm.map V.str))=H11 at*
 walk_at "g"
 rename_i pl hpl
 have s12:=qa2 hpl (.lst [V.ref lw,V.ref ln,V.ref le,V.ref lp,V.ref lcp])
 have s1012:=s11.trans s12
 have s712:=s710.trans s1012
 have sAll:qb0 H _:=((((s13.trans s4).trans s5).trans s57).trans s712)
 have a1:1<=ws.length:=by omega
 have a2:ws.length<=3:=by omega
 have a3:nm.length=es.length+1:=by omega
 have a4:nm.length<=17:=by omega
 have a5:tp.length=nm.length:=by omega
 have a6:tc.length=nm.length:=by omega
 have a7:nm.length=ct+1:=by omega
 have s711:=s710.trans s11
 have dst:Dst pl lw ln le lp lcp:=⟨qa8 (s711 _ _ eW7) hpl,qa8 eN hpl,qa8 (s711 _ _ eE7) hpl,qa8 (s711 _ _ elp) hpl,qa8 (s11 _ _ elcp) hpl,
  qa8 (s710 _ _ eW7) hln,qa8 eW4 hle,qa8 (s6 _ _ eW5) hlp,qa8 (s89 _ _ eW7) hlcp,
  qa8 (s710 _ _ eE7) hln,qa8 (s710 _ _ elp) hln,qa8 elcp hln,qa8 (s6 _ _ eE) hlp,qa8 (s89 _ _ eE7) hlcp,qa8 (s89 _ _ elp) hlcp⟩
 refine q pl ⟨lw,ln,le,lp,lcp,ws,nm,es,tp,tc⟩ _ sAll ⟨a1,a2,hwg,hwn,a3,a4,hng,hnd,hlo,(by rw [a3];exact l12_of hlo hlt (by omega)),a5,a6,fun t m=>⟨(htp t m).ad,(htp t m).fn⟩,fun t m=>?_,fun j t ht=>(htc j t ht).2⟩
  ⟨qa1,s712 _ _ eW7,s12 _ _ eN,s712 _ _ eE7,s712 _ _ elp,s1012 _ _ elcp,fun t m=>s712 _ _ (htp t m).loc,fun t m=>?_⟩ a7 hnmE dst
 .obtain⟨j,hj,e⟩:=mem_iff_getElem.mp m
  have:=(htc j t (by rw [getElem?_eq_getElem hj,e])).1
  exact⟨this.ad,this.fn⟩
 .obtain⟨j,hj,e⟩:=mem_iff_getElem.mp m
  exact s1012 _ _ (htc j t (by rw [getElem?_eq_getElem hj,e])).1.loc
theorem qfz.fin {ws:List Str} {B:Int} {f:Str->Option Int} (h:qfz ws B f) (hB:B<=10^30):Fin ws f:=fun z n e=>by
 obtain⟨a,b,c⟩:=h z n e
 exact⟨a,b,by omega⟩
theorem fin_perm {ws ws':List Str} {f:Str->Option Int} (h:Fin ws f) (p:ws'.Perm ws):Fin ws' f:=fun z n e=>by
 obtain⟨a,b,c⟩:=h z n e
 exact⟨p.mem_iff.mpr a,b,c⟩
def nmF (P:PL) (k:Nat):Str:=(P.nm[k]?).getD (ofL [])
def tfF (ts:List Pt) (k:Nat):Str->Option Int:=match ts[k]? with
 |some t=>t.f
 |none=>noF
theorem ptN_eq (ts:List Pt) (k:Nat) (v:Str):ptN ts k v=gN (tfF ts k) v:=by
 unfold ptN tfF
 cases ts[k]? <;> rfl
structure TInv (S:Ts) (P:PL) (n:Nat) (wt:Nat->Int):Prop where
 pl:Pl S (nmF P) (elN P.es) n
 wp:S.ws.Perm P.ws
 ws:PyProof.Rows.sortedS S.ws=true
 da:∀(k:Nat) (e:He),S.hl[k]?=some e->(∀v,e.x.fp v=qbz (tfF P.tp k) v)/\(∀v,e.x.fc v=qbz (tfF P.tc k) v)/\e.x.w=wt k
theorem qbj {P:PL} {k:Nat} (h:k < P.nm.length):nmF P k=P.nm[k]:=by unfold nmF;rw [getElem?_eq_getElem h];rfl
theorem nmF_inj {P:PL} (f:PlF P) {n:Nat} (hn:n<=P.nm.length):∀i j,i < n->j < n->nmF P i=nmF P j->i=j:=fun i j hi hj e=>by
 rw [qbj (by omega),qbj (by omega)] at e
 rcases Nat.lt_trichotomy i j with h|h|h
 .exact absurd e ((pairwise_iff_getElem.mp f.nn) i j (by omega) (by omega) h)
 .exact h
 .exact absurd e.symm ((pairwise_iff_getElem.mp f.nn) j i (by omega) (by omega) h)
theorem PlF.low {P:PL} (f:PlF P) (n:Nat):Low (elN P.es) n:=elN_low f.lo n
theorem qec {P:PL} (f:PlF P) {k:Nat} (hk:k < P.nm.length):∃t,P.tp[k]?=some t/\t∈P.tp/\tfF P.tp k=t.f/\AD t.k t.f/\Fin P.ws t.f:=by
 have h:k < P.tp.length:=by rw [f.pl];exact hk
 have e:=getElem?_eq_getElem h
 refine⟨_,e,getElem_mem h,by unfold tfF;rw [e],(f.pa _ (getElem_mem h)).1,(f.pa _ (getElem_mem h)).2.fin (by decide)⟩
theorem tc_fin {P:PL} (f:PlF P) {k:Nat} (hk:k < P.nm.length):∃t,P.tc[k]?=some t/\t∈P.tc/\tfF P.tc k=t.f/\AD t.k t.f/\Fin P.ws t.f:=by
 have h:k < P.tc.length:=by rw [f.cl];exact hk
 have e:=getElem?_eq_getElem h
 refine⟨_,e,getElem_mem h,by unfold tfF;rw [e],(f.ca _ (getElem_mem h)).1,(f.ca _ (getElem_mem h)).2.fin (by decide)⟩
theorem fin_nn {ws:List Str} {f:Str->Option Int} (h:Fin ws f) (v:Str):0<=gN f v:=by
 unfold gN
 cases e:f v with
 |none=>exact Int.le_refl _
 |some n=>exact(h v n e).2.1
theorem fin_out {ws:List Str} {f:Str->Option Int} (h:Fin ws f) {v:Str} (hv:v∉ws):gN f v=0:=by
 unfold gN
 cases e:f v with
 |none=>rfl
 |some n=>exact absurd (h v n e).1 hv
theorem pr_nn {P:PL} (f:PlF P) {k:Nat} (hk:k < P.nm.length) (v:Str):0<=gN (tfF P.tp k) v:=by
 obtain⟨t,_,_,e,_,h⟩:=qec f hk
 rw [e];exact fin_nn h v
theorem cap_ge {P:PL} (f:PlF P) {j:Nat} (hj:j < P.nm.length) (v:Str):(qc6 P.nm.length fun k=>if j∈qa6 (elN P.es) k then gN (tfF P.tp k) v else 0)<=gN (tfF P.tc j) v:=by
 obtain⟨t,e1,e2,e3,e4,e5⟩:=tc_fin f hj
 rw [e3]
 by_cases hv:v∈P.ws
 .have z:=f.le j t e1 v hv
  rw [f.pl] at z
  have:(fun k=>if j∈qa6 (elN P.es) k then ptN P.tp k v else 0)=fun k=>if j∈qa6 (elN P.es) k then gN (tfF P.tp k) v else 0:=funext fun k=>by rw [ptN_eq]
  rw [this] at z
  exact z
 .have z:(qc6 P.nm.length fun k=>if j∈qa6 (elN P.es) k then gN (tfF P.tp k) v else 0)<=qc6 P.nm.length fun _=>0:=sumR_le fun k hk=>by
   split
   .obtain⟨t',_,_,q,_,h⟩:=qec f hk
    rw [q,fin_out h hv];exact Int.le_refl _
   .exact Int.le_refl _
  have z0:∀n,(qc6 n fun _=>0)=0:=fun n=>by
   induction n with
   |zero=>rfl
   |succ n ih=>show qc6 n _+0=0;rw [ih];rfl
  rw [z0] at z
  have:=fin_nn e5 v
  omega
theorem own_le {P:PL} (f:PlF P) {k:Nat} (hk:k < P.nm.length) (v:Str):gN (tfF P.tp k) v<=gN (tfF P.tc k) v:=by
 have z:=cap_ge f hk v
 have h:gN (tfF P.tp k) v<=qc6 P.nm.length fun i=>if k∈qa6 (elN P.es) i then gN (tfF P.tp i) v else 0:=by
  have h1:sumL (fun i=>if k∈qa6 (elN P.es) i then gN (tfF P.tp i) v else 0) [k]<=qc6 P.nm.length fun i=>if k∈qa6 (elN P.es) i then gN (tfF P.tp i) v else 0:=
   qff (nodup_cons.mpr ⟨by simp,nodup_nil⟩) (fun i hi=>by have:i=k:=(by simpa using hi);omega) fun i hi=>by
    split
    .exact pr_nn f hi v
    .exact Int.le_refl _
  have h2:sumL (fun i=>if k∈qa6 (elN P.es) i then gN (tfF P.tp i) v else 0) [k]=gN (tfF P.tp k) v:=by
   show (if k∈qa6 (elN P.es) k then gN (tfF P.tp k) v else 0)+0=_
   rw [if_pos (lineN_self (f.low P.nm.length) hk),Int.add_zero]
  omega
 omega
theorem TInv.ask {S:Ts} {P:PL} {k:Nat} {wt:Nat->Int} (h:TInv S P k wt) (f:PlF P) (k0:0 < k) (kn:k < P.nm.length):∃e,S.at (nmF P (elN P.es k))=some e/\e.n=nmF P (elN P.es k)/\WF S/\qe4 S/\S.ws.length<=50/\S.hl.length < 40/\S.at (nmF P k)=none/\
  ∃zs,LineOf S e.n zs/\zs.length < 12/\∀y∈zs,∃e',S.at y=some e'/\Dep S 12 y/\∀bs,Ben S 12 y bs->∀v n,qdo (qd8 (bs.map (qd1 S))) (qbz (tfF P.tp k)) v=some n->n<=gN e'.x.fc v:=by
 have low:=f.low P.nm.length
 have lk:=low k k0 kn
 have n12:=f.n12
 obtain⟨e,h1,h2,h3⟩:=h.pl.at lk
 have en:e.n=nmF P (elN P.es k):=(qbm h1).2
 refine⟨e,h1,en,h.pl.wf,⟨by have:=h.wp.length_eq;have:=f.w3;omega,fun e' he z hz=>?_⟩,by have:=h.wp.length_eq;have:=f.w3;omega,by rw [h.pl.len];omega,?_,(qa6 (elN P.es) (elN P.es k)).map (nmF P),by rw [en];exact h.pl.line _ lk,?_,fun y hy=>?_⟩
 .obtain⟨i,hi,q,_⟩:=h.pl.ix he
  obtain⟨t,_,_,q2,_,q3⟩:=qec f (k:=i) (by omega)
  rw [(h.da i e' q).1,q2] at hz
  exact h.wp.mem_iff.mpr (qeg q3 z hz)
 .cases c:S.at (nmF P k) with
  |none=>rfl
  |some e'=>
   obtain⟨i,hi,_,q,_⟩:=h.pl.ix (qbm c).1
   have:=nmF_inj f (n:=P.nm.length) (Nat.le_refl _) i k (by omega) kn (by rw [<-q,(qbm c).2])
   omega
 .rw [length_map]
  have hl:=f.l12 k kn
  rw [qe8 low k0 kn,length_cons] at hl
  omega
 .obtain⟨j,hj,rfl⟩:=mem_map.mp hy
  have jl:=lineN_le low (elN P.es k) (by omega) j hj
  have jk:j < k:=by omega
  obtain⟨e',q1,q2,_⟩:=h.pl.at jk
  refine⟨e',q1,h.pl.depL (fun i hi=>f.l12 i (by omega)) 12 j jk (by omega),fun bs hb v n hn=>?_⟩
  have hs:=h.pl.sums (v:=v) (pr:=fun i=>gN (tfF P.tp i) v) (fun i e2 he2=>?_) (fun i hi=>pr_nn f (by omega) v) jk hb
  .have g1:n=gN (qdo (qd8 (bs.map (qd1 S))) (qbz (tfF P.tp k))) v:=by unfold gN;rw [hn];rfl
   obtain⟨t,_,_,t3,_,t5⟩:=qec f kn
   rw [qf9,t3,qd5 t5,<-t3] at g1
   obtain⟨u,_,_,u3,_,u5⟩:=tc_fin f (k:=j) (by omega)
   have fc:e'.x.fc=qbz u.f:=by rw [<-u3];exact funext (h.da j e' q2).2.1
   rw [fc,qd5 u5,<-u3]
   have cg:=cap_ge f (j:=j) (by omega) v
   have mono:=sumR_mono (f:=fun i=>if j∈qa6 (elN P.es) i then gN (tfF P.tp i) v else 0) (n:=k+1) (m:=P.nm.length) (by omega) fun i hi=>by
    try dsimp only
    split
    .exact pr_nn f hi v
    .exact Int.le_refl _
   have top:(qc6 (k+1) fun i=>if j∈qa6 (elN P.es) i then gN (tfF P.tp i) v else 0)=(qc6 k fun i=>if j∈qa6 (elN P.es) i then gN (tfF P.tp i) v else 0)+gN (tfF P.tp k) v:=by
    show qc6 k _+(if j∈qa6 (elN P.es) k then gN (tfF P.tp k) v else 0)=_
    rw [if_pos]
    rw [qe8 low k0 kn]
    exact mem_cons_of_mem _ hj
   omega
  .obtain⟨t,_,_,t3,_,t5⟩:=qec f (k:=i) (by have:=(List.getElem?_eq_some_iff.mp he2).1;rw [h.pl.len] at this;omega)
   rw [show e2.x.fp=qbz (tfF P.tp i) from funext (h.da i e2 he2).1,t3]
   exact qd5 t5 v
theorem TInv.next {S:Ts} {P:PL} {k:Nat} {wt:Nat->Int} (h:TInv S P k wt) (f:PlF P) (k0:0 < k) (kn:k < P.nm.length) {e2:He} {w:Int} (en:e2.n=nmF P k) (el:e2.x.el=some (nmF P (elN P.es k))) (ew:e2.x.w=w) (ep:∀v,e2.x.fp v=qbz (tfF P.tp k) v) (ec:∀v,e2.x.fc v=qbz (tfF P.tc k) v):
  TInv {S with hl:=S.hl++ [e2]} P (k+1) (fun i=>if i=k then w else wt i):=by
 have hl:=h.pl.len
 have split:∀(i:Nat) (e:He),(S.hl++ [e2])[i]?=some e->(i < k/\S.hl[i]?=some e)\/(i=k/\e=e2):=fun i e he=>by
  rcases Nat.lt_or_ge i S.hl.length with c|c
  .rw [List.getElem?_append_left c] at he
   exact .inl ⟨by omega,he⟩
  .have:=(List.getElem?_eq_some_iff.mp he).1
   rw [length_append,length_singleton] at this
   have ei:i=S.hl.length:=by omega
   rw [List.getElem?_append_right c,ei,Nat.sub_self] at he
   exact .inr ⟨by omega,by simpa using he.symm⟩
 refine⟨⟨by show (S.hl++ [e2]).length=_;rw [length_append,hl];rfl,fun i e he=>?_,nmF_inj f (by omega),(f.low (k+1)).ac⟩,h.wp,h.ws,fun i e he=>?_⟩
 .rcases split i e he with ⟨a,b⟩ |⟨rfl,rfl⟩
  .exact h.pl.nam i e b
  .exact⟨en,by rw [if_neg (by omega)];exact el⟩
 .rcases split i e he with ⟨a,b⟩ |⟨rfl,rfl⟩
  .obtain⟨x,y,z⟩:=h.da i e b
   exact⟨x,y,by rw [if_neg (by omega)];exact z⟩
  .exact⟨ep,ec,by rw [if_pos rfl];exact ew⟩
structure Apart (S:Ts) (t q:Addr):Prop where
 t:t≠q
 sw:S.sw≠q
 hs:S.hs≠q
 ho:∀e∈S.hl,e.a≠q/\e.x.pa≠q/\e.x.ca≠q
theorem qcj.put {d:Ad} {H:Hp} {t q:Addr} {S:Ts} {o:HO} (h:qcj d H t S) (a:Apart S t q):qcj d (upd H q o) t S:=by
 obtain⟨⟨dx,h1⟩,h2,h3,h4,h5,h6⟩:=h
 refine⟨⟨dx,by rw [qa9 a.t];exact h1⟩,by rw [qa9 a.sw];exact h2,by rw [qa9 a.hs];exact h3,h4,h5,fun e he=>?_⟩
 obtain⟨⟨dy,g1⟩,g2,g3,g4,g5⟩:=h6 e he
 obtain⟨n1,n2,n3⟩:=a.ho e he
 exact⟨⟨dy,by rw [qa9 n1];exact g1⟩,by rw [qa9 n2];exact g2,g3,by rw [qa9 n3];exact g4,g5⟩
theorem sort_eq {ss ss':List Str} (h:ss.Perm ss') (a:PyProof.Rows.sortedS ss=true) (b:PyProof.Rows.sortedS ss'=true):ss=ss':=
 List.Perm.eq_of_pairwise (le:=leS) (fun x y _ _ h1 h2=>leS_anti h1 h2) (qdq a) (qdq b) h
theorem pl_one {S:Ts} {P:PL} {e:He} (f:PlF P) (hl:S.hl=[e]) (en:e.n=nmF P 0) (el:e.x.el=none):Pl S (nmF P) (elN P.es) 1:=by
 refine⟨by rw [hl];rfl,fun k e' he=>?_,fun i j hi hj _=>by omega,(show Low (elN P.es) 1 from fun k k0 k1=>by omega).ac⟩
 rw [hl] at he
 have hk:=(List.getElem?_eq_some_iff.mp he).1
 have e0:k=0:=by rw [length_singleton] at hk;omega
 subst e0
 have:e'=e:=by simpa using he.symm
 subst this
 exact⟨en,el⟩
theorem TInv.cast {S:Ts} {P:PL} {n:Nat} {wt wt':Nat->Int} (h:TInv S P n wt) (e:∀j,j < n->wt j=wt' j):TInv S P n wt':=⟨h.pl,h.wp,h.ws,fun k x hx=>by
 have hk:=(List.getElem?_eq_some_iff.mp hx).1
 rw [h.pl.len] at hk
 obtain⟨a,b,c⟩:=h.da k x hx
 exact⟨a,b,c.trans (e k hk)⟩⟩
def wep (K:Frag) (d:Ad):Sp:=fun vs H Q _=>∃(p:Addr) (P:PL),vs=[.ref p]/\PlF P/\PlAt H p P/\∀(t:Addr) (S:Ts) H',qb0 H H'->H t=none->H S.hs=none->H S.sw=none->qcj d H' t S->TInv S P P.nm.length (fun _=>1)->(S.hl.map (·.a)).Nodup->Q (.ref t) H'
include T in
theorem wec:FnOk P w K mg base CX0 20 d.wd5 d.wbc ["_law_plan_here"] (wep K d):=by
 refine T.wdz.ok w59 (fun vs H Q E h=>?_) (fun cdv A outer s H vs Q E hr h=>?_)
 .obtain⟨p,P,rfl,_⟩:=h;rfl
 obtain⟨p,P,rfl,pf,pa,q⟩:=h
 have n12:=pf.n12
 have nl:=pf.nl
 have gt:GoodT P.ws:=⟨pf.w1,by have:=pf.w3;omega,pf.wg,pf.wn⟩
 refine⟨_,(qa4 (ps_asg (pv 0) (pg_lst rfl (qax (qam (i:=1) w59.nd rfl (Or.inl rfl)) (qax (qam (i:=2) w59.nd rfl (Or.inl rfl)) (qax (qam (i:=3) w59.nd rfl (Or.inl rfl)) (qax (qam (i:=4) w59.nd rfl (Or.inl rfl)) (qax (qam (i:=5) w59.nd rfl (Or.inl rfl)) qei)))))))
  (qa4 (qae (i:=6) w59.nd rfl (Or.inl rfl) (pe_makeX (W:=fun _ _ _ _=>False) T.w7b ((w9e T).mono (by decide)) hr rfl T.wf2 T.w9a T.w9w xes_no (qa0 (qc1 call_listR rfl T.we0 PyProof.Rows.boot_list (qa0 (pv 1) qa3)) (qa0 (qaw qaf (pv 2) qaa (fun _ _=>rfl)) (qa0 (qc1 qcr rfl T.w8f PyProof.Rows.boot_dict (qa0 (qaw qaf (pv 4) qaa (fun _ _=>rfl)) qa3)) (qa0 (qc1 qcr rfl T.w8f PyProof.Rows.boot_dict (qa0 (qaw qaf (pv 5) qaa (fun _ _=>rfl)) qa3)) qa3))))))
  (qa4 (qbl PassesOwn.never rfl (pi_range2 rfl T.w1a (qa0 qaa (qa0 (qac qao rfl T.w1v PySem.boot_len (qa0 (pv 2) qa3)) qa3))) (qam (i:=7) w59.nd rfl (Or.inl rfl)) (qa5 (qat (qap (W:=fun _ _ _ _=>False) (pv 6) T.w04 T.w17 ((w6b T).mono (by decide)) hr T.w6c T.w64 xes_no (qa0 (qaw qaf (pv 2) (pv 7) (fun _ _=>rfl)) (qa0 (qaw qaf (pv 2) (qaw qaf (pv 3) (pv 7) (fun _ _=>rfl)) (fun _ _=>rfl)) (qa0 (qc1 qcr rfl T.w8f PyProof.Rows.boot_dict (qa0 (qaw qaf (pv 4) (pv 7) (fun _ _=>rfl)) qa3)) (qa0 (qc1 qcr rfl T.w8f PyProof.Rows.boot_dict (qa0 (qaw qaf (pv 5) (pv 7) (fun _ _=>rfl)) qa3)) qa3))))))))
  (qa5 (qaj (pv 6)))))),?_⟩
 walk_at "d"
 refine qah (σ:=[some (.ref p),none,none,none,none,none,none,none]) rfl ?_
 have ct:=T.w04
 have etop:=pa.top
 have ew:=pa.w
 have hz0:P.nm[0]?=some (nmF P 0):=by rw [qbj (by omega)];exact getElem?_eq_getElem (by omega)
 have gz:qcz (nmF P 0)=true:=pf.ng _ (mem_of_getElem? hz0)
 have xn0:atI (P.nm.map V.str) 0=some (.str (nmF P 0)):=qas (j:=0) (by rw [getElem?_map,hz0];rfl)
 obtain⟨tp,tp1,tp2,tp3,tp4,tp5⟩:=qec pf (k:=0) (by omega)
 obtain⟨tc,tc1,tc2,tc3,tc4,tc5⟩:=tc_fin pf (k:=0) (by omega)
 have xp:atI (P.tp.map fun t=>V.ref t.a) 0=some (.ref tp.a):=qas (j:=0) (by rw [getElem?_map,tp1];rfl)
 have xc:atI (P.tc.map fun t=>V.ref t.a) 0=some (.ref tc.a):=qas (j:=0) (by rw [getElem?_map,tc1];rfl)
 have lp1:tp.k.length<=1000:=by have:=tp4.le (fun z hz=>by cases e:tp.f z with|none=>exact absurd e hz|some n=>exact(tp5 z n e).1);have:=pf.w3;omega
 have lc1:tc.k.length<=1000:=by have:=tc4.le (fun z hz=>by cases e:tc.f z with|none=>exact absurd e hz|some n=>exact(tc5 z n e).1);have:=pf.w3;omega
 have ole:=own_le pf (k:=0) (by omega)
 walk_at "g"
 refine r_listL (SqL.of ew) fun h0 hh0=>?_
 have s1:=qa2 hh0 (.lst (P.ws.map V.str))
 have e0:upd H h0 (.lst (P.ws.map V.str)) h0=some (.lst (P.ws.map V.str)):=qa1
 generalize upd H h0 (.lst (P.ws.map V.str))=H1 at*
 have pa1:=pa.same s1
 have en1:=pa1.n
 have ep1:=pa1.pr
 walk_at "g"
 refine qbf (SqL.of en1) xn0 ?_
 walk_at "g"
 refine qbf (SqL.of ep1) xp ?_
 have hRp:Rd H1 tp.a (.dK tp.k):=.inl (pa1.pd tp tp2)
 walk_at "g"
 rename_i h1 hh1
 have s2:=qa2 hh1 (.dK tp.k)
 have e1:upd H1 h1 (.dK tp.k) h1=some (.dK tp.k):=qa1
 generalize upd H1 h1 (.dK tp.k)=H2 at*
 have pa2:=pa1.same s2
 have ec2:=pa2.cp
 refine qbf (SqL.of ec2) xc ?_
 have hRc:Rd H2 tc.a (.dK tc.k):=.inl (pa2.cd tc tc2)
 walk_at "g"
 rename_i h2 hh2
 have s3:=qa2 hh2 (.dK tc.k)
 have e2:upd H2 h2 (.dK tc.k) h2=some (.dK tc.k):=qa1
 generalize upd H2 h2 (.dK tc.k)=H3 at*
 have s03:=(s1.trans s2).trans s3
 intro x dx hx hdx ne
 have sN:∀b u,H3 b=some u->upd (upd H3 dx (.own x)) x (.ins d.w03 dx []) b=some u:=fun b u e=>by rw [qa9 (qa8 e hx),qa9 (qa8 e hdx)];exact e
 refine⟨x,dx,h0,h1,h2,nmF P 0,P.ws,tp.k,tc.k,tp.f,tc.f,1,rfl,qa1,sN _ _ ((s2.trans s3) _ _ e0),gt,gz,sN _ _ (s3 _ _ e1),tp4,lp1,sN _ _ e2,tc4,lc1,tp5,tc5,by decide,by decide,fun y=>by rw [<-tp3,<-tc3];exact ole y,fun S e H4 sb hT hs' f1 f2 f3 f4 hl en' ee ew' efp efc hpm hso=>⟨rfl,?_⟩⟩
 have s4:qb0 H3 H4:=fun b u e=>sb b u (qa8 e hx) (sN b u e)
 have fr:H3 S.hs=none:=by
  cases r:H3 S.hs with
  |none=>rfl
  |some u=>rw [sN _ _ r] at hs';cases hs'
 have fr2:H3 S.sw=none:=by
  cases r:H3 S.sw with
  |none=>rfl
  |some u=>rw [sN _ _ r] at f1;cases f1
 have hw0:H S.sw=none:=s03.free fr2
 have s04:=s03.trans s4
 have hs0:H S.hs=none:=s03.free fr
 have hx0:H x=none:=s03.free hx
 have tI:TInv S P (1+0) (fun _=>1):=⟨pl_one pf hl en' ee,hpm,hso,fun k e' he=>by
  rw [hl] at he
  have hk:=(List.getElem?_eq_some_iff.mp he).1
  have e0:k=0:=by rw [length_singleton] at hk;omega
  subst e0
  have:e'=e:=by simpa using he.symm
  subst this
  exact⟨by rw [tp3];exact efp,by rw [tc3];exact efc,ew'⟩⟩
 have nd0:(S.hl.map (·.a)).Nodup:=by rw [hl];exact nodup_cons.mpr ⟨by simp,nodup_nil⟩
 have hnl2:(P.nm.map V.str).length=P.nm.length:=length_map _
 have hrn1:((((P.nm.map V.str).length:Nat):Int) - 1).toNat=P.nm.length - 1:=by rw [hnl2];omega
 have en4:=s04 _ _ pa.n
 clear sN fr fr2 hs' sb f1 f2 f3 f4 hpm hso efp efc ew' ee hl en' s4 s03 s3 s2 s1 hRp hRc e0 e1 e2 pa1 pa2 en1 ep1 ec2 hx hdx ne hh0 hh1 hh2 xp xc tp4 tp5 tc4 tc5 tp1 tp2 tp3 tc1 tc2 tc3 lp1 lc1 ole gt etop ew
 walk_at "g"
 unfold iRng2
 walk_at "g"
 refine⟨1,_,rfl,⟨by decide,by decide,by rw [hnl2];omega,by rw [hnl2];omega⟩,?_⟩
 rw [hrn1]
 refine qcn (fun i σ H'=>∃(w:Option V) (S':Ts),σ=[some (V.ref p),some (V.ref P.lw),some (V.ref P.ln),some (V.ref P.le),some (V.ref P.lp),some (V.ref P.lc),some (V.ref x),w]/\H S'.hs=none/\H S'.sw=none/\qcj d H' x S'/\TInv S' P (1+i) (fun _=>1)/\qb0 H H'/\(S'.hl.map (·.a)).Nodup) ⟨none,S,rfl,hs0,hw0,hT,tI,s04,nd0⟩ ?_ ?_
 .rintro i σ H' hi ⟨w,S',rfl,hs1,hw1,hT',hI',sm,nd1⟩
  clear hT tI s04 hs0 nd0
  have kn:1+i < P.nm.length:=by omega
  obtain⟨e',ae,een,hW,hOw,hw50,h40,nk,line⟩:=hI'.ask pf (by omega) kn
  obtain⟨tp,tp1,tp2,tp3,tp4,tp5⟩:=qec pf kn
  obtain⟨tc,tc1,tc2,tc3,tc4,tc5⟩:=tc_fin pf kn
  have low:=pf.low P.nm.length (1+i) (by omega) kn
  have hb:i < P.es.length:=by omega
  have eb:elN P.es (1+i)=P.es[i]:=by rw [Nat.add_comm 1 i];exact qer hb
  have xe:atI (V.non :: P.es.map iV) (((1+i:Nat)):Int)=some (V.int ((elN P.es (1+i):Nat):Int)):=by rw [eb];exact qas (by rw [Nat.add_comm 1 i,getElem?_cons_succ,getElem?_map,getElem?_eq_getElem hb];rfl)
  have xn2:atI (P.nm.map V.str) ((elN P.es (1+i):Nat):Int)=some (.str (nmF P (elN P.es (1+i)))):=by rw [qbj (by omega)];exact qas (by rw [getElem?_map,getElem?_eq_getElem (by omega)];rfl)
  have xp:atI (P.tp.map fun t=>V.ref t.a) (((1+i:Nat)):Int)=some (.ref tp.a):=qas (by rw [getElem?_map,tp1];rfl)
  have xc:atI (P.tc.map fun t=>V.ref t.a) (((1+i:Nat)):Int)=some (.ref tc.a):=qas (by rw [getElem?_map,tc1];rfl)
  have xn:atI (P.nm.map V.str) (((1+i:Nat)):Int)=some (.str (nmF P (1+i))):=by rw [qbj kn];exact qas (by rw [getElem?_map,getElem?_eq_getElem kn];rfl)
  have gzk:qcz (nmF P (1+i))=true:=by rw [qbj kn];exact pf.ng _ (getElem_mem kn)
  have lp1:tp.k.length<=1000:=by have:=tp4.le (fun z hz=>by cases e:tp.f z with|none=>exact absurd e hz|some n=>exact(tp5 z n e).1);have:=pf.w3;omega
  have lc1:tc.k.length<=1000:=by have:=tc4.le (fun z hz=>by cases e:tc.f z with|none=>exact absurd e hz|some n=>exact(tc5 z n e).1);have:=pf.w3;omega
  have ole:=own_le pf kn
  rw [show (1:Int)+(i:Int)=(((1+i:Nat)):Int) by omega]
  generalize ((elN P.es (1+i):Nat):Int)=ej at xe xn2
  generalize hki:(((1+i:Nat)):Int)=ki at*
  have pa':=pa.same sm
  have en':=pa'.n
  have ee':=pa'.e
  have ep':=pa'.pr
  obtain⟨dx',ht'⟩:=id hT'.1
  clear hrn1 hnl2
  walk_at "g"
  refine qbf (SqL.of en') xn ?_
  walk_at "g"
  refine qbf (SqL.of ee') xe ?_
  walk_at "g"
  refine qbf (SqL.of en') xn2 ?_
  walk_at "g"
  refine qbf (SqL.of ep') xp ?_
  have hRp:Rd H' tp.a (.dK tp.k):=.inl (pa'.pd tp tp2)
  walk_at "g"
  rename_i h1 hh1
  have s1:=qa2 hh1 (.dK tp.k)
  have e1:upd H' h1 (.dK tp.k) h1=some (.dK tp.k):=qa1
  generalize upd H' h1 (.dK tp.k)=H1 at*
  have pa1:=pa'.same s1
  refine qbf (SqL.of pa1.cp) xc ?_
  have hRc:Rd H1 tc.a (.dK tc.k):=.inl (pa1.cd tc tc2)
  walk_at "g"
  rename_i h2 hh2
  have s2:=qa2 hh2 (.dK tc.k)
  have e2:upd H1 h2 (.dK tc.k) h2=some (.dK tc.k):=qa1
  generalize upd H1 h2 (.dK tc.k)=H2 at*
  have s12:=s1.trans s2
  obtain⟨zs,hL,hz12,hy⟩:=line
  rw [een] at hL
  have wl:∀v∈S'.ws,v.length<=100:=fun v hv=>by
   have:=(qca (pf.wg v (hI'.wp.mem_iff.mp hv))).2.1
   omega
  have nl:∀u∈zs,u.length<=100:=fun u hu=>by
   obtain⟨e3,h3,_⟩:=hy u hu
   obtain⟨k3,k3n,_,h4,_⟩:=hI'.pl.ix (qbm h3).1
   rw [(qbm h3).2,qbj (by omega)] at h4
   have:=(qca (pf.ng _ (getElem_mem (by omega:k3 < P.nm.length)))).2.1
   rw [h4];omega
  refine⟨x,h1,h2,S',nmF P (1+i),nmF P (elN P.es (1+i)),e',zs,tp.k,tc.k,tp.f,tc.f,1,rfl,hT'.same s12,gzk,nk,ae,hW,hOw,hw50,wl,s2 _ _ e1,tp4,lp1,e2,tc4,lc1,fin_perm tp5 hI'.wp,fin_perm tc5 hI'.wp,by decide,by decide,h40,hL,by omega,fun u hu=>⟨nl u hu,(hy u hu).elim fun e3 h3=>h3.2.1,(hy u hu).elim fun e3 h3=>⟨e3,h3.1⟩⟩,fun h12=>by omega,fun _=>⟨fun _ _ e4 H5 sb f1 f2 f3 hT5 n1 n2 n3 n4 n5=>?_,fun v hv _=>?_,fun _ i2 u e5 bs v g1 g2 g3 g4 _ _=>?_⟩⟩
  .walk_at "g"
   refine⟨_,{S' with hl:=S'.hl++ [e4]},rfl,hs1,hw1,hT5,(hI'.next pf (by omega) kn n1 n2 n3 (by rw [tp3];exact n4) (by rw [tc3];exact n5)).cast fun j hj=>by(split <;> rfl),fun b u e=>sb b u (qa8 e hs1) ((sm.trans s12) b u e),?_⟩
   show ((S'.hl++ [e4]).map (·.a)).Nodup
   rw [map_append,nodup_append]
   refine⟨nd1,nodup_cons.mpr ⟨by simp,nodup_nil⟩,fun a1 ha1 b1 hb1 e=>?_⟩
   have:b1=e4.a:=by simpa using hb1
   subst this
   subst e
   obtain⟨e6,m6,e6a⟩:=mem_map.mp ha1
   obtain⟨⟨dy,hy6⟩,_⟩:=(hT'.same s12).2.2.2.2.2 e6 m6
   rw [e6a,f1] at hy6
   cases hy6
  .obtain⟨v1,v2⟩:=hv
   rw [qd5 tp5,qd5 tc5] at v2
   have:=ole v
   rw [tp3,tc3] at this
   omega
  .obtain⟨e7,h7,_,h8⟩:=hy u (mem_of_getElem? g1)
   rw [g2] at h7
   cases h7
   obtain⟨v1,v2⟩:=g4
   rw [<-tp3] at v1 v2
   cases e:qdo (qd8 (bs.map (qd1 S'))) (qbz (tfF P.tp (1+i))) v with
   |none=>exact absurd e v1
   |some n=>
    have h9:=h8 bs g3 v n e
    have:gN (qdo (qd8 (bs.map (qd1 S'))) (qbz (tfF P.tp (1+i)))) v=n:=by unfold gN;rw [e];rfl
    omega
 rintro σ H' ⟨w,S',rfl,hs1,hw1,hT',hI',sm,nd1⟩
 walk_at "g"
 exact q x S' H' sm hx0 hs1 hw1 hT' (by rw [show P.nm.length=1+(P.nm.length - 1) by omega];exact hI') nd1
theorem LnN.kid {el:Nat->Nat} {k:Nat} {l:List Nat} (h:LnN el k l) {j:Nat} (hj:j∈l) (ne:j≠k):∃c∈l,0 < c/\el c=j:=by
 induction h with
 |top=>exact absurd (mem_singleton.mp hj) ne
 | @up k l k0 h ih=>
  rcases mem_cons.mp hj with e|e
  .exact absurd e ne
  .by_cases c:j=el k
   .exact⟨k,mem_cons_self ..,k0,c.symm⟩
   .obtain⟨x,x1,x2,x3⟩:=ih e c
    exact⟨x,mem_cons_of_mem _ x1,x2,x3⟩
section
variable {S: Ts} {nm: Nat -> Str} {el: Nat -> Nat} {n: Nat}
theorem Pl.isKid (p:Pl S nm el n) {c:Nat} (c0:0 < c) (cn:c < n):nm c∈qb8 S (nm (el c)):=by
 obtain⟨e,h1,h2,h3⟩:=p.get cn
 rw [if_neg (by omega)] at h3
 rw [<-h2]
 exact mem_map.mpr ⟨e,mem_filter.mpr ⟨mem_of_getElem? h1,decide_eq_true h3⟩,rfl⟩
theorem flat_in {parts:List (Str × List Str)} {q:Str × List Str} {y:Str} (hq:q∈parts) (hy:y∈q.2):y∈flat parts:=mem_flatten.mpr ⟨q.2,mem_map.mpr ⟨q,hq,rfl⟩,hy⟩
theorem Pl.allBen (p:Pl S nm el n):∀(m j:Nat) (zs:List Str),j < n->Ben S m (nm j) zs->∀k,k < n->j∈qa6 el k->nm k∈zs:=by
 intro m
 induction m with
 |zero=>
  rintro j _ jn ⟨parts,hp,rfl,hb⟩ k kn hk
  by_cases c:j=k
  .rw [c];exact mem_cons_self ..
  .obtain⟨x,x3,x0,x2⟩:=(p.ac.ln kn).kid hk c
   have z:=p.isKid x0 (p.ac.lt kn x x3)
   rw [x2] at z
   obtain⟨q,hq,_⟩:=mem_map.mp (hp.mem_iff.mpr z)
   exact(hb q hq).elim
 |succ m ih=>
  rintro j _ jn ⟨parts,hp,rfl,hb⟩ k kn hk
  by_cases c:j=k
  .rw [c];exact mem_cons_self ..
  .obtain⟨x,x3,x0,x2⟩:=(p.ac.ln kn).kid hk c
   have x1:=p.ac.lt kn x x3
   have z:=p.isKid x0 x1
   rw [x2] at z
   obtain⟨q,hq,e⟩:=mem_map.mp (hp.mem_iff.mpr z)
   have hB:=hb q hq
   rw [e] at hB
   exact mem_cons_of_mem _ (flat_in hq (ih x q.2 x1 hB k kn x3))
theorem Pl.benIff (p:Pl S nm el n) {m j:Nat} {zs:List Str} (jn:j < n) (h:Ben S m (nm j) zs) {k:Nat} (kn:k < n):nm k∈zs↔j∈qa6 el k:=by
 refine⟨fun hk=>?_,p.allBen m j zs jn h k kn⟩
 obtain⟨i,i1,i2,i3⟩:=p.ben m j zs jn h.part _ hk
 rw [p.inj k i kn i1 i2]
 exact i3
theorem sumL_eq {f:Nat->Int}:∀{n:Nat} {ks:List Nat},ks.Nodup->(∀k∈ks,k < n)->(∀k,k < n->k∉ks->f k=0)->sumL f ks=qc6 n f
 |0,ks,_,h,_=>by
  cases ks with
  |nil=>rfl
  |cons k r=>exact absurd (h k (mem_cons_self ..)) (by omega)
 |n+1,ks,nd,h,p=>by
  show _=qc6 n f+f n
  by_cases m:n∈ks
  .rw [sumL_perm (List.perm_cons_erase m)]
   have:=sumL_eq (n:=n) (nd.erase n) (fun k hk=>by
    have h1:=h k (List.mem_of_mem_erase hk)
    have:k≠n:=fun z=>by subst z;exact(List.Nodup.not_mem_erase nd) hk
    omega) fun k hk hn=>p k (by omega) fun hm=>hn ((List.mem_erase_of_ne (by omega)).mpr hm)
   show f n+_=_
   omega
  .have:=sumL_eq (n:=n) nd (fun k hk=>by
    have h1:=h k hk
    have:k≠n:=fun z=>m (z ▸ hk)
    omega) fun k hk hn=>p k (by omega) hn
   have:=p n (by omega) m
   omega
theorem Pl.sumE (p:Pl S nm el n) {v:Str} {pr:Nat->Int} (hp:∀k e,S.hl[k]?=some e->gN e.x.fp v=pr k) {m j:Nat} {bs:List Str} (jn:j < n) (hb:Ben S m (nm j) bs):
  gN (qd8 (bs.map (qd1 S))) v=qc6 n fun k=>if j∈qa6 el k then pr k else 0:=by
 have nd:=(qc3 p.wf hb.part).1
 have hk:=p.ben m j bs jn hb.part
 have key:∀cs:List Str,(∀y∈cs,∃k,k < n/\y=nm k/\j∈qa6 el k)->∃ks:List Nat,cs=ks.map nm/\(∀k∈ks,k < n)/\((cs.map (qd1 S)).map fun t=>gN t.f v).sum=sumL (fun k=>if j∈qa6 el k then pr k else 0) ks:=by
  intro cs
  induction cs with
  |nil=>intro _;exact⟨[],rfl,fun k hk=>absurd hk (by simp),rfl⟩
  |cons y r ih=>
   intro h
   obtain⟨ks,k1,k2,k3⟩:=ih fun y' hy=>h y' (mem_cons_of_mem _ hy)
   obtain⟨k,kn,rfl,kj⟩:=h y (mem_cons_self ..)
   obtain⟨e,e1,e2,_⟩:=p.at kn
   refine⟨k :: ks,by rw [map_cons,k1],fun k' hk'=>?_,?_⟩
   .rcases mem_cons.mp hk' with rfl|hk'
    .exact kn
    .exact k2 k' hk'
   .rw [map_cons,map_cons,List.sum_cons,k3,qdw e1]
    show gN e.x.fp v+_=(if j∈qa6 el k then pr k else 0)+_
    rw [hp k e e2,if_pos kj]
 obtain⟨ks,k1,k2,k3⟩:=key bs hk
 unfold qd8
 rw [gN_sum,k3]
 have z:gN noF v=0:=rfl
 rw [z,Int.zero_add]
 refine sumL_eq ?_ k2 fun k kn hn=>?_
 .rw [k1] at nd
  exact(List.pairwise_map.mp nd).imp fun h e=>h (by rw [e])
 .refine if_neg fun hj=>hn ?_
  have:=(p.benIff jn hb kn).mpr hj
  rw [k1] at this
  obtain⟨k',h1,h2⟩:=mem_map.mp this
  rw [<-p.inj k' k (k2 k' h1) kn h2]
  exact h1
end
structure GF (P:PL):Prop where
 w1:1<=P.ws.length
 w3:P.ws.length<=3
 wg:∀z∈P.ws,qcz z=true
 wn:P.ws.Nodup
 nl:P.nm.length=P.es.length+1
 n10:P.nm.length<=17
 l12:∀k,k < P.nm.length->(qa6 (elN P.es) k).length<=12
 ng:∀z∈P.nm,qcz z=true
 nn:P.nm.Nodup
 ac:Ac (elN P.es) P.nm.length
 pl:P.tp.length=P.nm.length
 cl:P.tc.length=P.nm.length
 pa:∀t∈P.tp,AD t.k t.f/\Fin P.ws t.f
 ca:∀t∈P.tc,AD t.k t.f/\qfz P.ws (2*10^29+2*10^28*(P.nm.length:Int)) t.f
structure GT (S:Ts) (P:PL):Prop where
 pl:Pl S (nmF P) (elN P.es) P.nm.length
 wp:S.ws.Perm P.ws
 ws:PyProof.Rows.sortedS S.ws=true
 da:∀(k:Nat) (e:He),S.hl[k]?=some e->(∀v,e.x.fp v=qbz (tfF P.tp k) v)/\(∀v,e.x.fc v=qbz (tfF P.tc k) v)
 nda:(S.hl.map (·.a)).Nodup
noncomputable def qez (P:PL) (j:Nat) (v:Str):Int:=qc6 P.nm.length fun k=>if j∈qa6 (elN P.es) k then gN (tfF P.tp k) v else 0
def Wi (P:PL):Prop:=∀j,j < P.nm.length->∀v,qez P j v<=gN (tfF P.tc j) v
section
variable {S: Ts} {P: PL}
theorem GF.tf (f:GF P) {k:Nat} (hk:k < P.nm.length):∃t,P.tp[k]?=some t/\t∈P.tp/\tfF P.tp k=t.f/\AD t.k t.f/\Fin P.ws t.f:=by
 have h:k < P.tp.length:=by rw [f.pl];exact hk
 have e:=getElem?_eq_getElem h
 exact⟨_,e,getElem_mem h,by unfold tfF;rw [e],(f.pa _ (getElem_mem h)).1,(f.pa _ (getElem_mem h)).2⟩
theorem GF.tc (f:GF P) {k:Nat} (hk:k < P.nm.length):∃t,P.tc[k]?=some t/\t∈P.tc/\tfF P.tc k=t.f/\AD t.k t.f/\Fin P.ws t.f:=by
 have h:k < P.tc.length:=by rw [f.cl];exact hk
 have e:=getElem?_eq_getElem h
 exact⟨_,e,getElem_mem h,by unfold tfF;rw [e],(f.ca _ (getElem_mem h)).1,(f.ca _ (getElem_mem h)).2.fin (by have:=f.n10;omega)⟩
theorem GF.prn (f:GF P) {k:Nat} (hk:k < P.nm.length) (v:Str):0<=gN (tfF P.tp k) v:=by
 obtain⟨t,_,_,e,_,h⟩:=f.tf hk
 rw [e];exact fin_nn h v
theorem GF.capn (f:GF P) {k:Nat} (hk:k < P.nm.length) (v:Str):0<=gN (tfF P.tc k) v:=by
 obtain⟨t,_,_,e,_,h⟩:=f.tc hk
 rw [e];exact fin_nn h v
theorem GF.inj (f:GF P):∀i j,i < P.nm.length->j < P.nm.length->nmF P i=nmF P j->i=j:=fun i j hi hj e=>by
 rw [qbj hi,qbj hj] at e
 rcases Nat.lt_trichotomy i j with h|h|h
 .exact absurd e ((pairwise_iff_getElem.mp f.nn) i j hi hj h)
 .exact h
 .exact absurd e.symm ((pairwise_iff_getElem.mp f.nn) j i hj hi h)
theorem GT.sum (g:GT S P) (f:GF P) {m j:Nat} {bs:List Str} (jn:j < P.nm.length) (hb:Ben S m (nmF P j) bs) (v:Str):gN (qd8 (bs.map (qd1 S))) v=qez P j v:=
 g.pl.sumE (pr:=fun k=>gN (tfF P.tp k) v) (fun k e he=>by
  have hk:=(List.getElem?_eq_some_iff.mp he).1
  rw [g.pl.len] at hk
  obtain⟨t,_,_,t3,_,t5⟩:=f.tf hk
  rw [show e.x.fp=qbz (tfF P.tp k) from funext (g.da k e he).1,t3]
  exact qd5 t5 v) jn hb
theorem GT.cap (g:GT S P) (f:GF P) {j:Nat} {e:He} (jn:j < P.nm.length) (ae:S.at (nmF P j)=some e) (v:Str):gN e.x.fc v=gN (tfF P.tc j) v:=by
 obtain⟨e',h1,h2,_⟩:=g.pl.at jn
 rw [ae] at h1
 cases h1
 obtain⟨t,_,_,t3,_,t5⟩:=f.tc jn
 rw [show e.x.fc=qbz (tfF P.tc j) from funext (g.da j e h2).2,t3]
 exact qd5 t5 v
theorem GT.fine (g:GT S P) (f:GF P) {fm:Str->Option Int} {j:Nat} (jn:j < P.nm.length) (h:Fine S fm (nmF P j)) (v:Str):qez P j v+gN fm v<=gN (tfF P.tc j) v:=by
 obtain⟨e,bs,ae,hb,hv⟩:=h
 rw [<-g.sum f jn hb v,<-g.cap f jn ae v,<-qf9]
 cases c:qdo (qd8 (bs.map (qd1 S))) fm v with
 |none=>
  have:gN (qdo (qd8 (bs.map (qd1 S))) fm) v=0:=by unfold gN;rw [c];rfl
  rw [this,g.cap f jn ae v]
  exact f.capn jn v
 |some n=>
  have:=hv v
  unfold qf0 at this
  rw [c] at this
  have h2:¬gN e.x.fc v < gN (qdo (qd8 (bs.map (qd1 S))) fm) v:=fun h=>this ⟨by simp,h⟩
  omega
theorem GT.vioA (g:GT S P) (f:GF P) {fm:Str->Option Int} {j:Nat} {e:He} {bs:List Str} {v:Str} (jn:j < P.nm.length) (ae:S.at (nmF P j)=some e) (hb:Ben S 12 (nmF P j) bs) (h:qf0 (qdo (qd8 (bs.map (qd1 S))) fm) e.x.fc v):gN (tfF P.tc j) v < qez P j v+gN fm v:=by
 have:=h.2
 rw [qf9,g.sum f jn hb v,g.cap f jn ae v] at this
 exact this
theorem GT.vioB (g:GT S P) (f:GF P) {fm:Str->Option Int} {j:Nat} {e:He} {bs:List Str} {v:Str} (jn:j < P.nm.length) (ae:S.at (nmF P j)=some e) (hb:Ben S 12 (nmF P j) bs) (h:∀u,qf0 (qdo (qd8 (bs.map (qd1 S))) fm) e.x.fc u->leS v u) {u:Str} (hu:gN (tfF P.tc j) u < qez P j u+gN fm u):leS v u:=by
 refine h u ⟨fun c=>?_,by rw [qf9,g.sum f jn hb u,g.cap f jn ae u];exact hu⟩
 have h0:gN (qdo (qd8 (bs.map (qd1 S))) fm) u=0:=by unfold gN;rw [c];rfl
 rw [qf9,g.sum f jn hb u] at h0
 have:=f.capn jn u
 omega
end
theorem LnN.cong {el el':Nat->Nat} {k:Nat} {l:List Nat} (h:LnN el k l) (e:∀j∈l,0 < j->el j=el' j):LnN el' k l:=by
 induction h with
 |top=>exact .top
 | @up k l k0 h ih=>
  have e1:=e k (mem_cons_self ..) k0
  refine .up k0 ?_
  rw [<-e1]
  exact ih fun j hj=>e j (mem_cons_of_mem _ hj)
theorem LnN.moved {el el':Nat->Nat} {k a:Nat} {la:List Nat} (k0:0 < k) (ek:el' k=a) (eo:∀j,0 < j->j≠k->el' j=el j) (hla:LnN el a la) (na:k∉la) {i:Nat} {l:List Nat} (h:LnN el i l):∃l',LnN el' i l'/\(k∉l->l'=l)/\
  ∀lk,LnN el k lk->k∈l->l'.length+lk.length=l.length+1+la.length/\∀j,j∈l'↔(j∈l/\j∉lk)\/j=k\/j∈la:=by
 have hla':LnN el' a la:=hla.cong fun j hj j0=>(eo j j0 fun e=>na (e ▸ hj)).symm
 induction h with
 |top=>exact⟨[0],.top,fun _=>rfl,fun lk _ hk=>absurd (mem_singleton.mp hk) (by omega)⟩
 | @up i l i0 h ih=>
  by_cases c:i=k
  .subst c
   refine⟨i :: la,.up i0 (by rw [ek];exact hla'),fun hn=>absurd (mem_cons_self ..) hn,fun lk hlk _=>?_⟩
   rw [hlk.uniq (.up i0 h)]
   refine⟨by rw [length_cons,length_cons];omega,fun j=>?_⟩
   constructor
   .intro hj
    rcases mem_cons.mp hj with e|e
    .exact .inr (.inl e)
    .exact .inr (.inr e)
   .rintro(⟨a1,a2⟩ |e|e)
    .exact absurd a1 a2
    .rw [e];exact mem_cons_self ..
    .exact mem_cons_of_mem _ e
  .obtain⟨l',h1,h2,h3⟩:=ih
   refine⟨i :: l',.up i0 (by rw [eo i i0 c];exact h1),fun hn=>by rw [h2 fun z=>hn (mem_cons_of_mem _ z)],fun lk hlk hk=>?_⟩
   have hk':k∈l:=(mem_cons.mp hk).resolve_left fun e=>c e.symm
   obtain⟨h5,h3⟩:=h3 lk hlk hk'
   refine⟨by rw [length_cons,length_cons];omega,fun j=>?_⟩
   have h4:=h3 j
   have ni:i∉lk:=fun hi=>by
    obtain⟨p,m,e1,e2⟩:=h.tail hk'
    have e3:=e2.uniq hlk
    subst e3
    exact(nodup_cons.mp (LnN.up i0 h).nodup).1 (by rw [e1];exact mem_append_right _ hi)
   constructor
   .intro hj
    rcases mem_cons.mp hj with e|e
    .exact .inl ⟨by rw [e];exact mem_cons_self ..,by rw [e];exact ni⟩
    .rcases h4.mp e with ⟨a1,a2⟩ |b
     .exact .inl ⟨mem_cons_of_mem _ a1,a2⟩
     .exact .inr b
   .rintro(⟨a1,a2⟩ |b)
    .rcases mem_cons.mp a1 with e|e
     .rw [e];exact mem_cons_self ..
     .exact mem_cons_of_mem _ (h4.mpr (.inl ⟨e,a2⟩))
    .exact mem_cons_of_mem _ (h4.mpr (.inr b))
theorem qd7 {f g:Nat->Int}:∀{n:Nat},(∀k,k < n->f k=g k)->qc6 n f=qc6 n g
 |0,_=>rfl
 |n+1,h=>by
  show qc6 n f+f n=qc6 n g+g n
  rw [qd7 fun k hk=>h k (by omega),h n (by omega)]
theorem sumR_add {f g:Nat->Int}:∀{n:Nat},qc6 n (fun k=>f k+g k)=qc6 n f+qc6 n g
 |0=>rfl
 |n+1=>by
  show qc6 n _+(f n+g n)=qc6 n f+f n+(qc6 n g+g n)
  rw [sumR_add (n:=n)]
  omega
section
variable {el: Nat -> Nat} {n: Nat}
theorem Ac.two (ac:Ac el n) {i j k:Nat} (hi:i < n) (hj:j∈qa6 el i) (hk:k∈qa6 el i):j∈qa6 el k\/k∈qa6 el j:=by
 obtain⟨p,e⟩:=ac.tl hi hj
 rw [e] at hk
 rcases mem_append.mp hk with h|h
 .left
  obtain⟨q,e2⟩:=ac.tl hi (j:=k) (by rw [e];exact mem_append_left _ h)
  obtain⟨p1,p2,rfl⟩:=List.append_of_mem h
  have kn:=ac.lt hi k (by rw [e];simp)
  have:qa6 el k=k :: p2++qa6 el j:=by
   have nd:=ac.nd hi
   rw [e2] at e
   have e3:q++qa6 el k=p1++(k :: p2++qa6 el j):=by rw [e,List.append_assoc]
   obtain⟨t,ht⟩:∃t,qa6 el k=k :: t:=by
    cases hz:qa6 el k with
    |nil=>have:=ac.self kn;rw [hz] at this;cases this
    |cons x t=>
     have h5:=ac.ln kn
     rw [hz] at h5
     cases h5 with
     |top=>exact⟨_,rfl⟩
     |up _ _=>exact⟨_,rfl⟩
   rw [e2,ht] at nd
   rw [ht] at e3
   have n1:k∉q:=fun hq=>(nodup_append.mp nd).2.2 k hq k (mem_cons_self ..) rfl
   have n2:k∉p1:=fun hq=>by
    rw [e3] at nd
    exact(nodup_append.mp nd).2.2 k hq k (mem_cons_self ..) rfl
   rw [ht]
   have key:∀(a b:List Nat) (s t:List Nat),k∉a->k∉b->a++k :: s=b++k :: t->s=t:=by
    intro a
    induction a with
    |nil=>
     intro b s t _ hb he
     cases b with
     |nil=>exact(List.cons.inj he).2
     |cons y b=>exact absurd (mem_cons.mpr (.inl (List.cons.inj he).1)) hb
    |cons x a ih=>
     intro b s t ha hb he
     cases b with
     |nil=>exact absurd (mem_cons.mpr (.inl (List.cons.inj he).1.symm)) ha
     |cons y b=>exact ih b s t (fun z=>ha (mem_cons_of_mem _ z)) (fun z=>hb (mem_cons_of_mem _ z)) (List.cons.inj he).2
   rw [key _ _ _ _ n1 n2 e3];rfl
  rw [this]
  exact mem_append_right _ (ac.self (ac.lt hi j hj))
 .exact .inr h
end
theorem elN_set {es:List Nat} {k a:Nat} (k0:0 < k) (kn:k < es.length+1):elN (es.set (k - 1) a) k=a/\∀j,0 < j->j≠k->elN (es.set (k - 1) a) j=elN es j:=by
 refine⟨?_,fun j j0 ne=>?_⟩
 .unfold elN;rw [List.getElem?_set_self (by omega)];rfl
 .unfold elN;rw [List.getElem?_set_ne (by omega)]
section
variable {es: List Nat} {k a: Nat}
theorem set_ac (ac:Ac (elN es) (es.length+1)) (k0:0 < k) (kn:k < es.length+1) (an:a < es.length+1) (na:k∉qa6 (elN es) a):Ac (elN (es.set (k - 1) a)) (es.length+1)/\
  ∀i,i < es.length+1->(k∉qa6 (elN es) i->qa6 (elN (es.set (k - 1) a)) i=qa6 (elN es) i)/\(k∈qa6 (elN es) i->(qa6 (elN (es.set (k - 1) a)) i).length+(qa6 (elN es) k).length=(qa6 (elN es) i).length+1+(qa6 (elN es) a).length/\∀j,j∈qa6 (elN (es.set (k - 1) a)) i↔(j∈qa6 (elN es) i/\j∉qa6 (elN es) k)\/j=k\/j∈qa6 (elN es) a):=by
 obtain⟨e1,e2⟩:=elN_set (es:=es) (a:=a) k0 kn
 have key:∀i,i < es.length+1->∃l',LnN (elN (es.set (k - 1) a)) i l'/\(k∉qa6 (elN es) i->l'=qa6 (elN es) i)/\(k∈qa6 (elN es) i->l'.length+(qa6 (elN es) k).length=(qa6 (elN es) i).length+1+(qa6 (elN es) a).length/\∀j,j∈l'↔(j∈qa6 (elN es) i/\j∉qa6 (elN es) k)\/j=k\/j∈qa6 (elN es) a):=fun i hi=>by
  obtain⟨l',h1,h2,h3⟩:=LnN.moved k0 e1 e2 (ac.ln an) na (ac.ln hi)
  exact⟨l',h1,h2,h3 _ (ac.ln kn)⟩
 refine⟨fun i hi=>?_,fun i hi=>?_⟩
 .obtain⟨l',h1,h2,h3⟩:=key i hi
  refine⟨l',h1,fun j hj=>?_⟩
  by_cases c:k∈qa6 (elN es) i
  .rcases((h3 c).2 j).mp hj with ⟨x,_⟩ |x|x
   .exact ac.lt hi j x
   .omega
   .exact ac.lt an j x
  .rw [h2 c] at hj
   exact ac.lt hi j hj
 .obtain⟨l',h1,h2,h3⟩:=key i hi
  rw [qci h1]
  exact⟨h2,h3⟩
end
def mvP (P:PL) (k a:Nat):PL:={P with es:=P.es.set (k - 1) a}
def Nm (c:Int) (P:PL):Prop:=P.nm=(List.range P.nm.length).map fun k:Nat=>nmS c (0+(k:Int))
theorem Nm.fresh {c:Int} {P:PL} (h:Nm c P) (n10:P.nm.length < 18):nmS c (0+((P.nm.length:Nat):Int))∉P.nm:=fun m=>by
 rw [h] at m
 rw [length_map,length_range] at m
 obtain⟨k,hk,e⟩:=mem_map.mp m
 have:=mem_range.mp hk
 have:=nmS_inj (by omega) (by omega) (by omega) (by omega) e
 omega
theorem PlF.gf {P:PL} (f:PlF P):GF P:=⟨f.w1,f.w3,f.wg,f.wn,f.nl,f.n12,f.l12,f.ng,f.nn,(f.low P.nm.length).ac,f.pl,f.cl,fun t m=>⟨(f.pa t m).1,(f.pa t m).2.fin (by decide)⟩,fun t m=>⟨(f.ca t m).1,fun z n e=>by
 obtain⟨x,y,w⟩:=(f.ca t m).2 z n e
 exact⟨x,y,by omega⟩⟩⟩
theorem PlF.wi {P:PL} (f:PlF P):Wi P:=fun j hj v=>cap_ge f hj v
theorem TInv.gt {S:Ts} {P:PL} {wt:Nat->Int} (h:TInv S P P.nm.length wt) (nd:(S.hl.map (·.a)).Nodup):GT S P:=⟨h.pl,h.wp,h.ws,fun k e he=>⟨(h.da k e he).1,(h.da k e he).2.1⟩,nd⟩
section
variable {S: Ts} {P: PL}
theorem GF.acE (f:GF P):Ac (elN P.es) (P.es.length+1):=by rw [<-f.nl];exact f.ac
theorem GF.mv (f:GF P) {k a:Nat} (k0:0 < k) (kn:k < P.nm.length) (an:a < P.nm.length) (na:k∉qa6 (elN P.es) a) (hd:∀i,i < P.nm.length->k∈qa6 (elN P.es) i->(qa6 (elN P.es) a).length+(qa6 (elN P.es) i).length+1<=12+(qa6 (elN P.es) k).length):GF (mvP P k a):=by
 have nl:=f.nl
 obtain⟨ac,hli⟩:=set_ac (a:=a) f.acE k0 (by omega) (by omega) na
 refine⟨f.w1,f.w3,f.wg,f.wn,?_,f.n10,fun i hi=>?_,f.ng,f.nn,?_,f.pl,f.cl,f.pa,f.ca⟩
 .show P.nm.length=(P.es.set (k - 1) a).length+1
  rw [List.length_set];exact nl
 .have hi:i < P.nm.length:=hi
  show (qa6 (elN (P.es.set (k - 1) a)) i).length<=12
  obtain⟨h1,h2⟩:=hli i (by omega)
  by_cases c:k∈qa6 (elN P.es) i
  .have:=(h2 c).1
   have:=hd i hi c
   omega
  .rw [h1 c];exact f.l12 i hi
 .show Ac (elN (P.es.set (k - 1) a)) P.nm.length
  rw [nl];exact ac
theorem mv_sum (f:GF P) {k a:Nat} (k0:0 < k) (kn:k < P.nm.length) (an:a < P.nm.length) (na:k∉qa6 (elN P.es) a) (v:Str) {j:Nat} (jn:j < P.nm.length):
  (j∈qa6 (elN P.es) a->j∉qa6 (elN P.es) k->qez (mvP P k a) j v=qez P j v+qez P k v)/\((j∈qa6 (elN P.es) a->j∈qa6 (elN P.es) k)->qez (mvP P k a) j v<=qez P j v):=by
 have nl:=f.nl
 obtain⟨ac,hl⟩:=set_ac (a:=a) f.acE k0 (by omega) (by omega) na
 refine⟨fun ja jk=>?_,fun hj=>?_⟩
 .unfold qez
  rw [<-sumR_add]
  refine qd7 (n:=P.nm.length) fun i hi=>?_
  show (if j∈qa6 (elN (P.es.set (k - 1) a)) i then gN (tfF P.tp i) v else 0)=(if j∈qa6 (elN P.es) i then gN (tfF P.tp i) v else 0)+if k∈qa6 (elN P.es) i then gN (tfF P.tp i) v else 0
  obtain⟨h1,h2⟩:=hl i (by omega)
  by_cases c:k∈qa6 (elN P.es) i
  .rw [if_pos (((h2 c).2 j).mpr (.inr (.inr ja))),if_pos c,if_neg fun hji=>?_,Int.zero_add]
   rcases f.ac.two hi hji c with h|h
   .exact jk h
   .exact na (f.ac.trans an ja h)
  .rw [h1 c,if_neg c,Int.add_zero]
 .unfold qez
  refine sumR_le (n:=P.nm.length) fun i hi=>?_
  show (if j∈qa6 (elN (P.es.set (k - 1) a)) i then gN (tfF P.tp i) v else 0)<=if j∈qa6 (elN P.es) i then gN (tfF P.tp i) v else 0
  obtain⟨h1,h2⟩:=hl i (by omega)
  by_cases c:k∈qa6 (elN P.es) i
  .by_cases c2:j∈qa6 (elN (P.es.set (k - 1) a)) i
   .rw [if_pos c2,if_pos ?_]
    .exact Int.le_refl _
    .rcases((h2 c).2 j).mp c2 with ⟨x,_⟩ |x|x
     .exact x
     .rw [x];exact c
     .exact f.ac.trans hi c (hj x)
   .rw [if_neg c2]
    split
    .exact f.prn hi v
    .exact Int.le_refl _
  .rw [h1 c];exact Int.le_refl _
theorem Wi.mv (w:Wi P) (f:GF P) {k a:Nat} (k0:0 < k) (kn:k < P.nm.length) (an:a < P.nm.length) (na:k∉qa6 (elN P.es) a) (h:∀j∈qa6 (elN P.es) a,j∉qa6 (elN P.es) k->∀v,qez P j v+qez P k v<=gN (tfF P.tc j) v):Wi (mvP P k a):=fun j hj v=>by
 obtain⟨s1,s2⟩:=mv_sum f k0 kn an na v (j:=j) hj
 show _<=gN (tfF P.tc j) v
 by_cases c:j∈qa6 (elN P.es) a/\j∉qa6 (elN P.es) k
 .rw [s1 c.1 c.2];exact h j c.1 c.2 v
 .have:=s2 fun ja=>Classical.byContradiction fun jk=>c ⟨ja,jk⟩
  have:=w j hj v
  omega
theorem GT.mv (g:GT S P) (f:GF P) {k a:Nat} (k0:0 < k) (kn:k < P.nm.length) (an:a < P.nm.length) (f':GF (mvP P k a)):GT (mvS S (nmF P k) (nmF P a)) (mvP P k a):=by
 have nl:=f.nl
 obtain⟨e1,e2⟩:=elN_set (es:=P.es) (a:=a) k0 (by omega)
 have at_:∀(i:Nat) (e:He),(S.hl.map (mvE (nmF P k) (nmF P a)))[i]?=some e->∃e0,S.hl[i]?=some e0/\e=mvE (nmF P k) (nmF P a) e0/\i < P.nm.length:=fun i e he=>by
  rw [getElem?_map] at he
  cases h:S.hl[i]? with
  |none=>rw [h] at he;cases he
  |some e0=>
   rw [h] at he
   have hi:=(List.getElem?_eq_some_iff.mp h).1
   rw [g.pl.len] at hi
   exact⟨e0,rfl,(Option.some.inj he).symm,hi⟩
 refine⟨⟨by show (S.hl.map _).length=P.nm.length;rw [length_map];exact g.pl.len,fun i e he=>?_,f'.inj,f'.ac⟩,g.wp,g.ws,fun i e he=>?_,?_⟩
 .obtain⟨e0,h0,rfl,hi⟩:=at_ i e he
  obtain⟨x,y⟩:=g.pl.nam i e0 h0
  refine⟨by rw [mvE_n];exact x,?_⟩
  show (mvE (nmF P k) (nmF P a) e0).x.el=if i=0 then none else some (nmF P (elN (P.es.set (k - 1) a) i))
  unfold mvE
  by_cases c:i=k
  .subst c
   rw [if_pos x,if_neg (by omega),e1]
  .rw [if_neg fun z=>c (f.inj i k hi kn (by rw [<-x,z])),y]
   by_cases i0:i=0
   .rw [if_pos i0,if_pos i0]
   .rw [if_neg i0,if_neg i0,e2 i (by omega) c]
 .obtain⟨e0,h0,rfl,hi⟩:=at_ i e he
  have:=g.da i e0 h0
  unfold mvE
  split
  .exact this
  .exact this
 .show ((S.hl.map (mvE (nmF P k) (nmF P a))).map (·.a)).Nodup
  rw [map_map]
  have:((·.a)∘mvE (nmF P k) (nmF P a):He->Addr)=(·.a):=funext fun e=>mvE_a _ _ e
  rw [this]
  exact g.nda
theorem GT.hs (g:GT S P) (f:GF P):qe4 S/\S.ws.length<=50/\(∀v∈S.ws,v.length<=100)/\(∀k,k < P.nm.length->(nmF P k).length<=100):=by
 have h50:S.ws.length<=50:=by have:=g.wp.length_eq;have:=f.w3;omega
 refine⟨⟨by omega,fun e' he z hz=>?_⟩,h50,fun v hv=>?_,fun k hk=>?_⟩
 .obtain⟨i,hi,q,_⟩:=g.pl.ix he
  obtain⟨t,_,_,q2,_,q3⟩:=f.tf (k:=i) (by omega)
  rw [(g.da i e' q).1,q2] at hz
  exact g.wp.mem_iff.mpr (qeg q3 z hz)
 .have:=(qca (f.wg v (g.wp.mem_iff.mp hv))).2.1
  omega
 .rw [qbj hk]
  have:=(qca (f.ng _ (getElem_mem hk))).2.1
  omega
theorem GT.mvAt (g:GT S P) (f:GF P) {K:Frag} {d:Ad} {H:Hp} {t:Addr} (hT:qcj d H t S) {k a:Nat} (kn:k < P.nm.length) (an:a < P.nm.length):∃ez ey,MvAt K d H t S (nmF P k) (nmF P a) ez ey ((qa6 (elN P.es) k).map (nmF P)) ((qa6 (elN P.es) a).map (nmF P))/\ez.x.el=if k=0 then none else some (nmF P (elN P.es k)):=by
 obtain⟨ez,z1,z2,z3⟩:=g.pl.at kn
 obtain⟨ey,y1,y2,y3⟩:=g.pl.at an
 obtain⟨ow,w5,wl,nl⟩:=g.hs f
 have n10:=f.n10
 have lz:=f.ac.len kn
 have ly:=f.ac.len an
 have mem:∀{j i:Nat},j < P.nm.length->i < P.nm.length->(nmF P j∈(qa6 (elN P.es) i).map (nmF P)↔j∈qa6 (elN P.es) i):=fun {j i} hj hi=>⟨fun h=>by
  obtain⟨x,hx,e⟩:=mem_map.mp h
  rw [<-f.inj x j (f.ac.lt hi x hx) hj e];exact hx,fun h=>mem_map.mpr ⟨j,h,rfl⟩⟩
 refine⟨ez,ey,⟨hT,g.pl.wf,ow,z1,y1,g.pl.line k kn,by rw [length_map];omega,g.pl.line a an,by rw [length_map];omega,g.pl.depL (fun i hi=>f.l12 i hi) 12 k kn (by omega),w5,wl,fun u hu=>?_,fun bs hb u hu=>?_,fun hn=>?_⟩,z3⟩
 .obtain⟨j,hj,rfl⟩:=mem_map.mp hu
  have jn:=f.ac.lt an j hj
  obtain⟨e,h1,_⟩:=g.pl.at jn
  exact⟨nl j jn,g.pl.depL (fun i hi=>f.l12 i hi) 12 j jn (by omega),e,h1⟩
 .obtain⟨i,i1,i2,i3⟩:=g.pl.ben 12 k bs kn hb.part u hu
  refine⟨_,by rw [i2];exact g.pl.line i i1,by rw [length_map];have:=f.ac.len i1;omega⟩
 .rw [z3] at hn
  by_cases c:k=0
  .subst c
   exact mem_map.mpr ⟨0,(f.ac.ln an).zero,rfl⟩
  .rw [if_neg c] at hn;cases hn
theorem GT.deep (g:GT S P) (f:GF P) {k:Nat} (kn:k < P.nm.length) {bs:List Str} (hb:Ben S 12 (nmF P k) bs):(∀u∈bs,∀us,LineOf S u us->∃i,i < P.nm.length/\k∈qa6 (elN P.es) i/\us.length=(qa6 (elN P.es) i).length)/\∀i,i < P.nm.length->k∈qa6 (elN P.es) i->nmF P i∈bs/\LineOf S (nmF P i) ((qa6 (elN P.es) i).map (nmF P)):=by
 refine⟨fun u hu us hus=>?_,fun i hi hk=>⟨(g.pl.benIff kn hb hi).mpr hk,g.pl.line i hi⟩⟩
 obtain⟨i,i1,i2,i3⟩:=g.pl.ben 12 k bs kn hb.part u hu
 rw [i2] at hus
 exact⟨i,i1,i3,by rw [hus.uniq (g.pl.line i i1),length_map]⟩
end
theorem qea {K:Frag} {H:Hp} {n:Nat} {a b:Addr} {xs ys:List Str} (ha:SqL K H a (xs.map V.str)) (hb:SqL K H b (ys.map V.str)) (ne:a≠b):DEq K H (n+1) (.ref a) (.ref b) (decide (xs=ys)):=by
 by_cases hl:xs.length=ys.length
 .have hl':(xs.map V.str).length=(ys.map V.str).length:=by rw [length_map,length_map,hl]
  have z:=DEq.ls (K:=K) (n:=n) (e:=fun j=>decide (xs[j]?=ys[j]?)) ha hb ne hl' fun j h1 h2=>by
   rw [length_map] at h1 h2
   rw [getElem_map,getElem_map,getElem?_eq_getElem h1,getElem?_eq_getElem h2]
   have:=DEq.flat (K:=K) (H:=H) (n:=n) (x:=V.str xs[j]) (y:=V.str ys[j]) rfl rfl
   have e:eqV (V.str xs[j]) (V.str ys[j])=decide (some xs[j]=some ys[j]):=by
    show (xs[j]==ys[j])=_
    by_cases c:xs[j]=ys[j]
    .rw [c,decide_eq_true rfl];exact beq_self_eq_true _
    .rw [decide_eq_false fun h=>c (Option.some.inj h)];exact beq_false_of_ne c
   rw [e] at this
   exact this
  have e:((List.range (xs.map V.str).length).all fun j=>decide (xs[j]?=ys[j]?))=decide (xs=ys):=by
   rw [Bool.eq_iff_iff,all_eq_true,decide_eq_true_iff]
   constructor
   .intro h
    apply List.ext_getElem?
    intro j
    rcases Nat.lt_or_ge j xs.length with c|c
    .exact of_decide_eq_true (h j (mem_range.mpr (by rw [length_map];exact c)))
    .rw [List.getElem?_eq_none c,List.getElem?_eq_none (by omega)]
   .rintro rfl j _
    exact decide_eq_true rfl
  rw [e] at z
  exact z
 .rw [decide_eq_false fun e=>hl (by rw [e])]
  exact .lsN ha hb ne (by rw [length_map,length_map];exact hl)
theorem deq_two {K:Frag} {H:Hp} {n:Nat} {a b:Addr} {x1 x2 y1 y2:V} {b1 b2:Bool} (ha:SqL K H a [x1,x2]) (hb:SqL K H b [y1,y2]) (ne:a≠b) (h1:DEq K H n x1 y1 b1) (h2:DEq K H n x2 y2 b2):DEq K H (n+1) (.ref a) (.ref b) (b1 && b2):=by
 have z:=DEq.ls (K:=K) (n:=n) (e:=fun j=>if j=0 then b1 else b2) ha hb ne rfl fun j j1 j2=>by
  match j,j1,j2 with
  |0,_,_=>exact h1
  |1,_,_=>exact h2
  |j+2,c,_=>exact absurd c (by show ¬j+2 < 2;omega)
 have e:((List.range [x1,x2].length).all fun j=>if j=0 then b1 else b2)=(b1 && b2):=by
  show ((List.range 2).all fun j=>if j=0 then b1 else b2)=_
  rw [show List.range 2=[0,1] from rfl,all_cons,all_cons,List.all_nil]
  simp
 rw [e] at z
 exact z
structure TwoAt (H:Hp) (l:Addr) (xs ys:List Str):Prop where
 ex:∃m1 m2,H l=some (.lst [.ref m1,.ref m2])/\H m1=some (.lst (xs.map V.str))/\H m2=some (.lst (ys.map V.str))
theorem TwoAt.same {H H':Hp} {l:Addr} {xs ys:List Str} (h:TwoAt H l xs ys) (s:qb0 H H'):TwoAt H' l xs ys:=by
 obtain⟨m1,m2,a,b,c⟩:=h.ex
 exact⟨m1,m2,s _ _ a,s _ _ b,s _ _ c⟩
def wek (K:Frag) (d:Ad):Sp:=fun vs H Q _=>∃(a:Addr),vs=[.ref a]/\
 ((H a=some (XO a (.ref d.w05) none)/\∀l H',qb0 H H'->H l=none->TwoAt H' l [Str.ofString "move"] []->Q (.ref l) H')\/
  (H a=some (XO a (.ref d.w01) none)/\∀l H',qb0 H H'->H l=none->TwoAt H' l [Str.ofString "house"] []->Q (.ref l) H')\/
  (H a=some (XO a (.ref d.w02) none)/\∀l H',qb0 H H'->H l=none->TwoAt H' l [Str.ofString "deep"] []->Q (.ref l) H')\/
  ∃(dx:Addr) (z1 z2:Str),H a=some (XO a (.ref d.w00) (some dx))/\H dx=some (XD dx [("house",.str z1),("ware",.str z2)])/\∀l H',qb0 H H'->H l=none->TwoAt H' l [Str.ofString "promise"] [z1,z2]->Q (.ref l) H')
section
local macro_rules | `(tactic| walk_at "liv") => `(tactic| first
 |with_reducible assumption|((with_reducible refine' lives_new ?h ?n);(case n=>with_reducible assumption);(case h=>walk_at "liv")))
local macro_rules | `(tactic| walk_at "same") => `(tactic| first
 |with_reducible assumption|exact qb0.refl _|((with_reducible refine' qfj ?h ?n);(case n=>with_reducible assumption);(case h=>walk_at "same")))
local macro_rules | `(tactic| walk_at "sp") => `(tactic| first
 |(with_reducible refine qf3 ?_) |((with_reducible refine' r_isxL ?e ?l ?x ?k ?_);(case e=>walk_at "heap");(case l=>walk_at "liv");(case x=>with_reducible assumption);(case k=>with_reducible assumption)) |((with_reducible refine' r_cat ?a ?b ?z ?_);(case a=>walk_at "heap");(case b=>walk_at "heap");(case z=>(simp only [length_append,length_cons,length_nil];decide));intro p hp) |((with_reducible refine' r_append ?h ?z ?_);(case h=>walk_at "heap");(case z=>walk_at "size")))
include T in
theorem wb7:My.FnOkH P w K mg base 1 d.wd2 d.was ["_law_e"] (wek K d):=by
 refine okH T.wbw wcp (fun vs H Q E h=>?_) (fun cdv ax A outer s H vs Q E hr h=>?_)
 .obtain⟨a,rfl,_⟩:=h;rfl
 obtain⟨a,rfl,hq⟩:=h
 refine⟨_,(qa4 (qae (i:=1) wcp.nd rfl (Or.inl rfl) (qak qa3))
  (qa4 (qbk (qb2 (qbc (qac qbx rfl T.w06 PyProof.Rows.boot_isinstance (qa0 (pv 0) (qa0 (qbi (v:=.ref d.w0u) rfl T.wbh rfl) qa3)))) (qa5 (qat (qcg PySem.F.plainAttrs_list PySem.F.slot_list_append PySem.F.type_list_append qay (pv 1) (qa0 qb1 qa3)))) qag))
  (qa4 (qbk (qb2 (qbc (qac qbx rfl T.w06 PyProof.Rows.boot_isinstance (qa0 (pv 0) (qa0 (qbi (v:=.ref d.w1i) rfl T.wd1 rfl) qa3)))) (qa5 (qat (qcg PySem.F.plainAttrs_list PySem.F.slot_list_append PySem.F.type_list_append qay (pv 1) (qa0 qb1 qa3)))) qag))
  (qa4 (qbk (qb2 (qbc (qac qbx rfl T.w06 PyProof.Rows.boot_isinstance (qa0 (pv 0) (qa0 (qbi (v:=.ref d.w01) rfl T.wa7 rfl) qa3)))) (qa5 (qat (qcg PySem.F.plainAttrs_list PySem.F.slot_list_append PySem.F.type_list_append qay (pv 1) (qa0 qb1 qa3)))) qag))
  (qa4 (qbk (qb2 (qbc (qac qbx rfl T.w06 PyProof.Rows.boot_isinstance (qa0 (pv 0) (qa0 (qbi (v:=.ref d.w0v) rfl T.w94 rfl) qa3)))) (qa5 (qat (qcg PySem.F.plainAttrs_list PySem.F.slot_list_append PySem.F.type_list_append qay (pv 1) (qa0 qb1 qa3)))) qag))
  (qa4 (qbk (qb2 (qbc (qac qbx rfl T.w06 PyProof.Rows.boot_isinstance (qa0 (pv 0) (qa0 (qbi (v:=.ref d.w0f) rfl T.w6h rfl) qa3)))) (qa5 (qat (qcg PySem.F.plainAttrs_list PySem.F.slot_list_append PySem.F.type_list_append qay (pv 1) (qa0 qb1 qa3)))) qag))
  (qa4 (qbk (qb2 (qbc (qac qbx rfl T.w06 PyProof.Rows.boot_isinstance (qa0 (pv 0) (qa0 (qbi (v:=.ref d.w0g) rfl T.w86 rfl) qa3)))) (qa5 (qat (qcg PySem.F.plainAttrs_list PySem.F.slot_list_append PySem.F.type_list_append qay (pv 1) (qa0 qb1 qa3)))) qag))
  (qa4 (qbk (qb2 (qbc (qac qbx rfl T.w06 PyProof.Rows.boot_isinstance (qa0 (pv 0) (qa0 (qbi (v:=.ref d.w0n) rfl T.w9i rfl) qa3)))) (qa5 (qat (qcg PySem.F.plainAttrs_list PySem.F.slot_list_append PySem.F.type_list_append qay (pv 1) (qa0 qb1 qa3)))) qag))
  (qa4 (qbk (qb2 (qbc (qac qbx rfl T.w06 PyProof.Rows.boot_isinstance (qa0 (pv 0) (qa0 (qbi (v:=.ref d.w02) rfl T.w7w rfl) qa3)))) (qa5 (qat (qcg PySem.F.plainAttrs_list PySem.F.slot_list_append PySem.F.type_list_append qay (pv 1) (qa0 qb1 qa3)))) qag))
  (qa4 (qbk (qb2 (qbc (qac qbx rfl T.w06 PyProof.Rows.boot_isinstance (qa0 (pv 0) (qa0 (qbi (v:=.ref d.w05) rfl T.wbk rfl) qa3)))) (qa5 (qat (qcg PySem.F.plainAttrs_list PySem.F.slot_list_append PySem.F.type_list_append qay (pv 1) (qa0 qb1 qa3)))) qag))
  (qa4 (qbk (qb2 (qcd (qbc (qac qbx rfl T.w06 PyProof.Rows.boot_isinstance (qa0 (pv 0) (qa0 (qcl (v:=.ty "ValueError") rfl T.w9m qeu rfl) qa3))))) (qa5 (qat (qcg PySem.F.plainAttrs_list PySem.F.slot_list_append PySem.F.type_list_append qay (pv 1) (qa0 qb1 qa3)))) qag))
  (qa4 (qb2 (qbc (qac qbx rfl T.w06 PyProof.Rows.boot_isinstance (qa0 (pv 0) (qa0 (qbi (v:=.ref d.w00) rfl T.w7o rfl) qa3)))) (qa5 (qaj (qak (qa0 (qal op_cat (pv 1) (qak (qa0 qb1 qa3))) (qa0 (qak (qa0 (pe_xf (pv 0)) (qa0 (pe_xf (pv 0)) qa3))) qa3))))) qag)
  (qa5 (qaj (qak (qa0 (pv 1) (qa0 (qak qa3) qa3))))))))))))))))),?_⟩
 walk_at "d"
 refine qah (σ:=[some (.ref a),none]) rfl ?_
 rcases hq with ⟨ha,q⟩ |⟨ha,q⟩ |⟨ha,q⟩ |⟨dx,z1,z2,ha,hx,q⟩
 .have lv:qfx none H:=qcc
  have k0:=T.w54
  have k1:=T.w68
  have k2:=T.w3k
  have k3:=T.w4o
  have k4:=T.w2n
  have k5:=T.w30
  have k6:=T.w3d
  have k7:=T.w3r
  have k8:=T.w4j
  have k9:=T.w28
  have kv:=T.kvM
  have xa:=T.w4t
  walk_at "g"
  rename_i p hp
  rw [qbq]
  refine r_isxT (qa7 ha hp) qcc xa kv ?_
  walk_at "g"
  rename_i p1 hp1 p2 hp2
  have h1:=qa7 (o':=.lst [V.ref p,V.ref p1]) (qa7 (o':=.lst []) (show upd H p (HO.lst ([]++ [V.str (Str.ofString "move")])) p=some (.lst ([Str.ofString "move"].map V.str)) from qa1) hp1) hp2
  exact q p2 _ (((qa2 hp _).trans (qa2 hp1 _)).trans (qa2 hp2 _)) ((qa2 hp _).free ((qa2 hp1 _).free hp2)) ⟨p,p1,qa1,h1,qa7 qa1 hp2⟩
 .have lv:qfx none H:=qcc
  have k0:=T.w58
  have k1:=T.w60
  have k2:=T.w3m
  have k3:=T.w4s
  have k4:=T.w2q
  have k5:=T.w2x
  have k6:=T.w3q
  have k7:=T.w3h
  have k8:=T.w4h
  have k9:=T.w29
  have kv:=T.kvH
  have xa:=T.w3j
  walk_at "g"
  rename_i p hp
  rw [qbq]
  walk_at "g"
  refine r_isxT (qa7 ha hp) qcc xa kv ?_
  walk_at "g"
  rename_i p1 hp1 p2 hp2
  have h1:=qa7 (o':=.lst [V.ref p,V.ref p1]) (qa7 (o':=.lst []) (show upd H p (HO.lst ([]++ [V.str (Str.ofString "house")])) p=some (.lst ([Str.ofString "house"].map V.str)) from qa1) hp1) hp2
  exact q p2 _ (((qa2 hp _).trans (qa2 hp1 _)).trans (qa2 hp2 _)) ((qa2 hp _).free ((qa2 hp1 _).free hp2)) ⟨p,p1,qa1,h1,qa7 qa1 hp2⟩
 .have lv:qfx none H:=qcc
  have k0:=T.w4i
  have k1:=T.w6e
  have k2:=T.w3v
  have k3:=T.w4r
  have k4:=T.w2v
  have k5:=T.w2o
  have k6:=T.w3g
  have k7:=T.w3u
  have k8:=T.w4u
  have k9:=T.w2c
  have kv:=T.kvD
  have xa:=T.w3o
  walk_at "g"
  rename_i p hp
  rw [qbq]
  walk_at "g"
  refine r_isxT (qa7 ha hp) qcc xa kv ?_
  walk_at "g"
  rename_i p1 hp1 p2 hp2
  have h1:=qa7 (o':=.lst [V.ref p,V.ref p1]) (qa7 (o':=.lst []) (show upd H p (HO.lst ([]++ [V.str (Str.ofString "deep")])) p=some (.lst ([Str.ofString "deep"].map V.str)) from qa1) hp1) hp2
  exact q p2 _ (((qa2 hp _).trans (qa2 hp1 _)).trans (qa2 hp2 _)) ((qa2 hp _).free ((qa2 hp1 _).free hp2)) ⟨p,p1,qa1,h1,qa7 qa1 hp2⟩
 .have lv:qfx (some dx) H:=qf8 hx
  have k0:=T.w4e
  have k1:=T.w6a
  have k2:=T.w3s
  have k3:=T.w4y
  have k4:=T.w2z
  have k5:=T.w31
  have k6:=T.w3e
  have k7:=T.w3w
  have k8:=T.w4q
  have k9:=T.w27
  have kv:=T.kvP
  have xa:=T.w14
  walk_at "g"
  rename_i p hp
  refine r_isxT (qa7 ha hp) (qf8 (qa7 hx hp)) xa kv ?_
  walk_at "g"
  rename_i p1 hp1 p2 hp2
  have s2:=((qa2 hp (.lst [])).trans (qa2 hp1 (.lst [V.str (Str.ofString "promise")]))).trans (qa2 hp2 (.lst ([]++ [V.str (Str.ofString "promise")])))
  have e2:upd (upd (upd H p (.lst [])) p1 (.lst [V.str (Str.ofString "promise")])) p2 (.lst ([]++ [V.str (Str.ofString "promise")])) p2=some (.lst ([Str.ofString "promise"].map V.str)):=qa1
  generalize upd (upd (upd H p (.lst [])) p1 (.lst [V.str (Str.ofString "promise")])) p2 (.lst ([]++ [V.str (Str.ofString "promise")]))=H2 at*
  refine r_txf ?_
  walk_at "g"
  refine⟨a,d.w00,dx,_,.str z1,rfl,s2 _ _ ha,s2 _ _ hx,xa,T.weu,rfl,?_⟩
  walk_at "g"
  refine r_txf ?_
  walk_at "g"
  refine⟨a,d.w00,dx,_,.str z2,rfl,s2 _ _ ha,s2 _ _ hx,xa,T.wet,rfl,?_⟩
  walk_at "g"
  rename_i p3 hp3 p4 hp4
  exact q p4 _ ((s2.trans (qa2 hp3 _)).trans (qa2 hp4 _)) (s2.free ((qa2 hp3 _).free hp4)) ⟨p2,p3,qa1,qa7 (qa7 e2 hp3) hp4,qa7 qa1 hp4⟩
end
def Ov (P:PL) (fm:Str->Option Int) (j:Nat) (v:Str):Prop:=gN (tfF P.tc j) v < qez P j v+gN fm v
def Plc (P:PL) (js:List Nat) (fm:Str->Option Int) (xs ys:List Str):Prop:=
 (xs=[]/\ys=[]/\∀j∈js,∀v∈P.ws,¬Ov P fm j v)\/
 ∃(i0 j0:Nat) (v:Str),js[i0]?=some j0/\v∈P.ws/\Ov P fm j0 v/\(∀v'∈P.ws,Ov P fm j0 v'->leS v v')/\(∀i j,i < i0->js[i]?=some j->∀v'∈P.ws,¬Ov P fm j v')/\xs=[Str.ofString "promise"]/\ys=[nmF P j0,v]
theorem Plc.uniq {P:PL} {js:List Nat} {fm:Str->Option Int} {xs ys xs' ys':List Str} (h:Plc P js fm xs ys) (h':Plc P js fm xs' ys'):xs=xs'/\ys=ys':=by
 rcases h with ⟨a1,a2,a3⟩ |⟨i,j,v,b1,b2,b3,b4,b5,b6,b7⟩
 .rcases h' with ⟨c1,c2,c3⟩ |⟨i',j',v',d1,d2,d3,d4,d5,d6,d7⟩
  .exact⟨a1.trans c1.symm,a2.trans c2.symm⟩
  .exact absurd d3 (a3 j' (mem_of_getElem? d1) v' d2)
 .rcases h' with ⟨c1,c2,c3⟩ |⟨i',j',v',d1,d2,d3,d4,d5,d6,d7⟩
  .exact absurd b3 (c3 j (mem_of_getElem? b1) v b2)
  .have ei:i=i':=by
    rcases Nat.lt_trichotomy i i' with lt|e|lt
    .exact absurd b3 (d5 i j lt b1 v b2)
    .exact e
    .exact absurd d3 (b5 i' j' lt d1 v' d2)
   subst ei
   rw [b1] at d1
   have ej:=Option.some.inj d1
   subst ej
   have ev:v=v':=leS_anti (b4 v' d2 d3) (d4 v b2 b3)
   subst ev
   exact⟨b6.trans d6.symm,b7.trans d7.symm⟩
theorem GF.sumE {P:PL} (f:GF P) (j:Nat) (v:Str):(qc6 P.tp.length fun k=>if j∈qa6 (elN P.es) k then ptN P.tp k v else 0)=qez P j v:=by
 unfold qez
 rw [f.pl]
 exact qd7 fun k _=>by rw [ptN_eq]
def wdj (K:Frag) (d:Ad):Sp:=fun vs H Q _=>∃(p ll lm:Addr) (P:PL) (js:List Nat) (km:List (Key × V)) (fm:Str->Option Int),vs=[.ref p,.ref ll,.ref lm]/\GF P/\PlAt H p P/\H ll=some (.lst (js.map iV))/\(∀j∈js,j < P.nm.length)/\H lm=some (.dK km)/\AD km fm/\
 ∀l xs ys H',qb0 H H'->H l=none->TwoAt H' l xs ys->Plc P js fm xs ys->Q (.ref l) H'
include T in
theorem wdl:FnOk P w K mg base CX0 2 d.wai d.w8l ["_law_plan_here","_law_line_here","_law_more"] (wdj K d):=by
 refine T.wd4.ok w2k (fun vs H Q E h=>?_) (fun cdv A outer s H vs Q E hr h=>?_)
 .obtain⟨p,ll,lm,P,js,km,fm,rfl,_⟩:=h;rfl
 obtain⟨p,ll,lm,P,js,km,fm,rfl,f,pa,hL,hj,hm,hA,q⟩:=h
 refine⟨_,(qa4 (ps_asg (pv 0) (pg_lst rfl (qax (qam (i:=3) w2k.nd rfl (Or.inl rfl)) (qax (qam (i:=4) w2k.nd rfl (Or.inl rfl)) (qax (qam (i:=5) w2k.nd rfl (Or.inl rfl)) (qax (qam (i:=6) w2k.nd rfl (Or.inl rfl)) (qax (qam (i:=7) w2k.nd rfl (Or.inl rfl)) qei)))))))
  (qa4 (qae (i:=8) w2k.nd rfl (Or.inl rfl) (qad ((wal T).mono (by decide)) hr rfl T.wcf T.wbg.kp T.wcm .nil qav (qa0 (pv 5) (qa0 (pv 6) qa3))))
  (qa4 (qbl PassesOwn.never rfl (qc4 (pv 1)) (qam (i:=9) w2k.nd rfl (Or.inl rfl)) (qa5 (qbl PassesOwn.never rfl (qc4 (qac qde rfl T.w5c PyProof.Rows.boot_sorted (qa0 (pv 3) qa3))) (qam (i:=10) w2k.nd rfl (Or.inl rfl)) (qa5 (qb2 (qai qfn (qal qba (qda (qce hr) (qaw qaf (pv 8) (pv 9) (fun _ _=>rfl)) (pv 10) qaa ⟨rfl,rfl,rfl,rfl⟩) (qda (qce hr) (pv 2) (pv 10) qaa ⟨rfl,rfl,rfl,rfl⟩)) (qda (qce hr) (qaw qaf (pv 7) (pv 9) (fun _ _=>rfl)) (pv 10) qaa ⟨rfl,rfl,rfl,rfl⟩) (qau _)) (qa5 (qaj (qak (qa0 (qak (qa0 qb1 qa3)) (qa0 (qak (qa0 (qaw qaf (pv 4) (pv 9) (fun _ _=>rfl)) (qa0 (pv 10) qa3))) qa3))))) qag)))))
  (qa5 (qaj (qak (qa0 (qak qa3) (qa0 (qak qa3) qa3)))))))),?_⟩
 walk_at "d"
 refine qah (σ:=[some (.ref p),some (.ref ll),some (.ref lm),none,none,none,none,none,none,none,none]) rfl ?_
 have n10:=f.n10
 have w3:=f.w3
 have nl:=f.nl
 have etop:=pa.top
 walk_at "g"
 refine⟨P.le,P.lp,P.es,P.tp,P.ws,rfl,pa.e,SqL.of pa.pr,by rw [f.pl];omega,by rw [f.pl];omega,by omega,by rw [f.pl];exact f.ac,fun x m=>⟨pa.pd x m,(f.pa x m).1,fun y hy=>?_⟩,fun ls qs H1 s1 hls els hql hqf hG=>?_⟩
 .cases e:x.f y with
  |none=>exact absurd e hy
  |some n=>exact((f.pa x m).2 y n e).1
 rw [f.pl] at hql
 have hsum:∀(j:Nat),j < P.nm.length->∃(qa:Addr) (kq:List (Key × V)) (fq:Str->Option Int),atI (qs.map V.ref) (j:Int)=some (.ref qa)/\H1 qa=some (.dK kq)/\AD kq fq/\∀v,gN fq v=qez P j v:=fun j jn=>by
  have jq:j < qs.length:=by omega
  obtain⟨kq,fq,hq1,hq2,hq3,hq4⟩:=hG j qs[j] (getElem?_eq_getElem jq)
  exact⟨qs[j],kq,fq,qas (by rw [getElem?_map,getElem?_eq_getElem jq];rfl),hq1,hq2,fun v=>by rw [hq4 v];exact f.sumE j v⟩
 clear hG hqf hql etop
 have hL1:=s1 _ _ hL
 have ssn:=f.wn
 walk_at "g"
 refine qfa (xs:=js.map iV) (fun i σ H'=>qb0 H1 H'/\(∃w1 w2,σ=[some (.ref p),some (.ref ll),some (.ref lm),some (V.ref P.lw),some (V.ref P.ln),some (V.ref P.le),some (V.ref P.lp),some (V.ref P.lc),some (.ref ls),w1,w2])/\∀i' j,i' < i->js[i']?=some j->∀v'∈P.ws,¬Ov P fm j v') ⟨qb0.refl _,⟨none,none,rfl⟩,fun i' j h=>by omega⟩ ?_ ?_ ?_
 .rintro i σ H' _ ⟨sm,_⟩;exact sm.seq (SqL.of hL1)
 .rintro i v σ H' hv ⟨sm,⟨w1,w2,rfl⟩,hno⟩
  rw [getElem?_map] at hv
  obtain⟨j,hji,rfl⟩:=Option.map_eq_some_iff.mp hv
  have jn:=hj j (mem_of_getElem? hji)
  have pa':=pa.same (s1.trans sm)
  have ew:=pa'.w
  obtain⟨qa,kq,fq,xq,hq1,hq2,hq4⟩:=hsum j jn
  obtain⟨tc,tc1,tc2,tc3,tc4,tc5⟩:=f.tc jn
  have xc:atI (P.tc.map fun t=>V.ref t.a) (j:Int)=some (.ref tc.a):=qas (by rw [getElem?_map,tc1];rfl)
  have xn:atI (P.nm.map V.str) (j:Int)=some (.str (nmF P j)):=by rw [qbj jn];exact qas (by rw [getElem?_map,getElem?_eq_getElem jn];rfl)
  rw [show iV j=V.int (j:Int) from rfl]
  generalize ((j:Nat):Int)=jI at*
  clear hv
  walk_at "g"
  refine qfk (SqL.of ew) (by omega) fun l ss hl hp hs=>?_
  have s2:=sm.trans (qa2 hl (.lst (ss.map V.str)))
  have el:upd H' l (.lst (ss.map V.str)) l=some (.lst (ss.map V.str)):=qa1
  generalize upd H' l (.lst (ss.map V.str))=H2 at*
  have pw:=qdq hs
  have pa2:=pa.same (s1.trans s2)
  clear ew pa' hl
  walk_at "g"
  refine qfa (xs:=ss.map V.str) (fun m σ H3=>H3=H2/\(∃w,σ=[some (.ref p),some (.ref ll),some (.ref lm),some (V.ref P.lw),some (V.ref P.ln),some (V.ref P.le),some (V.ref P.lp),some (V.ref P.lc),some (.ref ls),some (.int jI),w])/\∀v'∈ss.take m,¬Ov P fm j v') ⟨rfl,⟨_,rfl⟩,fun v' h=>by simp at h⟩ ?_ ?_ ?_
  .rintro m σ H3 _ ⟨rfl,_⟩;exact SqL.of el
  .rintro m v σ H3 hv2 ⟨rfl,⟨w,rfl⟩,hno2⟩
   rw [getElem?_map] at hv2
   obtain⟨u,hu,rfl⟩:=Option.map_eq_some_iff.mp hv2
   obtain⟨hmk,eu⟩:=List.getElem?_eq_some_iff.mp hu
   have huw:u∈P.ws:=hp.mem_iff.mp (mem_of_getElem? hu)
   have els2:=s2 _ _ els
   have ec2:=pa2.cp
   have en2:=pa2.n
   have hRq:Rd H3 qa (.dK kq):=.inl (s2 _ _ hq1)
   have hRc:Rd H3 tc.a (.dK tc.k):=.inl (pa2.cd tc tc2)
   have hRm:Rd H3 lm (.dK km):=.inl ((s1.trans s2) _ _ hm)
   clear hv2
   walk_at "g"
   refine qbf (SqL.of els2) xq ?_
   walk_at "g"
   refine qbf (SqL.of ec2) xc ?_
   walk_at "g"
   have eOv:gN tc.f u < gN fq u+gN fm u↔Ov P fm j u:=by unfold Ov;rw [tc3,hq4 u]
   by_cases c:gN tc.f u < gN fq u+gN fm u
   .rw [if_pos (decide_eq_true c)]
    walk_at "g"
    rename_i p1 hp1
    refine qbf (SqL.of (qa7 en2 hp1)) xn ?_
    walk_at "g"
    rename_i p2 hp2 p3 hp3
    refine q p3 [Str.ofString "promise"] [nmF P j,u] _ ((s1.trans s2).trans (((qa2 hp1 _).trans (qa2 hp2 _)).trans (qa2 hp3 _))) ((s1.trans s2).free ((qa2 hp1 _).free ((qa2 hp2 _).free hp3))) ⟨p1,p2,qa1,qa7 (qa7 qa1 hp2) hp3,qa7 qa1 hp3⟩ (.inr ⟨i,j,u,hji,huw,eOv.mp c,fun v' hv' ho=>?_,hno,rfl,rfl⟩)
    obtain⟨m',hm',em'⟩:=mem_iff_getElem.mp (hp.mem_iff.mpr hv')
    rcases Nat.lt_trichotomy m' m with lt|e|lt
    .refine absurd ho (hno2 v' ?_)
     rw [<-em']
     exact List.mem_take_iff_getElem.mpr ⟨m',by omega,rfl⟩
    .subst e
     rw [<-em',<-eu];exact leS_refl _
    .have:=(pairwise_iff_getElem.mp pw) m m' hmk hm' lt
     rw [eu,em'] at this
     exact this
   .rw [if_neg (by rw [decide_eq_false c];exact Bool.false_ne_true)]
    walk_at "g"
    refine⟨rfl,⟨_,rfl⟩,fun v' hv'=>?_⟩
    rw [take_add_one,hu] at hv'
    rcases mem_append.mp hv' with h|h
    .exact hno2 v' h
    .rw [show v'=u by simpa using h]
     exact fun h=>c (eOv.mpr h)
  .rintro σ H3 ⟨rfl,⟨w,rfl⟩,hno2⟩
   rw [length_map,take_length] at hno2
   refine⟨s2,⟨_,_,rfl⟩,fun i' j' hi' hj' v' hv'=>?_⟩
   rcases Nat.lt_or_ge i' i with lt|ge
   .exact hno i' j' lt hj' v' hv'
   .have:i'=i:=by omega
    subst this
    rw [hji] at hj'
    cases hj'
    exact hno2 v' (hp.mem_iff.mpr hv')
 .rintro σ H' ⟨sm,⟨w1,w2,rfl⟩,hno⟩
  rw [length_map] at hno
  walk_at "g"
  rename_i p1 hp1 p2 hp2 p3 hp3
  refine q p3 [] [] _ ((s1.trans sm).trans (((qa2 hp1 _).trans (qa2 hp2 _)).trans (qa2 hp3 _))) ((s1.trans sm).free ((qa2 hp1 _).free ((qa2 hp2 _).free hp3))) ⟨p1,p2,qa1,qa7 (qa7 qa1 hp2) hp3,qa7 qa1 hp3⟩ (.inl ⟨rfl,rfl,fun j hj' v hv=>?_⟩)
  obtain⟨i',hi',e'⟩:=mem_iff_getElem.mp hj'
  exact hno i' j hi' (by rw [getElem?_eq_getElem hi',e']) v hv
noncomputable def jsN (P:PL) (k a:Nat):List Nat:=(qa6 (elN P.es) a).filter fun j=>!decide (j∈qa6 (elN P.es) k)
theorem notOn_map {n:Nat} {nm:Nat->Str} (inj:∀i j,i < n->j < n->nm i=nm j->i=j) {m:List Nat} (hm:∀j∈m,j < n):∀{l:List Nat},(∀j∈l,j < n)->qe0 (l.map nm) (m.map nm)=(l.filter fun j=>!decide (j∈m)).map nm
 | [],_=>rfl
 |j :: l,h=>by
  have ih:=notOn_map inj hm (l:=l) fun i hi=>h i (mem_cons_of_mem _ hi)
  have jn:=h j (mem_cons_self ..)
  have e:decide (nm j∈m.map nm)=decide (j∈m):=by
   by_cases c:j∈m
   .rw [decide_eq_true c,decide_eq_true (mem_map.mpr ⟨j,c,rfl⟩)]
   .rw [decide_eq_false c,decide_eq_false fun hh=>?_]
    obtain⟨i,hi,e⟩:=mem_map.mp hh
    exact c (inj i j (hm i hi) jn e ▸ hi)
  unfold qe0 at ih ⊢
  rw [map_cons,filter_cons,filter_cons,e,ih]
  by_cases c:j∈m
  .rw [decide_eq_true c];rfl
  .rw [decide_eq_false c];rfl
theorem GF.sum_out {P:PL} (f:GF P) {v:Str} (hv:v∉P.ws) (j:Nat):qez P j v=0:=by
 have z0:∀n,(qc6 n fun _=>0)=0:=fun n=>by
  induction n with
  |zero=>rfl
  |succ n ih=>show qc6 n _+0=0;rw [ih];rfl
 unfold qez
 rw [qd7 (g:=fun _=>0) fun k hk=>?_,z0]
 split
 .obtain⟨t,_,_,e,_,h⟩:=f.tf hk
  rw [e];exact fin_out h hv
 .rfl
theorem PlAt.sbI {H H':Hp} {p q C:Addr} {P:PL} {fs:List (Str × V)} (h:PlAt H p P) (hq:∃dy,H q=some (.ins C dy fs)) (sb:SameBut q H H'):PlAt H' p P:=by
 obtain⟨dy,hq⟩:=hq
 have nL:∀{b:Addr} {xs:List V},H b=some (.lst xs)->b≠q:=fun e1 e2=>by subst e2;rw [hq] at e1;cases e1
 have nD:∀{b:Addr} {k:List (Key × V)},H b=some (.dK k)->b≠q:=fun e1 e2=>by subst e2;rw [hq] at e1;cases e1
 exact⟨sb _ _ (nL h.top) h.top,sb _ _ (nL h.w) h.w,sb _ _ (nL h.n) h.n,sb _ _ (nL h.e) h.e,sb _ _ (nL h.pr) h.pr,sb _ _ (nL h.cp) h.cp,
  fun t m=>sb _ _ (nD (h.pd t m)) (h.pd t m),fun t m=>sb _ _ (nD (h.cd t m)) (h.cd t m)⟩
def Cnd (P:PL) (k a:Nat):Prop:=k=0\/k∈qa6 (elN P.es) a\/elN P.es k=a
noncomputable def mvFm (P:PL) (k:Nat):Str->Option Int:=fun v=>some (qez P k v)
theorem qeq (P:PL) (k:Nat) (v:Str):gN (mvFm P k) v=qez P k v:=rfl
def Dpt (P:PL) (k a:Nat):Prop:=∃i,i < P.nm.length/\k∈qa6 (elN P.es) i/\12+(qa6 (elN P.es) k).length <(qa6 (elN P.es) a).length+(qa6 (elN P.es) i).length+1
inductive Due (P:PL):V->V->List Str->List Str->Prop
 |nox {x y:V} (h:∀k,k < P.nm.length->x≠ .str (nmF P k)):Due P x y [Str.ofString "house"] []
 |noy {k:Nat} {y:V} (kn:k < P.nm.length) (h:∀a,a < P.nm.length->y≠ .str (nmF P a)):Due P (.str (nmF P k)) y [Str.ofString "house"] []
 |mv {k a:Nat} (kn:k < P.nm.length) (an:a < P.nm.length) (c:Cnd P k a):Due P (.str (nmF P k)) (.str (nmF P a)) [Str.ofString "move"] []
 |dp {k a:Nat} (kn:k < P.nm.length) (an:a < P.nm.length) (c:¬Cnd P k a) (h:Dpt P k a):Due P (.str (nmF P k)) (.str (nmF P a)) [Str.ofString "deep"] []
 |pl {k a:Nat} {xs ys:List Str} (kn:k < P.nm.length) (an:a < P.nm.length) (c:¬Cnd P k a) (h:¬Dpt P k a) (p:Plc P (jsN P k a) (mvFm P k) xs ys):Due P (.str (nmF P k)) (.str (nmF P a)) xs ys
section
variable {S: Ts} {P: PL}
theorem GT.nobody (g:GT S P) {x:V} (h:∀k,k < P.nm.length->x≠ .str (nmF P k)):who S x=none:=by
 cases x with
 |str z=>
  show S.at z=none
  cases e:S.at z with
  |none=>rfl
  |some e'=>
   obtain⟨i,hi,_,e1,_⟩:=g.pl.ix (qbm e).1
   rw [(qbm e).2] at e1
   exact absurd (by rw [e1]) (h i hi)
 |_=>rfl
theorem GT.cnd (g:GT S P) (f:GF P) {k a:Nat} (kn:k < P.nm.length) (an:a < P.nm.length) {ez:He} (hel:ez.x.el=if k=0 then none else some (nmF P (elN P.es k))):(nmF P k∈(qa6 (elN P.es) a).map (nmF P)\/ez.x.el=some (nmF P a))↔Cnd P k a:=by
 have mem:∀{j i:Nat},j < P.nm.length->i < P.nm.length->(nmF P j∈(qa6 (elN P.es) i).map (nmF P)↔j∈qa6 (elN P.es) i):=fun {j i} hj hi=>⟨fun h=>by
  obtain⟨x,hx,e⟩:=mem_map.mp h
  rw [<-f.inj x j (f.ac.lt hi x hx) hj e];exact hx,fun h=>mem_map.mpr ⟨j,h,rfl⟩⟩
 unfold Cnd
 rw [mem kn an,hel]
 constructor
 .rintro(h|h)
  .exact .inr (.inl h)
  .by_cases c0:k=0
   .exact .inl c0
   .rw [if_neg c0] at h
    exact .inr (.inr (f.inj _ _ (f.ac.elt (by omega) kn) an (Option.some.inj h)))
 .rintro(h|h|h)
  .rw [h];exact .inl (f.ac.ln an).zero
  .exact .inl h
  .by_cases c0:k=0
   .rw [c0];exact .inl (f.ac.ln an).zero
   .rw [if_neg c0,h];exact .inr rfl
theorem GT.mvQ (g:GT S P) (f:GF P) (wi:Wi P) {K:Frag} {d:Ad} {H:Hp} {t:Addr} {k a:Nat} (kn:k < P.nm.length) (an:a < P.nm.length) {ez ey:He} (hel:ez.x.el=if k=0 then none else some (nmF P (elN P.es k))) {E:XK} {done:Prop}
  (q1:Cnd P k a->∀H',qb0 H H'->E (.ref d.w05) none H') (q2:¬Cnd P k a->Dpt P k a->∀H',qb0 H H'->E (.ref d.w02) none H') (q3:¬Cnd P k a->¬Dpt P k a->Plc P (jsN P k a) (mvFm P k) [] []->done)
  (q4:¬Cnd P k a->¬Dpt P k a->∀u v,Plc P (jsN P k a) (mvFm P k) [Str.ofString "promise"] [u,v]->NoP d H u v E):MvQ K d H t S (nmF P k) (nmF P a) ez ey ((qa6 (elN P.es) k).map (nmF P)) ((qa6 (elN P.es) a).map (nmF P)) E done:=by
 have cn:=g.cnd f kn an hel
 have eno:qe0 ((qa6 (elN P.es) a).map (nmF P)) ((qa6 (elN P.es) k).map (nmF P))=(jsN P k a).map (nmF P):=notOn_map f.inj (f.ac.lt kn) (f.ac.lt an)
 have jlt:∀j∈jsN P k a,j < P.nm.length:=fun j hj=>f.ac.lt an j (mem_filter.mp hj).1
 have nd:(∃bs,Ben S 12 (nmF P k) bs/\∀u∈bs,∀us,LineOf S u us->((qa6 (elN P.es) a).map (nmF P)).length+us.length+1<=12+((qa6 (elN P.es) k).map (nmF P)).length)->¬Dpt P k a:=by
  rintro⟨bs,hb,hall⟩ ⟨i,hi,hk,hd⟩
  obtain⟨h1,h2⟩:=(g.deep f kn hb).2 i hi hk
  have:=hall _ h1 _ h2
  rw [length_map,length_map,length_map] at this
  omega
 refine⟨fun h=>q1 (cn.mp h),fun c1 c2 bs hb u hu us hus hd=>?_,fun c1 c2 c3 bs hb hf=>?_,fun c1 c2 c3 bs hb i u e' cs v h1 h2 h3 h4 h5 h6=>?_⟩
 .obtain⟨i,hi,hk,hl⟩:=(g.deep f kn hb).1 u hu us hus
  refine q2 (fun h=>(cn.mpr h).elim c1 c2) ⟨i,hi,hk,?_⟩
  rw [length_map,length_map] at hd
  omega
 .refine q3 (fun h=>(cn.mpr h).elim c1 c2) (nd c3) (.inl ⟨rfl,rfl,fun j hj v _ ho=>?_⟩)
  have:=g.fine f (jlt j hj) (hf _ (by rw [eno];exact mem_map.mpr ⟨j,hj,rfl⟩)) v
  rw [g.sum f kn hb v] at this
  unfold Ov at ho
  rw [qeq] at ho
  omega
 .rw [eno,getElem?_map] at h1
  obtain⟨j,hji,rfl⟩:=Option.map_eq_some_iff.mp h1
  have jn:=jlt j (mem_of_getElem? hji)
  have hs:=g.sum f kn hb
  have hov:=g.vioA f jn h2 h3 h4
  rw [hs v] at hov
  refine q4 (fun h=>(cn.mpr h).elim c1 c2) (nd c3) (nmF P j) v (.inr ⟨i,j,v,hji,?_,hov,fun v' _ hv'=>?_,fun i' j' hi' hj' v' _ hs'=>?_,rfl,rfl⟩)
  .refine Classical.byContradiction fun hn=>?_
   rw [f.sum_out hn k,Int.add_zero] at hov
   have:=wi j jn v
   omega
  .unfold Ov at hv'
   rw [qeq,<-hs v'] at hv'
   exact g.vioB f jn h2 h3 h5 hv'
  .have fi:=h6 i' (nmF P j') hi' (by rw [eno,getElem?_map,hj'];rfl)
   have z1:=g.fine f (jlt j' (mem_of_getElem? hj')) fi v'
   rw [hs v'] at z1
   unfold Ov at hs'
   rw [qeq] at hs'
   omega
end
def wc4 (K:Frag) (d:Ad):Sp:=fun vs H Q _=>∃(t:Addr) (S:Ts) (P:PL) (x y:V),vs=[.ref t,x,y]/\GF P/\Wi P/\qcj d H t S/\GT S P/\qco K H x/\qco K H y/\
 ∀l xs ys H',H l=none->TwoAt H' l xs ys->Due P x y xs ys->qb0 H H'->Q (.ref l) H'
include T in
theorem wc6:FnOk P w K mg base CX0 21 d.w7q d.w6r ["_law_tree_here","_law_name_here","_law_elder"] (wc4 K d):=by
 refine T.w9h.ok w5d (fun vs H Q E h=>?_) (fun cdv A outer s H vs Q E hr h=>?_)
 .obtain⟨t,S,P,x,y,rfl,_⟩:=h;rfl
 obtain⟨t,S,P,x,y,rfl,f,wi,hT,g,hx,hy,q⟩:=h
 refine⟨_,(qa4 (qae (i:=3) w5d.nd rfl (Or.inl rfl) (qak (qa0 (qak qa3) (qa0 (qak qa3) qa3))))
  (qa4 (qbk (ps_try rfl rfl (fun _ _=>(qa5 (qat (qap (pv 0) T.w04 T.w0i ((w35 T).mono (by decide)) hr T.w3i .nil qaq (qa0 (pv 1) (qa0 (pv 2) qa3))))))
  (ph_as (i:=4) w5d.nd rfl rfl T.w1h rfl T.w3x (fun _=>(qa5 (qae (i:=3) w5d.nd rfl (Or.inl rfl) (qfm ((wb7 T).mono (by decide)) hr rfl T.wcj T.wbw.kp T.wdb (qa0 (pv 4) qa3)))))
  ph_none) qag))
  (qa5 (qaj (pv 3))))),?_⟩
 walk_at "d"
 refine qah (σ:=[some (.ref t),some (x),some (y),none,none]) rfl ?_
 have ct:=T.w04
 walk_at "g"
 rename_i m1 hm1 m2 hm2 tl htl
 have hn0:H tl=none:=(qa2 hm1 _).free ((qa2 hm2 _).free htl)
 have s08:=((qa2 hm1 (.lst [])).trans (qa2 hm2 (.lst []))).trans (qa2 htl (.lst [V.ref m1,V.ref m2]))
 have two:TwoAt (upd (upd (upd H m1 (.lst [])) m2 (.lst [])) tl (.lst [V.ref m1,V.ref m2])) tl [] []:=⟨m1,m2,qa1,qa7 (qa7 qa1 hm2) htl,qa7 qa1 htl⟩
 generalize upd (upd (upd H m1 (.lst [])) m2 (.lst [])) tl (.lst [V.ref m1,V.ref m2])=H8 at*
 have hT8:=hT.same s08
 have hx8:=hx.same s08
 have hy8:=hy.same s08
 clear hm1 hm2 htl
 refine r_cut (fun σ' H'=>∃(tl':Addr) (w:Option V) (xs ys:List Str),σ'=[some (V.ref t),some x,some y,some (V.ref tl'),w]/\H tl'=none/\TwoAt H' tl' xs ys/\Due P x y xs ys/\(True->qb0 H8 H')) ?_ ?_
 .obtain⟨dx0,ht0⟩:=id hT8.1
  walk_at "g"
  by_cases hk:∃k,k < P.nm.length/\x=.str (nmF P k)
  .obtain⟨k,kn,rfl⟩:=hk
   have lk:=f.l12 k kn
   by_cases ha:∃a,a < P.nm.length/\y=.str (nmF P a)
   .obtain⟨a,an,rfl⟩:=ha
    obtain⟨ez,ey,hM,hel⟩:=g.mvAt f (K:=K) hT8 kn an
    refine⟨t,S,_,_,rfl,hT8,.inr (.inr ⟨_,_,ez,ey,_,_,rfl,rfl,hM,g.mvQ f wi kn an hel ?_ ?_ ?_ ?_⟩)⟩
    .intro c H' s'
     refine r_cl T.kcM (iteT ?_)
     walk_at "g"
     rename_i ae hae
     refine⟨ae,rfl,.inl ⟨qa1,fun l' H2 s2 hl' two'=>?_⟩⟩
     walk_at "g"
     exact⟨l',_,_,_,rfl,s08.free ((s'.trans (qa2 hae _)).free hl'),two',.mv kn an c,fun _=>(s'.trans (qa2 hae _)).trans s2⟩
    .intro c dd H' s'
     refine r_cl T.kcD (iteT ?_)
     walk_at "g"
     rename_i ae hae
     refine⟨ae,rfl,.inr (.inr (.inl ⟨qa1,fun l' H2 s2 hl' two'=>?_⟩))⟩
     walk_at "g"
     exact⟨l',_,_,_,rfl,s08.free ((s'.trans (qa2 hae _)).free hl'),two',.dp kn an c dd,fun _=>(s'.trans (qa2 hae _)).trans s2⟩
    .intro c dd pc H' s'
     walk_at "g"
     exact⟨tl,_, [], [],rfl,hn0,two.same s',.pl kn an c dd pc,fun _=>s'⟩
    .intro c dd u v pc dx H' s' hd hx
     refine r_cl T.kcP (iteT ?_)
     walk_at "g"
     rename_i ae hae
     refine⟨ae,rfl,.inr (.inr (.inr ⟨dx,u,v,qa1,qa7 hx hae,fun l' H2 s2 hl' two'=>?_⟩))⟩
     walk_at "g"
     exact⟨l',_,_,_,rfl,s08.free ((s'.trans (qa2 hae _)).free hl'),two',.pl kn an c dd pc,fun _=>(s'.trans (qa2 hae _)).trans s2⟩
   .have hn:∀a,a < P.nm.length->y≠ .str (nmF P a):=fun a an e=>ha ⟨a,an,e⟩
    refine⟨t,S,_,y,rfl,hT8,.inr (.inl ⟨_,_,rfl,g.pl.line k kn,by rw [length_map];omega,hy8,g.nobody hn,fun H' s'=>?_⟩)⟩
    refine r_cl T.kcH (iteT ?_)
    walk_at "g"
    rename_i ae hae
    refine⟨ae,rfl,.inr (.inl ⟨qa1,fun l' H2 s2 hl' two'=>?_⟩)⟩
    walk_at "g"
    exact⟨l',_,_,_,rfl,s08.free ((s'.trans (qa2 hae _)).free hl'),two',.noy kn hn,fun _=>(s'.trans (qa2 hae _)).trans s2⟩
  .have hn:∀k,k < P.nm.length->x≠ .str (nmF P k):=fun k kn e=>hk ⟨k,kn,e⟩
   refine⟨t,S,x,y,rfl,hT8,.inl ⟨hx8,g.nobody hn,fun H' s'=>?_⟩⟩
   refine r_cl T.kcH (iteT ?_)
   walk_at "g"
   rename_i ae hae
   refine⟨ae,rfl,.inr (.inl ⟨qa1,fun l' H2 s2 hl' two'=>?_⟩)⟩
   walk_at "g"
   exact⟨l',_,_,_,rfl,s08.free ((s'.trans (qa2 hae _)).free hl'),two',.nox hn,fun _=>(s'.trans (qa2 hae _)).trans s2⟩
 .rintro σ' H9 ⟨tl',w,xs,ys,rfl,hf,tw,du,hs⟩
  walk_at "g"
  exact q tl' xs ys H9 hf tw du (s08.trans (hs trivial))
def wei (K:Frag) (d:Ad):Sp:=fun vs H Q _=>∃(t:Addr) (S:Ts) (P:PL) (x y:V),vs=[.ref t,x,y]/\GF P/\Wi P/\qcj d H t S/\GT S P/\qco K H x/\qco K H y/\
 ∀l xs ys H',H l=none->TwoAt H' l xs ys->Due P x y xs ys->(xs≠ []->qb0 H H')->(xs=[]->∃(k a:Nat) (ez:He),x=.str (nmF P k)/\y=.str (nmF P a)/\k < P.nm.length/\a < P.nm.length/\¬Cnd P k a/\¬Dpt P k a/\ez∈S.hl/\SameBut ez.a H H'/\qcj d H' t (mvS S (nmF P k) (nmF P a)))->Q (.ref l) H'
include T in
theorem we9:FnOk P w K mg base CX0 21 d.wde d.wae ["_law_tree_here","_law_name_here","_law_elder"] (wei K d):=by
 refine T.wdx.ok w93 (fun vs H Q E h=>?_) (fun cdv A outer s H vs Q E hr h=>?_)
 .obtain⟨t,S,P,x,y,rfl,_⟩:=h;rfl
 obtain⟨t,S,P,x,y,rfl,f,wi,hT,g,hx,hy,q⟩:=h
 refine⟨_,(qa4 (qae (i:=3) w93.nd rfl (Or.inl rfl) (qak (qa0 (qak qa3) (qa0 (qak qa3) qa3))))
  (qa4 (qbk (ps_try rfl rfl (fun _ _=>(qa5 (qat (qap (pv 0) T.w04 T.w2a ((wa6 T).mono (by decide)) hr T.wac .nil qaq (qa0 (pv 1) (qa0 (pv 2) qa3))))))
  (ph_as (i:=4) w93.nd rfl rfl T.w1h rfl T.w3x (fun _=>(qa5 (qae (i:=3) w93.nd rfl (Or.inl rfl) (qfm ((wb7 T).mono (by decide)) hr rfl T.wcj T.wbw.kp T.wdb (qa0 (pv 4) qa3)))))
  ph_none) qag))
  (qa5 (qaj (pv 3))))),?_⟩
 walk_at "d"
 refine qah (σ:=[some (.ref t),some (x),some (y),none,none]) rfl ?_
 have ct:=T.w04
 walk_at "g"
 rename_i m1 hm1 m2 hm2 tl htl
 have hn0:H tl=none:=(qa2 hm1 _).free ((qa2 hm2 _).free htl)
 have s08:=((qa2 hm1 (.lst [])).trans (qa2 hm2 (.lst []))).trans (qa2 htl (.lst [V.ref m1,V.ref m2]))
 have two:TwoAt (upd (upd (upd H m1 (.lst [])) m2 (.lst [])) tl (.lst [V.ref m1,V.ref m2])) tl [] []:=⟨m1,m2,qa1,qa7 (qa7 qa1 hm2) htl,qa7 qa1 htl⟩
 generalize upd (upd (upd H m1 (.lst [])) m2 (.lst [])) tl (.lst [V.ref m1,V.ref m2])=H8 at*
 have hT8:=hT.same s08
 have hx8:=hx.same s08
 have hy8:=hy.same s08
 clear hm1 hm2 htl
 refine r_cut (fun σ' H'=>∃(tl':Addr) (w:Option V) (xs ys:List Str),σ'=[some (V.ref t),some x,some y,some (V.ref tl'),w]/\H tl'=none/\TwoAt H' tl' xs ys/\Due P x y xs ys/\(xs≠ []->qb0 H8 H')/\(xs=[]->∃(k a:Nat) (ez:He),x=.str (nmF P k)/\y=.str (nmF P a)/\k < P.nm.length/\a < P.nm.length/\¬Cnd P k a/\¬Dpt P k a/\ez∈S.hl/\SameBut ez.a H8 H'/\qcj d H' t (mvS S (nmF P k) (nmF P a)))) ?_ ?_
 .obtain⟨dx0,ht0⟩:=id hT8.1
  walk_at "g"
  by_cases hk:∃k,k < P.nm.length/\x=.str (nmF P k)
  .obtain⟨k,kn,rfl⟩:=hk
   have lk:=f.l12 k kn
   by_cases ha:∃a,a < P.nm.length/\y=.str (nmF P a)
   .obtain⟨a,an,rfl⟩:=ha
    obtain⟨ez,ey,hM,hel⟩:=g.mvAt f (K:=K) hT8 kn an
    refine⟨t,S,_,_,rfl,hT8,.inr (.inr ⟨_,_,ez,ey,_,_,rfl,rfl,hM,g.nda,g.mvQ f wi kn an hel ?_ ?_ ?_ ?_⟩)⟩
    .intro c H' s'
     refine r_cl T.kcM (iteT ?_)
     walk_at "g"
     rename_i ae hae
     refine⟨ae,rfl,.inl ⟨qa1,fun l' H2 s2 hl' two'=>?_⟩⟩
     walk_at "g"
     exact⟨l',_,_,_,rfl,s08.free ((s'.trans (qa2 hae _)).free hl'),two',.mv kn an c,fun _=>(s'.trans (qa2 hae _)).trans s2,fun h=>by cases h⟩
    .intro c dd H' s'
     refine r_cl T.kcD (iteT ?_)
     walk_at "g"
     rename_i ae hae
     refine⟨ae,rfl,.inr (.inr (.inl ⟨qa1,fun l' H2 s2 hl' two'=>?_⟩))⟩
     walk_at "g"
     exact⟨l',_,_,_,rfl,s08.free ((s'.trans (qa2 hae _)).free hl'),two',.dp kn an c dd,fun _=>(s'.trans (qa2 hae _)).trans s2,fun h=>by cases h⟩
    .intro c dd pc H' sb hT'
     walk_at "g"
     have hme:=qbm hM.az
     obtain⟨⟨dy,ho⟩,_⟩:=hT8.2.2.2.2.2 ez hme.1
     have nL:∀{b:Addr} {xs:List V},H8 b=some (.lst xs)->b≠ez.a:=fun e1 e2=>by subst e2;rw [ho] at e1;cases e1
     refine⟨tl,_, [], [],rfl,hn0,?_,.pl kn an c dd pc,fun h=>absurd rfl h,fun _=>⟨k,a,ez,rfl,rfl,kn,an,c,dd,hme.1,sb,hT'⟩⟩
     obtain⟨x1,x2,y1,y2,y3⟩:=two.ex
     exact⟨x1,x2,sb _ _ (nL y1) y1,sb _ _ (nL y2) y2,sb _ _ (nL y3) y3⟩
    .intro c dd u v pc dx H' s' hd hx
     refine r_cl T.kcP (iteT ?_)
     walk_at "g"
     rename_i ae hae
     refine⟨ae,rfl,.inr (.inr (.inr ⟨dx,u,v,qa1,qa7 hx hae,fun l' H2 s2 hl' two'=>?_⟩))⟩
     walk_at "g"
     exact⟨l',_,_,_,rfl,s08.free ((s'.trans (qa2 hae _)).free hl'),two',.pl kn an c dd pc,fun _=>(s'.trans (qa2 hae _)).trans s2,fun h=>by cases h⟩
   .have hn:∀a,a < P.nm.length->y≠ .str (nmF P a):=fun a an e=>ha ⟨a,an,e⟩
    refine⟨t,S,_,y,rfl,hT8,.inr (.inl ⟨_,_,rfl,g.pl.line k kn,by rw [length_map];omega,hy8,g.nobody hn,fun H' s'=>?_⟩)⟩
    refine r_cl T.kcH (iteT ?_)
    walk_at "g"
    rename_i ae hae
    refine⟨ae,rfl,.inr (.inl ⟨qa1,fun l' H2 s2 hl' two'=>?_⟩)⟩
    walk_at "g"
    exact⟨l',_,_,_,rfl,s08.free ((s'.trans (qa2 hae _)).free hl'),two',.noy kn hn,fun _=>(s'.trans (qa2 hae _)).trans s2,fun h=>by cases h⟩
  .have hn:∀k,k < P.nm.length->x≠ .str (nmF P k):=fun k kn e=>hk ⟨k,kn,e⟩
   refine⟨t,S,x,y,rfl,hT8,.inl ⟨hx8,g.nobody hn,fun H' s'=>?_⟩⟩
   refine r_cl T.kcH (iteT ?_)
   walk_at "g"
   rename_i ae hae
   refine⟨ae,rfl,.inr (.inl ⟨qa1,fun l' H2 s2 hl' two'=>?_⟩)⟩
   walk_at "g"
   exact⟨l',_,_,_,rfl,s08.free ((s'.trans (qa2 hae _)).free hl'),two',.nox hn,fun _=>(s'.trans (qa2 hae _)).trans s2,fun h=>by cases h⟩
 .rintro σ' H9 ⟨tl',w,xs,ys,rfl,hf,tw,du,hs,hd⟩
  walk_at "g"
  refine q tl' xs ys H9 hf tw du (fun h=>s08.trans (hs h)) fun h=>?_
  obtain⟨k,a,ez,e1,e2,e3,e4,e5,e6,e7,e8,e9⟩:=hd h
  exact⟨k,a,ez,e1,e2,e3,e4,e5,e6,e7,fun b o hb e=>e8 b o hb (s08 b o e),e9⟩
theorem GT.names {S:Ts} {P:PL} (g:GT S P):S.hl.map (·.n)=P.nm:=by
 apply List.ext_getElem?
 intro i
 rw [getElem?_map]
 rcases Nat.lt_or_ge i P.nm.length with c|c
 .obtain⟨e,h1,h2,_⟩:=g.pl.get c
  rw [h1,getElem?_eq_getElem c,<-qbj c]
  show some e.n=_
  rw [h2]
 .rw [List.getElem?_eq_none (by rw [g.pl.len];exact c),List.getElem?_eq_none c]
  rfl
def wcy (K:Frag) (d:Ad):Sp:=fun vs H Q _=>∃(t p:Addr) (S:Ts) (P:PL),vs=[.ref t,.ref p]/\GF P/\PlAt H p P/\qcj d H t S/\GT S P/\∀H',qb0 H H'->Q (.bl true) H'
include T in
theorem w9j:FnOk P w K mg base CX0 6 d.w90 d.w7g ["_law_tree_here","_law_plan_here"] (wcy K d):=by
 refine T.w8g.ok w2s (fun vs H Q E h=>?_) (fun cdv A outer s H vs Q E hr h=>?_)
 .obtain⟨t,p,S,P,rfl,_⟩:=h;rfl
 obtain⟨t,p,S,P,rfl,f,pa,hT,g,q⟩:=h
 refine⟨_,(qa4 (ps_asg (pv 1) (pg_lst rfl (qax (qam (i:=2) w2s.nd rfl (Or.inl rfl)) (qax (qam (i:=3) w2s.nd rfl (Or.inl rfl)) (qax (qam (i:=4) w2s.nd rfl (Or.inl rfl)) (qax (qam (i:=5) w2s.nd rfl (Or.inl rfl)) (qax (qam (i:=6) w2s.nd rfl (Or.inl rfl)) qei)))))))
  (qa4 (qb2 (PW.pt (qe6 (qai (op_neD (hu8 hr)) (pe_meth0 (pv 0) T.w04 T.w1t ((w8x T).mono (by decide)) hr T.w9f .nil qav) (qac qde rfl T.w5c PyProof.Rows.boot_sorted (qa0 (pv 3) qa3)) (qau _)) (qdg (qai qdr (qap (W:=fun _ _ _ _=>False) (pv 0) T.w04 T.w0b ((w0x T).mono (by decide)) hr T.w15 .nil xes_no (qa0 (qaw qaf (pv 3) qaa (fun _ _=>rfl)) qa3)) qdi (qau _))))) (qa5 (qaj qej)) qag)
  (qa4 (qbl PassesOwn.never rfl (pi_range2 rfl T.w1a (qa0 qaa (qa0 (qac qao rfl T.w1v PySem.boot_len (qa0 (pv 3) qa3)) qa3))) (qam (i:=7) w2s.nd rfl (Or.inl rfl)) (qa5 (qb2 (qai op_ne (qap (W:=fun _ _ _ _=>False) (pv 0) T.w04 T.w0b ((w0x T).mono (by decide)) hr T.w15 .nil xes_no (qa0 (qaw qaf (pv 3) (pv 7) (fun _ _=>rfl)) qa3)) (qaw qaf (pv 3) (qaw qaf (pv 4) (pv 7) (fun _ _=>rfl)) (fun _ _=>rfl)) (qau _)) (qa5 (qaj qej)) qag)))
  (qa5 (qaj qej))))),?_⟩
 walk_at "d"
 refine qah (σ:=[some (.ref t),some (.ref p),none,none,none,none,none,none]) rfl ?_
 have ct:=T.w04
 have n10:=f.n10
 have nl:=f.nl
 have etop:=pa.top
 obtain⟨dx,ht⟩:=id hT.1
 have hnl2:(P.nm.map V.str).length=P.nm.length:=length_map _
 walk_at "g"
 refine⟨t,S,rfl,hT,fun l1 ss hl1 hp hs=>?_⟩
 have s2:=qa2 hl1 (.lst (ss.map V.str))
 have el1:upd H l1 (.lst (ss.map V.str)) l1=some (.lst (ss.map V.str)):=qa1
 generalize upd H l1 (.lst (ss.map V.str))=H2 at*
 have en2:=(pa.same s2).n
 walk_at "g"
 refine qfk (SqL.of en2) (by omega) fun l2 ss2 hl2 hp2 hs2=>?_
 have e12:ss=ss2:=by
  rw [g.names] at hp
  exact sort_eq (hp.trans hp2.symm) hs hs2
 have ne12:l1≠l2:=qa8 el1 hl2
 refine r_neD (n:=1) ne12 (by decide) (qea (n:=0) (SqL.of (qa7 el1 hl2)) (SqL.of qa1) ne12) ?_
 rw [decide_eq_true e12]
 have s3:=s2.trans (qa2 hl2 (.lst (ss2.map V.str)))
 show ∃k,V.bl false=V.bl k/\_
 generalize upd H2 l2 (.lst (ss2.map V.str))=H3 at*
 have hT3:=hT.same s3
 have pa3:=pa.same s3
 have en3:=pa3.n
 have ee3:=pa3.e
 have ht3:=s3 _ _ ht
 have xn0:atI (P.nm.map V.str) 0=some (.str (nmF P 0)):=qas (j:=0) (by rw [getElem?_map,getElem?_eq_getElem (by omega),qbj (by omega)];rfl)
 obtain⟨e0,a0,_,b0⟩:=g.pl.at (k:=0) (by omega)
 clear en2 el1 hl1 hl2 ht etop
 walk_at "g"
 refine qbf (SqL.of en3) xn0 ?_
 walk_at "g"
 refine⟨t,S,.str (nmF P 0),rfl,hT3,.inl ⟨_,rfl⟩,fun e he=>?_,fun hn=>?_⟩
 rotate_left
 .rw [show who S (.str (nmF P 0))=some e0 from a0] at hn;cases hn
 have ee:e0=e:=Option.some.inj (a0.symm.trans he)
 subst ee
 rw [b0,if_pos rfl,show eV none=V.non from rfl]
 walk_at "g"
 unfold iRng2
 walk_at "g"
 have hrn1:((((P.nm.map V.str).length:Nat):Int) - 1).toNat=P.nm.length - 1:=by rw [hnl2];omega
 refine⟨1,_,rfl,⟨by decide,by decide,by rw [hnl2];omega,by rw [hnl2];omega⟩,?_⟩
 rw [hrn1]
 refine qcn (fun i σ H'=>∃(w:Option V),σ=[some (V.ref t),some (V.ref p),some (V.ref P.lw),some (V.ref P.ln),some (V.ref P.le),some (V.ref P.lp),some (V.ref P.lc),w]/\H'=H3) ⟨none,rfl,rfl⟩ ?_ ?_
 .rintro i σ H' hi ⟨w,rfl,rfl⟩
  have kn:1+i < P.nm.length:=by omega
  have hb:i < P.es.length:=by omega
  have eb:elN P.es (1+i)=P.es[i]:=by rw [Nat.add_comm 1 i];exact qer hb
  have el:=f.ac.elt (k:=1+i) (by omega) kn
  have xe:atI (V.non :: P.es.map iV) (((1+i:Nat)):Int)=some (V.int ((elN P.es (1+i):Nat):Int)):=by rw [eb];exact qas (by rw [Nat.add_comm 1 i,getElem?_cons_succ,getElem?_map,getElem?_eq_getElem hb];rfl)
  have xn2:atI (P.nm.map V.str) ((elN P.es (1+i):Nat):Int)=some (.str (nmF P (elN P.es (1+i)))):=by rw [qbj el];exact qas (by rw [getElem?_map,getElem?_eq_getElem el];rfl)
  have xn:atI (P.nm.map V.str) (((1+i:Nat)):Int)=some (.str (nmF P (1+i))):=by rw [qbj kn];exact qas (by rw [getElem?_map,getElem?_eq_getElem kn];rfl)
  obtain⟨e1,a1,_,b1⟩:=g.pl.at kn
  rw [if_neg (by omega)] at b1
  rw [show (1:Int)+(i:Int)=(((1+i:Nat)):Int) by omega]
  generalize ((elN P.es (1+i):Nat):Int)=ej at xe xn2
  generalize (((1+i:Nat)):Int)=ki at*
  clear hrn1
  walk_at "g"
  refine qbf (SqL.of en3) xn ?_
  walk_at "g"
  refine⟨t,S,.str (nmF P (1+i)),rfl,hT3,.inl ⟨_,rfl⟩,fun e he=>?_,fun hn=>?_⟩
  rotate_left
  .rw [show who S (.str (nmF P (1+i)))=some e1 from a1] at hn;cases hn
  have ee:e1=e:=Option.some.inj (a1.symm.trans he)
  subst ee
  rw [b1,show eV (some (nmF P (elN P.es (1+i))))=V.str (nmF P (elN P.es (1+i))) from rfl]
  walk_at "g"
  refine qbf (SqL.of ee3) xe ?_
  walk_at "g"
  refine qbf (SqL.of en3) xn2 ?_
  walk_at "g"
  exact⟨_,rfl,rfl⟩
 rintro σ H' ⟨w,rfl,rfl⟩
 walk_at "g"
 exact q _ s3
inductive Odd (H:Hp):V->Prop
 |non:Odd H .non
 |tru:Odd H (.bl true)
 |num:Odd H (.int 7)
 |lst {a:Addr} {xs:List V} (h:H a=some (.lst xs)):Odd H (.ref a)
 |tup {a:Addr} {xs:List V} (h:H a=some (.tup xs)):Odd H (.ref a)
 |dct {a:Addr} (h:H a=some (.dK [])):Odd H (.ref a)
theorem Odd.thing {K:Frag} {H:Hp} {x:V} (h:Odd H x):qco K H x:=by
 cases h with
 |non=>exact .inr ⟨⟨_,.non,rfl⟩,fun z e=>by cases e⟩
 |tru=>exact .inr ⟨⟨_,.bl true,rfl⟩,fun z e=>by cases e⟩
 |num=>exact .inr ⟨⟨_,.int 7,rfl⟩,fun z e=>by cases e⟩
 |lst h=>exact .inr ⟨⟨_,.lst h,rfl⟩,fun z e=>by cases e⟩
 |tup h=>exact .inr ⟨⟨_,.tup h,rfl⟩,fun z e=>by cases e⟩
 |dct h=>exact .inr ⟨⟨_,.dK h,rfl⟩,fun z e=>by cases e⟩
theorem Odd.same {H H':Hp} {x:V} (h:Odd H x) (s:qb0 H H'):Odd H' x:=by
 cases h with
 |non=>exact .non
 |tru=>exact .tru
 |num=>exact .num
 |lst h=>exact .lst (s _ _ h)
 |tup h=>exact .tup (s _ _ h)
 |dct h=>exact .dct (s _ _ h)
theorem Odd.nots {K:Frag} {H:Hp} {x:V} (h:Odd H x):NotS K H x/\∀z,x≠ .str z:=by
 rcases h.thing (K:=K) with ⟨z,e⟩ |q
 .cases h <;> cases e
 .exact q
def wdp (K:Frag) (d:Ad):Sp:=fun vs H Q _=>∃(c:Int) (p a:Addr) (ns:List Int) (P:PL),vs=[.int c,.ref p,.ref a]/\GF P/\PlAt H p P/\SqL K H a (ns.map V.int)/\∀x H',qb0 H H'->((∃y,x=.str y)\/Odd H' x)->Q x H'
include T in
theorem wbr:FnOk P w K mg base CX0 3 d.waz d.w92 ["_law_cell","_law_plan_here","_law_script"] (wdp K d):=by
 refine T.wb4.ok w6d (fun vs H Q E h=>?_) (fun cdv A outer s H vs Q E hr h=>?_)
 .obtain⟨c,p,a,ns,P,rfl,_⟩:=h;rfl
 obtain⟨c,p,a,ns,P,rfl,f,pa,hS,q⟩:=h
 refine⟨_,(qa4 (qae (i:=3) w6d.nd rfl (Or.inl rfl) (qaw qaf (pv 1) qaa (fun _ _=>rfl)))
  (qa4 (qae (i:=4) w6d.nd rfl (Or.inl rfl) (qaw qaf (pv 3) (qal qbh (qal qb9 (pv 0) qaa) (qac qao rfl T.w1v PySem.boot_len (qa0 (pv 3) qa3))) (fun _ _=>rfl)))
  (qa4 (qbk (qb2 (qai qdl (qal qbh (pv 0) qaa) qaa (qau _)) (qa4 (qae (i:=5) w6d.nd rfl (Or.inl rfl) (qad ((w91 T).mono (by decide)) hr rfl T.wbv T.w9d.kp T.wbl .nil qav (qa0 (qad ((w19 T).mono (by decide)) hr rfl T.w1s T.w1c.kp T.w1p .nil qav (qa0 (pv 2) (qa0 qaa qa3))) (qa0 qaa qa3))))
  (qa5 (qae (i:=4) w6d.nd rfl (Or.inl rfl) (qaw qaf (qak (qa0 (pv 5) (qa0 (pe_bm0 PySem.F.plainAttrs_str PySem.F.slot_str_upper PySem.F.type_str_upper mt_upper (pv 4)) (qa0 qdi (qa0 qej (qa0 qaa (qa0 (qak (qa0 (pv 4) qa3)) (qa0 qb1 (qa0 (pe_tup (qa0 (pv 4) qa3)) qa3))))))))) (qal qbh (qal qb9 (pv 0) qaa) qaa) (fun _ _=>rfl))))) qag))
  (qa5 (qaj (pv 4)))))),?_⟩
 walk_at "d"
 refine qah (σ:=[some (.int c),some (.ref p),some (.ref a),none,none,none]) rfl ?_
 have nl:=f.nl
 have n10:=f.n10
 have etop:=pa.top
 have hN:=pa.n
 have hnl2:(P.nm.map V.str).length=P.nm.length:=length_map _
 walk_at "g"
 have m0:=Int.emod_nonneg (c.fdiv 6) (show ((P.nm.map V.str).length:Int)≠0 by omega)
 have m1:=Int.emod_lt_of_pos (c.fdiv 6) (show (0:Int) <((P.nm.map V.str).length:Int) by omega)
 generalize c.fdiv 6%((P.nm.map V.str).length:Int)=m at*
 obtain⟨k,rfl⟩:∃k:Nat,m=(k:Int):=⟨m.toNat,by omega⟩
 have hk:k < P.nm.length:=by omega
 have gy:=f.ng P.nm[k] (getElem_mem hk)
 refine qbf (SqL.of hN) (qas (j:=k) (by rw [getElem?_map,getElem?_eq_getElem hk];rfl)) ?_
 generalize P.nm[k]=y at*
 obtain⟨y1,y8,yL⟩:=qca gy
 have hup:Builtin.Str.tooLong (Txt.upper y).length=false:=upper_fit y8 fun c hc=>by
  have:=yL c hc
  unfold isL at this
  simpa using this
 clear hk m0 m1 hnl2 gy
 walk_at "g"
 refine r_cut (fun σ' H'=>∃(x:V) (w:Option V),σ'=[some (.int c),some (.ref p),some (.ref a),some (.ref P.ln),some x,w]/\qb0 H H'/\((∃y,x=.str y)\/Odd H' x)) ?_ ?_
 .walk_at "g"
  refine i_2 (fun c4=>?_) (fun c4=>?_)
  rotate_left
  .walk_at "g"
   exact⟨_,_,rfl,qb0.refl _,.inl ⟨_,rfl⟩⟩
  walk_at "g"
  refine⟨a,ns,_,rfl,hS,by decide,?_⟩
  walk_at "g"
  refine⟨_,_,rfl,by decide,by decide,?_⟩
  generalize nmS (cell ns 2) 20=z
  walk_at "g"
  refine r_upper hup ?_
  generalize Txt.upper y=yu at*
  walk_at "g"
  rename_i la hla ta hta lb hlb
  have s4:qb0 H (upd (upd (upd H la (.lst [V.str y])) ta (.tup [V.str y])) lb (.lst [V.str z,V.str yu,V.non,V.bl true,V.int 7,V.ref la,V.str (Str.ofString ""),V.ref ta])):=((qa2 hla _).trans (qa2 hta _)).trans (qa2 hlb _)
  have el:=qa7 (o':=.lst [V.str z,V.str yu,V.non,V.bl true,V.int 7,V.ref la,V.str (Str.ofString ""),V.ref ta]) (qa7 (o':=.tup [V.str y]) (show upd H la (.lst [V.str y]) la=some (.lst [V.str y]) from qa1) hta) hlb
  have et:=qa7 (o':=.lst [V.str z,V.str yu,V.non,V.bl true,V.int 7,V.ref la,V.str (Str.ofString ""),V.ref ta]) (show upd (upd H la (.lst [V.str y])) ta (.tup [V.str y]) ta=some (.tup [V.str y]) from qa1) hlb
  have eb:upd (upd (upd H la (.lst [V.str y])) ta (.tup [V.str y])) lb (.lst [V.str z,V.str yu,V.non,V.bl true,V.int 7,V.ref la,V.str (Str.ofString ""),V.ref ta]) lb=some (.lst [V.str z,V.str yu,V.non,V.bl true,V.int 7,V.ref la,V.str (Str.ofString ""),V.ref ta]):=qa1
  generalize upd (upd (upd H la (.lst [V.str y])) ta (.tup [V.str y])) lb (.lst [V.str z,V.str yu,V.non,V.bl true,V.int 7,V.ref la,V.str (Str.ofString ""),V.ref ta])=H4 at*
  have c0:=Int.emod_nonneg (c.fdiv 6) (show (8:Int)≠0 by decide)
  have c1:=Int.emod_lt_of_pos (c.fdiv 6) (show (0:Int) < 8 by decide)
  refine r_menuV (SqL.of eb) c0 c1 fun m hm=>?_
  have hx:(∃y,m=.str y)\/Odd H4 m:=by
   simp only [mem_cons,List.not_mem_nil,or_false] at hm
   rcases hm with rfl|rfl|rfl|rfl|rfl|rfl|rfl|rfl
   .exact .inl ⟨_,rfl⟩
   .exact .inl ⟨_,rfl⟩
   .exact .inr .non
   .exact .inr .tru
   .exact .inr .num
   .exact .inr (.lst el)
   .exact .inl ⟨_,rfl⟩
   .exact .inr (.tup et)
  clear hm c0 c1 el et eb
  walk_at "g"
  exact⟨m,_,rfl,s4,hx⟩
 .rintro σ' H' ⟨x,w,rfl,sm,hx⟩
  walk_at "g"
  exact q x H' sm hx
theorem inV_iN (x:Nat):∀L:List Nat,inV (.int (x:Int)) (L.map iV)=decide (x∈L)
 | []=>rfl
 |y :: L=>by
  have ih:=inV_iN x L
  unfold inV at ih ⊢
  rw [map_cons,any_cons,ih]
  by_cases c:y=x
  .subst c
   rw [show eqV (iV y) (V.int (y:Int))=true from decide_eq_true rfl,decide_eq_true (mem_cons_self ..)]
   rfl
  .rw [show eqV (iV y) (V.int (x:Int))=false from decide_eq_false (by omega),Bool.false_or]
   by_cases m:x∈L
   .rw [decide_eq_true m,decide_eq_true (mem_cons_of_mem _ m)]
   .rw [decide_eq_false m,decide_eq_false fun h=>(mem_cons.mp h).elim (fun e=>c e.symm) m]
theorem flat_iN (L:List Nat):((L.map iV).all fun v=>qd0 v)=true:=by
 rw [List.all_map]
 exact all_eq_true.mpr fun _ _=>rfl
theorem r_inN {K:Frag} {H:Hp} {Q:VK} {p:Addr} {x:Nat} {L:List Nat} (h:SqL K H p (L.map iV)) (q:Q (.bl (decide (x∈L))) H):rIn K false (.int (x:Int)) (.ref p) H Q:=⟨p,_,rfl,.inl h,rfl,flat_iN L,by rw [inV_iN];exact q⟩
theorem r_notInN {K:Frag} {H:Hp} {Q:VK} {p:Addr} {x:Nat} {L:List Nat} (h:SqL K H p (L.map iV)) (q:Q (.bl (!decide (x∈L))) H):rIn K true (.int (x:Int)) (.ref p) H Q:=⟨p,_,rfl,.inl h,rfl,flat_iN L,by rw [inV_iN];exact q⟩
def we5 (K:Frag) (d:Ad):Sp:=fun vs H Q _=>∃(le:Addr) (es:List Nat) (k:Nat),vs=[.ref le,.int (k:Int)]/\H le=some (.lst (.non :: es.map iV))/\Ac (elN es) (es.length+1)/\k<=es.length/\es.length<=20/\
 ∀(i:Nat) H',qb0 H H'->i < es.length+1->k∈qa6 (elN es) i->(∀i',i' < es.length+1->k∈qa6 (elN es) i'->(qa6 (elN es) i').length<=(qa6 (elN es) i).length)->Q (.int ((((qa6 (elN es) i).length:Nat):Int) - (((qa6 (elN es) k).length:Nat):Int)+1)) H'
include T in
theorem wee:FnOk P w K mg base CX0 2 d.wck d.wan ["_law_elders_here","_law_k"] (we5 K d):=by
 refine T.wdu.ok wcw (fun vs H Q E h=>?_) (fun cdv A outer s H vs Q E hr h=>?_)
 .obtain⟨le,es,k,rfl,_⟩:=h;rfl
 obtain⟨le,es,k,rfl,hE,ac,hk,h20,q⟩:=h
 refine⟨_,(qa4 (qdy (j:=2) (caps:=[0,1]) (cn:=["_law_elders_here","_law_k"]) (qbw rfl rfl (by rfl) (by rfl) rfl ⟨rfl,⟨rfl,trivial⟩⟩ (by rfl) rfl ⟨⟨rfl,rfl,rfl,rfl,_,rfl⟩,⟨⟨rfl,rfl,rfl,rfl,_,rfl⟩,trivial⟩⟩ (by decide)) rfl wcw.nd rfl rfl (qb5 rfl T.w1a (qa0 (qac qao rfl T.w1v PySem.boot_len (qa0 (pv 0) qa3)) qa3)) (fun _ _ _ _=>(pf_one (qai qem (pv 2) (qad ((w6q T).mono (by decide)) hr rfl T.w8e T.w7h.kp T.w8b .nil qav (qa0 (pv 1) (qa0 (pv 0) qa3))) (by rfl)))) (fun _ _ _ _=>(qac qao rfl T.w1v PySem.boot_len (qa0 (qad ((w6q T).mono (by decide)) hr rfl T.w8e T.w7h.kp T.w8b .nil qav (qa0 (pv 1) (qa0 (pv 0) qa3))) qa3))))
  (qa5 (qaj (qal qba (qal op_sub (qac (qd6 rfl) rfl T.wc7 PyProof.Rows.boot_max (qa0 (pv 2) qa3)) (qac qao rfl T.w1v PySem.boot_len (qa0 (qad ((w6q T).mono (by decide)) hr rfl T.w8e T.w7h.kp T.w8b .nil qav (qa0 (pv 0) (qa0 (pv 1) qa3))) qa3))) qaa)))),?_⟩
 walk_at "d"
 try dsimp only [cxC]
 refine qah (σ:=[some (.ref le),some (.int (k:Int)),none]) rfl ?_
 generalize hkI:((k:Nat):Int)=kI at*
 have hel:(V.non :: es.map iV).length=es.length+1:=by rw [length_cons,length_map]
 walk_at "g"
 intro C s0 H0 fp acc hacc
 rw [hel,show (((es.length+1:Nat):Int)).toNat=es.length+1 by omega]
 refine c_by (es.length+1) (fun i H'=>∃ns:List Int,qb0 H H'/\H' acc=some (.lst (ns.map V.int))/\ns.length<=i/\(∀m∈ns,∃j,j < es.length+1/\k∈qa6 (elN es) j/\m=(((qa6 (elN es) j).length:Nat):Int))/\∀j,j < i->k∈qa6 (elN es) j->(((qa6 (elN es) j).length:Nat):Int)∈ns) ⟨[],qa2 hacc _,qa1,Nat.zero_le _,fun m h=>by simp at h,fun j h=>by omega⟩ (fun i H' hi _=>hi) (fun H' _=>Nat.le_refl _) ?_ ?_
 .rintro i H' v H'' hi ⟨ns,sm,ea,hln,h1,h2⟩ ⟨rfl,rfl⟩
  have hE':=sm _ _ hE
  have zl:(ns.map V.int).length < sizeLine:=by rw [length_map];show _ < 16777216;omega
  rw [show (0:Int)+(i:Int)=(i:Int) by omega]
  generalize hiI:((i:Nat):Int)=iI at*
  walk_at "g"
  refine⟨le,es,i,by rw [hiI],hE',ac,by omega,by omega,fun l hl=>?_⟩
  have s2:=qa2 hl (.lst ((qa6 (elN es) i).map iV))
  have el:upd H'' l (.lst ((qa6 (elN es) i).map iV)) l=some (.lst ((qa6 (elN es) i).map iV)):=qa1
  generalize upd H'' l (.lst ((qa6 (elN es) i).map iV))=H2 at*
  have hE2:=s2 _ _ hE'
  have ea2:=s2 _ _ ea
  rw [<-hkI]
  refine r_inN (SqL.of el) ?_
  by_cases c:k∈qa6 (elN es) i
  .rw [decide_eq_true c]
   clear hE' ea el
   walk_at "g"
   refine⟨le,es,i,by rw [hiI],hE2,ac,by omega,by omega,fun l3 hl3=>?_⟩
   have s3:=(sm.trans s2).trans (qa2 hl3 (.lst ((qa6 (elN es) i).map iV)))
   have el3:upd H2 l3 (.lst ((qa6 (elN es) i).map iV)) l3=some (.lst ((qa6 (elN es) i).map iV)):=qa1
   have ea3:=qa7 (o':=.lst ((qa6 (elN es) i).map iV)) ea2 hl3
   have hll:((qa6 (elN es) i).map iV).length=(qa6 (elN es) i).length:=length_map _
   generalize upd H2 l3 (.lst ((qa6 (elN es) i).map iV))=H3 at*
   walk_at "g"
   rw [hll]
   refine⟨ns++ [(((qa6 (elN es) i).length:Nat):Int)],qbe s3 hacc,by rw [qa1,map_append];rfl,by rw [length_append];show _+1<=_;omega,fun m hm=>?_,fun j hj hkj=>?_⟩
   .rcases mem_append.mp hm with h|h
    .exact h1 m h
    .exact⟨i,hi,c,mem_singleton.mp h⟩
   .rcases Nat.lt_or_ge j i with lt|ge
    .exact mem_append_left _ (h2 j lt hkj)
    .have:j=i:=by omega
     subst this
     exact mem_append_right _ (mem_cons_self ..)
  .rw [decide_eq_false c]
   walk_at "g"
   refine⟨ns,sm.trans s2,ea2,by omega,h1,fun j hj hkj=>?_⟩
   rcases Nat.lt_or_ge j i with lt|ge
   .exact h2 j lt hkj
   .have:j=i:=by omega
    subst this
    exact absurd hkj c
 rintro H1 ⟨ns,sm,ea,hln,h1,h2⟩
 have hm0:0 < ns.length:=List.length_pos_of_mem (h2 k (by omega) (ac.self (by omega)))
 walk_at "g"
 refine r_maxL (SqL.of ea) hm0 fun m hm hmx=>?_
 obtain⟨i,hi,hki,rfl⟩:=h1 m hm
 have hE1:=sm _ _ hE
 walk_at "g"
 refine⟨le,es,k,by rw [hkI],hE1,ac,by omega,by omega,fun l hl=>?_⟩
 have s2:=sm.trans (qa2 hl (.lst ((qa6 (elN es) k).map iV)))
 have el:upd H1 l (.lst ((qa6 (elN es) k).map iV)) l=some (.lst ((qa6 (elN es) k).map iV)):=qa1
 have hll:((qa6 (elN es) k).map iV).length=(qa6 (elN es) k).length:=length_map _
 generalize upd H1 l (.lst ((qa6 (elN es) k).map iV))=H2 at*
 walk_at "g"
 rw [hll]
 exact q i H2 s2 hi hki fun i' hi' hk'=>by have:=hmx _ (h2 i' hi' hk');omega
def Gd (H:Hp) (x:V):Prop:=(∃z,x=.str z)\/Odd H x
theorem Gd.same {H H':Hp} {x:V} (h:Gd H x) (s:qb0 H H'):Gd H' x:=h.elim .inl fun o=> .inr (o.same s)
theorem Gd.thing {K:Frag} {H:Hp} {x:V} (h:Gd H x):qco K H x:=h.elim .inl fun o=>o.thing
theorem Plc.cast {P:PL} {js:List Nat} {fm fm':Str->Option Int} {xs ys:List Str} (h:Plc P js fm xs ys) (e:∀v,gN fm v=gN fm' v):Plc P js fm' xs ys:=by
 have eo:∀j v,Ov P fm j v↔Ov P fm' j v:=fun j v=>by unfold Ov;rw [e v]
 rcases h with ⟨a1,a2,a3⟩ |⟨i,j,v,b1,b2,b3,b4,b5,b6,b7⟩
 .exact .inl ⟨a1,a2,fun j hj v hv h=>a3 j hj v hv ((eo j v).mpr h)⟩
 .exact .inr ⟨i,j,v,b1,b2,(eo j v).mp b3,fun v' hv' h=>b4 v' hv' ((eo j v').mpr h),fun i' j' hi' hj' v' hv' h=>b5 i' j' hi' hj' v' hv' ((eo j' v').mpr h),b6,b7⟩
def wfa (K:Frag) (d:Ad):Sp:=fun vs H Q _=>∃(p:Addr) (P:PL) (x y:V),vs=[.ref p,x,y]/\GF P/\PlAt H p P/\Gd H x/\Gd H y/\∀l xs ys H',qb0 H H'->H l=none->TwoAt H' l xs ys->Due P x y xs ys->Q (.ref l) H'
include T in
theorem we1:FnOk P w K mg base CX0 4 d.we8 d.wcx ["_law_plan_here","_law_name_here","_law_elder"] (wfa K d):=by
 refine T.wel.ok w5h (fun vs H Q E h=>?_) (fun cdv A outer s H vs Q E hr h=>?_)
 .obtain⟨p,P,x,y,rfl,_⟩:=h;rfl
 obtain⟨p,P,x,y,rfl,f,pa,hx,hy,q⟩:=h
 refine⟨_,(qa4 (ps_asg (pv 0) (pg_lst rfl (qax (qam (i:=3) w5h.nd rfl (Or.inl rfl)) (qax (qam (i:=4) w5h.nd rfl (Or.inl rfl)) (qax (qam (i:=5) w5h.nd rfl (Or.inl rfl)) (qax (qam (i:=6) w5h.nd rfl (Or.inl rfl)) (qax (qam (i:=7) w5h.nd rfl (Or.inl rfl)) qei)))))))
  (qa4 (qb2 (PW.pt (qe6 (qcd (qbc (qac qby rfl T.w06 PyProof.Rows.boot_isinstance (qa0 (pv 1) (qa0 (qcl (v:=.ty "str") rfl T.wcv PyProof.Rows.boot_str rfl) qa3))))) (qdg (qai qc2 (pv 1) (pv 4) (by rfl))))) (qa5 (qaj (qak (qa0 (qak (qa0 qb1 qa3)) (qa0 (qak qa3) qa3))))) qag)
  (qa4 (qb2 (PW.pt (qe6 (qcd (qbc (qac qby rfl T.w06 PyProof.Rows.boot_isinstance (qa0 (pv 2) (qa0 (qcl (v:=.ty "str") rfl T.wcv PyProof.Rows.boot_str rfl) qa3))))) (qdg (qai qc2 (pv 2) (pv 4) (by rfl))))) (qa5 (qaj (qak (qa0 (qak (qa0 qb1 qa3)) (qa0 (qak qa3) qa3))))) qag)
  (qa4 (qae (i:=8) w5h.nd rfl (Or.inl rfl) (qcg PySem.F.plainAttrs_list PySem.F.slot_list_index PySem.F.type_list_index qeo (pv 4) (qa0 (pv 1) qa3)))
  (qa4 (qae (i:=9) w5h.nd rfl (Or.inl rfl) (qcg PySem.F.plainAttrs_list PySem.F.slot_list_index PySem.F.type_list_index qeo (pv 4) (qa0 (pv 2) qa3)))
  (qa4 (qae (i:=10) w5h.nd rfl (Or.inl rfl) (qad ((w6q T).mono (by decide)) hr rfl T.w8e T.w7h.kp T.w8b .nil qav (qa0 (pv 5) (qa0 (pv 9) qa3))))
  (qa4 (qb2 (PW.pt (qe6 (qai qdl (pv 8) qaa (qau _)) (qe6 (qai qem (pv 8) (pv 10) (by rfl)) (qdg (qai qdl (qaw qaf (pv 5) (pv 8) (fun _ _=>rfl)) (pv 9) (qau _)))))) (qa5 (qaj (qak (qa0 (qak (qa0 qb1 qa3)) (qa0 (qak qa3) qa3))))) qag)
  (qa4 (qb2 (qai qfn (qal qba (qac qao rfl T.w1v PySem.boot_len (qa0 (pv 10) qa3)) (qad ((wee T).mono (by decide)) hr rfl T.wev T.wdu.kp T.wf0 .nil qav (qa0 (pv 5) (qa0 (pv 8) qa3)))) qaa (qau _)) (qa5 (qaj (qak (qa0 (qak (qa0 qb1 qa3)) (qa0 (qak qa3) qa3))))) qag)
  (qa4 (qae (i:=11) w5h.nd rfl (Or.inr rfl) (qad ((w6q T).mono (by decide)) hr rfl T.w8e T.w7h.kp T.w8b .nil qav (qa0 (pv 5) (qa0 (pv 8) qa3))))
  (qa5 (qaj (qad ((wdl T).mono (by decide)) hr rfl T.wea T.wd4.kp T.weh .nil qav (qa0 (pv 0) (qa0 (qdk (caps:=[11]) (cn:=["_law_own"]) (qbw rfl rfl (by rfl) (by rfl) rfl ⟨rfl,trivial⟩ (by rfl) rfl ⟨⟨rfl,rfl,rfl,rfl,_,rfl⟩,trivial⟩ (by decide)) rfl (qc4 (pv 10)) (fun _ _ _ _=>(pf_one (qai qc2 (pv 0) (pv 1) (by rfl)))) (fun _ _ _ _=>(pv 0))) (qa0 (qaw qaf (qad ((wal T).mono (by decide)) hr rfl T.wcf T.wbg.kp T.wcm .nil qav (qa0 (pv 5) (qa0 (pv 6) qa3))) (pv 8) (fun _ _=>rfl)) qa3))))))))))))))),?_⟩
 walk_at "d"
 try dsimp only [cxC]
 refine qah (σ:=[some (.ref p),some (x),some (y),none,none,none,none,none,none,none,none,none]) rfl ?_
 have nl:=f.nl
 have n10:=f.n10
 have w3:=f.w3
 have etop:=pa.top
 have en:=pa.n
 rcases hx with ⟨z,rfl⟩ |hx
 .walk_at "g"
  refine qee (SqL.of en) ?_
  by_cases hz:z∈P.nm
  .rw [decide_eq_true hz]
   obtain⟨k,hk,ek⟩:=mem_iff_getElem.mp hz
   have ez:=qbj hk
   subst ek
   rcases hy with ⟨w,rfl⟩ |hy
   .walk_at "g"
    refine qee (SqL.of en) ?_
    by_cases hw:w∈P.nm
    .rw [decide_eq_true hw]
     obtain⟨a,ha,ea⟩:=mem_iff_getElem.mp hw
     have ew:=qbj ha
     subst ea
     rw [<-ez,<-ew] at q
     have ee:=pa.e
     walk_at "g"
     refine r_idxS (SqL.of en) f.nn hk ?_
     generalize hkI:((k:Nat):Int)=kI
     walk_at "g"
     refine r_idxS (SqL.of en) f.nn ha ?_
     generalize haI:((a:Nat):Int)=aI
     generalize P.nm[k]=zk at*
     generalize P.nm[a]=za at*
     walk_at "g"
     refine⟨P.le,P.es,a,by rw [haI],ee,f.acE,by omega,by omega,fun l1 hl1=>?_⟩
     have u1:=qa2 hl1 (.lst ((qa6 (elN P.es) a).map iV))
     have el1:upd H l1 (.lst ((qa6 (elN P.es) a).map iV)) l1=some (.lst ((qa6 (elN P.es) a).map iV)):=qa1
     generalize upd H l1 (.lst ((qa6 (elN P.es) a).map iV))=H1 at*
     have ee1:=u1 _ _ ee
     walk_at "g"
     by_cases c0:k=0
     .rw [if_pos (decide_eq_true (by omega))]
      walk_at "g"
      rename_i p1 hp1 p2 hp2 p3 hp3
      exact q p3 [Str.ofString "move"] [] _ (u1.trans (((qa2 hp1 _).trans (qa2 hp2 _)).trans (qa2 hp3 _))) (u1.free ((qa2 hp1 _).free ((qa2 hp2 _).free hp3))) ⟨p1,p2,qa1,qa7 (qa7 qa1 hp2) hp3,qa7 qa1 hp3⟩ (.mv hk ha (.inl c0))
     rw [if_neg (by rw [decide_eq_false (by omega)];exact Bool.false_ne_true)]
     walk_at "g"
     rw [<-hkI]
     refine r_inN (SqL.of el1) ?_
     rw [hkI]
     by_cases c1:k∈qa6 (elN P.es) a
     .rw [decide_eq_true c1]
      walk_at "g"
      rename_i p1 hp1 p2 hp2 p3 hp3
      exact q p3 [Str.ofString "move"] [] _ (u1.trans (((qa2 hp1 _).trans (qa2 hp2 _)).trans (qa2 hp3 _))) (u1.free ((qa2 hp1 _).free ((qa2 hp2 _).free hp3))) ⟨p1,p2,qa1,qa7 (qa7 qa1 hp2) hp3,qa7 qa1 hp3⟩ (.mv hk ha (.inr (.inl c1)))
     rw [decide_eq_false c1]
     have xe:atI (V.non :: P.es.map iV) kI=some (V.int ((elN P.es k:Nat):Int)):=by
      obtain⟨b,rfl⟩:∃b,k=b+1:=⟨k - 1,by omega⟩
      have hb:b < P.es.length:=by omega
      rw [<-hkI,qer hb]
      exact qas (by rw [getElem?_cons_succ,getElem?_map,getElem?_eq_getElem hb];rfl)
     generalize hek:((elN P.es k:Nat):Int)=eK at*
     walk_at "g"
     refine qbf (SqL.of ee1) xe ?_
     walk_at "g"
     by_cases c2:elN P.es k=a
     .rw [if_pos (decide_eq_true (by omega))]
      walk_at "g"
      rename_i p1 hp1 p2 hp2 p3 hp3
      exact q p3 [Str.ofString "move"] [] _ (u1.trans (((qa2 hp1 _).trans (qa2 hp2 _)).trans (qa2 hp3 _))) (u1.free ((qa2 hp1 _).free ((qa2 hp2 _).free hp3))) ⟨p1,p2,qa1,qa7 (qa7 qa1 hp2) hp3,qa7 qa1 hp3⟩ (.mv hk ha (.inr (.inr c2)))
     rw [if_neg (by rw [decide_eq_false (by omega)];exact Bool.false_ne_true)]
     have cn:¬Cnd P k a:=fun h=>h.elim c0 fun h=>h.elim c1 c2
     have hll:((qa6 (elN P.es) a).map iV).length=(qa6 (elN P.es) a).length:=length_map _
     walk_at "g"
     refine⟨P.le,P.es,k,by rw [hkI],ee1,f.acE,by omega,by omega,fun i H2 s2 hi hki hmx=>?_⟩
     have u2:=u1.trans s2
     have ee2:=u2 _ _ ee
     have el12:=s2 _ _ el1
     clear ee1 el1 hl1 u1 s2 xe hek
     walk_at "g"
     rw [hll]
     by_cases cd:12+(qa6 (elN P.es) k).length <(qa6 (elN P.es) a).length+(qa6 (elN P.es) i).length+1
     .rw [if_pos (decide_eq_true (by omega))]
      walk_at "g"
      rename_i p1 hp1 p2 hp2 p3 hp3
      exact q p3 [Str.ofString "deep"] [] _ (u2.trans (((qa2 hp1 _).trans (qa2 hp2 _)).trans (qa2 hp3 _))) (u2.free ((qa2 hp1 _).free ((qa2 hp2 _).free hp3))) ⟨p1,p2,qa1,qa7 (qa7 qa1 hp2) hp3,qa7 qa1 hp3⟩ (.dp hk ha cn ⟨i,by omega,hki,cd⟩)
     rw [if_neg (by rw [decide_eq_false (by omega)];exact Bool.false_ne_true)]
     have nd:¬Dpt P k a:=fun⟨i',hi',hk',hd⟩=>by
      have:=hmx i' (by omega) hk'
      omega
     walk_at "g"
     refine⟨P.le,P.es,k,by rw [hkI],ee2,f.acE,by omega,by omega,fun l2 hl2=>?_⟩
     have u3:=u2.trans (qa2 hl2 (.lst ((qa6 (elN P.es) k).map iV)))
     have el23:upd H2 l2 (.lst ((qa6 (elN P.es) k).map iV)) l2=some (.lst ((qa6 (elN P.es) k).map iV)):=qa1
     have el3:=qa7 (o':=.lst ((qa6 (elN P.es) k).map iV)) el12 hl2
     generalize upd H2 l2 (.lst ((qa6 (elN P.es) k).map iV))=H12 at*
     have ll1:=f.ac.len ha
     clear el12 hl2 ee2 hmx
     walk_at "g"
     intro C s0 H0 fp acc hacc
     refine c_by (qa6 (elN P.es) a).length (fun i H'=>qb0 H12 H'/\H' acc=some (.lst ((((qa6 (elN P.es) a).take i).filter fun j=>!decide (j∈qa6 (elN P.es) k)).map iV))) ⟨qa2 hacc _,qa1⟩ ?_ ?_ ?_ ?_
     .rintro i H' hi ⟨sm,_⟩
      exact⟨_,iV (qa6 (elN P.es) a)[i],SqL.of (sm _ _ el3),by rw [getElem?_map,getElem?_eq_getElem hi];rfl⟩
     .rintro H' ⟨sm,_⟩
      exact⟨_,SqL.of (sm _ _ el3),by rw [length_map];exact Nat.le_refl _⟩
     .rintro i H' v H'' hi ⟨sm,ea⟩ ⟨rfl,hv⟩
      have hv:=hv _ (SqL.of (sm _ _ el3))
      rw [getElem?_map,getElem?_eq_getElem hi] at hv
      cases hv
      have tk:(qa6 (elN P.es) a).take (i+1)=(qa6 (elN P.es) a).take i++ [(qa6 (elN P.es) a)[i]]:=by rw [take_add_one,getElem?_eq_getElem hi];rfl
      generalize (qa6 (elN P.es) a)[i]=j at*
      have el24:=sm _ _ el23
      have zl:((((qa6 (elN P.es) a).take i).filter fun j=>!decide (j∈qa6 (elN P.es) k)).map iV).length < sizeLine:=by
       rw [length_map]
       have h1:=List.length_filter_le (fun j=>!decide (j∈qa6 (elN P.es) k)) ((qa6 (elN P.es) a).take i)
       rw [length_take] at h1
       show _ < 16777216
       omega
      clear hv
      rw [show iV j=V.int (j:Int) from rfl]
      walk_at "g"
      refine r_notInN (SqL.of el24) ?_
      by_cases c:j∈qa6 (elN P.es) k
      .rw [decide_eq_true c]
       walk_at "g"
       refine⟨sm,?_⟩
       rw [ea,tk,List.filter_append,filter_cons,if_neg (by rw [decide_eq_true c];exact Bool.false_ne_true),List.filter_nil,append_nil]
      .rw [decide_eq_false c]
       walk_at "g"
       refine⟨qbe sm hacc,?_⟩
       rw [qa1,tk,List.filter_append,filter_cons,if_pos (by rw [decide_eq_false c];rfl),map_append];rfl
     rintro H13 ⟨u4,eacc⟩
     rw [take_length] at eacc
     have u5:=u3.trans u4
     have pa13:=pa.same u5
     clear el3 el23 hacc u4 u3
     walk_at "g"
     refine⟨P.le,P.lp,P.es,P.tp,P.ws,rfl,pa13.e,SqL.of pa13.pr,by rw [f.pl];omega,by rw [f.pl];omega,by omega,by rw [f.pl];exact f.ac,fun x m=>⟨pa13.pd x m,(f.pa x m).1,fun y hy=>?_⟩,fun ls qs H14 s14 hls els hql hqf hG=>?_⟩
     .cases e:x.f y with
      |none=>exact absurd e hy
      |some n=>exact((f.pa x m).2 y n e).1
     rw [f.pl] at hql
     have jq:k < qs.length:=by omega
     obtain⟨kq,fq,hq1,hq2,hq3,hq4⟩:=hG k qs[k] (getElem?_eq_getElem jq)
     have xq:atI (qs.map V.ref) kI=some (.ref qs[k]):=by rw [<-hkI];exact qas (by rw [getElem?_map,getElem?_eq_getElem jq];rfl)
     have eacc14:=s14 _ _ eacc
     have u6:=u5.trans s14
     generalize qs[k]=qa at*
     clear hG hqf hql jq
     walk_at "g"
     refine qbf (SqL.of els) xq ?_
     walk_at "g"
     refine⟨p,acc,qa,P,jsN P k a,kq,fq,rfl,f,pa.same u6,eacc14,fun j hj=>f.ac.lt ha j (mem_filter.mp hj).1,hq1,hq2,fun l xs ys H15 s15 hl tw pc=>?_⟩
     exact q l xs ys H15 (u6.trans s15) (u6.free hl) tw (.pl hk ha cn nd (pc.cast fun v=>by rw [hq4 v,qeq];exact f.sumE k v))
    .rw [decide_eq_false hw]
     walk_at "g"
     rename_i p1 hp1 p2 hp2 p3 hp3
     exact q p3 [Str.ofString "house"] [] _ (((qa2 hp1 _).trans (qa2 hp2 _)).trans (qa2 hp3 _)) ((qa2 hp1 _).free ((qa2 hp2 _).free hp3)) ⟨p1,p2,qa1,qa7 (qa7 qa1 hp2) hp3,qa7 qa1 hp3⟩ (by rw [<-ez];exact .noy hk fun a an e=>hw (by injection e with e;rw [e,qbj an];exact getElem_mem an))
   .obtain⟨⟨ty,ty1,ty2⟩,ns⟩:=hy.nots (K:=K)
    walk_at "g"
    rename_i p1 hp1 p2 hp2 p3 hp3
    exact q p3 [Str.ofString "house"] [] _ (((qa2 hp1 _).trans (qa2 hp2 _)).trans (qa2 hp3 _)) ((qa2 hp1 _).free ((qa2 hp2 _).free hp3)) ⟨p1,p2,qa1,qa7 (qa7 qa1 hp2) hp3,qa7 qa1 hp3⟩ (by rw [<-ez];exact .noy hk fun a an e=>ns _ e)
  .rw [decide_eq_false hz]
   walk_at "g"
   rename_i p1 hp1 p2 hp2 p3 hp3
   exact q p3 [Str.ofString "house"] [] _ (((qa2 hp1 _).trans (qa2 hp2 _)).trans (qa2 hp3 _)) ((qa2 hp1 _).free ((qa2 hp2 _).free hp3)) ⟨p1,p2,qa1,qa7 (qa7 qa1 hp2) hp3,qa7 qa1 hp3⟩ (.nox fun k kn e=>hz (by injection e with e;rw [e,qbj kn];exact getElem_mem kn))
 .obtain⟨⟨ty,ty1,ty2⟩,ns⟩:=hx.nots (K:=K)
  walk_at "g"
  rename_i p1 hp1 p2 hp2 p3 hp3
  exact q p3 [Str.ofString "house"] [] _ (((qa2 hp1 _).trans (qa2 hp2 _)).trans (qa2 hp3 _)) ((qa2 hp1 _).free ((qa2 hp2 _).free hp3)) ⟨p1,p2,qa1,qa7 (qa7 qa1 hp2) hp3,qa7 qa1 hp3⟩ (.nox fun k kn e=>ns _ e)
theorem Due.uniq {P:PL} (f:GF P) {x y:V} {xs ys xs' ys':List Str} (h:Due P x y xs ys) (h':Due P x y xs' ys'):xs=xs'/\ys=ys':=by
 have hin:∀{i j:Nat},i < P.nm.length->j < P.nm.length->V.str (nmF P i)=V.str (nmF P j)->i=j:=fun hi hj e=>f.inj _ _ hi hj (by injection e)
 have key:∀{x y:V} {xs ys:List Str},Due P x y xs ys->(∃k a,k < P.nm.length/\a < P.nm.length/\x=.str (nmF P k)/\y=.str (nmF P a)/\((Cnd P k a/\xs=[Str.ofString "move"]/\ys=[])\/(¬Cnd P k a/\Dpt P k a/\xs=[Str.ofString "deep"]/\ys=[])\/(¬Cnd P k a/\¬Dpt P k a/\Plc P (jsN P k a) (mvFm P k) xs ys)))\/((¬∃k a,k < P.nm.length/\a < P.nm.length/\x=.str (nmF P k)/\y=.str (nmF P a))/\xs=[Str.ofString "house"]/\ys=[]):=by
  intro x y xs ys h
  cases h with
  |nox h=>exact .inr ⟨fun⟨k,a,kn,an,e1,_⟩=>h k kn e1,rfl,rfl⟩
  |noy kn h=>exact .inr ⟨fun⟨k,a,_,an,_,e2⟩=>h a an e2,rfl,rfl⟩
  | @mv k a kn an c=>exact .inl ⟨k,a,kn,an,rfl,rfl,.inl ⟨c,rfl,rfl⟩⟩
  | @dp k a kn an c h=>exact .inl ⟨k,a,kn,an,rfl,rfl,.inr (.inl ⟨c,h,rfl,rfl⟩)⟩
  | @pl k a _ _ kn an c h p=>exact .inl ⟨k,a,kn,an,rfl,rfl,.inr (.inr ⟨c,h,p⟩)⟩
 rcases key h with ⟨k,a,kn,an,e1,e2,hc⟩ |⟨hn,e1,e2⟩
 .rcases key h' with ⟨k',a',kn',an',e1',e2',hc'⟩ |⟨hn',_⟩
  .have ek:=hin kn kn' (e1.symm.trans e1')
   have ea:=hin an an' (e2.symm.trans e2')
   subst ek
   subst ea
   rcases hc with ⟨c,p1,p2⟩ |⟨c,dd,p1,p2⟩ |⟨c,dd,p⟩ <;> rcases hc' with ⟨c',p1',p2'⟩ |⟨c',dd',p1',p2'⟩ |⟨c',dd',p'⟩
   .exact⟨p1.trans p1'.symm,p2.trans p2'.symm⟩
   .exact absurd c c'
   .exact absurd c c'
   .exact absurd c' c
   .exact⟨p1.trans p1'.symm,p2.trans p2'.symm⟩
   .exact absurd dd dd'
   .exact absurd c' c
   .exact absurd dd' dd
   .exact p.uniq p'
  .exact absurd ⟨k,a,kn,an,e1,e2⟩ hn'
 .rcases key h' with ⟨k',a',kn',an',e1',e2',hc'⟩ |⟨_,e1',e2'⟩
  .exact absurd ⟨k',a',kn',an',e1',e2'⟩ hn
  .exact⟨e1.trans e1'.symm,e2.trans e2'.symm⟩
structure Fr (S:Ts) (P:PL) (b:Addr):Prop where
 hs:b≠S.hs
 n:b≠P.ln
 e:b≠P.le
 p:b≠P.lp
 c:b≠P.lc
 ho:∀x∈S.hl,b≠x.a
structure Sep (S:Ts) (P:PL):Prop where
 n:P.ln≠S.sw
 e:P.le≠S.sw
 p:P.lp≠S.sw
 c:P.lc≠S.sw
def Keep (S:Ts) (P:PL) (S':Ts) (P':PL) (H H':Hp):Prop:=∀b o,H b=some o->Fr S P b->H' b=some o/\Fr S' P' b
theorem qcj.apL {d:Ad} {H:Hp} {t q:Addr} {S:Ts} {xs:List V} (h:qcj d H t S) (e:H q=some (.lst xs)) (ne:q≠S.sw):Apart S t q:=by
 obtain⟨⟨dx,h1⟩,h2,h3,h4,h5,h6⟩:=h
 refine⟨fun z=>?_,ne.symm,fun z=>?_,fun x hx=>?_⟩
 .rw [z,e] at h1;cases h1
 .rw [z,e] at h3;cases h3
 .obtain⟨⟨dy,g1⟩,g2,g3,g4,g5⟩:=h6 x hx
  refine⟨fun z=>?_,fun z=>?_,fun z=>?_⟩
  .rw [z,e] at g1;cases g1
  .rw [z,e] at g2;cases g2
  .rw [z,e] at g4;cases g4
theorem TwoAt.deq {K:Frag} {H:Hp} {tl p1 p2 p3:Addr} {xs ys:List Str} (zs ws:List Str) (tw:TwoAt H tl xs ys) (h1:H p1=none) (h2:upd H p1 (.lst (zs.map V.str)) p2=none) (h3:upd (upd H p1 (.lst (zs.map V.str))) p2 (.lst (ws.map V.str)) p3=none):
  DEq K (upd (upd (upd H p1 (.lst (zs.map V.str))) p2 (.lst (ws.map V.str))) p3 (.lst [.ref p1,.ref p2])) 2 (.ref tl) (.ref p3) (decide (xs=zs) && decide (ys=ws))/\tl≠p3:=by
 obtain⟨x1,x2,y1,y2,y3⟩:=tw.ex
 have s2:=(qa2 h1 (.lst (zs.map V.str))).trans (qa2 h2 (.lst (ws.map V.str)))
 have s3:=s2.trans (qa2 h3 (.lst [.ref p1,.ref p2]))
 have n3:tl≠p3:=qa8 (s2 _ _ y1) h3
 have n1:x1≠p1:=qa8 y2 h1
 have n2:x2≠p2:=qa8 (qa7 y3 h1) h2
 exact⟨deq_two (SqL.of (s3 _ _ y1)) (SqL.of qa1) n3 (qea (n:=0) (SqL.of (s3 _ _ y2)) (SqL.of (qa7 (qa7 qa1 h2) h3)) n1) (qea (n:=0) (SqL.of (s3 _ _ y3)) (SqL.of (qa7 qa1 h3)) n2),n3⟩
theorem TwoAt.deq2 {K:Frag} {H:Hp} {l l':Addr} {xs ys:List Str} (h:TwoAt H l xs ys) (h':TwoAt H l' xs ys) (ne:l≠l'):DEq K H 2 (.ref l) (.ref l') true:=by
 obtain⟨m1,m2,a1,a2,a3⟩:=h.ex
 obtain⟨n1,n2,b1,b2,b3⟩:=h'.ex
 have one:∀{m n:Addr} {zs:List Str},H m=some (.lst (zs.map V.str))->H n=some (.lst (zs.map V.str))->DEq K H 1 (.ref m) (.ref n) true:=fun {m n zs} e1 e2=>by
  by_cases c:m=n
  .subst c;exact .same
  .have:=qea (K:=K) (n:=0) (SqL.of e1) (SqL.of e2) c
   rw [decide_eq_true rfl] at this
   exact this
 exact deq_two (SqL.of a1) (SqL.of b1) ne (one a2 b2) (one a3 b3)
theorem Due.nil {P:PL} {x y:V} {ys:List Str} (h:Due P x y [] ys):ys=[]/\∃k a,k < P.nm.length/\a < P.nm.length/\x=.str (nmF P k)/\y=.str (nmF P a)/\¬Cnd P k a/\¬Dpt P k a/\∀j∈jsN P k a,∀v∈P.ws,¬Ov P (mvFm P k) j v:=by
 cases h with
 | @pl k a _ _ kn an c dd p=>
  rcases p with ⟨_,e,h⟩ |⟨_,_,_,_,_,_,_,_,e,_⟩
  .exact⟨e,k,a,kn,an,rfl,rfl,c,dd,h⟩
  .cases e
theorem r_idxN {K:Frag} {H:Hp} {Q:VK} {P:PL} (f:GF P) {a:Nat} (an:a < P.nm.length) {l:Addr} (h:SqL K H l (P.nm.map V.str)) (q:Q (.int (a:Int)) H):rIdxS K (.ref l) [.str (nmF P a)] H Q:=by
 rw [qbj an]
 exact r_idxS h f.nn an q
def wdm (K:Frag) (d:Ad):Sp:=fun vs H Q _=>∃(t p:Addr) (S:Ts) (P:PL) (x y:V),vs=[.ref t,.ref p,x,y]/\GF P/\Wi P/\PlAt H p P/\qcj d H t S/\GT S P/\Dst p P.lw P.ln P.le P.lp P.lc/\Sep S P/\Gd H x/\Gd H y/\
 (∀xs ys H',qb0 H H'->Due P x y xs ys->xs≠ []->Q (.bl true) H')/\
 ∀(S':Ts) (k a:Nat) H',x=.str (nmF P k)->y=.str (nmF P a)->k < P.nm.length->a < P.nm.length->Due P x y [] []->S'.sw=S.sw->GF (mvP P k a)->Wi (mvP P k a)->PlAt H' p (mvP P k a)->qcj d H' t S'->GT S' (mvP P k a)->Keep S P S' (mvP P k a) H H'->Q (.bl true) H'
include T in
theorem wbp:FnOk P w K mg base CX0 22 d.wb3 d.w96 ["_law_tree_here","_law_plan_here","_law_name_here","_law_elder"] (wdm K d):=by
 refine T.wbd.ok wbs (fun vs H Q E h=>?_) (fun cdv A outer s H vs Q E hr h=>?_)
 .obtain⟨t,p,S,P,x,y,rfl,_⟩:=h;rfl
 obtain⟨t,p,S,P,x,y,rfl,f,wi,pa,hT,g,dst,sep,hx,hy,q0,q⟩:=h
 refine⟨_,(qa4 (qae (i:=4) wbs.nd rfl (Or.inl rfl) (qad ((we1 T).mono (by decide)) hr rfl T.wf4 T.wel.kp T.wew .nil qav (qa0 (pv 1) (qa0 (pv 2) (qa0 (pv 3) qa3)))))
  (qa4 (qb2 (PW.pt (qe6 (qai (op_neD (hu8 hr)) (qad ((wc6 T).mono (by decide)) hr rfl T.wd3 T.w9h.kp T.wch .nil qav (qa0 (pv 0) (qa0 (pv 2) (qa0 (pv 3) qa3)))) (pv 4) (qau _)) (qdg (qcd (qbc (qad ((w9j T).mono (by decide)) hr rfl T.wbt T.w8g.kp T.wbq .nil qav (qa0 (pv 0) (qa0 (pv 1) qa3)))))))) (qa5 (qaj qej)) qag)
  (qa4 (qb2 (qai (op_neD (hu8 hr)) (qad ((we9 T).mono (by decide)) hr rfl T.wf8 T.wdx.kp T.wfe .nil qav (qa0 (pv 0) (qa0 (pv 2) (qa0 (pv 3) qa3)))) (pv 4) (qau _)) (qa5 (qaj qej)) qag)
  (qa4 (qbk (qb2 (qai (op_eqD (hu8 hr)) (pv 4) (qak (qa0 (qak qa3) (qa0 (qak qa3) qa3))) (qau _)) (qa5 (ps_lput (qaw qaf (pv 1) qaa (fun _ _=>rfl)) (qcg PySem.F.plainAttrs_list PySem.F.slot_list_index PySem.F.type_list_index qeo (qaw qaf (pv 1) qaa (fun _ _=>rfl)) (qa0 (pv 2) qa3)) (qcg PySem.F.plainAttrs_list PySem.F.slot_list_index PySem.F.type_list_index qeo (qaw qaf (pv 1) qaa (fun _ _=>rfl)) (qa0 (pv 3) qa3)) rfl)) qag))
  (qa5 (qaj (qad ((w9j T).mono (by decide)) hr rfl T.wbt T.w8g.kp T.wbq .nil qav (qa0 (pv 0) (qa0 (pv 1) qa3))))))))),?_⟩
 walk_at "d"
 refine qah (σ:=[some (.ref t),some (.ref p),some (x),some (y),none]) rfl ?_
 walk_at "g"
 refine⟨p,P,x,y,rfl,f,pa,hx,hy,fun l1 xs ys H1 s1 hl1 tw1 du1=>?_⟩
 walk_at "g"
 refine⟨t,S,P,x,y,rfl,f,wi,hT.same s1,g,(hx.same s1).thing,(hy.same s1).thing,fun l2 xs2 ys2 H2 hl2 tw2 du2 s2=>?_⟩
 obtain⟨e1,e2⟩:=du2.uniq f du1
 subst e1
 subst e2
 obtain⟨_,_,w1,_,_⟩:=tw1.ex
 have ne2:l2≠l1:=(qa8 w1 hl2).symm
 have tw12:=tw1.same s2
 have u2:=s1.trans s2
 walk_at "g"
 refine r_neD ne2 (by decide) (tw2.deq2 tw12 ne2) ?_
 show ∃k,V.bl false=V.bl k/\_
 walk_at "g"
 refine⟨t,p,S,P,rfl,f,pa.same u2,hT.same u2,g,fun H3 s3=>?_⟩
 have u3:=u2.trans s3
 have tw13:=tw12.same s3
 walk_at "g"
 refine⟨t,S,P,x,y,rfl,f,wi,hT.same u3,g,(hx.same u3).thing,(hy.same u3).thing,fun l4 xs4 ys4 H4 hl4 tw4 du4 hs4 hd4=>?_⟩
 obtain⟨e1,e2⟩:=du4.uniq f du1
 subst e1
 subst e2
 obtain⟨_,_,w3,_,_⟩:=tw13.ex
 have ne4:l4≠l1:=(qa8 w3 hl4).symm
 walk_at "g"
 by_cases hxs:xs4=[]
 .subst hxs
  obtain⟨e0,_,_,_,_,_,_,_,_,hov⟩:=du4.nil
  subst e0
  obtain⟨k,a,ez,ex,eyv,kn,an,c,dd,hme,sb,hT4⟩:=hd4 rfl
  subst ex
  subst eyv
  have insz:=((hT.same u3).2.2.2.2.2 ez hme).1
  obtain⟨dy,ho⟩:=id insz
  have nL:∀{b:Addr} {xs:List V},H3 b=some (.lst xs)->b≠ez.a:=fun e1 e2=>by subst e2;rw [ho] at e1;cases e1
  have tw14:TwoAt H4 l1 [] []:=by
   obtain⟨x1,x2,y1,y2,y3⟩:=tw13.ex
   exact⟨x1,x2,sb _ _ (nL y1) y1,sb _ _ (nL y2) y2,sb _ _ (nL y3) y3⟩
  refine r_neD ne4 (by decide) (tw4.deq2 tw14 ne4) ?_
  show ∃k,V.bl false=V.bl k/\_
  walk_at "g"
  refine qf3 ?_
  walk_at "g"
  rename_i p1 hp1 p2 hp2 p3 hp3
  obtain⟨dq,n3⟩:=tw14.deq (K:=K) [] [] hp1 hp2 hp3
  refine r_eqD n3 (by decide) dq ?_
  rw [decide_eq_true rfl]
  show ∃k,V.bl true=V.bl k/\_
  have sA:=((qa2 hp1 (.lst [])).trans (qa2 hp2 (.lst []))).trans (qa2 hp3 (.lst [V.ref p1,V.ref p2]))
  generalize upd (upd (upd H4 p1 (.lst [])) p2 (.lst [])) p3 (.lst [V.ref p1,V.ref p2])=H5 at*
  have pa5:=((pa.same u3).sbI insz sb).same sA
  have hT5:=hT4.same sA
  have etop5:=pa5.top
  have en5:=pa5.n
  have ee5:=pa5.e
  have nl:=f.nl
  have k0:0 < k:=Nat.pos_of_ne_zero fun h=>c (.inl h)
  have c1:k∉qa6 (elN P.es) a:=fun h=>c (.inr (.inl h))
  have gm:=f.mv k0 kn an c1 fun i hi hk=>Nat.le_of_not_lt fun h=>dd ⟨i,hi,hk,h⟩
  have kz:k <(V.non :: P.es.map iV).length:=by rw [length_cons,length_map];omega
  have jin:∀j,j∈qa6 (elN P.es) a->j∉qa6 (elN P.es) k->j∈jsN P k a:=fun j h1 h2=>mem_filter.mpr ⟨h1,by simpa using h2⟩
  clear dq hp1 hp2 hp3
  walk_at "g"
  refine r_idxN f an (SqL.of en5) ?_
  generalize haI:((a:Nat):Int)=aI
  walk_at "g"
  refine r_idxN f kn (SqL.of en5) ?_
  refine r_lpk ee5 kz ?_ rfl
  have eset:(V.non :: P.es.map iV).set k (V.int aI)=.non ::(P.es.set (k - 1) a).map iV:=by
   obtain⟨b,rfl⟩:∃b,k=b+1:=⟨k - 1,by omega⟩
   rw [List.set_cons_succ,Nat.add_sub_cancel,List.map_set,<-haI];rfl
  rw [eset]
  have nkd:∀{b:Addr} {k':List (Key × V)},H5 b=some (.dK k')->upd H5 P.le (.lst (.non ::(P.es.set (k - 1) a).map iV)) b=some (.dK k'):=fun {b k'} h=>by
   rw [qa9 (fun e=>by rw [e,ee5] at h;cases h)]
   exact h
  have pa6:PlAt (upd H5 P.le (.lst (.non ::(P.es.set (k - 1) a).map iV))) p (mvP P k a):=by
   refine⟨?_,?_,?_,qa1,?_,?_,fun x hx=>nkd (pa5.pd x hx),fun x hx=>nkd (pa5.cd x hx)⟩
   .rw [qa9 dst.pe.symm];exact pa5.top
   .show upd _ _ _ P.lw=_
    rw [qa9 dst.we];exact pa5.w
   .show upd _ _ _ P.ln=_
    rw [qa9 dst.ne.symm];exact pa5.n
   .show upd _ _ _ P.lp=_
    rw [qa9 dst.eq.symm];exact pa5.pr
   .show upd _ _ _ P.lc=_
    rw [qa9 dst.ec.symm];exact pa5.cp
  have hT6:=hT5.put (o:=.lst (.non ::(P.es.set (k - 1) a).map iV)) (hT5.apL ee5 sep.e)
  have gm2:=g.mv f k0 kn an gm
  have kp:Keep S P (mvS S (nmF P k) (nmF P a)) (mvP P k a) H (upd H5 P.le (.lst (.non ::(P.es.set (k - 1) a).map iV))):=fun b o hb fr=>by
   refine⟨?_,fr.hs,fr.n,fr.e,fr.p,fr.c,fun x hx=>?_⟩
   .rw [qa9 fr.e]
    exact sA _ _ (sb _ _ (fr.ho ez hme) (u3 _ _ hb))
   .obtain⟨e0,he0,rfl⟩:=mem_map.mp hx
    rw [mvE_a]
    exact fr.ho e0 he0
  have wi2:Wi (mvP P k a):=wi.mv f k0 kn an c1 fun j hj hjk v=>by
   obtain⟨_,k',a',kn',an',e1,e2,_,_,hall⟩:=du4.nil
   have ek:=f.inj k k' kn kn' (by injection e1)
   have ea:=f.inj a a' an an' (by injection e2)
   subst ek
   subst ea
   by_cases hv:v∈P.ws
   .have:=hall j (jin j hj hjk) v hv
    unfold Ov at this
    rw [qeq] at this
    omega
   .rw [f.sum_out hv j,f.sum_out hv k]
    have:=f.capn (f.ac.lt an j hj) v
    omega
  generalize upd H5 P.le (.lst (.non ::(P.es.set (k - 1) a).map iV))=H6 at*
  walk_at "g"
  refine⟨t,p,_,mvP P k a,rfl,gm,pa6,hT6,gm2,fun H7 s7=>?_⟩
  exact q (mvS S (nmF P k) (nmF P a)) k a H7 rfl rfl kn an du4 rfl gm wi2 (pa6.same s7) (hT6.same s7) gm2 fun b o hb fr=>⟨s7 _ _ (kp b o hb fr).1,(kp b o hb fr).2⟩
 .have s4:=hs4 hxs
  have tw14:=tw13.same s4
  have u4:=u3.trans s4
  refine r_neD ne4 (by decide) (tw4.deq2 tw14 ne4) ?_
  show ∃k,V.bl false=V.bl k/\_
  walk_at "g"
  refine qf3 ?_
  walk_at "g"
  rename_i p1 hp1 p2 hp2 p3 hp3
  obtain⟨dq,n3⟩:=tw14.deq (K:=K) [] [] hp1 hp2 hp3
  refine r_eqD n3 (by decide) dq ?_
  rw [decide_eq_false hxs,Bool.false_and]
  have sA:=((qa2 hp1 (.lst [])).trans (qa2 hp2 (.lst []))).trans (qa2 hp3 (.lst [V.ref p1,V.ref p2]))
  generalize upd (upd (upd H4 p1 (.lst [])) p2 (.lst [])) p3 (.lst [V.ref p1,V.ref p2])=H5 at*
  have u5:=u4.trans sA
  walk_at "g"
  refine⟨t,p,S,P,rfl,f,pa.same u5,hT.same u5,g,fun H6 s6=>?_⟩
  exact q0 _ _ _ (u5.trans s6) du1 hxs
theorem LineOf.ext {S:Ts} {e2:He} (nd:(S.hl.map (·.n)).Nodup) {z:Str} {zs:List Str} (h:LineOf S z zs):LineOf {S with hl:=S.hl++ [e2]} z zs:=by
 have at':∀{z:Str} {e:He},S.at z=some e->Ts.at {S with hl:=S.hl++ [e2]} z=some e:=fun {z e} h=>by
  unfold Ts.at at h ⊢
  rw [List.find?_append,h];rfl
 induction h with
 |top h n=>exact .top (at' h) n
 |up h n r ih=>exact .up (at' h) n ih
def wem (K:Frag) (d:Ad):Sp:=fun vs H Q _=>∃(t p:Addr) (S:Ts) (P:PL) (z:Str),vs=[.ref t,.ref p,.str z]/\GF P/\Wi P/\PlAt H p P/\qcj d H t S/\GT S P/\qcz z=true/\z∉P.nm/\∀H',Q (.bl true) H'
include T in
theorem weq:FnOk P w K mg base CX0 22 d.wco d.wb6 ["_law_tree_here","_law_plan_here","_law_fresh"] (wem K d):=by
 refine T.wdw.ok w7a (fun vs H Q E h=>?_) (fun cdv A outer s H vs Q E hr h=>?_)
 .obtain⟨t,p,S,P,z,rfl,_⟩:=h;rfl
 obtain⟨t,p,S,P,z,rfl,f,wi,pa,hT,g,gz,nz,q⟩:=h
 refine⟨_,(qa4 (qdy (j:=3) (caps:=[1]) (cn:=["_law_plan_here"]) (qbw rfl rfl (by rfl) (by rfl) rfl ⟨rfl,trivial⟩ (by rfl) rfl ⟨⟨rfl,rfl,rfl,rfl,_,rfl⟩,trivial⟩ (by decide)) rfl w7a.nd rfl rfl (qb5 rfl T.w1a (qa0 (qac qao rfl T.w1v PySem.boot_len (qa0 (qaw qaf (pv 1) qaa (fun _ _=>rfl)) qa3)) qa3)) (fun _ _ _ _=>qdh) (fun _ _ _ _=>(qac qao rfl T.w1v PySem.boot_len (qa0 (qad ((w6q T).mono (by decide)) hr rfl T.w8e T.w7h.kp T.w8b .nil qav (qa0 (qaw qaf (pv 1) qaa (fun _ _=>rfl)) (qa0 (pv 0) qa3))) qa3))))
  (qa4 (qae (i:=4) w7a.nd rfl (Or.inl rfl) (qak (qa0 (qak qa3) (qa0 (qak qa3) qa3))))
  (qa4 (qbk (ps_try rfl rfl (fun _ _=>(qa5 (qat (qap (pv 0) T.w04 T.w17 ((w6b T).mono (by decide)) hr T.w6c T.w64 qaq (qa0 (pv 2) (qa0 (qaw qaf (qaw qaf (pv 1) qaa (fun _ _=>rfl)) (qcg PySem.F.plainAttrs_list PySem.F.slot_list_index PySem.F.type_list_index mt_idxI (pv 3) (qa0 (qac (qd6 rfl) rfl T.wc7 PyProof.Rows.boot_max (qa0 (pv 3) qa3)) qa3)) (fun _ _=>rfl)) (qa0 qct (qa0 qct qa3))))))))
  (ph_as (i:=5) w7a.nd rfl rfl T.w1h rfl T.w3x (fun _=>(qa5 (qae (i:=4) w7a.nd rfl (Or.inl rfl) (qfm ((wb7 T).mono (by decide)) hr rfl T.wcj T.wbw.kp T.wdb (qa0 (pv 5) qa3)))))
  ph_none) qag))
  (qa4 (qb2 (qai qdl (qac (qd6 rfl) rfl T.wc7 PyProof.Rows.boot_max (qa0 (pv 3) qa3)) qaa (qau _)) (qa5 (qaj (qdz (op_eqD (hu8 hr)) (pv 4) (qak (qa0 (qak (qa0 qb1 qa3)) (qa0 (qak qa3) qa3))) (qau _)))) qag)
  (qa5 (qaj (pe_and (qdz (op_eqD (hu8 hr)) (pv 4) (qak (qa0 (qak qa3) (qa0 (qak qa3) qa3))) (qau _)) (pe_one (qdz qdl (qac qao rfl T.w1v PySem.boot_len (qa0 (qap (W:=fun _ _ _ _=>False) (pv 0) T.w04 T.w0k ((w1k T).mono (by decide)) hr T.w23 .nil xes_no (qa0 (pv 2) qa3)) qa3)) (qal qba (qac (qd6 rfl) rfl T.wc7 PyProof.Rows.boot_max (qa0 (pv 3) qa3)) qaa) (qau _)))))))))),?_⟩
 walk_at "d"
 try dsimp only [cxC]
 refine qah (σ:=[some (.ref t),some (.ref p),some (.str z),none,none,none]) rfl ?_
 have ct:=T.w04
 have nl:=f.nl
 have n10:=f.n10
 have w3:=f.w3
 have etop:=pa.top
 have en:=pa.n
 have hnl2:(P.nm.map V.str).length=P.nm.length:=length_map _
 walk_at "g"
 intro C s0 H0 fp acc hacc
 rw [hnl2,show (((P.nm.length:Nat):Int)).toNat=P.nm.length by omega]
 refine c_by P.nm.length (fun i H'=>qb0 H H'/\H' acc=some (.lst (((List.range i).map fun j:Nat=>(((qa6 (elN P.es) j).length:Nat):Int)).map V.int))) ⟨qa2 hacc _,qa1⟩ (fun i H' hi _=>hi) (fun H' _=>Nat.le_refl _) ?_ ?_
 .rintro i H' v H'' hi ⟨sm,ea⟩ ⟨rfl,rfl⟩
  have pa':=pa.same sm
  have etop':=pa'.top
  have zl:(((List.range i).map fun j:Nat=>(((qa6 (elN P.es) j).length:Nat):Int)).map V.int).length < sizeLine:=by rw [length_map,length_map,length_range];show _ < 16777216;omega
  rw [show (0:Int)+(i:Int)=(i:Int) by omega]
  generalize hiI:((i:Nat):Int)=iI at*
  walk_at "g"
  refine⟨P.le,P.es,i,by rw [hiI],pa'.e,f.acE,by omega,by omega,fun l hl=>?_⟩
  have s2:=qa2 hl (.lst ((qa6 (elN P.es) i).map iV))
  have el:upd H'' l (.lst ((qa6 (elN P.es) i).map iV)) l=some (.lst ((qa6 (elN P.es) i).map iV)):=qa1
  have ea2:=qa7 (o':=.lst ((qa6 (elN P.es) i).map iV)) ea hl
  have hll:((qa6 (elN P.es) i).map iV).length=(qa6 (elN P.es) i).length:=length_map _
  generalize upd H'' l (.lst ((qa6 (elN P.es) i).map iV))=H2 at*
  walk_at "g"
  rw [hll]
  refine⟨qbe (sm.trans s2) hacc,?_⟩
  rw [qa1,List.range_succ,map_append,map_append];rfl
 rintro H1 ⟨s1,eacc⟩
 walk_at "g"
 rename_i m1 hm1 m2 hm2 tl htl
 have s8:=((qa2 hm1 (.lst [])).trans (qa2 hm2 (.lst []))).trans (qa2 htl (.lst [V.ref m1,V.ref m2]))
 have two:TwoAt (upd (upd (upd H1 m1 (.lst [])) m2 (.lst [])) tl (.lst [V.ref m1,V.ref m2])) tl [] []:=⟨m1,m2,qa1,qa7 (qa7 qa1 hm2) htl,qa7 qa1 htl⟩
 generalize upd (upd (upd H1 m1 (.lst [])) m2 (.lst [])) tl (.lst [V.ref m1,V.ref m2])=H8 at*
 have s08:=s1.trans s8
 have hT8:=hT.same s08
 have pa8:=pa.same s08
 have eacc8:=s8 _ _ eacc
 generalize hns:((List.range P.nm.length).map fun j:Nat=>(((qa6 (elN P.es) j).length:Nat):Int))=ns at*
 have nsl:ns.length=P.nm.length:=by rw [<-hns,length_map,length_range]
 have nsg:∀(j:Nat) (h:j < ns.length),ns[j]=(((qa6 (elN P.es) j).length:Nat):Int):=fun j h=>by
  subst hns
  rw [getElem_map,List.getElem_range]
 clear hm1 hm2 htl hacc eacc etop en
 refine r_cut (fun σ' H'=>∃(tl':Addr) (w:Option V) (i:Nat),σ'=[some (V.ref t),some (V.ref p),some (V.str z),some (V.ref acc),some (V.ref tl'),w]/\i < P.nm.length/\(∀a∈ns,a<=(((qa6 (elN P.es) i).length:Nat):Int))/\H' acc=some (.lst (ns.map V.int))/\
  (((qa6 (elN P.es) i).length=12/\TwoAt H' tl' [Str.ofString "deep"] [])\/((qa6 (elN P.es) i).length < 12/\TwoAt H' tl' [] []/\∃e2:He,qcj d H' t {S with hl:=S.hl++ [e2]}/\e2.n=z/\e2.x.el=some (nmF P i)))) ?_ ?_
 .have etop8:=pa8.top
  have en8:=pa8.n
  obtain⟨dx0,ht0⟩:=id hT8.1
  walk_at "g"
  refine r_maxL (SqL.of eacc8) (by omega) fun m hm hmx=>?_
  walk_at "g"
  refine⟨acc,ns,m,rfl,rfl,SqL.of eacc8,hm,?_⟩
  have hj:ns.idxOf m < ns.length:=List.idxOf_lt_length_iff.mpr hm
  have ej:ns[ns.idxOf m]=m:=List.getElem_idxOf hj
  generalize ns.idxOf m=i at*
  have hi:i < P.nm.length:=by omega
  rw [nsg i hj] at ej
  have xi:atI (P.nm.map V.str) (i:Int)=some (.str (nmF P i)):=by rw [qbj hi];exact qas (by rw [getElem?_map,getElem?_eq_getElem hi];rfl)
  have l12:=f.l12 i hi
  rw [<-ej] at hmx
  generalize ((i:Nat):Int)=iI at*
  walk_at "g"
  refine qbf (SqL.of en8) xi ?_
  walk_at "g"
  rename_i b1 hb1 b2 hb2
  have r12:=(qa2 hb1 (.dK [])).trans (qa2 hb2 (.dK []))
  have eb12:=qa7 (o':=.dK []) (show upd H8 b1 (.dK []) b1=some (.dK []) from qa1) hb2
  have eb2:upd (upd H8 b1 (.dK [])) b2 (.dK []) b2=some (.dK []):=qa1
  generalize upd (upd H8 b1 (.dK [])) b2 (.dK [])=H10 at*
  have hT10:=hT8.same r12
  obtain⟨ow,w5,wl,nlen⟩:=g.hs f
  obtain⟨ey,y1,y2,y3⟩:=g.pl.at hi
  have atz:S.at z=none:=g.nobody (x:=.str z) fun k kn e=>nz (by injection e with e;rw [e,qbj kn];exact getElem_mem kn)
  have hl:=g.pl.len
  have fn:Fin S.ws noF:=fun y n e=>by cases e
  refine⟨t,b1,b2,S,z,nmF P i,ey,(qa6 (elN P.es) i).map (nmF P), [], [],noF,noF,1,rfl,hT10,gz,atz,y1,g.pl.wf,ow,w5,wl,eb12,AD.nil,by decide,eb2,AD.nil,by decide,fn,fn,by decide,by decide,by omega,g.pl.line i hi,by rw [length_map];omega,fun u hu=>?_,fun h12 H' s'=>?_,fun h12=>⟨fun nv hfi e2 H' sb g1 g2 g3 hT' k1 k2 k3 k4 k5=>?_,fun v hv hle=>?_,fun nv i' u e' bs v h1 h2 h3 h4 h5 h6=>?_⟩⟩
  .obtain⟨j,hj,rfl⟩:=mem_map.mp hu
   have jn:=f.ac.lt hi j hj
   obtain⟨e,x1,_⟩:=g.pl.at jn
   exact⟨nlen j jn,g.pl.depL (fun i hi=>f.l12 i hi) 12 j jn (by omega),e,x1⟩
  .rw [length_map] at h12
   refine r_cl T.kcD (iteT ?_)
   walk_at "g"
   rename_i ae hae
   refine⟨ae,rfl,.inr (.inr (.inl ⟨qa1,fun l' H2 s2 hl' two'=>?_⟩))⟩
   walk_at "g"
   exact⟨l',_,i,rfl,hi,hmx,(((r12.trans s').trans (qa2 hae _)).trans s2) _ _ eacc8,.inl ⟨by omega,two'⟩⟩
  .rw [length_map] at h12
   walk_at "g"
   have hh:=hT10.2.2.1
   have nL:∀{b:Addr} {xs:List V},H10 b=some (.lst xs)->b≠S.hs:=fun e1 e2=>by subst e2;rw [hh] at e1;cases e1
   refine⟨tl,_,i,rfl,hi,hmx,sb _ _ (nL (r12 _ _ eacc8)) (r12 _ _ eacc8),.inr ⟨h12,?_,e2,hT',k1,k2⟩⟩
   obtain⟨x1,x2,y1,y2,y3⟩:=(two.same r12).ex
   exact⟨x1,x2,sb _ _ (nL y1) y1,sb _ _ (nL y2) y2,sb _ _ (nL y3) y3⟩
  .exact absurd rfl hv.1
  .rw [getElem?_map] at h1
   obtain⟨j,hji,rfl⟩:=Option.map_eq_some_iff.mp h1
   have jn:=f.ac.lt hi j (mem_of_getElem? hji)
   have:=g.vioA f jn h2 h3 h4
   have z0:gN (qbz noF) v=0:=rfl
   rw [z0] at this
   have:=wi j jn v
   omega
 .rintro σ' H9 ⟨tl',w,i,rfl,hi,hmx,eacc9,hc⟩
  have lmem:(((qa6 (elN P.es) i).length:Nat):Int)∈ns:=by rw [<-nsg i (by omega)];exact getElem_mem _
  walk_at "g"
  refine r_maxL (SqL.of eacc9) (by omega) fun m hm hmx2=>?_
  have em:m=(((qa6 (elN P.es) i).length:Nat):Int):=Int.le_antisymm (hmx m hm) (hmx2 _ lmem)
  subst em
  clear hmx2 hm
  rcases hc with ⟨h12,tw⟩ |⟨h12,tw,e2,hT2,k1,k2⟩
  .rw [h12]
   walk_at "g"
   rename_i p1 hp1 p2 hp2 p3 hp3
   obtain⟨dq,n3⟩:=tw.deq (K:=K) [Str.ofString "deep"] [] hp1 hp2 hp3
   refine r_eqD n3 (by decide) dq ?_
   rw [decide_eq_true rfl,decide_eq_true rfl]
   exact q _
  .have h12':(((qa6 (elN P.es) i).length:Nat):Int)≠12:=by omega
   have hlz:LineOf {S with hl:=S.hl++ [e2]} z (z ::(qa6 (elN P.es) i).map (nmF P)):=by
    refine .up (e:=e2) ?_ k2 ((g.pl.line i hi).ext g.pl.nodup)
    have nd:=hT2.2.2.2.1
    have:=qev nd (e:=e2) (mem_append_right _ (mem_cons_self ..))
    rw [k1] at this
    exact this
   have hll:((z ::(qa6 (elN P.es) i).map (nmF P)).map V.str).length=(qa6 (elN P.es) i).length+1:=by rw [length_map,length_cons,length_map]
   have hl1000:(z ::(qa6 (elN P.es) i).map (nmF P)).length<=1000:=by rw [length_cons,length_map];omega
   generalize z ::(qa6 (elN P.es) i).map (nmF P)=zz at*
   generalize hL:(((qa6 (elN P.es) i).length:Nat):Int)=L at*
   walk_at "g"
   rename_i p1 hp1 p2 hp2 p3 hp3
   obtain⟨dq,n3⟩:=tw.deq (K:=K) [] [] hp1 hp2 hp3
   refine r_eqD n3 (by decide) dq ?_
   rw [decide_eq_true rfl]
   have sA:=((qa2 hp1 (.lst [])).trans (qa2 hp2 (.lst []))).trans (qa2 hp3 (.lst [V.ref p1,V.ref p2]))
   show ∃k,V.bl true=V.bl k/\_
   generalize upd (upd (upd H9 p1 (.lst [])) p2 (.lst [])) p3 (.lst [V.ref p1,V.ref p2])=H10 at*
   have hT10:=hT2.same sA
   obtain⟨dx0,ht0⟩:=id hT10.1
   have eacc10:=sA _ _ eacc9
   clear dq hp1 hp2 hp3
   walk_at "g"
   refine⟨t,_,.str z,rfl,hT10,.inl ⟨z,zz,rfl,hlz,hl1000,fun l hl=>?_⟩⟩
   have el:upd H10 l (.lst (zz.map V.str)) l=some (.lst (zz.map V.str)):=qa1
   have eacc11:=qa7 (o':=.lst (zz.map V.str)) eacc10 hl
   generalize upd H10 l (.lst (zz.map V.str))=H11 at*
   walk_at "g"
   refine r_maxL (SqL.of eacc11) (by omega) fun m hm hmx2=>?_
   have em:m=L:=Int.le_antisymm (hmx m hm) (hmx2 _ lmem)
   walk_at "g"
   rw [hll,decide_eq_true (by omega)]
   exact q _
theorem qfr {d:Ad} {H:Hp} {t p b:Addr} {S:Ts} {P:PL} {cs:List Int} {o:HO} (hT:qcj d H t S) (pa:PlAt H p P) (f:GF P) (ho:o=.lst (cs.map V.int)\/∃x,o=.frz x (.lst (cs.map V.int))) (h:H b=some o):Fr S P b:=by
 have nl:=f.nl
 have nL:∀{q:Addr} {v:V} {xs:List V},H q=some (.lst (v :: xs))->(∀i:Int,v≠ .int i)->b≠q:=fun e1 hv e2=>by
  subst e2
  rw [h] at e1
  have e3:=Option.some.inj e1
  rcases ho with e|⟨x,e⟩
  .rw [e] at e3
   have e4:=HO.lst.inj e3
   cases cs with
   |nil=>cases e4
   |cons c cs=>exact hv c (List.cons.inj e4).1.symm
  .rw [e] at e3;cases e3
 have no:∀{q:Addr} {u:HO},H q=some u->(∀xs,u≠ .lst xs)->(∀x w,u≠ .frz x w)->b≠q:=fun e1 h1 h2 e2=>by
  subst e2
  rw [h] at e1
  have e3:=Option.some.inj e1
  rcases ho with e|⟨x,e⟩
  .exact h1 _ (e3.symm.trans e)
  .exact h2 _ _ (e3.symm.trans e)
 have hn:∃z zs,P.nm=z :: zs:=by
  cases e:P.nm with
  |nil=>rw [e] at nl;cases nl
  |cons z zs=>exact⟨z,zs,rfl⟩
 obtain⟨z,zs,hz⟩:=hn
 have hl:P.nm.length=zs.length+1:=by rw [hz];rfl
 have hp:∃z zs,P.tp=z :: zs:=by
  cases e:P.tp with
  |nil=>have:=f.pl;rw [e,hl] at this;cases this
  |cons z zs=>exact⟨z,zs,rfl⟩
 have hc:∃z zs,P.tc=z :: zs:=by
  cases e:P.tc with
  |nil=>have:=f.cl;rw [e,hl] at this;cases this
  |cons z zs=>exact⟨z,zs,rfl⟩
 obtain⟨y,ys,hy⟩:=hp
 obtain⟨x,xs,hx⟩:=hc
 have e1:=pa.n
 have e2:=pa.pr
 have e3:=pa.cp
 rw [hz] at e1
 rw [hy] at e2
 rw [hx] at e3
 refine⟨no hT.2.2.1 (fun _ e=>by cases e) (fun _ _ e=>by cases e),nL e1 (fun _ e=>by cases e),nL pa.e (fun _ e=>by cases e),nL e2 (fun _ e=>by cases e),nL e3 (fun _ e=>by cases e),fun w hw=>?_⟩
 obtain⟨⟨dy,hy⟩,_⟩:=hT.2.2.2.2.2 w hw
 exact no hy (fun _ e=>by cases e) (fun _ _ e=>by cases e)
theorem Keep.seq {K:Frag} {d:Ad} {H H':Hp} {t p a:Addr} {S S':Ts} {P P':PL} {ns:List Int} (k:Keep S P S' P' H H') (hT:qcj d H t S) (pa:PlAt H p P) (f:GF P) (h:SqL K H a (ns.map V.int)):SqL K H' a (ns.map V.int):=by
 rcases h with (h|⟨o,h⟩) |h
 .exact .inl (.inl (k _ _ h (qfr hT pa f (.inl rfl) h)).1)
 .exact .inl (.inr ⟨o,(k _ _ h (qfr hT pa f (.inr ⟨_,rfl⟩) h)).1⟩)
 .exact .inr h
theorem Fr.mono {d:Ad} {H:Hp} {t p b:Addr} {S:Ts} {P:PL} (hT:qcj d H t S) (pa:PlAt H p P) (h:H b=none):Fr S P b:=by
 have no:∀{q:Addr} {u:HO},H q=some u->b≠q:=fun e1 e2=>by subst e2;rw [h] at e1;cases e1
 refine⟨no hT.2.2.1,no pa.n,no pa.e,no pa.pr,no pa.cp,fun w hw=>?_⟩
 obtain⟨⟨dy,hy⟩,_⟩:=hT.2.2.2.2.2 w hw
 exact no hy
def sp_law0 (K:Frag):Sp:=fun vs H Q _=>∃(a:Addr) (ns:List Int),vs=[.ref a]/\SqL K H a (ns.map V.int)/\ns.length<=63/\∀H',Q (.bl true) H'
def sp_law (K:Frag) (d:Ad):Sp:=sp_law0 K
structure LSt (K:Frag) (d:Ad) (H:Hp) (a t p:Addr) (ns:List Int) (S:Ts) (P:PL):Prop where
 sq:SqL K H a (ns.map V.int)
 f:GF P
 wi:Wi P
 nm:Nm (cell ns 2) P
 pa:PlAt H p P
 tr:qcj d H t S
 g:GT S P
 dst:Dst p P.lw P.ln P.le P.lp P.lc
 sep:Sep S P
theorem LSt.same {K:Frag} {d:Ad} {H H':Hp} {a t p:Addr} {ns:List Int} {S:Ts} {P:PL} (h:LSt K d H a t p ns S P) (s:qb0 H H'):LSt K d H' a t p ns S P:=⟨s.seq h.sq,h.f,h.wi,h.nm,h.pa.same s,h.tr.same s,h.g,h.dst,h.sep⟩
theorem LSt.mv {K:Frag} {d:Ad} {H H':Hp} {a t p:Addr} {ns:List Int} {S S':Ts} {P:PL} {k b:Nat} (h:LSt K d H a t p ns S P) (esw:S'.sw=S.sw) (gf:GF (mvP P k b)) (wi:Wi (mvP P k b)) (pa:PlAt H' p (mvP P k b)) (tr:qcj d H' t S') (g:GT S' (mvP P k b)) (kp:Keep S P S' (mvP P k b) H H'):LSt K d H' a t p ns S' (mvP P k b):=
 ⟨kp.seq h.tr h.pa h.f h.sq,gf,wi,h.nm,pa,tr,g,h.dst,⟨by rw [esw];exact h.sep.n,by rw [esw];exact h.sep.e,by rw [esw];exact h.sep.p,by rw [esw];exact h.sep.c⟩⟩
def LInv (K:Frag) (d:Ad) (a t p:Addr) (ns:List Int) (cv:V) (σ:L2.St) (H:Hp):Prop:=∃(S:Ts) (P:PL) (w1 w2 w3 w4 w5:Option V),σ=[some (.ref a),some cv,some (.ref p),some (.ref t),w1,w2,w3,w4,w5]/\LSt K d H a t p ns S P
include T in
theorem ok_law:FnOk P w K mg base CX0 23 d.wbb d.wa1 ["_law_script"] (sp_law K d):=by
 refine T.wfg.ok w5b (fun vs H Q E h=>?_) (fun cdv A outer s H vs Q E hr h=>?_)
 .obtain⟨a,ns,rfl,_⟩:=h;rfl
 obtain⟨a,ns,rfl,hS,hn,q⟩:=h
 refine⟨_,(qa4 (qae (i:=1) w5b.nd rfl (Or.inl rfl) (qal qbh (qal qb9 (qad ((w19 T).mono (by decide)) hr rfl T.w1s T.w1c.kp T.w1p .nil qav (qa0 (pv 0) (qa0 qaa qa3))) qaa) qaa))
  (qa4 (qbk (qb2 (qai qdl (qal qbh (qad ((w19 T).mono (by decide)) hr rfl T.w1s T.w1c.kp T.w1p .nil qav (qa0 (pv 0) (qa0 qaa qa3))) qaa) qaa (qau _)) (qa5 (qae (i:=1) w5b.nd rfl (Or.inl rfl) (qal qba qaa (qal qbh (qal qb9 (qad ((w19 T).mono (by decide)) hr rfl T.w1s T.w1c.kp T.w1p .nil qav (qa0 (pv 0) (qa0 qaa qa3))) qaa) qaa)))) qag))
  (qa4 (qae (i:=2) w5b.nd rfl (Or.inl rfl) (qad ((wen T).mono (by decide)) hr rfl T.wey T.wdy.kp T.wf3 .nil qav (qa0 (pv 0) (qa0 qaa (qa0 (pv 1) qa3)))))
  (qa4 (qae (i:=3) w5b.nd rfl (Or.inl rfl) (qad ((wec T).mono (by decide)) hr rfl T.wf1 T.wdz.kp T.wf6 .nil qav (qa0 (pv 2) qa3)))
  (qa4 (qbl PassesOwn.never rfl (qb5 rfl T.w1a (qa0 qaa qa3)) (qam (i:=4) w5b.nd rfl (Or.inl rfl)) (qa4 (qae (i:=5) w5b.nd rfl (Or.inl rfl) (qad ((wbr T).mono (by decide)) hr rfl T.wdd T.wb4.kp T.wcr .nil qav (qa0 (qad ((w19 T).mono (by decide)) hr rfl T.w1s T.w1c.kp T.w1p .nil qav (qa0 (pv 0) (qa0 (qal qba qaa (qal qc5 qaa (pv 4))) qa3))) (qa0 (pv 2) (qa0 (pv 0) qa3)))))
  (qa4 (qae (i:=6) w5b.nd rfl (Or.inl rfl) (qad ((wbr T).mono (by decide)) hr rfl T.wdd T.wb4.kp T.wcr .nil qav (qa0 (qad ((w19 T).mono (by decide)) hr rfl T.w1s T.w1c.kp T.w1p .nil qav (qa0 (pv 0) (qa0 (qal qba qaa (qal qc5 qaa (pv 4))) qa3))) (qa0 (pv 2) (qa0 (pv 0) qa3)))))
  (qa4 (qae (i:=7) w5b.nd rfl (Or.inl rfl) (qad ((we1 T).mono (by decide)) hr rfl T.wf4 T.wel.kp T.wew .nil qav (qa0 (pv 2) (qa0 (pv 5) (qa0 (pv 6) qa3)))))
  (qa4 (qae (i:=8) w5b.nd rfl (Or.inl rfl) qdi)
  (qa4 (qbk (qb2 (qai (op_eqD (hu8 hr)) (pv 7) (qak (qa0 (qak qa3) (qa0 (qak qa3) qa3))) (qau _)) (qa5 (qae (i:=8) w5b.nd rfl (Or.inl rfl) (qaw qaf (qaw qaf (pv 2) qaa (fun _ _=>rfl)) (qaw qaf (qaw qaf (pv 2) qaa (fun _ _=>rfl)) (qcg PySem.F.plainAttrs_list PySem.F.slot_list_index PySem.F.type_list_index qeo (qaw qaf (pv 2) qaa (fun _ _=>rfl)) (qa0 (pv 5) qa3)) (fun _ _=>rfl)) (fun _ _=>rfl)))) qag))
  (qa4 (qb2 (qcd (qbc (qad ((wbp T).mono (by decide)) hr rfl T.wd6 T.wbd.kp T.wct .nil qav (qa0 (pv 3) (qa0 (pv 2) (qa0 (pv 5) (qa0 (pv 6) qa3))))))) (qa5 (qaj qej)) qag)
  (qa5 (qb2 (PW.pt (pw_and (qai (op_eqD (hu8 hr)) (pv 7) (qak (qa0 (qak qa3) (qa0 (qak qa3) qa3))) (qau _)) (pw_and (qai qdl (qal qbh (pv 4) qaa) qaa (qau _)) (pw_and1 (qcd (qbc (qad ((wbp T).mono (by decide)) hr rfl T.wd6 T.wbd.kp T.wct .nil qav (qa0 (pv 3) (qa0 (pv 2) (qa0 (pv 5) (qa0 (pv 8) qa3))))))))))) (qa5 (qaj qej)) qag)))))))))
  (qa5 (qaj (qad ((weq T).mono (by decide)) hr rfl T.wf9 T.wdw.kp T.wfb .nil qav (qa0 (pv 3) (qa0 (pv 2) (qa0 (qad ((w91 T).mono (by decide)) hr rfl T.wbv T.w9d.kp T.wbl .nil qav (qa0 (qad ((w19 T).mono (by decide)) hr rfl T.w1s T.w1c.kp T.w1p .nil qav (qa0 (pv 0) (qa0 qaa qa3))) (qa0 (qac qao rfl T.w1v PySem.boot_len (qa0 (qaw qaf (pv 2) qaa (fun _ _=>rfl)) qa3)) qa3))) qa3))))))))))),?_⟩
 walk_at "d"
 refine qah (σ:=[some (.ref a),none,none,none,none,none,none,none,none]) rfl ?_
 walk_at "g"
 refine⟨a,ns,_,rfl,hS,by decide,?_⟩
 walk_at "g"
 refine r_cut (fun σ' H'=>∃ct:Nat,σ'=[some (.ref a),some (.int (ct:Int)),none,none,none,none,none,none,none]/\H'=H/\ct<=16) ?_ ?_
 .walk_at "g"
  refine⟨a,ns,_,rfl,hS,by decide,?_⟩
  walk_at "g"
  by_cases c:cell ns 3%4=2
  .rw [if_pos (decide_eq_true c)]
   walk_at "g"
   refine⟨a,ns,_,rfl,hS,by decide,?_⟩
   walk_at "g"
   have m0:=Int.emod_nonneg ((cell ns 3).fdiv 4) (show (9:Int)≠0 by decide)
   have m1:=Int.emod_lt_of_pos ((cell ns 3).fdiv 4) (show (0:Int) < 9 by decide)
   exact⟨(8+(cell ns 3).fdiv 4%9).toNat,by rw [Int.toNat_of_nonneg (by omega)],rfl,by omega⟩
  .rw [if_neg (by rw [decide_eq_false c];exact Bool.false_ne_true)]
   walk_at "g"
   have m0:=Int.emod_nonneg ((cell ns 3).fdiv 4) (show (14:Int)≠0 by decide)
   have m1:=Int.emod_lt_of_pos ((cell ns 3).fdiv 4) (show (0:Int) < 14 by decide)
   exact⟨((cell ns 3).fdiv 4%14).toNat,by rw [Int.toNat_of_nonneg m0],rfl,by omega⟩
 rintro σ' H' ⟨ct,rfl,rfl,h16⟩
 generalize hcv:V.int ((ct:Nat):Int)=cv
 walk_at "g"
 refine⟨a,ns,16,ct,by rw [hcv],hS,by decide,h16,fun p P H1 s1 pf pa hlen hnm dst=>?_⟩
 have hS1:=s1.seq hS
 walk_at "g"
 refine⟨p,P,rfl,pf,pa,fun t S H2 s2 ht hhs hsw hT hI nd=>?_⟩
 have g:=hI.gt nd
 have f:=pf.gf
 have sep:Sep S P:=⟨qa8 pa.n hsw,qa8 pa.e hsw,qa8 pa.pr hsw,qa8 pa.cp hsw⟩
 have hNm:Nm (cell ns 2) P:=by unfold Nm;rw [hlen];exact hnm
 have hS2:=s2.seq hS1
 have pa2:=pa.same s2
 have wi:=pf.wi
 have st:LSt K d H2 a t p ns S P:=⟨hS2,f,wi,hNm,pa2,hT,g,dst,sep⟩
 clear hI nd hsw hhs ht pf hnm hlen hS1 pa s2 hT g f wi hNm dst sep pa2 hS2 s1 hS hcv h16
 walk_at "g"
 refine qcn (fun i σ H'=>LInv K d a t p ns cv σ H') ⟨S,P,none,none,none,none,none,rfl,st⟩ ?_ ?_
 .rintro i σ H3 hi ⟨S1,P1,w1,w2,w3,w4,w5,rfl,st1⟩
  clear st
  rw [show (0:Int)+(i:Int)=(i:Int) by omega]
  generalize hiI:((i:Nat):Int)=iI
  have hS3:=st1.sq
  walk_at "g"
  refine⟨a,ns,_,rfl,hS3,by omega,?_⟩
  walk_at "g"
  refine⟨_,p,a,ns,P1,rfl,st1.f,st1.pa,st1.sq,fun x H4 s4 hx=>?_⟩
  have st2:=st1.same s4
  have hS4:=st2.sq
  clear hS3 st1 s4
  walk_at "g"
  refine⟨a,ns,_,rfl,hS4,by omega,?_⟩
  walk_at "g"
  refine⟨_,p,a,ns,P1,rfl,st2.f,st2.pa,st2.sq,fun y H5 s5 hy=>?_⟩
  have hx:Gd H5 x:=Gd.same hx s5
  have hy:Gd H5 y:=hy
  have st3:=st2.same s5
  clear hS4 st2 s5
  walk_at "g"
  refine⟨p,P1,x,y,rfl,st3.f,st3.pa,hx,hy,fun l xs ys H6 s6 hl tw du=>?_⟩
  have hx:=hx.same s6
  have hy:=hy.same s6
  have hlF:=Fr.mono st3.tr st3.pa hl
  have st4:=st3.same s6
  clear st3 s6 hl
  have etop:=st4.pa.top
  have en:=st4.pa.n
  have ee:=st4.pa.e
  walk_at "g"
  refine r_cut (fun σ' H'=>∃(o:V),σ'=[some (.ref a),some cv,some (.ref p),some (.ref t),some (.int iI),some x,some y,some (.ref l),some o]/\qb0 H6 H'/\(xs=[]->∃z,o=.str z)) ?_ ?_
  .walk_at "g"
   rename_i p1 hp1 p2 hp2 p3 hp3
   obtain⟨dq,n3⟩:=tw.deq (K:=K) [] [] hp1 hp2 hp3
   refine r_eqD n3 (by decide) dq ?_
   have sA:=((qa2 hp1 (.lst [])).trans (qa2 hp2 (.lst []))).trans (qa2 hp3 (.lst [V.ref p1,V.ref p2]))
   generalize upd (upd (upd H6 p1 (.lst [])) p2 (.lst [])) p3 (.lst [V.ref p1,V.ref p2])=H7 at*
   by_cases hxs:xs=[]
   .subst hxs
    obtain⟨e0,k,b,kn,bn,rfl,rfl,cn,dd,_⟩:=du.nil
    subst e0
    rw [decide_eq_true rfl]
    show ∃k,V.bl true=V.bl k/\_
    have f:=st4.f
    have nl:=f.nl
    have k0:0 < k:=Nat.pos_of_ne_zero fun h=>cn (.inl h)
    have en7:=sA _ _ en
    have ee7:=sA _ _ ee
    have etop7:=sA _ _ etop
    have hb:k - 1 < P1.es.length:=by omega
    have xe:atI (V.non :: P1.es.map iV) ((k:Nat):Int)=some (V.int ((elN P1.es k:Nat):Int)):=by
     obtain⟨b,rfl⟩:∃b,k=b+1:=⟨k - 1,by omega⟩
     have hb:b < P1.es.length:=by omega
     rw [qer hb]
     exact qas (by rw [getElem?_cons_succ,getElem?_map,getElem?_eq_getElem hb];rfl)
    have eln:elN P1.es k < P1.nm.length:=f.ac.elt k0 kn
    have xn:atI (P1.nm.map V.str) ((elN P1.es k:Nat):Int)=some (.str (nmF P1 (elN P1.es k))):=by rw [qbj eln];exact qas (by rw [getElem?_map,getElem?_eq_getElem eln];rfl)
    generalize ((elN P1.es k:Nat):Int)=eI at*
    clear dq hp1 hp2 hp3 etop en ee hb
    walk_at "g"
    refine r_idxN f kn (SqL.of en7) ?_
    generalize ((k:Nat):Int)=kI at*
    walk_at "g"
    refine qbf (SqL.of ee7) xe ?_
    walk_at "g"
    refine qbf (SqL.of en7) xn ?_
    walk_at "g"
    exact⟨_,rfl,sA,fun _=>⟨_,rfl⟩⟩
   .rw [decide_eq_false hxs,Bool.false_and]
    walk_at "g"
    exact⟨_,rfl,sA,fun h=>absurd h hxs⟩
  rintro σ' H7 ⟨o,rfl,s7,ho⟩
  have st5:=st4.same s7
  have tw7:=tw.same s7
  have hx:=hx.same s7
  have hy:=hy.same s7
  clear st4 tw etop en ee s7
  walk_at "g"
  refine⟨t,p,S1,P1,x,y,rfl,st5.f,st5.wi,st5.pa,st5.tr,st5.g,st5.dst,st5.sep,hx,hy,fun xs2 ys2 H8 s8 du2 hne=>?_,fun S2 k b H8 ex ey kn bn du2 esw gf wi2 pa2 tr2 g2 kp=>?_⟩
  .obtain⟨e1,e2⟩:=du2.uniq st5.f du
   subst e1
   subst e2
   have st6:=st5.same s8
   have tw8:=tw7.same s8
   clear st5 tw7 s8
   walk_at "g"
   rename_i p1 hp1 p2 hp2 p3 hp3
   obtain⟨dq,n3⟩:=tw8.deq (K:=K) [] [] hp1 hp2 hp3
   refine r_eqD n3 (by decide) dq ?_
   rw [decide_eq_false hne,Bool.false_and]
   have sA:=((qa2 hp1 (.lst [])).trans (qa2 hp2 (.lst []))).trans (qa2 hp3 (.lst [V.ref p1,V.ref p2]))
   generalize upd (upd (upd H8 p1 (.lst [])) p2 (.lst [])) p3 (.lst [V.ref p1,V.ref p2])=H9 at*
   walk_at "g"
   exact⟨S1,P1,_,_,_,_,_,rfl,st6.same sA⟩
  .obtain⟨e1,e2⟩:=du2.uniq st5.f du
   subst e1
   subst e2
   subst ex
   subst ey
   obtain⟨z,rfl⟩:=ho rfl
   have st6:=st5.mv esw gf wi2 pa2 tr2 g2 kp
   obtain⟨x1,x2,y1,y2,y3⟩:=tw7.ex
   have tw8:TwoAt H8 l [] []:=⟨x1,x2,(kp _ _ y1 hlF).1,(kp _ _ y2 (qfr (cs:=[]) st5.tr st5.pa st5.f (.inl rfl) y2)).1,(kp _ _ y3 (qfr (cs:=[]) st5.tr st5.pa st5.f (.inl rfl) y3)).1⟩
   generalize mvP P1 k b=P2 at*
   clear st5 tw7 kp y1 y2 y3 du du2 hx hy hlF gf wi2 pa2 tr2 g2 esw
   walk_at "g"
   rename_i p1 hp1 p2 hp2 p3 hp3
   obtain⟨dq,n3⟩:=tw8.deq (K:=K) [] [] hp1 hp2 hp3
   refine r_eqD n3 (by decide) dq ?_
   rw [decide_eq_true rfl]
   show ∃k,V.bl true=V.bl k/\_
   have sA:=((qa2 hp1 (.lst [])).trans (qa2 hp2 (.lst []))).trans (qa2 hp3 (.lst [V.ref p1,V.ref p2]))
   generalize upd (upd (upd H8 p1 (.lst [])) p2 (.lst [])) p3 (.lst [V.ref p1,V.ref p2])=H9 at*
   have st7:=st6.same sA
   clear dq hp1 hp2 hp3 st6 tw8 sA
   walk_at "g"
   by_cases c2:iI%2=1
   .rw [if_pos (decide_eq_true c2)]
    walk_at "g"
    refine⟨t,p,S2,P2,_,_,rfl,st7.f,st7.wi,st7.pa,st7.tr,st7.g,st7.dst,st7.sep,.inl ⟨_,rfl⟩,.inl ⟨_,rfl⟩,fun xs3 ys3 H10 s10 _ _=>?_,fun S3 k3 b3 H10 _ _ _ _ _ esw gf wi2 pa2 tr2 g2 kp=>?_⟩
    .walk_at "g"
     exact⟨S2,P2,_,_,_,_,_,rfl,st7.same s10⟩
    .walk_at "g"
     exact⟨S3,mvP P2 k3 b3,_,_,_,_,_,rfl,st7.mv esw gf wi2 pa2 tr2 g2 kp⟩
   .rw [if_neg (by rw [decide_eq_false c2];exact Bool.false_ne_true)]
    walk_at "g"
    exact⟨S2,P2,_,_,_,_,_,rfl,st7⟩
 .rintro σ H3 ⟨S1,P1,w1,w2,w3,w4,w5,rfl,st1⟩
  have etop:=st1.pa.top
  have en:=st1.pa.n
  have hS3:=st1.sq
  have n17:=st1.f.n10
  have hnl2:(P1.nm.map V.str).length=P1.nm.length:=length_map _
  walk_at "g"
  refine⟨a,ns,_,rfl,hS3,by decide,?_⟩
  walk_at "g"
  rw [hnl2]
  refine⟨_,_,rfl,by omega,by omega,?_⟩
  walk_at "g"
  refine⟨t,p,S1,P1,nmS (cell ns 2) ((P1.nm.length:Nat):Int),rfl,st1.f,st1.wi,st1.pa,st1.tr,st1.g,qfp _ _,?_,fun H'=>?_⟩
  .have:=st1.nm.fresh (by omega)
   rw [Int.zero_add] at this
   exact this
  exact q _
structure Fz (K:Frag) (n:Str) (s:Stmt) (f:Addr) (fd:FuncData):Prop where
 a:nsIn K mainGlobals n=some (some (.ref f))
 F:Fun K n n s f fd
structure Fm (K:Frag) (c:Addr) (n q:Str) (s:Stmt) (f:Addr) (fd:FuncData):Prop where
 a:PySem.W.findIn K (.ref c) n=some (some (.ref f))
 F:Fun K n q s f fd
theorem Fz.m {K:Frag} {n:Str} {s:Stmt} {f:Addr} {fd:FuncData} {h:Heap} {mg:Str->Option Value} (g:Fz K n s f fd) (X:K.In h) (G:h.Ns mainGlobals mg):mg n=some (.ref f):=PySem.W.mg_of X G g.a
theorem ln1 {p:List Value->Prop} (h:∀x0:Value,p [x0]) (us:List Value) (e:us.length=1):p us:=by
 match us,e with
 | [x0],_=>exact h x0
theorem ln2 {p:List Value->Prop} (h:∀x0 x1:Value,p [x0,x1]) (us:List Value) (e:us.length=2):p us:=by
 match us,e with
 | [x0,x1],_=>exact h x0 x1
theorem ln3 {p:List Value->Prop} (h:∀x0 x1 x2:Value,p [x0,x1,x2]) (us:List Value) (e:us.length=3):p us:=by
 match us,e with
 | [x0,x1,x2],_=>exact h x0 x1 x2
theorem ln4 {p:List Value->Prop} (h:∀x0 x1 x2 x3:Value,p [x0,x1,x2,x3]) (us:List Value) (e:us.length=4):p us:=by
 match us,e with
 | [x0,x1,x2,x3],_=>exact h x0 x1 x2 x3
theorem ln5 {p:List Value->Prop} (h:∀x0 x1 x2 x3 x4:Value,p [x0,x1,x2,x3,x4]) (us:List Value) (e:us.length=5):p us:=by
 match us,e with
 | [x0,x1,x2,x3,x4],_=>exact h x0 x1 x2 x3 x4
theorem ln6 {p:List Value->Prop} (h:∀x0 x1 x2 x3 x4 x5:Value,p [x0,x1,x2,x3,x4,x5]) (us:List Value) (e:us.length=6):p us:=by
 match us,e with
 | [x0,x1,x2,x3,x4,x5],_=>exact h x0 x1 x2 x3 x4 x5
theorem txt_mk {K:Frag} {h:Heap} {mg:Str->Option Value} {fa:Addr} {f_z0 f_z1 f_z2 f_z3 f_z4 f_z5 f_z6 f_z7 f_z8 f_z9 f_z10 f_z11 f_z12 f_z13 f_z14 f_z15 f_z16 f_z17 f_z18 f_z19 f_z20 f_z21 f_z22 f_z23 f_z24 f_z25 f_z26 f_z27 f_z28 f_z29 f_z30 f_z31 f_z32 f_z33 wbb f_z35 f_z36 f_z37 f_z38 f_z39 f_z40 f_z41 f_z42 f_z43 f_z44 f_z45 f_z46 f_z47 f_z48 f_z49 f_z50 f_z51 f_z52 f_z53 w08 w03 w0a w0u w1i w01 w05 w00 w0v w0f w0g w0n w02:Addr} {d_z0 d_z1 d_z2 d_z3 d_z4 d_z5 d_z6 d_z7 d_z8 d_z9 d_z10 d_z11 d_z12 d_z13 d_z14 d_z15 d_z16 d_z17 d_z18 d_z19 d_z20 d_z21 d_z22 d_z23 d_z24 d_z25 d_z26 d_z27 d_z28 d_z29 d_z30 d_z31 d_z32 d_z33 d_law d_z35 d_z38 d_z39 d_z40 d_z41 d_z42 d_z43 d_z44 d_z45 d_z46 d_z47 d_z48 d_z49 d_z50 d_z51 d_z52 d_z53:FuncData} (X:K.In h) (G:h.Ns mainGlobals mg) (hfa:mg "law" =some (.ref fa))
  (g_z0:Fz K "is_whole" s_is_whole f_z0 d_z0)
  (g_z1:Fz K "is_name" s_is_name f_z1 d_z1)
  (g_z2:Fz K "is_whole_from" s_is_whole_from f_z2 d_z2)
  (g_z3:Fz K "is_amount" s_is_amount f_z3 d_z3)
  (g_z4:Fz K "amounts_of" s_amounts_of f_z4 d_z4)
  (g_z5:Fz K "above_nought" s_above_nought f_z5 d_z5)
  (g_z6:Fz K "amount_of" s_amount_of f_z6 d_z6)
  (g_z7:Fz K "added" s_added f_z7 d_z7)
  (g_z8:Fz K "beyond" s_beyond f_z8 d_z8)
  (g_z9:Fz K "total_of" s_total_of f_z9 d_z9)
  (g_z10:Fz K "are_wares" s_are_wares f_z10 d_z10)
  (g_z11:Fz K "check_name" s_check_name f_z11 d_z11)
  (g_z12:Fz K "read_house" s_read_house f_z12 d_z12)
  (g_z13:Fz K "check_promises" s_check_promises f_z13 d_z13)
  (g_z14:Fz K "_law_cell_at" s_cell_at f_z14 d_z14)
  (g_z15:Fz K "_law_mixed" s_mixed f_z15 d_z15)
  (g_z16:Fz K "_law_name" s_name f_z16 d_z16)
  (g_z17:Fz K "_law_elders" s_elders f_z17 d_z17)
  (g_z18:Fz K "_law_promises" s_promises f_z18 d_z18)
  (g_z19:Fz K "_law_sums" s_sums f_z19 d_z19)
  (g_z20:Fz K "_law_caps" s_caps f_z20 d_z20)
  (g_z21:Fz K "_law_plan" s_plan f_z21 d_z21)
  (g_z22:Fz K "_law_tree" s_tree f_z22 d_z22)
  (g_z23:Fz K "_law_line" s_line f_z23 d_z23)
  (g_z24:Fz K "_law_told" s_told f_z24 d_z24)
  (g_z25:Fz K "_law_place" s_place f_z25 d_z25)
  (g_z26:Fz K "_law_thing" s_thing f_z26 d_z26)
  (g_z27:Fz K "_law_tall" s_tall f_z27 d_z27)
  (g_z28:Fz K "_law_due" s_due f_z28 d_z28)
  (g_z29:Fz K "_law_checked" s_checked f_z29 d_z29)
  (g_z30:Fz K "_law_done" s_done f_z30 d_z30)
  (g_z31:Fz K "_law_stands" s_stands f_z31 d_z31)
  (g_z32:Fz K "_law_deep" s_deep f_z32 d_z32)
  (g_z33:Fz K "_law_tried" s_tried f_z33 d_z33)
  (g_law:Fz K "law" s_law wbb d_law)
  (g_z35:Fm K w08 "__init__" "House.__init__" s_House_init f_z35 d_z35)
  {od_z36 an_z36:Option Addr} {sl_z36:Array (Option Value)} {oc_z36 kV_z36 dc_z36 pm_z36 cd_z36 ct_z36 w0t:Value} {t_z36:Addr}
  (a_z36:PySem.W.findIn K (.ref w03) "__init__" =some (some (.ref f_z36))) (l_z36:K.lookup f_z36=some ⟨oc_z36,od_z36,.func (fnOf "__init__" "Tree.__init__" (qcf s_Tree_init) (qbs s_Tree_init) (qab s_Tree_init) (.ref t_z36) kV_z36 dc_z36 pm_z36 an_z36 cd_z36 ct_z36),sl_z36⟩) (c_z36:codeIn K cd_z36 "Tree.__init__" =true) (k_z36:keepIn K (.ref f_z36)=true)
  {ob_z36:Obj} {nn_z36:Nat} (tt_z36:K.lookup t_z36=some ob_z36) (td_z36:ob_z36.data=.seq #[w0t] nn_z36) (rd_z36:qbb [.int 1] [w0t])
  {od_z37 an_z37:Option Addr} {sl_z37:Array (Option Value)} {oc_z37 kV_z37 dc_z37 pm_z37 cd_z37 ct_z37 w0o:Value} {t_z37:Addr}
  (a_z37:PySem.W.findIn K (.ref w03) "found" =some (some (.ref f_z37))) (l_z37:K.lookup f_z37=some ⟨oc_z37,od_z37,.func (fnOf "found" "Tree.found" (qcf s_Tree_found) (qbs s_Tree_found) (qab s_Tree_found) (.ref t_z37) kV_z37 dc_z37 pm_z37 an_z37 cd_z37 ct_z37),sl_z37⟩) (c_z37:codeIn K cd_z37 "Tree.found" =true) (k_z37:keepIn K (.ref f_z37)=true)
  {ob_z37:Obj} {nn_z37:Nat} (tt_z37:K.lookup t_z37=some ob_z37) (td_z37:ob_z37.data=.seq #[w0o] nn_z37) (rd_z37:qbb [.int 1] [w0o])
  (g_z38:Fm K w03 "wares" "Tree.wares" s_Tree_wares f_z38 d_z38)
  (g_z39:Fm K w03 "names" "Tree.names" s_Tree_names f_z39 d_z39)
  (g_z40:Fm K w03 "has" "Tree.has" s_Tree_has f_z40 d_z40)
  (g_z41:Fm K w03 "check_house" "Tree.check_house" s_Tree_check_house f_z41 d_z41)
  (g_z42:Fm K w03 "house_of" "Tree.house_of" s_Tree_house_of f_z42 d_z42)
  (g_z43:Fm K w03 "elder_of" "Tree.elder_of" s_Tree_elder_of f_z43 d_z43)
  (g_z44:Fm K w03 "cap_of" "Tree.cap_of" s_Tree_cap_of f_z44 d_z44)
  (g_z45:Fm K w03 "kids" "Tree.kids" s_Tree_kids f_z45 d_z45)
  (g_z46:Fm K w03 "line" "Tree.line" s_Tree_line f_z46 d_z46)
  (g_z47:Fm K w03 "beneath" "Tree.beneath" s_Tree_beneath f_z47 d_z47)
  (g_z48:Fm K w03 "promised_beneath" "Tree.promised_beneath" s_Tree_promised_beneath f_z48 d_z48)
  (g_z49:Fm K w03 "floors" "Tree.floors" s_Tree_floors f_z49 d_z49)
  (g_z50:Fm K w03 "check_more" "Tree.check_more" s_Tree_check_more f_z50 d_z50)
  (g_z51:Fm K w03 "check_move" "Tree.check_move" s_Tree_check_move f_z51 d_z51)
  (g_z52:Fm K w03 "move" "Tree.move" s_Tree_move f_z52 d_z52)
  (g_z53:Fm K w00 "__init__" "NoPromise.__init__" s_i_NoPromise f_z53 d_z53)
  (qi_z53:initIn K w00 f_z53=true) (hi_z53:isFn K (.ref f_z53)=true)
  (a_House:nsIn K mainGlobals "House" =some (some (.ref w08)))
  (a_Tree:nsIn K mainGlobals "Tree" =some (some (.ref w03)))
  (a_TreeError:nsIn K mainGlobals "TreeError" =some (some (.ref w0a)))
  (a_NoName:nsIn K mainGlobals "NoName" =some (some (.ref w0u)))
  (a_Taken:nsIn K mainGlobals "Taken" =some (some (.ref w1i)))
  (a_NoHouse:nsIn K mainGlobals "NoHouse" =some (some (.ref w01)))
  (a_NoMove:nsIn K mainGlobals "NoMove" =some (some (.ref w05)))
  (a_NoPromise:nsIn K mainGlobals "NoPromise" =some (some (.ref w00)))
  (a_NoWare:nsIn K mainGlobals "NoWare" =some (some (.ref w0v)))
  (a_NoAmount:nsIn K mainGlobals "NoAmount" =some (some (.ref w0f)))
  (a_NoNumber:nsIn K mainGlobals "NoNumber" =some (some (.ref w0g)))
  (a_TooMany:nsIn K mainGlobals "TooMany" =some (some (.ref w0n)))
  (a_TooDeep:nsIn K mainGlobals "TooDeep" =some (some (.ref w02)))
  {w3f:Value} (a_LETTERS:nsIn K mainGlobals "LETTERS" =some (some w3f)) (w4l:qb6 (.str "abcdefghijklmnopqrstuvwxyz") w3f)
  {w12:Value} (a_LONGEST_NAME:nsIn K mainGlobals "LONGEST_NAME" =some (some w12)) (w1d:qb6 (.int 8) w12)
  {w1l:Value} (a_MOST_WARES:nsIn K mainGlobals "MOST_WARES" =some (some w1l)) (w26:qb6 (.int 6) w1l)
  {w18:Value} (a_MOST_HOUSES:nsIn K mainGlobals "MOST_HOUSES" =some (some w18)) (w1o:qb6 (.int 40) w18)
  {w13:Value} (a_LONGEST_LINE:nsIn K mainGlobals "LONGEST_LINE" =some (some w13)) (w11:qb6 (.int 12) w13)
  {w0l:Value} (a_GREATEST_WEIGHT:nsIn K mainGlobals "GREATEST_WEIGHT" =some (some w0l)) (w0q:qb6 (.int 1000) w0l)
  (q_NoHouse:excIn K w01 [.type "ValueError",.type "Exception",.type "BaseException",.type "object"] "ValueError.__new__" =true)
  (q_NoAmount:excIn K w0f [.type "ValueError",.type "Exception",.type "BaseException",.type "object"] "ValueError.__new__" =true)
  (q_NoWare:excIn K w0v [.type "ValueError",.type "Exception",.type "BaseException",.type "object"] "ValueError.__new__" =true)
  (q_NoName:excIn K w0u [.type "ValueError",.type "Exception",.type "BaseException",.type "object"] "ValueError.__new__" =true)
  (q_NoNumber:excIn K w0g [.type "ValueError",.type "Exception",.type "BaseException",.type "object"] "ValueError.__new__" =true)
  (q_Taken:excIn K w1i [.type "ValueError",.type "Exception",.type "BaseException",.type "object"] "ValueError.__new__" =true)
  (q_TooMany:excIn K w0n [.type "ValueError",.type "Exception",.type "BaseException",.type "object"] "ValueError.__new__" =true)
  (q_TooDeep:excIn K w02 [.type "ValueError",.type "Exception",.type "BaseException",.type "object"] "ValueError.__new__" =true)
  (q_NoMove:excIn K w05 [.type "ValueError",.type "Exception",.type "BaseException",.type "object"] "ValueError.__new__" =true)
  (w1h:kitCls K (.ref w0a) (.type "BaseException")=some true)
  (w1e:Cls K w08)
  (w04:Cls K w03)
  (w62:Mk K w08 f_z35)
  (w7b:Mk K w03 f_z36)
  (w14:My.XAt K w00)
  (kcP:kitCls K (.ref w00) (.ref w0a)=some true)
  (kvP:kitOne K (.ref w00) (.type "ValueError")=some true)
  (w4e:kitOne K (.ref w00) (.ref w0u)=some false)
  (w6a:kitOne K (.ref w00) (.ref w1i)=some false)
  (w3s:kitOne K (.ref w00) (.ref w01)=some false)
  (w4y:kitOne K (.ref w00) (.ref w0v)=some false)
  (w2z:kitOne K (.ref w00) (.ref w0f)=some false)
  (w31:kitOne K (.ref w00) (.ref w0g)=some false)
  (w3e:kitOne K (.ref w00) (.ref w0n)=some false)
  (w3w:kitOne K (.ref w00) (.ref w02)=some false)
  (w4q:kitOne K (.ref w00) (.ref w05)=some false)
  (w27:kitOne K (.ref w00) (.ref w00)=some true)
  (w4t:My.XAt K w05)
  (kcM:kitCls K (.ref w05) (.ref w0a)=some true)
  (kvM:kitOne K (.ref w05) (.type "ValueError")=some true)
  (w54:kitOne K (.ref w05) (.ref w0u)=some false)
  (w68:kitOne K (.ref w05) (.ref w1i)=some false)
  (w3k:kitOne K (.ref w05) (.ref w01)=some false)
  (w4o:kitOne K (.ref w05) (.ref w0v)=some false)
  (w2n:kitOne K (.ref w05) (.ref w0f)=some false)
  (w30:kitOne K (.ref w05) (.ref w0g)=some false)
  (w3d:kitOne K (.ref w05) (.ref w0n)=some false)
  (w3r:kitOne K (.ref w05) (.ref w02)=some false)
  (w4j:kitOne K (.ref w05) (.ref w05)=some true)
  (w28:kitOne K (.ref w05) (.ref w00)=some false)
  (w3j:My.XAt K w01)
  (kcH:kitCls K (.ref w01) (.ref w0a)=some true)
  (kvH:kitOne K (.ref w01) (.type "ValueError")=some true)
  (w58:kitOne K (.ref w01) (.ref w0u)=some false)
  (w60:kitOne K (.ref w01) (.ref w1i)=some false)
  (w3m:kitOne K (.ref w01) (.ref w01)=some true)
  (w4s:kitOne K (.ref w01) (.ref w0v)=some false)
  (w2q:kitOne K (.ref w01) (.ref w0f)=some false)
  (w2x:kitOne K (.ref w01) (.ref w0g)=some false)
  (w3q:kitOne K (.ref w01) (.ref w0n)=some false)
  (w3h:kitOne K (.ref w01) (.ref w02)=some false)
  (w4h:kitOne K (.ref w01) (.ref w05)=some false)
  (w29:kitOne K (.ref w01) (.ref w00)=some false)
  (w3o:My.XAt K w02)
  (kcD:kitCls K (.ref w02) (.ref w0a)=some true)
  (kvD:kitOne K (.ref w02) (.type "ValueError")=some true)
  (w4i:kitOne K (.ref w02) (.ref w0u)=some false)
  (w6e:kitOne K (.ref w02) (.ref w1i)=some false)
  (w3v:kitOne K (.ref w02) (.ref w01)=some false)
  (w4r:kitOne K (.ref w02) (.ref w0v)=some false)
  (w2v:kitOne K (.ref w02) (.ref w0f)=some false)
  (w2o:kitOne K (.ref w02) (.ref w0g)=some false)
  (w3g:kitOne K (.ref w02) (.ref w0n)=some false)
  (w3u:kitOne K (.ref w02) (.ref w02)=some true)
  (w4u:kitOne K (.ref w02) (.ref w05)=some false)
  (w2c:kitOne K (.ref w02) (.ref w00)=some false)
  (w2p:My.XBase K w0a)
  (weu:PySem.W.findIn K (.ref w00) "house" =some none)
  (wet:PySem.W.findIn K (.ref w00) "ware" =some none)
  (w17:Meth K w03 "found" f_z37)
  (w2j:Meth K w03 "wares" f_z38)
  (w1t:Meth K w03 "names" f_z39)
  (w22:Meth K w03 "has" f_z40)
  (w0c:Meth K w03 "check_house" f_z41)
  (w0y:Meth K w03 "house_of" f_z42)
  (w0b:Meth K w03 "elder_of" f_z43)
  (w25:Meth K w03 "cap_of" f_z44)
  (w2b:Meth K w03 "kids" f_z45)
  (w0k:Meth K w03 "line" f_z46)
  (w0m:Meth K w03 "beneath" f_z47)
  (w09:Meth K w03 "promised_beneath" f_z48)
  (w1b:Meth K w03 "floors" f_z49)
  (w0h:Meth K w03 "check_more" f_z50)
  (w0i:Meth K w03 "check_move" f_z51)
  (w2a:Meth K w03 "move" f_z52)
  (w0j:PySem.W.findIn K (.ref w08) "elder" =some none)
  (w0e:PySem.W.findIn K (.ref w08) "promise" =some none)
  (w0s:PySem.W.findIn K (.ref w08) "cap" =some none)
  (w16:PySem.W.findIn K (.ref w08) "weight" =some none)
  (w0d:PySem.W.findIn K (.ref w03) "sorted_wares" =some none)
  (w07:PySem.W.findIn K (.ref w03) "houses" =some none)
  (y_ValueError:nsIn K mainGlobals "ValueError" =some none)
  (y_all:nsIn K mainGlobals "all" =some none)
  (y_bool:nsIn K mainGlobals "bool" =some none)
  (y_dict:nsIn K mainGlobals "dict" =some none)
  (y_int:nsIn K mainGlobals "int" =some none)
  (y_isinstance:nsIn K mainGlobals "isinstance" =some none)
  (y_len:nsIn K mainGlobals "len" =some none)
  (y_list:nsIn K mainGlobals "list" =some none)
  (y_max:nsIn K mainGlobals "max" =some none)
  (y_min:nsIn K mainGlobals "min" =some none)
  (y_range:nsIn K mainGlobals "range" =some none)
  (y_set:nsIn K mainGlobals "set" =some none)
  (y_sorted:nsIn K mainGlobals "sorted" =some none)
  (y_str:nsIn K mainGlobals "str" =some none)
  :∃d:Ad,Tx K mg d/\fa=d.wbb/\∀(s:Shared) (v:Value),BindsTo s d.wa1 ⟨[v], []⟩ [("_law_script",v)]:=by
 have e:=hfa.symm.trans (g_law.m X G)
 cases e
 have Fl:=g_law.F
 obtain⟨_,_,_,_,_,_,_,_,_,rfl,_,_⟩:=Fl.ex
 have F_z36:=funD_mk (st:=s_Tree_init) l_z36 c_z36 k_z36 tt_z36 td_z36
 have b_z36:qan K _ ["self","wares","name","promise","cap","weight"] []:=F_z36.binds (ps:=["self","wares","name","promise","cap","weight"]) fun _ _ _ _ _ _ us hl=>by have e:us.length=6:=(by simpa using hl);clear hl;revert us e;exact ln6 fun _ _ _ _ _ _=>by first|exact .inl rfl|exact .inr ⟨_,rfl,rfl⟩
 have b1_z36:qan K _ ["self","wares","name","promise","cap","weight"] [w0t]:=F_z36.binds (ps:=["self","wares","name","promise","cap","weight"]) fun _ _ _ _ _ _ us hl=>by have e:us.length=5:=(by simpa using hl);clear hl;revert us e;exact ln5 fun _ _ _ _ _=>by first|exact .inl rfl|exact .inr ⟨_,rfl,rfl⟩
 have F_z37:=funD_mk (st:=s_Tree_found) l_z37 c_z37 k_z37 tt_z37 td_z37
 have b_z37:qan K _ ["self","name","elder","promise","cap","weight"] []:=F_z37.binds (ps:=["self","name","elder","promise","cap","weight"]) fun _ _ _ _ _ _ us hl=>by have e:us.length=6:=(by simpa using hl);clear hl;revert us e;exact ln6 fun _ _ _ _ _ _=>by first|exact .inl rfl|exact .inr ⟨_,rfl,rfl⟩
 have b1_z37:qan K _ ["self","name","elder","promise","cap","weight"] [w0o]:=F_z37.binds (ps:=["self","name","elder","promise","cap","weight"]) fun _ _ _ _ _ _ us hl=>by have e:us.length=5:=(by simpa using hl);clear hl;revert us e;exact ln5 fun _ _ _ _ _=>by first|exact .inl rfl|exact .inr ⟨_,rfl,rfl⟩
 refine⟨⟨_,_,_,_,_,_,_,_,_,_,_,_,_,_,_,_,_,_,_,_,_,_,_,_,_,_,_,_,_,_,_,_,_,_,_,_,_,_,_,_,_,_,_,_,_,_,_,_,_,_,_,_,_,_,_,_,_,_,_,_,_,_,_,_,_,_,_,_,_,_,_,_,_,_,t_z36,w0t,_,_,t_z37,w0o,_,_,_,_,_,_,_,_,_,_,_,_,_,_,_,_,_,_,_,_,_,_,_,_,_,_,_,_,_,_,_,_,w08,w03,w0a,w0u,w1i,w01,w05,w00,w0v,w0f,w0g,w0n,w02,w3f,w12,w1l,w18,w13,w0l⟩,⟨g_z0.F,g_z0.m X G,g_z0.F.binds fun _ _ _ _ _ _=>ln1 fun _=>rfl,g_z1.F,g_z1.m X G,g_z1.F.binds fun _ _ _ _ _ _=>ln1 fun _=>rfl,g_z2.F,g_z2.m X G,g_z2.F.binds fun _ _ _ _ _ _=>ln3 fun _ _ _=>rfl,g_z3.F,g_z3.m X G,g_z3.F.binds fun _ _ _ _ _ _=>ln1 fun _=>rfl,g_z4.F,g_z4.m X G,g_z4.F.binds fun _ _ _ _ _ _=>ln2 fun _ _=>rfl,g_z5.F,g_z5.m X G,g_z5.F.binds fun _ _ _ _ _ _=>ln1 fun _=>rfl,g_z6.F,g_z6.m X G,g_z6.F.binds fun _ _ _ _ _ _=>ln2 fun _ _=>rfl,g_z7.F,g_z7.m X G,g_z7.F.binds fun _ _ _ _ _ _=>ln2 fun _ _=>rfl,g_z8.F,g_z8.m X G,g_z8.F.binds fun _ _ _ _ _ _=>ln2 fun _ _=>rfl,g_z9.F,g_z9.m X G,g_z9.F.binds fun _ _ _ _ _ _=>ln1 fun _=>rfl,g_z10.F,g_z10.m X G,g_z10.F.binds fun _ _ _ _ _ _=>ln1 fun _=>rfl,g_z11.F,g_z11.m X G,g_z11.F.binds fun _ _ _ _ _ _=>ln1 fun _=>rfl,g_z12.F,g_z12.m X G,g_z12.F.binds fun _ _ _ _ _ _=>ln5 fun _ _ _ _ _=>rfl,g_z13.F,g_z13.m X G,g_z13.F.binds fun _ _ _ _ _ _=>ln3 fun _ _ _=>rfl,g_z14.F,g_z14.m X G,g_z14.F.binds fun _ _ _ _ _ _=>ln2 fun _ _=>rfl,g_z15.F,g_z15.m X G,g_z15.F.binds fun _ _ _ _ _ _=>ln2 fun _ _=>rfl,g_z16.F,g_z16.m X G,g_z16.F.binds fun _ _ _ _ _ _=>ln2 fun _ _=>rfl,g_z17.F,g_z17.m X G,g_z17.F.binds fun _ _ _ _ _ _=>ln2 fun _ _=>rfl,g_z18.F,g_z18.m X G,g_z18.F.binds fun _ _ _ _ _ _=>ln3 fun _ _ _=>rfl,g_z19.F,g_z19.m X G,g_z19.F.binds fun _ _ _ _ _ _=>ln2 fun _ _=>rfl,g_z20.F,g_z20.m X G,g_z20.F.binds fun _ _ _ _ _ _=>ln4 fun _ _ _ _=>rfl,g_z21.F,g_z21.m X G,g_z21.F.binds fun _ _ _ _ _ _=>ln3 fun _ _ _=>rfl,g_z22.F,g_z22.m X G,g_z22.F.binds fun _ _ _ _ _ _=>ln1 fun _=>rfl,g_z23.F,g_z23.m X G,g_z23.F.binds fun _ _ _ _ _ _=>ln2 fun _ _=>rfl,g_z24.F,g_z24.m X G,g_z24.F.binds fun _ _ _ _ _ _=>ln1 fun _=>rfl,g_z25.F,g_z25.m X G,g_z25.F.binds fun _ _ _ _ _ _=>ln3 fun _ _ _=>rfl,g_z26.F,g_z26.m X G,g_z26.F.binds fun _ _ _ _ _ _=>ln3 fun _ _ _=>rfl,g_z27.F,g_z27.m X G,g_z27.F.binds fun _ _ _ _ _ _=>ln2 fun _ _=>rfl,g_z28.F,g_z28.m X G,g_z28.F.binds fun _ _ _ _ _ _=>ln3 fun _ _ _=>rfl,g_z29.F,g_z29.m X G,g_z29.F.binds fun _ _ _ _ _ _=>ln3 fun _ _ _=>rfl,g_z30.F,g_z30.m X G,g_z30.F.binds fun _ _ _ _ _ _=>ln3 fun _ _ _=>rfl,g_z31.F,g_z31.m X G,g_z31.F.binds fun _ _ _ _ _ _=>ln2 fun _ _=>rfl,g_z32.F,g_z32.m X G,g_z32.F.binds fun _ _ _ _ _ _=>ln3 fun _ _ _=>rfl,g_z33.F,g_z33.m X G,g_z33.F.binds fun _ _ _ _ _ _=>ln4 fun _ _ _ _=>rfl,Fl,g_law.m X G,g_z35.F,g_z35.F.binds fun _ _ _ _ _ _=>ln5 fun _ _ _ _ _=>rfl,F_z36,b_z36,b1_z36,rd_z36,F_z37,b_z37,b1_z37,rd_z37,g_z38.F,g_z38.F.binds fun _ _ _ _ _ _=>ln1 fun _=>rfl,g_z39.F,g_z39.F.binds fun _ _ _ _ _ _=>ln1 fun _=>rfl,g_z40.F,g_z40.F.binds fun _ _ _ _ _ _=>ln2 fun _ _=>rfl,g_z41.F,g_z41.F.binds fun _ _ _ _ _ _=>ln2 fun _ _=>rfl,g_z42.F,g_z42.F.binds fun _ _ _ _ _ _=>ln2 fun _ _=>rfl,g_z43.F,g_z43.F.binds fun _ _ _ _ _ _=>ln2 fun _ _=>rfl,g_z44.F,g_z44.F.binds fun _ _ _ _ _ _=>ln2 fun _ _=>rfl,g_z45.F,g_z45.F.binds fun _ _ _ _ _ _=>ln2 fun _ _=>rfl,g_z46.F,g_z46.F.binds fun _ _ _ _ _ _=>ln2 fun _ _=>rfl,g_z47.F,g_z47.F.binds fun _ _ _ _ _ _=>ln2 fun _ _=>rfl,g_z48.F,g_z48.F.binds fun _ _ _ _ _ _=>ln2 fun _ _=>rfl,g_z49.F,g_z49.F.binds fun _ _ _ _ _ _=>ln2 fun _ _=>rfl,g_z50.F,g_z50.F.binds fun _ _ _ _ _ _=>ln3 fun _ _ _=>rfl,g_z51.F,g_z51.F.binds fun _ _ _ _ _ _=>ln3 fun _ _ _=>rfl,g_z52.F,g_z52.F.binds fun _ _ _ _ _ _=>ln3 fun _ _ _=>rfl,g_z53.F,xcli_of qi_z53 hi_z53,g_z53.F.binds fun _ _ _ _ _ _=>ln3 fun _ _ _=>rfl,PySem.W.mg_of X G a_House,PySem.W.mg_of X G a_Tree,PySem.W.mg_of X G a_TreeError,PySem.W.mg_of X G a_NoName,PySem.W.mg_of X G a_Taken,PySem.W.mg_of X G a_NoHouse,PySem.W.mg_of X G a_NoMove,PySem.W.mg_of X G a_NoPromise,PySem.W.mg_of X G a_NoWare,PySem.W.mg_of X G a_NoAmount,PySem.W.mg_of X G a_NoNumber,PySem.W.mg_of X G a_TooMany,PySem.W.mg_of X G a_TooDeep,PySem.W.mg_of X G a_LETTERS,w4l,PySem.W.mg_of X G a_LONGEST_NAME,w1d,PySem.W.mg_of X G a_MOST_WARES,w26,PySem.W.mg_of X G a_MOST_HOUSES,w1o,PySem.W.mg_of X G a_LONGEST_LINE,w11,PySem.W.mg_of X G a_GREATEST_WEIGHT,w0q,PySem.W.mg_none_of X G y_ValueError,PySem.W.mg_none_of X G y_all,PySem.W.mg_none_of X G y_bool,PySem.W.mg_none_of X G y_dict,PySem.W.mg_none_of X G y_int,PySem.W.mg_none_of X G y_isinstance,PySem.W.mg_none_of X G y_len,PySem.W.mg_none_of X G y_list,PySem.W.mg_none_of X G y_max,PySem.W.mg_none_of X G y_min,PySem.W.mg_none_of X G y_range,PySem.W.mg_none_of X G y_set,PySem.W.mg_none_of X G y_sorted,PySem.W.mg_none_of X G y_str,w1e,w04,w62,w7b,w14,kcP,kvP,w4e,w6a,w3s,w4y,w2z,w31,w3e,w3w,w4q,w27,w4t,kcM,kvM,w54,w68,w3k,w4o,w2n,w30,w3d,w3r,w4j,w28,w3j,kcH,kvH,w58,w60,w3m,w4s,w2q,w2x,w3q,w3h,w4h,w29,w3o,kcD,kvD,w4i,w6e,w3v,w4r,w2v,w2o,w3g,w3u,w4u,w2c,w2p,weu,wet,w17,w2j,w1t,w22,w0c,w0y,w0b,w25,w2b,w0k,w0m,w09,w1b,w0h,w0i,w2a,w0j,w0e,w0s,w16,w0d,w07,qcs q_NoHouse,qcs q_NoAmount,qcs q_NoWare,qcs q_NoName,qcs q_NoNumber,qcs q_Taken,qcs q_TooMany,qcs q_TooDeep,qcs q_NoMove,w1h⟩,rfl,fun s v=> .of_eq rfl⟩
theorem walk {l:PySem.W.OpenLaw} {q:Program} {loose:List Str} {XP:(Str->Option Value)->Heap->Prop} {YP:World->Heap->Prop} {e:DefRec} {K:Params->Frag} (hn:l.most=some 63) (hdf:e.params.defaults=[]) (hlaw:e.name= "law")
  (hY:∀(w:World) (h:Heap),YP w h->(K w.params).In h)
  (F:∀(w:World) (mg:Str->Option Value) (fa:Addr) (h:Heap),(K w.params).In h->h.Ns mainGlobals mg->mg "law" =some (.ref fa)->∃d:Ad,Tx (K w.params) mg d/\fa=d.wbb/\∀(s:Shared) (v:Value),BindsTo s d.wa1 ⟨[v], []⟩ [("_law_script",v)]):
  PySem.W.WalkO q loose XP YP l.row.toRowW e [] (fun f vs=>PySem.call f vs):=by
 refine L2.walk_of (n:=63) (k:=23) (x:="_law_script") (CX:=fun _=>CX0) (sp:=fun w=>sp_law0 (K w.params)) hn (by decide) hdf ⟨rfl,by decide,by decide⟩ hY (fun w mg fa h KX G hm=>?_) (fun _ _ a ns hl _ hS=>⟨a,ns,rfl,hS,hl,fun _=>rfl⟩) fun _ _ _ _ _ z=>z
 rw [hlaw] at hm
 obtain⟨d,T,rfl,hb⟩:=F w mg fa h KX G hm
 exact⟨d.wa1,hb,fun base _ _=>(ok_law (P:=l.prog) (w:=w) (base:=base) T).imp fun vs H Q E q=>q⟩
end Our
namespace PySem.W.Fast
def tw8929690888707539425:=0
def tw8200927812610008902:=0
def tw17988576360589178543:=0
def tw387702522759625105:=0
def tw17614046181929672891:=0
def tw10763805208164336267:=0
def tw911370148029308505:=0
def tw1798694582729842154:=0
def tw17449367785577394620:=0
def tw4125530258680120266:=0
def tw2332159601195751138:=0
def tw14900036473370383428:=0
def tw6353428669292934473:=0
def tw11381169475530756845:=0
def tw8734687887937292674:=0
def tw9862225493611927706:=0
def tw8863502416360625952:=0
def tw14934786451529484096:=0
def tw3206495822994951127:=0
def tw15831109783563070457:=0
def tw2017488643812579355:=0
def tw17105209968963367975:=0
def tw3892725982745613383:=0
def tw9270661998467237724:=0
def tw15735418242604692768:=0
def tw3336320829570607279:=0
def tw2111686391803839702:=0
def tw13726937148912054703:=0
def tw8774134076802757089:=0
def tw521099964258131235:=0
def tw5439449876414793601:=0
def tw5211695232374170110:=0
def tw13562912884742873176:=0
def tw13195330788953381378:=0
def tw1172030947370295213:=0
def tw2750912339590991236:=0
def tw8812086300050533562:=0
def tw12621951123794867398:=0
def tw14170563742374430883:=0
def tw1023500306670905688:=0
def tw14191929719341771759:=0
def tw18028087272365003561:=0
def tw939154504666798650:=0
def tw11584709935373534717:=0
def tw17963080871966232058:=0
def tw3202451909730137584:=0
def tw2661747145317556110:=0
def tw10517176729138661088:=0
def tw6137975411932305848:=0
def tw16820557568725185413:=0
def tw14938743624172437010:=0
def tw13037720378063390347:=0
def tw8485111832223254700:=0
def tw94350595600386380:=0
def tw7307253935973324879:=0
def tw16140105170619021336:=0
def tw8561366090594058321:=0
def tw5420800487960354135:=0
def tw10566590836692933285:=0
def tw10529154544166319884:=0
def tw12565811658586242708:=0
def tw12198112604108784502:=0
def tw6777362948800131088:=0
def tw10083485967995152899:=0
def tw11224027894725265885:=0
def tw939787183636585483:=0
def tw12548092841036874093:=0
def tw17865980838329597919:=0
def tw2007775311853620488:=0
def tw8561834956545467474:=0
def tw15810280540284831942:=0
def tw11150221835228340630:=0
def tw12223679409707876344:=0
def tw5040701848746986504:=0
def tw18065114972219069171:=0
def tw980557405174679951:=0
def tw5103333274946359846:=0
def tw8883442083861528943:=0
def tw4913108041627595665:=0
def tw14905512086880661527:=0
def tw15807934244644356955:=0
def tw9161746517622631714:=0
def tw8949312612317992970:=0
def tw6054644947159625963:=0
def tw6862178938041771780:=0
def tw8206943352354828909:=0
def tw11098110626370671303:=0
def tw10131816629778652158:=0
def tw12789977228649069435:=0
def tw2614301443493565893:=0
def tw8653265589579446092:=0
def tw2406027528575081129:=0
def tw4696776337892441691:=0
def tw3050196201701190103:=0
def tw3344050768310328982:=0
def tw5588493913424373113:=0
def tw1784967527887635730:=0
def tw9723747576044061782:=0
def tw14796332161128202731:=0
def tw14392919797368501207:=0
def tw13672079883939766368:=0
def tw9740260362755226225:=0
def tw14578605192054433446:=0
def tw7857644100904966578:=0
def tw17127578657895738195:=0
def tw16999762678660799522:=0
def tw1801558347314037540:=0
def tw2402097520030403682:=0
def tw4132316215942950886:=0
def tw7748660719567540699:=0
def tw9464442708853568076:=0
def tw1011273352468889517:=0
def tw4102120390903935129:=0
def tw10579785830537429186:=0
def tw634140880631319429:=0
def tw16604423271612265346:=0
def tw11263210853463051856:=0
def tw10514711302865289072:=0
def tw10871647840700175558:=0
def tw3025861607319529298:=0
def tw11788725482932878868:=0
def tw1744067119319497976:=0
def tw12152847302605719404:=0
def tw7229602164002865686:=0
def tw5211932072759189725:=0
def tw12846822000246543458:=0
def tw8639608009235905102:=0
def tw8595598456815435455:=0
def tw4603607467221724589:=0
def tw16868413582406549313:=0
def tw2716795490174454932:=0
def tw5749892779694408705:=0
def tw13619840281221732212:=0
def tw9922348311304039519:=0
def tw2679842019277413618:=0
def tw11164847955400209770:=0
def tw6990023533376175450:=0
def tw4963071140322110719:=0
def tw542807521690197696:=0
def tw1029001124388990473:=0
def tw3620730090921179876:=0
def tw777488689799141671:=0
def tw3404895061086413267:=0
def tw7074773483436627821:=0
def tw5529582725542511309:=0
def tw6819751555681270189:=0
def tw5704394648139032957:=0
def tw14946079579793203755:=0
def tw7582332968927887703:=0
def tw11047766617798701913:=0
def tw7780875274230045424:=0
def tw17497588443082235924:=0
def tw4307142817938623442:=0
def tw7902370547426419459:=0
def tw3845300162834701369:=0
def tw1898989345413602006:=0
def tw14026051163319497336:=0
def tw9118410461332684849:=0
def tw8045246240515648303:=0
def tw472661515670101241:=0
def tw14785279144726320434:=0
def tw1114085593013049026:=0
def tw9687980062598543028:=0
def tw8886083509282742905:=0
def tw13752056966332317534:=0
def tw4347237347226341927:=0
def tw14000746776968063820:=0
def tw11535688118940342259:=0
def tw4914693371892619727:=0
def tw14357665417485960587:=0
def tw5472259282744666735:=0
def tw3957747733079724187:=0
def tw14051008241432819985:=0
def tw13866779565120083784:=0
def tw13781071480675509872:=0
def tw8101210845360792745:=0
def tw2810364564509020479:=0
def tw3996864354378748070:=0
def tw1107213058673061512:=0
def tw3486239150946896014:=0
def tw16679655014366148356:=0
def tw11585109306372368507:=0
def tw15882832481832753590:=0
def tw9789739935535502215:=0
def tw17539995376800520747:=0
def tw5448401806495227627:=0
def tw18359984348362606866:=0
def tw3529102069263001501:=0
def tw14031110158584099680:=0
def tw12435364294803761938:=0
def tw6956444770758855243:=0
def tw17038054971119491707:=0
def tw13608218709445800637:=0
def tw9168702721353356894:=0
def tw5897573746901521666:=0
def tw6574269219850606358:=0
def tw7684697893798312679:=0
def tw7022617539660057539:=0
def tw9172008330902685755:=0
def tw16218874862933345931:=0
def tw1065783814428795146:=0
def tw5245823184094164116:=0
def tw18223474180152228871:=0
def tw13816738654787583703:=0
def tw16394248267356173378:=0
def tw14447197514579509734:=0
def tw11035790752944015385:=0
def tw5794171935452147217:=0
def tw2170677470595501220:=0
def tw9520803074029417671:=0
def tw4708436943681118182:=0
def tw15827852818407526064:=0
def tw1281350370028859861:=0
def tw6694070210467494055:=0
def tw222884979599338613:=0
def tw16862857961683154631:=0
def tw1678280462083758494:=0
def tw12587641965068278717:=0
def tw11819979170215387763:=0
def tw1063690533616975043:=0
def tw1645757416421837535:=0
def tw16377843513992456736:=0
def tw16810180631092930037:=0
def tw14161451844672530573:=0
def tw10031444866029835386:=0
def tw3553683896242259173:=0
def tw17020592724564461784:=0
def tw10695922081454446490:=0
def tw2418327867688510496:=0
def tw951516361173683934:=0
def tw4433133982798326524:=0
def tw13760600299973967365:=0
def tw13861237730021702552:=0
def tw1287370162767628065:=0
def tw5332207105247225115:=0
def tw8925602649100171269:=0
def tw14335494750816861938:=0
def tw5196563911544527636:=0
def tw16241314235679214004:=0
def tw11203024034262998954:=0
def tw72002389884657208:=0
def tw11779145136870508881:=0
def tw9127814187789094546:=0
def tw14953812718279331346:=0
def tw5826494741611913205:=0
def tw14389674939744266579:=0
def tw17578727032874737066:=0
def tw15705626403392972561:=0
def tw1634498912960712771:=0
def tw5536140871230760596:=0
def tw12658708622211890139:=0
def tw7876440899470480607:=0
def tw3943400475872783061:=0
def tw11922119724248047028:=0
def tw11505157940765524948:=0
def tw4501852783140985676:=0
def tw1903956346382994986:=0
def tw15488802611960797143:=0
def tw14368855133089789341:=0
def tw10244683394717001708:=0
def tw9772094951846200929:=0
def tw4606065093600003910:=0
def tw17163773194751714117:=0
def tw1063261058469575446:=0
def tw8550640372012401208:=0
def tw11582394558464955109:=0
def tw11260505955681296559:=0
def tw3358072208712302917:=0
def tw1718896405263203576:=0
def tw15772804173121614992:=0
def tw14373838370741723395:=0
def tw14481832277980018059:=0
def tw5880040510849277817:=0
def tw3197381072475407358:=0
def tw17981896320087114924:=0
def tw17870074997581957774:=0
def tw2571388311993865166:=0
def tw17301106327876918227:=0
def tw6493127482793097988:=0
def tw38225632805048174:=0
def tw9904186170634023573:=0
def tw259136006640583199:=0
def tw15741895257781190461:=0
def tw6948789671415720724:=0
def tw7016195385006935276:=0
def tw9382694137594087898:=0
def tw2084507345942500170:=0
def tw17553900692026569606:=0
def tw10174260685221482476:=0
def tw1270664211085759576:=0
def tw9323662685465185219:=0
def tw3624171264217072440:=0
def tw8496275118606248647:=0
def tw650108962419597935:=0
def tw17787857376546735404:=0
def tw15296373320147782337:=0
def tw12942546529134908571:=0
def tw3715309876744428475:=0
def tw6588678478675526032:=0
def tw13737358272909586985:=0
def tw1741509499953369444:=0
def tw906540699799967786:=0
def tw7393898251923824667:=0
def tw2503225235774219095:=0
def tw16242605688817485919:=0
def tw11797238345061449603:=0
def tw8322520734737085419:=0
def tw15161904588058063472:=0
def tw14255194187580412774:=0
def tw10596119578312414587:=0
def tw2036314087025860997:=0
def tw17536706906078157797:=0
def tw169699009483534381:=0
def tw9024746477657105821:=0
def tw3794466285575646130:=0
def tw4319911957116119643:=0
def tw17422693945309269831:=0
def tw1381351202028378183:=0
def tw15666672128207664604:=0
def tw6825167292709576676:=0
def tw13484437407343274960:=0
def tw908603524847815993:=0
def tw2926971517123996341:=0
def tw374906039373865369:=0
def tw16874210502408359933:=0
def tw10815576313946633081:=0
def tw4375718066104752742:=0
def tw2734114764144878299:=0
def tw1984298374427299372:=0
def tw13679588716065177629:=0
def tw14639907505671217465:=0
def tw7150415727321765209:=0
def tw6758601550730225588:=0
def tw9854723740042428478:=0
def tw779052734544519299:=0
def tw17387725781188933197:=0
def tw15768803257147308564:=0
def tw5170873150894223744:=0
def tw13653447807461810695:=0
def tw3636786390316835507:=0
def tw245516437268854233:=0
def tw11934241570096537304:=0
def tw18185509830102820845:=0
def tw7382139422444501513:=0
def tw3081125600900952528:=0
def tw2142157629877618261:=0
def tw10407542316612784510:=0
def tw2165887177514265915:=0
def tw16668013579056422110:=0
def tw13474606753700281947:=0
def tw2357331874292465945:=0
def tw15989150180862087754:=0
def tw472736899512650571:=0
def tw11108768134178411027:=0
def tw4689382368025094665:=0
def tw3930526926906234670:=0
def tw7081678399876400022:=0
def tw15995441733693276279:=0
def tw8609344347037818:=0
def tw8496926452864861947:=0
def tw6987969167594845155:=0
def tw15181052742840653147:=0
def tw9808259049934148237:=0
def tw14493919733928943458:=0
def tw3599226472689399599:=0
def tw15284702031251230309:=0
def tw14407746149499938044:=0
def tw12807141007076397046:=0
def tw2963573994074321569:=0
def tw9395809730045360341:=0
def tw16051956043929469446:=0
def tw16681751843689449052:=0
def tw7044001982987642333:=0
def tw17071579398787007581:=0
def tw12587058617826346055:=0
def tw11233665984363660057:=0
def tw7826494070510750756:=0
def tw6676086484493938138:=0
def tw5407813849991839315:=0
def tw4956258131950816506:=0
end PySem.W.Fast
open PySem PySem.W PyProof.Rows
set_option maxRecDepth 100000 in
set_option maxHeartbeats 0 in
theorem PySem.Challenge.cw_quotatree_k17_moves_refused_holds : PySem.Challenge.rw_quotatree_k17_moves_refused.Holds := by
 w_on;o_law;k_head;(case hw=>w_witness2)
 k_fill
 refine Our.walk (l:=PySem.Challenge.rw_quotatree_k17_moves_refused) rfl rfl rfl (fun w h Y=>PySem.W.kIn_of Y) ?F
 case F=>
  intro w mg fa h KX G hmg
  refine' Our.txt_mk KX G hmg ?g_z0 ?g_z1 ?g_z2 ?g_z3 ?g_z4 ?g_z5 ?g_z6 ?g_z7 ?g_z8 ?g_z9 ?g_z10 ?g_z11 ?g_z12 ?g_z13 ?g_z14 ?g_z15 ?g_z16 ?g_z17 ?g_z18 ?g_z19 ?g_z20 ?g_z21 ?g_z22 ?g_z23 ?g_z24 ?g_z25 ?g_z26 ?g_z27 ?g_z28 ?g_z29 ?g_z30 ?g_z31 ?g_z32 ?g_z33 ?g_law ?g_z35 ?a_z36 ?l_z36 ?c_z36 ?k_z36 ?tt_z36 ?td_z36 ?rd_z36 ?a_z37 ?l_z37 ?c_z37 ?k_z37 ?tt_z37 ?td_z37 ?rd_z37 ?g_z38 ?g_z39 ?g_z40 ?g_z41 ?g_z42 ?g_z43 ?g_z44 ?g_z45 ?g_z46 ?g_z47 ?g_z48 ?g_z49 ?g_z50 ?g_z51 ?g_z52 ?g_z53 ?qi_z53 ?hi_z53 ?a_House ?a_Tree ?a_TreeError ?a_NoName ?a_Taken ?a_NoHouse ?a_NoMove ?a_NoPromise ?a_NoWare ?a_NoAmount ?a_NoNumber ?a_TooMany ?a_TooDeep ?a_LETTERS ?w4l ?a_LONGEST_NAME ?w1d ?a_MOST_WARES ?w26 ?a_MOST_HOUSES ?w1o ?a_LONGEST_LINE ?w11 ?a_GREATEST_WEIGHT ?w0q ?q_NoHouse ?q_NoAmount ?q_NoWare ?q_NoName ?q_NoNumber ?q_Taken ?q_TooMany ?q_TooDeep ?q_NoMove ?w1h ?w1e ?w04 ?w62 ?w7b ?w14 ?kcP ?kvP ?w4e ?w6a ?w3s ?w4y ?w2z ?w31 ?w3e ?w3w ?w4q ?w27 ?w4t ?kcM ?kvM ?w54 ?w68 ?w3k ?w4o ?w2n ?w30 ?w3d ?w3r ?w4j ?w28 ?w3j ?kcH ?kvH ?w58 ?w60 ?w3m ?w4s ?w2q ?w2x ?w3q ?w3h ?w4h ?w29 ?w3o ?kcD ?kvD ?w4i ?w6e ?w3v ?w4r ?w2v ?w2o ?w3g ?w3u ?w4u ?w2c ?w2p ?weu ?wet ?w17 ?w2j ?w1t ?w22 ?w0c ?w0y ?w0b ?w25 ?w2b ?w0k ?w0m ?w09 ?w1b ?w0h ?w0i ?w2a ?w0j ?w0e ?w0s ?w16 ?w0d ?w07 ?y_ValueError ?y_all ?y_bool ?y_dict ?y_int ?y_isinstance ?y_len ?y_list ?y_max ?y_min ?y_range ?y_set ?y_sorted ?y_str
  (case a_House=>k_is)
  (case a_Tree=>k_is)
  (case a_TreeError=>k_is)
  (case a_NoName=>k_is)
  (case a_Taken=>k_is)
  (case a_NoHouse=>k_is)
  (case a_NoMove=>k_is)
  (case a_NoPromise=>k_is)
  (case a_NoWare=>k_is)
  (case a_NoAmount=>k_is)
  (case a_NoNumber=>k_is)
  (case a_TooMany=>k_is)
  (case a_TooDeep=>k_is)
  all_goals try (refine' ⟨?a,L2.fun_mk ?l ?c ?k⟩;(case a=>k_is);(case l=>k_is);(case c=>k_is);(case k=>k_is))
  (case a_z36=>k_is);(case l_z36=>k_is);(case c_z36=>k_is);(case k_z36=>k_is)
  (case tt_z36=>k_is);(case td_z36=>first|rfl|k_is);(case rd_z36=>first|exact .cons ⟨_,rfl⟩ .nil|exact .cons rfl .nil)
  (case a_z37=>k_is);(case l_z37=>k_is);(case c_z37=>k_is);(case k_z37=>k_is)
  (case tt_z37=>k_is);(case td_z37=>first|rfl|k_is);(case rd_z37=>first|exact .cons ⟨_,rfl⟩ .nil|exact .cons rfl .nil)
  (case qi_z53=>kernel_rfl);(case hi_z53=>k_is)
  (case a_LETTERS=>k_is)
  (case w4l=>exact⟨_,rfl⟩)
  (case a_LONGEST_NAME=>k_is)
  (case w1d=>exact⟨_,rfl⟩)
  (case a_MOST_WARES=>k_is)
  (case w26=>exact⟨_,rfl⟩)
  (case a_MOST_HOUSES=>k_is)
  (case w1o=>exact⟨_,rfl⟩)
  (case a_LONGEST_LINE=>k_is)
  (case w11=>exact⟨_,rfl⟩)
  (case a_GREATEST_WEIGHT=>k_is)
  (case w0q=>exact⟨_,rfl⟩)
  (case q_NoHouse=>k_exc)
  (case q_NoAmount=>k_exc)
  (case q_NoWare=>k_exc)
  (case q_NoName=>k_exc)
  (case q_NoNumber=>k_exc)
  (case q_Taken=>k_exc)
  (case q_TooMany=>k_exc)
  (case q_TooDeep=>k_exc)
  (case q_NoMove=>k_exc)
  (case w1h=>kernel_rfl)
  (case w1e=>(constructor <;> first|k_is|kernel_rfl))
  (case w04=>(constructor <;> first|k_is|kernel_rfl))
  (case w62=>(constructor <;> first|k_is|kernel_rfl))
  (case w7b=>(constructor <;> first|k_is|kernel_rfl))
  (case w14=>(constructor <;> first|k_is|kernel_rfl))
  (case kcP=>kernel_rfl)
  (case kvP=>kernel_rfl)
  (case w4e=>kernel_rfl)
  (case w6a=>kernel_rfl)
  (case w3s=>kernel_rfl)
  (case w4y=>kernel_rfl)
  (case w2z=>kernel_rfl)
  (case w31=>kernel_rfl)
  (case w3e=>kernel_rfl)
  (case w3w=>kernel_rfl)
  (case w4q=>kernel_rfl)
  (case w27=>kernel_rfl)
  (case w4t=>(constructor <;> first|k_is|kernel_rfl))
  (case kcM=>kernel_rfl)
  (case kvM=>kernel_rfl)
  (case w54=>kernel_rfl)
  (case w68=>kernel_rfl)
  (case w3k=>kernel_rfl)
  (case w4o=>kernel_rfl)
  (case w2n=>kernel_rfl)
  (case w30=>kernel_rfl)
  (case w3d=>kernel_rfl)
  (case w3r=>kernel_rfl)
  (case w4j=>kernel_rfl)
  (case w28=>kernel_rfl)
  (case w3j=>(constructor <;> first|k_is|kernel_rfl))
  (case kcH=>kernel_rfl)
  (case kvH=>kernel_rfl)
  (case w58=>kernel_rfl)
  (case w60=>kernel_rfl)
  (case w3m=>kernel_rfl)
  (case w4s=>kernel_rfl)
  (case w2q=>kernel_rfl)
  (case w2x=>kernel_rfl)
  (case w3q=>kernel_rfl)
  (case w3h=>kernel_rfl)
  (case w4h=>kernel_rfl)
  (case w29=>kernel_rfl)
  (case w3o=>(constructor <;> first|k_is|kernel_rfl))
  (case kcD=>kernel_rfl)
  (case kvD=>kernel_rfl)
  (case w4i=>kernel_rfl)
  (case w6e=>kernel_rfl)
  (case w3v=>kernel_rfl)
  (case w4r=>kernel_rfl)
  (case w2v=>kernel_rfl)
  (case w2o=>kernel_rfl)
  (case w3g=>kernel_rfl)
  (case w3u=>kernel_rfl)
  (case w4u=>kernel_rfl)
  (case w2c=>kernel_rfl)
  (case w2p=>(constructor <;> first|k_is|kernel_rfl))
  (case weu=>k_is)
  (case wet=>k_is)
  (case w17=>(constructor <;> first|k_is|kernel_rfl))
  (case w2j=>(constructor <;> first|k_is|kernel_rfl))
  (case w1t=>(constructor <;> first|k_is|kernel_rfl))
  (case w22=>(constructor <;> first|k_is|kernel_rfl))
  (case w0c=>(constructor <;> first|k_is|kernel_rfl))
  (case w0y=>(constructor <;> first|k_is|kernel_rfl))
  (case w0b=>(constructor <;> first|k_is|kernel_rfl))
  (case w25=>(constructor <;> first|k_is|kernel_rfl))
  (case w2b=>(constructor <;> first|k_is|kernel_rfl))
  (case w0k=>(constructor <;> first|k_is|kernel_rfl))
  (case w0m=>(constructor <;> first|k_is|kernel_rfl))
  (case w09=>(constructor <;> first|k_is|kernel_rfl))
  (case w1b=>(constructor <;> first|k_is|kernel_rfl))
  (case w0h=>(constructor <;> first|k_is|kernel_rfl))
  (case w0i=>(constructor <;> first|k_is|kernel_rfl))
  (case w2a=>(constructor <;> first|k_is|kernel_rfl))
  (case w0j=>k_is)
  (case w0e=>k_is)
  (case w0s=>k_is)
  (case w16=>k_is)
  (case w0d=>k_is)
  (case w07=>k_is)
  (case y_ValueError=>k_is)
  (case y_all=>k_is)
  (case y_bool=>k_is)
  (case y_dict=>k_is)
  (case y_int=>k_is)
  (case y_isinstance=>k_is)
  (case y_len=>k_is)
  (case y_list=>k_is)
  (case y_max=>k_is)
  (case y_min=>k_is)
  (case y_range=>k_is)
  (case y_set=>k_is)
  (case y_sorted=>k_is)
  (case y_str=>k_is)